
/- A bucket's Merge, Of and Is, told by the document's lists of keys; the texts walked. -/
import Derived.Test.YtepnjolldbgglaaKbB
namespace Go.Proofs.Ytepnjolldbgglaa.Kb
open Go.RowKit Go.Shelf
set_option maxHeartbeats 8000000 in
set_option maxRecDepth 100000 in
theorem merge_parts (w : World) (B gp cap n : Nat) (L : List Part) (hP : Parts w B gp 0 L) (hB : B ≤ w.heap.size) (hgp : gp < w.heap.size) (hL : L.length ≤ 1000) (hn : n = (cat L).length) (few : n ≤ 1000000) :
    Calls Try.prog 23 #[.slice (some ⟨gp, 0, none⟩) L.length cap] w fun e w' => ∃ (v : Value) (zs : List Int), e = .returned v ∧ zs.Pairwise (· < ·) ∧ (∀ x, x ∈ zs ↔ x ∈ cat L) ∧ w'.ownsRow w.heap.size 23 1 v zs.length (hv zs) ∧ Below w.heap.size w w' := by
  have c1 := concat_any w B gp 0 cap L hP hB hgp (by omega) (by omega)
  obtain ⟨xs, hxs⟩ : ∃ xs, xs = cat L := ⟨_, rfl⟩
  rw [← hxs] at c1 hn ⊢
  rw [← hn] at c1
  have C1 := Lib.hid c1
  have HN := Lib.hid hn
  clear c1 hxs hn hP
  generalize L.length = m at *
  go_enter Try.func23, Try.ntmps23
  go_wp2_with (go_at_call 25; (with_reducible refine C1.out.mono ?_); rintro e w2 ⟨v, rfl, h1, h2⟩; replace h1 := Lib.hid h1; replace h2 := Lib.hid h2)
  rcases own_two h1.out with ⟨rfl, h0⟩ | ⟨g, cap, rfl, hg⟩
  · have hx : xs = [] := List.eq_nil_of_length_eq_zero (by rw [← HN.out]; exact h0)
    have HX := Lib.hid hx
    clear hx h0
    go_wp2_with (first
      | (go_at_call 27; (with_reducible refine (sort_nil 0 w2).mono ?_); rintro e w' ⟨rfl, rfl⟩)
      | (go_at_call 28; (with_reducible refine (comp_nil 0 w2).mono ?_); rintro e w' ⟨rfl, rfl⟩))
    go_ret
    exact ⟨_, [], rfl, List.Pairwise.nil, fun x => by rw [HX.out], ⟨rfl, .inl ⟨rfl, rfl⟩⟩, h2.out⟩
  · have hxl : xs.length = n := HN.out.symm
    have s1 := so_sort w2 w.heap.size g n cap xs h1.out hxl (by omega)
    have S1 := Lib.hid s1
    have HX := Lib.hid hxl
    clear s1 hxl
    go_wp2_with (go_at_call 27; (with_reducible refine S1.out.mono ?_); rintro e w3 ⟨rfl, ys, p1, p2, p3, p4⟩; replace p1 := Lib.hid p1; replace p2 := Lib.hid p2; replace p3 := Lib.hid p3; replace p4 := Lib.hid p4)
    have s2 := so_comp w3 w.heap.size g n cap ys p3.out (by rw [p1.out.length_eq]; exact HX.out) p2.out (by omega)
    have S2 := Lib.hid s2
    clear s2
    go_wp2_with (go_at_call 28; (with_reducible refine S2.out.mono ?_); rintro e w4 ⟨zs, rfl, q1, q2, q3, q4, q5⟩; replace q5 := Lib.hid q5; replace q1 := Lib.hid q1; replace q2 := Lib.hid q2; replace q3 := Lib.hid q3; replace q4 := Lib.hid q4)
    go_ret
    have hb4 : ButS w2 w4 (· = g) := p4.out.trans q4.out
    exact ⟨_, zs, rfl, q1.out, fun x => by rw [q2.out x]; exact p1.out.mem_iff, q3.out, h2.out.trans (hb4.below h2.out.size (fun j e => by subst e; exact hg))⟩
set_option maxHeartbeats 4000000 in
theorem grow_zero (w : World) : Calls Try.prog 31 #[.slice none 0 0, .int .i64 0] w fun e w' => e = .returned (.slice none 0 0) ∧ w = w' := by
  go_enter Try.func31, Try.ntmps31
  go_wp2
  go_ret
  exact ⟨rfl, rfl⟩
set_option maxHeartbeats 4000000 in
theorem concat_no (w : World) (c : Nat) : Calls Try.prog 25 #[.slice none 0 c] w fun e w' => e = .returned (.slice none 0 0) ∧ w = w' := by
  go_enter Try.func25, Try.ntmps25
  go_wp2
  go_loop [3, 11] (fun vs vi => vi = .int .i64 0 ∧ vs = .int .i64 0) (fun _ _ => 0)
  case atStart => exact ⟨rfl, rfl⟩
  case round =>
    obtain ⟨rfl, rfl⟩ := hrel
    go_wp2_with (go_at_call 31; (with_reducible refine (grow_zero _).mono ?_); rintro e w1 ⟨rfl, rfl⟩)
    go_loop [6, 27] (fun vn vi => vi = .int .i64 0 ∧ vn = .slice none 0 0) (fun _ vi => 0)
    case atStart => exact ⟨rfl, rfl⟩
    case round =>
      obtain ⟨rfl, rfl⟩ := hrel
      go_wp2
      go_ret
      exact ⟨rfl, rfl⟩
set_option maxHeartbeats 4000000 in
theorem b_merge_no (w : World) : Calls Try.prog 23 #[.slice none 0 0] w fun e w' => e = .returned (.slice none 0 0) ∧ w = w' := by
  go_enter Try.func23, Try.ntmps23
  go_wp2_with (first
    | (go_at_call 25; (with_reducible refine (concat_no _ _).mono ?_); rintro e w' ⟨rfl, rfl⟩)
    | (go_at_call 27; (with_reducible refine (sort_nil 0 _).mono ?_); rintro e w' ⟨rfl, rfl⟩)
    | (go_at_call 28; (with_reducible refine (comp_nil 0 _).mono ?_); rintro e w' ⟨rfl, rfl⟩))
  go_ret
  exact ⟨rfl, rfl⟩
/-- Merge of two lists, in a new row of slices: what one of them has. -/
theorem merge_two (w : World) (va vb : Value) (xs ys zs : List Nat) (ha : KX w va xs) (hb : KX w vb ys) (hz : K.Up zs) (hm : ∀ x, x ∈ zs ↔ x ∈ xs ∨ x ∈ ys) (la : xs.length ≤ 400000) (lb : ys.length ≤ 400000) :
    Calls Try.prog 23 #[.slice (some ⟨w.heap.size, 0, none⟩) 2 2] (w.alloc (.cells #[va, vb] 22)) fun e w' => ∃ v, e = .returned v ∧ KN w w' v zs ∧ Below w.heap.size w w' := by
  obtain ⟨A1, c1, rfl, r1, _⟩ := kx_rh ha
  obtain ⟨A2, c2, rfl, r2, _⟩ := kx_rh hb
  have b2 := (Below.refl w.heap.size w).alloc (Nat.le_refl _) (.cells #[.slice A1 xs.length c1, .slice A2 ys.length c2] 22)
  have HP : Parts (w.alloc (.cells #[.slice A1 xs.length c1, .slice A2 ys.length c2] 22)) w.heap.size w.heap.size 0 [(A1, c1, iz xs), (A2, c2, iz ys)] := by
    intro k hk
    match k, hk with
    | 0, _ => exact ⟨by rw [Nat.zero_add, World.cell?_alloc_new]; simp, r1.below b2 (Nat.le_refl _)⟩
    | 1, _ => exact ⟨by rw [Nat.zero_add, World.cell?_alloc_new]; simp, r2.below b2 (Nat.le_refl _)⟩
  have hcat : cat [(A1, c1, iz xs), (A2, c2, iz ys)] = iz xs ++ iz ys := by simp [cat]
  have M := merge_parts (w.alloc (.cells #[.slice A1 xs.length c1, .slice A2 ys.length c2] 22)) w.heap.size w.heap.size 2 _ [(A1, c1, iz xs), (A2, c2, iz ys)] HP (by simp) (by simp) (by simp) rfl (by rw [hcat]; simp; omega)
  rw [hcat] at M
  refine M.mono ?_
  rintro e w' ⟨v, ws, rfl, h1, h2, h3, h4⟩
  refine ⟨v, rfl, KN.of (own_low h3 (by simp)) (iz_back h1 hz fun x => ?_), b2.trans (h4.mono (by simp))⟩
  rw [h2 x, List.mem_append, iz_mem, iz_mem, iz_mem]
  constructor
  · rintro (⟨j, hj, rfl⟩ | ⟨j, hj, rfl⟩)
    · exact ⟨j, (hm j).2 (.inl hj), rfl⟩
    · exact ⟨j, (hm j).2 (.inr hj), rfl⟩
  · rintro ⟨j, hj, rfl⟩
    rcases (hm j).1 hj with h | h
    · exact .inl ⟨j, h, rfl⟩
    · exact .inr ⟨j, h, rfl⟩
theorem merge_one (w : World) (va : Value) (xs zs : List Nat) (ha : KX w va xs) (hz : K.Up zs) (hm : ∀ x, x ∈ zs ↔ x ∈ xs) (la : xs.length ≤ 400000) :
    Calls Try.prog 23 #[.slice (some ⟨w.heap.size, 0, none⟩) 1 1] (w.alloc (.cells #[va] 22)) fun e w' => ∃ v, e = .returned v ∧ KN w w' v zs ∧ Below w.heap.size w w' := by
  obtain ⟨A1, c1, rfl, r1, _⟩ := kx_rh ha
  have b2 := (Below.refl w.heap.size w).alloc (Nat.le_refl _) (.cells #[.slice A1 xs.length c1] 22)
  have HP := rh_cell (c := c1) r1 (iz_len xs).symm (Nat.le_refl _)
  have hcat : cat [(A1, c1, iz xs)] = iz xs := by simp [cat]
  have M := merge_parts (w.alloc (.cells #[.slice A1 xs.length c1] 22)) w.heap.size w.heap.size 1 _ [(A1, c1, iz xs)] HP (by simp) (by simp) (by simp) rfl (by rw [hcat]; simp; omega)
  rw [hcat] at M
  refine M.mono ?_
  rintro e w' ⟨v, ws, rfl, h1, h2, h3, h4⟩
  refine ⟨v, rfl, KN.of (own_low h3 (by simp)) (iz_back h1 hz fun x => ?_), b2.trans (h4.mono (by simp))⟩
  rw [h2 x, iz_mem, iz_mem]
  constructor
  · rintro ⟨j, hj, rfl⟩
    exact ⟨j, (hm j).2 hj, rfl⟩
  · rintro ⟨j, hj, rfl⟩
    exact ⟨j, (hm j).1 hj, rfl⟩
set_option maxHeartbeats 4000000 in
theorem b_of (w : World) (va : Value) (xs zs : List Nat) (ha : KX w va xs) (hz : K.Up zs) (hm : ∀ x, x ∈ zs ↔ x ∈ xs) (la : xs.length ≤ 400000) :
    Calls Try.prog 9 #[va] w fun e w' => ∃ v, e = .returned v ∧ KN w w' v zs ∧ Below w.heap.size w w' := by
  have H := Lib.hid (merge_one w va xs zs ha hz hm la)
  obtain ⟨A0, c0, rfl, _, _⟩ := kx_rh ha
  clear ha hz hm la
  go_enter Try.func9, Try.ntmps9
  go_wp2_with (go_at_call 23; (with_reducible refine H.out.mono ?_); rintro e w' ⟨v, rfl, h1, h2⟩; replace h1 := Lib.hid h1; replace h2 := Lib.hid h2)
  go_ret
  exact ⟨v, rfl, h1.out, h2.out⟩
theorem up_dec (xs : List Nat) : decide ((iz xs).Pairwise (· < ·)) = decide (K.Up xs) := by
  rw [Bool.eq_iff_iff, decide_eq_true_iff, decide_eq_true_iff]
  exact ⟨iz_up', iz_up⟩
theorem b_is (w : World) (va : Value) (xs : List Nat) (ha : KX w va xs) (la : xs.length ≤ 1000000) :
    Calls Try.prog 18 #[va] w fun e w' => e = .returned (.bool (decide (K.Up xs))) ∧ ∃ q, w' = w.drewN q := by
  obtain ⟨A1, c1, rfl, r1, _⟩ := kx_rh ha
  have H := a_is w w.heap.size xs.length c1 A1 (iz xs) (iz_len xs).symm r1 la
  rw [up_dec] at H
  exact H
end Go.Proofs.Ytepnjolldbgglaa.Kb
