/- slices.Compact over a row of one's own that is in order: each number once. array.Of: a list of one's own with each number once, rising; the text walked. array: the search by halves, Rank, Has, Select, Next; the text walked. array: Rank, Has, Select, Next, Prev, Is; the text walked. array: Select, Next, Prev, Is; the text walked. Cuts of lists of 16-bit numbers; Add, Drop, Part; the text walked. Add, Drop, Part; the text walked. -/
import Derived.Deep.RegionHeld3
import Derived.Test.YtkehehfphccpbaaGreatDoorMgAa
import Derived.Test.YtkehehfphccpbaaGreatDoorMgSe
import Derived.Test.YtkehehfphccpbaaGreatDoorMgBu
section
namespace Go.Proofs.YtkehehfphccpbaaGreatDoor.A
set_option maxRecDepth 40000
open Go.RowKit Go.Sort Go.Lib
theorem keeps_at (d : Array Int) (j : Nat) : keeps d j = true ↔ (j = 0 ∨ d[j]! ≠ d[j - 1]!) := by
  unfold keeps; simp
/-- Of a row in order the kept ones rise, and are just the row's numbers. -/
theorem comp_spec {xs : List Int} (h : xs.Pairwise (· ≤ ·)) : ∀ m, m ≤ xs.length → (compactUpTo xs.toArray m).Pairwise (· < ·) ∧ (∀ x, x ∈ compactUpTo xs.toArray m ↔ x ∈ xs.take m) ∧ ((compactUpTo xs.toArray m).length ≤ m) := by
  intro m
  induction m with
  | zero => intro _; exact ⟨by simp [compactUpTo], by simp [compactUpTo], by simp [compactUpTo]⟩
  | succ m ih =>
    intro hm
    obtain ⟨h1, h2, h3⟩ := ih (by omega)
    have hat : ∀ k (hk : k < xs.length), xs.toArray[k]! = xs[k] := fun k hk => by rw [getElem!_pos xs.toArray k (by simpa using hk)]; simp
    have hmono : ∀ a b (ha : a < xs.length) (hb : b < xs.length), a < b → xs[a] ≤ xs[b] := fun a b ha hb hab => List.pairwise_iff_getElem.1 h a b ha hb hab
    rw [compactUpTo_succ, List.take_succ_eq_append_getElem (show m < xs.length by omega), hat m (by omega)]
    by_cases hk : keeps xs.toArray m = true
    · rw [if_pos hk]
      refine ⟨?_, fun x => ?_, by simp; omega⟩
      · rw [List.pairwise_append]
        refine ⟨h1, by simp, fun a ha b hb => ?_⟩
        simp at hb
        subst hb
        rw [h2 a, List.mem_take_iff_getElem] at ha
        obtain ⟨i, hi, rfl⟩ := ha
        rcases (keeps_at _ _).1 hk with h0 | h0
        · omega
        · rw [hat m (by omega), hat (m - 1) (by omega)] at h0
          have q1 : xs[m - 1] ≤ xs[m] := hmono _ _ _ _ (by omega)
          have q2 : xs[i] ≤ xs[m - 1] := by
            by_cases e : i = m - 1
            · subst e; exact Int.le_refl _
            · exact hmono _ _ _ _ (by omega)
          omega
      · rw [List.mem_append, List.mem_append, h2 x]
    · rw [if_neg hk]
      rw [List.append_nil]
      refine ⟨h1, fun x => ?_, by omega⟩
      rw [h2 x]
      have hne : ¬ (m = 0 ∨ xs.toArray[m]! ≠ xs.toArray[m - 1]!) := fun e => hk ((keeps_at _ _).2 e)
      have h0 : 0 < m := by omega
      have he : xs[m] = xs[m - 1] := by
        have : ¬ xs.toArray[m]! ≠ xs.toArray[m - 1]! := fun e => hne (.inr e)
        rw [hat m (by omega), hat (m - 1) (by omega)] at this
        omega
      constructor
      · intro hx; exact List.mem_append_left _ hx
      · intro hx
        rw [List.mem_append] at hx
        rcases hx with hx | hx
        · exact hx
        · rw [List.mem_singleton.1 hx, he, List.mem_take_iff_getElem]
          exact ⟨m - 1, by omega, rfl⟩
theorem so_comp (w : World) (base g n cap : Nat) (ys : List Int) (h : w.ownsRow base 35 1 (.slice (some ⟨g, 0, none⟩) n cap) n (hv ys)) (hl : ys.length = n) (ho : ys.Pairwise (· ≤ ·)) (few : n < 4611686018427387904) :
    Calls Tryz.prog 77 #[.slice (some ⟨g, 0, none⟩) n cap] w fun e w' => ∃ zs : List Int, e = .returned (.slice (some ⟨g, 0, none⟩) zs.length cap) ∧ zs.Pairwise (· < ·) ∧ (∀ x, x ∈ zs ↔ x ∈ ys) ∧
      w'.ownsRow base 35 1 (.slice (some ⟨g, 0, none⟩) zs.length cap) zs.length (hv zs) ∧ ButS w w' (· = g) ∧ zs.length ≤ n := by
  obtain ⟨p1, p2, p3⟩ := comp_spec ho ys.length (Nat.le_refl _)
  rw [List.take_length] at p2
  have hcap : n ≤ cap := by
    obtain ⟨g', cap', cur, hv', _, _, hnc, _⟩ | h2 := h.2.symm
    · simp only [Value.slice.injEq, true_and] at hv'; omega
    · obtain ⟨h2, _⟩ := h2; simp at h2
  have hc := AnyE.slices_Compact Tryz.compH (Value.int .u16) (fun _ => rfl)
    ⟨fun x y w => by simp [binOp, Op.intCmp]; rfl, (EqlAt.int Tryz.prog 35 .u16).2⟩ ⟨fun x y w => by simp [binOp, Op.intCmp]; rfl, (EqlAt.int Tryz.prog 35 .u16).2⟩ 0 Tryz.zeroValue35 g 0 cap ys.toArray w (own_holdsH h hl) (by simp; omega) (by simp; omega)
  have hc' : Calls Tryz.prog 77 #[.slice (some ⟨g, 0, none⟩) ys.toArray.size cap] w _ := hc
  rw [show ys.toArray.size = n by simp [hl]] at hc'
  refine hc'.mono ?_
  rintro e w' ⟨rfl, q, hw⟩
  obtain ⟨zs, hz⟩ : ∃ zs, zs = compactUpTo ys.toArray ys.length := ⟨_, rfl⟩
  rw [← hl] at hw ⊢
  rw [← hz] at p1 p2 p3 hw ⊢
  have hsw : SW (Value.int .u16) w g 0 (zs ++ List.replicate (ys.length - zs.length) 0).toArray w' := ⟨q, #[], by unfold sortWorld; rw [grow_empty]; exact hw⟩
  have ho2 := sw_own h (ys := zs ++ List.replicate (ys.length - zs.length) 0) (by simp; omega) hsw
  have ho3 := own_cut ho2 (k := zs.length) (by omega)
  refine ⟨zs, rfl, p1, p2, ?_, sw_but hsw, by omega⟩
  have e : (hv (zs ++ List.replicate (ys.length - zs.length) 0)).take (zs.length * 1) = hv zs := by
    simp [hv]
  rw [e] at ho3
  exact ho3
end Go.Proofs.YtkehehfphccpbaaGreatDoor.A
end
section
namespace Go.Proofs.YtkehehfphccpbaaGreatDoor.A
set_option maxRecDepth 40000
open Go.RowKit
set_option maxHeartbeats 4000000 in
theorem ins_nil (c : Nat) (w : World) : Calls Tryz.prog 108 #[.slice none 0 c, .int .i64 0, .int .i64 0] w fun e w' => e = .returned (.tuple #[]) ∧ w = w' := by
  go_enter Tryz.func108, Tryz.ntmps108
  go_wp2
  go_loop [6] (fun vi => vi = .int .i64 1) (fun _ => 0)
  case atStart => rfl
  case round =>
    subst hrel
    go_wp2
    go_end0
    exact ⟨rfl, rfl⟩
set_option maxHeartbeats 4000000 in
set_option maxRecDepth 100000 in
theorem pdq_nil (c : Nat) (l : Int) (w : World) : Calls Tryz.prog 92 #[.slice none 0 c, .int .i64 0, .int .i64 0, .int .i64 l] w fun e w' => e = .returned (.tuple #[]) ∧ w = w' := by
  go_enter Tryz.func92, Tryz.ntmps92
  go_wp2_with (fail)
  go_loop [1, 2] (fun v1 v2 => v1 = .int .i64 0 ∧ v2 = .int .i64 0) (fun _ _ => 0)
  case atStart => exact ⟨rfl, rfl⟩
  case round =>
    obtain ⟨rfl, rfl⟩ := hrel
    go_wp2_with (go_at_call 108; (with_reducible refine (ins_nil c _).mono ?_); rintro e w' ⟨rfl, rfl⟩)
    refine bodyPost_ret (results_none rfl _ _ _) rfl ?_
    exact ⟨rfl, rfl⟩
set_option maxHeartbeats 4000000 in
theorem sort_nil (c : Nat) (w : World) : Calls Tryz.prog 76 #[.slice none 0 c] w fun e w' => e = .returned (.tuple #[]) ∧ w = w' := by
  go_enter Tryz.func76, Tryz.ntmps76
  go_wp2_with (first
    | (go_at_call 93; (with_reducible refine (len_any _ _ (by omega) (by omega)).mono ?_); rintro e w' ⟨rfl, rfl⟩)
    | (go_at_call 92; (with_reducible refine (pdq_nil c _ _).mono ?_); rintro e w' ⟨rfl, rfl⟩))
  go_end0
  exact ⟨rfl, rfl⟩
set_option maxHeartbeats 4000000 in
theorem comp_nil (c : Nat) (w : World) : Calls Tryz.prog 77 #[.slice none 0 c] w fun e w' => e = .returned (.slice none 0 c) ∧ w = w' := by
  go_enter Tryz.func77, Tryz.ntmps77
  go_wp2
  go_ret
  exact ⟨rfl, rfl⟩
theorem own_two {w : World} {base : Nat} {e : TypeId} {n : Nat} {v : Value} {xs : List Value} (h : w.ownsRow base e 1 v n xs) : v = .slice none 0 0 ∧ n = 0 ∨ ∃ g c, v = .slice (some ⟨g, 0, none⟩) n c ∧ base ≤ g := by
  rcases h.2 with ⟨h1, h2⟩ | ⟨g, cap, cur, h1, hb, _⟩
  · exact .inl ⟨h1, h2⟩
  · exact .inr ⟨g, cap, h1, hb⟩
theorem own_low {w : World} {base b : Nat} {e : TypeId} {n : Nat} {v : Value} {xs : List Value} (h : w.ownsRow base e 1 v n xs) (hb : b ≤ base) : w.ownsRow b e 1 v n xs := by
  refine ⟨h.1, ?_⟩
  rcases h.2 with h1 | ⟨g, cap, cur, h1, h2, h3⟩
  · exact .inl h1
  · exact .inr ⟨g, cap, cur, h1, Nat.le_trans hb h2, h3⟩
theorem rh_cell {w : World} {B : Nat} {A : Option Addr} {n c : Nat} {xs : List Int} (hr : Rh w B A xs) (hn : n = xs.length) (hB : B ≤ w.heap.size) : Parts (w.alloc (.cells #[.slice A n c] 37)) B w.heap.size 0 [(A, c, xs)] := by
  intro k hk
  have hk0 : k = 0 := by simp at hk; exact hk
  subst hk0
  refine ⟨by simp [hn], ?_⟩
  exact hr.below ((Below.refl _ _).alloc hB _) (Nat.le_refl _)
set_option maxHeartbeats 8000000 in
set_option maxRecDepth 100000 in
theorem of_any (w : World) (B n c : Nat) (A : Option Addr) (xs : List Int) (hn : n = xs.length) (hr : Rh w B A xs) (hB : B ≤ w.heap.size) (few : n ≤ 1000000) :
    Calls Tryz.prog 49 #[.slice A n c] w fun e w' => ∃ (v : Value) (zs : List Int), e = .returned v ∧ zs.Pairwise (· < ·) ∧ (∀ x, x ∈ zs ↔ x ∈ xs) ∧ w'.ownsRow w.heap.size 35 1 v zs.length (hv zs) ∧ Below w.heap.size w w' ∧ zs.length ≤ n := by
  have HP := Lib.hid (rh_cell (c := c) hr hn hB)
  have hcat : cat [(A, c, xs)] = xs := by simp [cat]
  have HC := Lib.hid hcat
  have hB1 : B ≤ (w.alloc (.cells #[.slice A n c] 37)).heap.size := by simp; omega
  have hb0 := (Below.refl w.heap.size w).alloc (Nat.le_refl _) (.cells #[.slice A n c] 37)
  have c1 := concat_any (w.alloc (.cells #[.slice A n c] 37)) B w.heap.size 0 1 [(A, c, xs)] HP.out hB1 (by simp) (by rw [hcat, ← hn]; omega) (by simp)
  rw [hcat, ← hn] at c1
  have c2 : Calls Tryz.prog 75 #[.slice (some ⟨w.heap.size, 0, none⟩) 1 1] (w.alloc (.cells #[.slice A n c] 37)) _ := c1
  have C1 := Lib.hid c2
  have HB0 := Lib.hid hb0
  have HN := Lib.hid hn
  clear c1 c2 hb0 hcat hr hn hB1
  go_enter Tryz.func49, Tryz.ntmps49
  go_wp2_with (go_at_call 75; (with_reducible refine C1.out.mono ?_); rintro e w2 ⟨v, rfl, h1, h2⟩; replace h1 := Lib.hid h1; replace h2 := Lib.hid h2)
  have hbw : Hid (Below w.heap.size w w2) := Lib.hid (HB0.out.trans (h2.out.mono (by simp)))
  rcases own_two h1.out with ⟨rfl, h0⟩ | ⟨g, cap, rfl, hg⟩
  · have hx : xs = [] := List.eq_nil_of_length_eq_zero (by rw [← HN.out]; exact h0)
    have HX := Lib.hid hx
    clear hx h0
    go_wp2_with (first
      | (go_at_call 76; (with_reducible refine (sort_nil 0 w2).mono ?_); rintro e w' ⟨rfl, rfl⟩)
      | (go_at_call 77; (with_reducible refine (comp_nil 0 w2).mono ?_); rintro e w' ⟨rfl, rfl⟩))
    go_ret
    exact ⟨_, [], rfl, List.Pairwise.nil, fun x => by rw [HX.out], ⟨rfl, .inl ⟨rfl, rfl⟩⟩, hbw.out, Nat.zero_le _⟩
  · have hxl : xs.length = n := HN.out.symm
    have s1 := so_sort w2 w.heap.size g n cap xs (own_low h1.out (by simp)) hxl (by omega)
    have S1 := Lib.hid s1
    have HX := Lib.hid hxl
    have hgw : w.heap.size ≤ g := by simp at hg; omega
    clear s1 hxl
    go_wp2_with (go_at_call 76; (with_reducible refine S1.out.mono ?_); rintro e w3 ⟨rfl, ys, p1, p2, p3, p4⟩; replace p1 := Lib.hid p1; replace p2 := Lib.hid p2; replace p3 := Lib.hid p3; replace p4 := Lib.hid p4)
    have s2 := so_comp w3 w.heap.size g n cap ys p3.out (by rw [p1.out.length_eq]; exact HX.out) p2.out (by omega)
    have S2 := Lib.hid s2
    clear s2
    go_wp2_with (go_at_call 77; (with_reducible refine S2.out.mono ?_); rintro e w4 ⟨zs, rfl, q1, q2, q3, q4, q5⟩; replace q5 := Lib.hid q5; replace q1 := Lib.hid q1; replace q2 := Lib.hid q2; replace q3 := Lib.hid q3; replace q4 := Lib.hid q4)
    go_ret
    have hb4 : ButS w2 w4 (· = g) := p4.out.trans q4.out
    exact ⟨_, zs, rfl, q1.out, fun x => by rw [q2.out x]; exact p1.out.mem_iff, q3.out, hbw.out.trans (hb4.below hbw.out.size (fun j e => by subst e; exact hgw)), q5.out⟩
end Go.Proofs.YtkehehfphccpbaaGreatDoor.A
end
section
namespace Go.Proofs.YtkehehfphccpbaaGreatDoor.A
set_option maxRecDepth 40000
open Go.RowKit
theorem rank_at {xs : List Int} {v : Int} {i : Nat} (hi : i ≤ xs.length) (h1 : ∀ k (h : k < xs.length), k < i → xs[k] < v) (h2 : ∀ k (h : k < xs.length), i ≤ k → v ≤ xs[k]) : M.rRank xs v = i := by
  unfold M.rRank
  have e1 : (xs.take i).filter (fun x => decide (x < v)) = xs.take i := List.filter_eq_self.2 fun x hx => by
    rw [List.mem_take_iff_getElem] at hx
    obtain ⟨k, hk, rfl⟩ := hx
    simpa using h1 k (by omega) (by omega)
  have e2 : (xs.drop i).filter (fun x => decide (x < v)) = [] := List.filter_eq_nil_iff.2 fun x hx => by
    rw [List.mem_drop_iff_getElem] at hx
    obtain ⟨k, hk, rfl⟩ := hx
    have := h2 (i + k) (by omega) (by omega)
    simp; omega
  conv => lhs; rw [← List.take_append_drop i xs]
  rw [List.filter_append, e1, e2]
  simp; omega
theorem mem_at {xs : List Int} {v : Int} {i : Nat} (h1 : ∀ k (h : k < xs.length), k < i → xs[k] < v) (h2 : ∀ k (h : k < xs.length), i ≤ k → v ≤ xs[k]) (hs : xs.Pairwise (· < ·)) : v ∈ xs ↔ ∃ h : i < xs.length, xs[i] = v := by
  constructor
  · intro hv
    obtain ⟨k, hk, he⟩ := List.mem_iff_getElem.1 hv
    rcases Nat.lt_trichotomy k i with h | h | h
    · have := h1 k hk h; omega
    · subst h; exact ⟨hk, he⟩
    · have q1 := List.pairwise_iff_getElem.1 hs i k (by omega) hk h
      have q2 := h2 i (by omega) (Nat.le_refl _)
      omega
  · rintro ⟨h, rfl⟩; exact List.getElem_mem h
/-- What the halves hold. -/
def Half (xs : List Int) (v : Int) (i j : Nat) : Prop := (∀ k (h : k < xs.length), k < i → xs[k] < v) ∧ (∀ k (h : k < xs.length), j ≤ k → v ≤ xs[k])
theorem half_up {xs : List Int} {v : Int} {i j h : Nat} (hs : xs.Pairwise (· < ·)) (hh : Half xs v i j) (hl : h < xs.length) (hy : xs[h] < v) : Half xs v (h + 1) j := by
  refine ⟨fun k hk hki => ?_, hh.2⟩
  rcases Nat.lt_or_eq_of_le (show k ≤ h by omega) with e | e
  · exact Int.lt_trans (List.pairwise_iff_getElem.1 hs k h hk hl e) hy
  · subst e; exact hy
theorem half_down {xs : List Int} {v : Int} {i j h : Nat} (hs : xs.Pairwise (· < ·)) (hh : Half xs v i j) (hl : h < xs.length) (hy : v ≤ xs[h]) : Half xs v i h := by
  refine ⟨hh.1, fun k hk hki => ?_⟩
  rcases Nat.lt_or_eq_of_le hki with e | e
  · exact Int.le_trans hy (Int.le_of_lt (List.pairwise_iff_getElem.1 hs h k hl hk e))
  · subst e; exact hy
set_option maxHeartbeats 1000000 in
theorem nan_any (x : Int) (w : World) : Calls Tryz.prog 95 #[.int .u16 x] w fun e w' => e = .returned (.bool false) ∧ w = w' := by
  go_enter Tryz.func95, Tryz.ntmps95
  go_wp2
  go_ret
  exact ⟨by simp, rfl⟩
set_option maxHeartbeats 8000000 in
set_option maxRecDepth 100000 in
theorem a_search (w : World) (B n c : Nat) (A : Option Addr) (xs : List Int) (v : Int) (hn : n = xs.length) (hr : Rh w B A xs) (hs : xs.Pairwise (· < ·)) (few : n ≤ 1000000) :
    Calls Tryz.prog 78 #[.slice A n c, .int .u16 v] w fun e w' => e = .returned (.tuple #[.int .i64 (M.rRank xs v : Nat), .bool (decide (v ∈ xs))]) ∧ w = w' := by
  have HN := Lib.hid hn
  have HS := Lib.hid hs
  have HR := Lib.hid hr
  clear hn hs hr
  go_enter Tryz.func78, Tryz.ntmps78
  go_wp2_with (fail)
  go_loop [7, 8] (fun vi vj => ∃ i j : Nat, vi = .int .i64 i ∧ vj = .int .i64 j ∧ i ≤ j ∧ j ≤ n ∧ Hid (Half xs v i j)) (fun vi vj => (intOf vj - intOf vi).toNat)
  case atStart => exact ⟨0, n, rfl, rfl, Nat.zero_le _, Nat.le_refl _, Lib.hid ⟨fun k _ h => by omega, fun k h h' => by have := HN.out; omega⟩⟩
  case round =>
    obtain ⟨i, j, rfl, rfl, hij, hjn, hH⟩ := hrel
    by_cases hlt : i < j
    · obtain ⟨h, hh⟩ : ∃ h, h = (i + j) / 2 := ⟨_, rfl⟩
      have eh : ((i : Int) + (j : Int)) / 2 = (h : Int) := by omega
      have hhi : i ≤ h := by omega
      have hhj : h < j := by omega
      clear hh
      have hhn : h < n := by omega
      have hhx : h < xs.length := by rw [← HN.out]; exact hhn
      obtain ⟨b, off, hA, _, hcell⟩ := HR.out.at hhx
      subst hA
      obtain ⟨y, hy⟩ : ∃ y, y = xs[h] := ⟨_, rfl⟩
      rw [← hy] at hcell
      have HY := Lib.hid hy
      clear hy
      have hs0 : 0 ≤ (i : Int) + (j : Int) := by omega
      have hs1 : (i : Int) + (j : Int) ≤ 2000000 := by omega
      go_wp2_with (go_at_call 94; refine (less_any _ _ _).mono ?_; rintro e w' ⟨rfl, rfl⟩)
      · have e : Sort.ltInt y v = true := by assumption
        go_round
        case rel => exact ⟨h + 1, j, by go_num, rfl, by omega, hjn, Lib.hid (half_up HS.out hH.out hhx (by rw [← HY.out]; exact lt_yes e))⟩
        case measure => simp [intOf]; omega
      · have e : Sort.ltInt y v = false := by assumption
        go_round
        case rel => exact ⟨i, h, rfl, rfl, hhi, by omega, Lib.hid (half_down HS.out hH.out hhx (by rw [← HY.out]; exact lt_no e))⟩
        case measure => simp [intOf]; omega
    · have hji : j = i := by omega
      subst hji
      have hrk : Hid (M.rRank xs v = j) := Lib.hid (rank_at (by rw [← HN.out]; exact hjn) hH.out.1 hH.out.2)
      have hmem : Hid (v ∈ xs ↔ ∃ h : j < xs.length, xs[j] = v) := Lib.hid (mem_at hH.out.1 hH.out.2 HS.out)
      by_cases hin : j < n
      · have hjx : j < xs.length := by rw [← HN.out]; exact hin
        obtain ⟨b, off, hA, _, hcell⟩ := HR.out.at hjx
        subst hA
        obtain ⟨y, hy⟩ : ∃ y, y = xs[j] := ⟨_, rfl⟩
        rw [← hy] at hcell
        have HY := Lib.hid hy
        clear hy
        by_cases hyv : y = v
        · have HM : Hid (v ∈ xs) := Lib.hid (hmem.out.2 ⟨hjx, by rw [← HY.out]; exact hyv⟩)
          subst hyv
          go_wp2_with (go_at_call 95; refine (nan_any _ _).mono ?_; rintro e w' ⟨rfl, rfl⟩)
          go_ret2
          exact ⟨by rw [hrk.out, decide_eq_true HM.out]; rfl, rfl⟩
        · have HM : Hid (¬ v ∈ xs) := Lib.hid (fun hv => by obtain ⟨_, h⟩ := hmem.out.1 hv; rw [← HY.out] at h; exact hyv h)
          have hyb : (y == v) = false := by simpa using hyv
          go_wp2_with (go_at_call 95; refine (nan_any _ _).mono ?_; rintro e w' ⟨rfl, rfl⟩)
          go_ret2
          exact ⟨by rw [hrk.out, decide_eq_false HM.out]; rfl, rfl⟩
      · have HM : Hid (¬ v ∈ xs) := Lib.hid (fun hv => by obtain ⟨h, _⟩ := hmem.out.1 hv; rw [← HN.out] at h; exact hin h)
        go_wp2_with (go_at_call 95; refine (nan_any _ _).mono ?_; rintro e w' ⟨rfl, rfl⟩)
        go_ret2
        exact ⟨by rw [hrk.out, decide_eq_false HM.out]; rfl, rfl⟩
end Go.Proofs.YtkehehfphccpbaaGreatDoor.A
end
section
namespace Go.Proofs.YtkehehfphccpbaaGreatDoor.A
set_option maxRecDepth 40000
open Go.RowKit
theorem rank_le (xs : List Int) (v : Int) : M.rRank xs v ≤ xs.length := List.length_filter_le _ _
/-- What stands ahead of a rank is less, what stands from it on isn't. -/
theorem rank_half {xs : List Int} (hs : xs.Pairwise (· < ·)) (v : Int) : Half xs v (M.rRank xs v) (M.rRank xs v) := by
  induction xs with
  | nil => exact ⟨fun k h => by simp at h, fun k h => by simp at h⟩
  | cons a l ih =>
    rw [List.pairwise_cons] at hs
    obtain ⟨i1, i2⟩ := ih hs.2
    by_cases ha : a < v
    · have e : M.rRank (a :: l) v = M.rRank l v + 1 := by unfold M.rRank; rw [List.filter_cons, if_pos (by simpa using ha)]; rfl
      rw [e]
      refine ⟨fun k hk h => ?_, fun k hk h => ?_⟩
      · cases k with
        | zero => exact ha
        | succ k => exact i1 k (by simpa using hk) (by omega)
      · cases k with
        | zero => omega
        | succ k => exact i2 k (by simpa using hk) (by omega)
    · have hz : ∀ x ∈ a :: l, ¬ x < v := fun x hx => by
        rcases List.mem_cons.1 hx with rfl | hx
        · exact ha
        · have := hs.1 x hx; omega
      have e : M.rRank (a :: l) v = 0 := by
        unfold M.rRank
        rw [List.filter_eq_nil_iff.2 fun x hx => by simpa using hz x hx]
        rfl
      rw [e]
      exact ⟨fun k hk h => by omega, fun k hk _ => by have := hz _ (List.getElem_mem hk); omega⟩
def selv (xs : List Int) (k : Int) : Int := if 0 ≤ k then xs.getD k.toNat 0 else 0
def selb (xs : List Int) (k : Int) : Bool := decide (0 ≤ k ∧ k < xs.length)
theorem next_at {xs : List Int} (hs : xs.Pairwise (· < ·)) (v : Int) : (if selb xs (M.rRank xs v : Nat) then selv xs (M.rRank xs v : Nat) else -1) = M.rNext xs v := by
  obtain ⟨h1, h2⟩ := rank_half hs v
  by_cases h : M.rRank xs v < xs.length
  · have e1 : selb xs (M.rRank xs v : Nat) = true := by unfold selb; rw [decide_eq_true_eq]; omega
    have e2 : selv xs (M.rRank xs v : Nat) = xs[M.rRank xs v] := by unfold selv; rw [if_pos (by omega)]; simp [h]
    rw [e1, if_pos rfl, e2]
    refine (M.next_of hs (List.getElem_mem h) (h2 _ h (Nat.le_refl _)) fun z hz hvz => ?_).symm
    obtain ⟨k, hk, rfl⟩ := List.mem_iff_getElem.1 hz
    rcases Nat.lt_trichotomy k (M.rRank xs v) with c | c | c
    · have := h1 k hk c; omega
    · exact Int.le_of_eq (by simp [c])
    · exact Int.le_of_lt (List.pairwise_iff_getElem.1 hs _ k h hk c)
  · have e1 : selb xs (M.rRank xs v : Nat) = false := by unfold selb; rw [decide_eq_false_iff_not]; omega
    rw [e1]
    refine (M.next_none hs fun z hz => ?_).symm
    obtain ⟨k, hk, rfl⟩ := List.mem_iff_getElem.1 hz
    exact h1 k hk (by omega)
def upv (xs : List Int) (v : Int) : Nat := if v ∈ xs then M.rRank xs v + 1 else M.rRank xs v
theorem up_le (xs : List Int) (v : Int) (hs : xs.Pairwise (· < ·)) : upv xs v ≤ xs.length := by
  unfold upv
  by_cases h : v ∈ xs
  · rw [if_pos h]
    obtain ⟨h1, h2⟩ := rank_half hs v
    obtain ⟨h3, _⟩ := (mem_at h1 h2 hs).1 h
    omega
  · rw [if_neg h]; exact rank_le xs v
theorem up_half {xs : List Int} (hs : xs.Pairwise (· < ·)) (v : Int) : (∀ k (h : k < xs.length), k < upv xs v → xs[k] ≤ v) ∧ (∀ k (h : k < xs.length), upv xs v ≤ k → v < xs[k]) := by
  obtain ⟨h1, h2⟩ := rank_half hs v
  have hm := mem_at h1 h2 hs
  unfold upv
  by_cases h : v ∈ xs
  · rw [if_pos h]
    obtain ⟨h3, h4⟩ := hm.1 h
    refine ⟨fun k hk hlt => ?_, fun k hk hle => ?_⟩
    · rcases Nat.lt_or_eq_of_le (show k ≤ M.rRank xs v by omega) with c | c
      · exact Int.le_of_lt (h1 k hk c)
      · subst c; exact Int.le_of_eq h4
    · have := List.pairwise_iff_getElem.1 hs (M.rRank xs v) k h3 hk (by omega)
      omega
  · rw [if_neg h]
    refine ⟨fun k hk hlt => Int.le_of_lt (h1 k hk hlt), fun k hk hle => ?_⟩
    rcases Int.lt_or_eq_of_le (h2 k hk hle) with c | c
    · exact c
    · exact absurd (by rw [c]; exact List.getElem_mem hk) h
theorem prev_at {xs : List Int} (hs : xs.Pairwise (· < ·)) (v : Int) : (if selb xs ((upv xs v : Nat) - 1) then selv xs ((upv xs v : Nat) - 1) else -1) = M.rPrev xs v := by
  obtain ⟨h1, h2⟩ := up_half hs v
  have hle := up_le xs v hs
  by_cases h : 0 < upv xs v
  · obtain ⟨k, hk⟩ : ∃ k, upv xs v = k + 1 := ⟨upv xs v - 1, by omega⟩
    have hkl : k < xs.length := by omega
    have ek : ((upv xs v : Nat) : Int) - 1 = (k : Int) := by omega
    rw [ek]
    have e1 : selb xs (k : Int) = true := by unfold selb; rw [decide_eq_true_eq]; omega
    have e2 : selv xs (k : Int) = xs[k] := by unfold selv; rw [if_pos (by omega)]; simp [hkl]
    rw [e1, if_pos rfl, e2]
    refine (M.prev_of hs (List.getElem_mem hkl) (h1 k hkl (by omega)) fun z hz hzv => ?_).symm
    obtain ⟨i, hi, rfl⟩ := List.mem_iff_getElem.1 hz
    rcases Nat.lt_trichotomy i k with c | c | c
    · exact Int.le_of_lt (List.pairwise_iff_getElem.1 hs i k hi hkl c)
    · exact Int.le_of_eq (by simp [c])
    · have := h2 i hi (by omega); omega
  · have e1 : selb xs ((upv xs v : Nat) - 1) = false := by unfold selb; rw [decide_eq_false_iff_not]; omega
    rw [e1]
    refine (M.prev_none hs fun z hz => ?_).symm
    obtain ⟨i, hi, rfl⟩ := List.mem_iff_getElem.1 hz
    exact h2 i hi (by omega)
section
variable (w : World) (B n c : Nat) (A : Option Addr) (xs : List Int) (v : Int) (hn : n = xs.length) (hr : Rh w B A xs) (hs : xs.Pairwise (· < ·)) (few : n ≤ 1000000)
include hn hr hs few
set_option maxHeartbeats 2000000 in
theorem a_has : Calls Tryz.prog 175 #[.slice A n c, .int .u16 v] w fun e w' => e = .returned (.bool (decide (v ∈ xs))) ∧ w = w' := by
  have H := Lib.hid (a_search w B n c A xs v hn hr hs few)
  clear hn hr hs
  go_enter Tryz.func175, Tryz.ntmps175
  go_wp2_with (go_at_call 78; (with_reducible refine H.out.mono ?_); rintro e w' ⟨rfl, rfl⟩)
  go_ret
  exact ⟨rfl, rfl⟩
end
end Go.Proofs.YtkehehfphccpbaaGreatDoor.A
end
section
namespace Go.Proofs.YtkehehfphccpbaaGreatDoor.A
set_option maxRecDepth 40000
open Go.RowKit
section
variable (w : World) (B n c : Nat) (A : Option Addr) (xs : List Int) (v : Int) (hn : n = xs.length) (hr : Rh w B A xs) (hs : xs.Pairwise (· < ·)) (few : n ≤ 1000000)
include hn hr hs few
end
end Go.Proofs.YtkehehfphccpbaaGreatDoor.A
end
section
namespace Go.Proofs.YtkehehfphccpbaaGreatDoor.A
set_option maxRecDepth 40000
open Go.RowKit Go.Shelf
def cutA (A : Option Addr) (l c : Nat) : Option Addr := if c = l then A else A.map (·.add (l * 1))
theorem cutA_rh {w : World} {B n c l h : Nat} {A : Option Addr} {xs : List Int} (hr : Rh w B A xs) (hn : n = xs.length) (hl : l ≤ h) (hh : h ≤ n) (hc : n ≤ c) : Rh w B (cutA A l c) ((xs.take h).drop l) := by
  intro hne
  have hlen : ((xs.take h).drop l).length = h - l := by rw [List.length_drop, List.length_take]; omega
  have hlt : l < h := by
    rcases Nat.lt_or_ge l h with e | e
    · exact e
    · exact absurd (List.eq_nil_of_length_eq_zero (by omega)) hne
  obtain ⟨b, off, rfl, hb, hcl⟩ := hr (by intro e; subst e; simp at hn; omega)
  refine ⟨b, off + l, ?_, hb, fun k hk => ?_⟩
  · unfold cutA
    rw [if_neg (by omega)]
    show some _ = some _
    unfold Addr.add
    by_cases h0 : l = 0 <;> simp [h0]
  · have h2 : l + k < xs.length := by omega
    have := hcl (l + k) h2
    rw [show off + l + k = off + (l + k) by omega, this]
    simp
theorem cut_lh (A : Option Addr) (n c l h : Nat) (L H : Int) (hL : L = (l : Int)) (hH : H = (h : Int)) (hl : l ≤ h) (hh : h ≤ n) (hc : n ≤ c) : (∀ w, (Instr.sliceAt 37 (.slice A n c) (some (.int .i64 L)) (some (.int .i64 H)) none).run Tryz.prog w = .ok (.slice (cutA A l c) (h - l) (c - l)) w) ∧
    (∀ w, (Instr.slice 37 (.slice A n c) (some (.int .i64 L)) (some (.int .i64 H)) none).run Tryz.prog w = .ok (.slice (cutA A l c) (h - l) (c - l)) w) := by
  subst hL hH
  have hu : Tryz.prog.underlying 37 = some (.slice (Tryz.prog.elem 37)) := by kernel_rfl
  have hz : ∀ w, (Go.sizeOf (Tryz.prog.elem 37)).run Tryz.prog w = .ok 1 w := fun w => Tryz.sizeOf35 w
  have h2 : ∀ w, (Instr.slice 37 (.slice A n c) (some (.int .i64 (l : Int))) (some (.int .i64 (h : Int))) none).run Tryz.prog w = .ok (sliced A l h c 1) w := fun w => by
    have h := run_slice_lh (P := Tryz.prog) (w := w) (t := 37) (a := A) (len := n) (cap := c) (ht := hu) (kl := .i64) (l := (l : Int)) (kh := .i64) (h := (h : Int)) (h0 := by omega) (h1 := by omega) (h2 := by omega)
    rw [h, hz]
    simp [Result.andThen]
  exact ⟨fun w => (run_sliceAt_slice (w := w) (h := hu) ..).trans (h2 w), h2⟩
theorem cut_l (A : Option Addr) (n c l : Nat) (L : Int) (hL : L = (l : Int)) (hl : l ≤ n) : (∀ w, (Instr.sliceAt 37 (.slice A n c) (some (.int .i64 L)) none none).run Tryz.prog w = .ok (.slice (cutA A l c) (n - l) (c - l)) w) ∧
    (∀ w, (Instr.slice 37 (.slice A n c) (some (.int .i64 L)) none none).run Tryz.prog w = .ok (.slice (cutA A l c) (n - l) (c - l)) w) := by
  subst hL
  have hu : Tryz.prog.underlying 37 = some (.slice (Tryz.prog.elem 37)) := by kernel_rfl
  have hz : ∀ w, (Go.sizeOf (Tryz.prog.elem 37)).run Tryz.prog w = .ok 1 w := fun w => Tryz.sizeOf35 w
  have h2 : ∀ w, (Instr.slice 37 (.slice A n c) (some (.int .i64 (l : Int))) none none).run Tryz.prog w = .ok (sliced A l n c 1) w := fun w => by
    have h := run_slice_l (P := Tryz.prog) (w := w) (t := 37) (a := A) (len := n) (cap := c) (ht := hu) (kl := .i64) (l := (l : Int)) (h0 := by omega) (h1 := by omega)
    rw [h, hz]
    simp [Result.andThen]
  exact ⟨fun w => (run_sliceAt_slice (w := w) (h := hu) ..).trans (h2 w), h2⟩
theorem cut_h (A : Option Addr) (n c l : Nat) (L : Int) (hL : L = (l : Int)) (hl : l ≤ n) (hc : n ≤ c) : (∀ w, (Instr.sliceAt 37 (.slice A n c) none (some (.int .i64 L)) none).run Tryz.prog w = .ok (.slice A l c) w) ∧
    (∀ w, (Instr.slice 37 (.slice A n c) none (some (.int .i64 L)) none).run Tryz.prog w = .ok (.slice A l c) w) := by
  subst hL
  have hu : Tryz.prog.underlying 37 = some (.slice (Tryz.prog.elem 37)) := by kernel_rfl
  have hz : ∀ w, (Go.sizeOf (Tryz.prog.elem 37)).run Tryz.prog w = .ok 1 w := fun w => Tryz.sizeOf35 w
  have h2 : ∀ w, (Instr.slice 37 (.slice A n c) none (some (.int .i64 (l : Int))) none).run Tryz.prog w = .ok (.slice A l c) w := fun w => by
    have h := run_slice_h (P := Tryz.prog) (w := w) (t := 37) (a := A) (len := n) (cap := c) (ht := hu) (kh := .i64) (h := (l : Int)) (h0 := by omega) (h2 := by omega)
    rw [h, hz]
    simp [Result.andThen]
    cases A <;> simp [sliced, Addr.add]
  exact ⟨fun w => (run_sliceAt_slice (w := w) (h := hu) ..).trans (h2 w), h2⟩
theorem rh_take {w : World} {B l : Nat} {A : Option Addr} {xs : List Int} (hr : Rh w B A xs) : Rh w B A (xs.take l) := by
  intro hne
  obtain ⟨b, off, rfl, hb, hcl⟩ := hr (by intro e; subst e; simp at hne)
  refine ⟨b, off, rfl, hb, fun k hk => ?_⟩
  have h2 : k < xs.length := by rw [List.length_take] at hk; omega
  rw [hcl k h2]
  simp
theorem take_lt {xs : List Int} {v : Int} {r : Nat} (h : Half xs v r r) {x : Int} (hx : x ∈ xs.take r) : x < v := by
  obtain ⟨k, hk, rfl⟩ := List.getElem_of_mem hx
  rw [List.getElem_take]
  rw [List.length_take] at hk
  exact h.1 k (by omega) (by omega)
theorem drop_ge {xs : List Int} {v : Int} {r : Nat} (h : Half xs v r r) {x : Int} (hx : x ∈ xs.drop r) : v ≤ x := by
  obtain ⟨k, hk, rfl⟩ := List.getElem_of_mem hx
  rw [List.getElem_drop]
  rw [List.length_drop] at hk
  exact h.2 (r + k) (by omega) (by omega)
theorem sort_add {xs : List Int} {v : Int} {r : Nat} (hs : xs.Pairwise (· < ·)) (h : Half xs v r r) (hn : ¬ v ∈ xs) : (xs.take r ++ ([v] ++ xs.drop r)).Pairwise (· < ·) :=
  List.pairwise_append.2 ⟨hs.sublist (List.take_sublist _ _), List.pairwise_append.2 ⟨List.pairwise_singleton _ _, hs.sublist (List.drop_sublist _ _), fun x hx y hy => by
    rw [List.mem_singleton] at hx
    subst hx
    have h1 := drop_ge h hy
    have h2 : x ≠ y := fun e => hn (e ▸ List.mem_of_mem_drop hy)
    omega⟩, fun x hx y hy => by
    have h1 := take_lt h hx
    rcases List.mem_append.1 hy with h2 | h2
    · rw [List.mem_singleton] at h2; omega
    · have := drop_ge h h2; omega⟩
theorem mem_add {xs : List Int} {v : Int} {r : Nat} (x : Int) : x ∈ xs.take r ++ ([v] ++ xs.drop r) ↔ x ∈ xs ∨ x = v := by
  have h : x ∈ xs ↔ x ∈ xs.take r ∨ x ∈ xs.drop r := by rw [← List.mem_append, List.take_append_drop]
  rw [h, List.mem_append, List.mem_append, List.mem_singleton]
  constructor
  · rintro (h | h | h)
    · exact .inl (.inl h)
    · exact .inr h
    · exact .inl (.inr h)
  · rintro ((h | h) | h)
    · exact .inl h
    · exact .inr (.inr h)
    · exact .inr (.inl h)
theorem sort_drop {xs : List Int} {r : Nat} (hs : xs.Pairwise (· < ·)) : (xs.take r ++ xs.drop (r + 1)).Pairwise (· < ·) := by
  have h : (xs.take r ++ xs.drop (r + 1)).Sublist (xs.take r ++ xs.drop r) := List.Sublist.append (List.Sublist.refl _) (by rw [← List.drop_drop]; exact List.drop_sublist _ _)
  rw [List.take_append_drop] at h
  exact hs.sublist h
theorem mem_drop {xs : List Int} {v : Int} {r : Nat} (hs : xs.Pairwise (· < ·)) (hr : r < xs.length) (he : xs[r] = v) (x : Int) : x ∈ xs.take r ++ xs.drop (r + 1) ↔ x ∈ xs ∧ x ≠ v := by
  have h : x ∈ xs ↔ x ∈ xs.take r ∨ x = v ∨ x ∈ xs.drop (r + 1) := by
    conv => lhs; rw [← List.take_append_drop r xs, List.mem_append, List.drop_eq_getElem_cons hr, List.mem_cons, he]
  have h1 : x ∈ xs.take r → x ≠ v := fun hx => by
    obtain ⟨k, hk, rfl⟩ := List.getElem_of_mem hx
    rw [List.getElem_take, ← he]
    rw [List.length_take] at hk
    exact Int.ne_of_lt (List.pairwise_iff_getElem.1 hs k r (by omega) hr (by omega))
  have h2 : x ∈ xs.drop (r + 1) → x ≠ v := fun hx => by
    obtain ⟨k, hk, rfl⟩ := List.getElem_of_mem hx
    rw [List.getElem_drop, ← he]
    rw [List.length_drop] at hk
    exact (Int.ne_of_lt (List.pairwise_iff_getElem.1 hs r (r + 1 + k) hr (by omega) (by omega))).symm
  rw [h, List.mem_append]
  constructor
  · rintro (h | h)
    · exact ⟨.inl h, h1 h⟩
    · exact ⟨.inr (.inr h), h2 h⟩
  · rintro ⟨h | h | h, hne⟩
    · exact .inl h
    · exact absurd h hne
    · exact .inr h
theorem sort_part {xs : List Int} {r u : Nat} (hs : xs.Pairwise (· < ·)) : ((xs.take u).drop r).Pairwise (· < ·) := hs.sublist ((List.drop_sublist _ _).trans (List.take_sublist _ _))
theorem mem_part {xs : List Int} (hs : xs.Pairwise (· < ·)) (f t x : Int) : x ∈ (xs.take (upv xs t)).drop (M.rRank xs f) ↔ x ∈ xs ∧ f ≤ x ∧ x ≤ t := by
  obtain ⟨a1, a2⟩ := rank_half hs f
  obtain ⟨b1, b2⟩ := up_half hs t
  constructor
  · intro hx
    obtain ⟨k, hk, rfl⟩ := List.getElem_of_mem hx
    rw [List.length_drop, List.length_take] at hk
    have hl : M.rRank xs f + k < xs.length := by omega
    have e : ((xs.take (upv xs t)).drop (M.rRank xs f))[k]'(by rw [List.length_drop, List.length_take]; exact hk) = xs[M.rRank xs f + k] := by rw [List.getElem_drop, List.getElem_take]
    rw [e]
    exact ⟨List.getElem_mem _, a2 _ hl (by omega), b1 _ hl (by omega)⟩
  · rintro ⟨hx, h1, h2⟩
    obtain ⟨k, hk, rfl⟩ := List.getElem_of_mem hx
    have c1 : M.rRank xs f ≤ k := by
      rcases Nat.lt_or_ge k (M.rRank xs f) with e | e
      · have := a1 k hk e; omega
      · exact e
    have c2 : k < upv xs t := by
      rcases Nat.lt_or_ge k (upv xs t) with e | e
      · exact e
      · have := b2 k hk e; omega
    have hl : k - M.rRank xs f < ((xs.take (upv xs t)).drop (M.rRank xs f)).length := by rw [List.length_drop, List.length_take]; omega
    have e : ((xs.take (upv xs t)).drop (M.rRank xs f))[k - M.rRank xs f] = xs[k] := by
      rw [List.getElem_drop, List.getElem_take]
      congr 1
      omega
    rw [← e]
    exact List.getElem_mem _
theorem rank_up {xs : List Int} (hs : xs.Pairwise (· < ·)) {f t : Int} (h : f ≤ t) : M.rRank xs f ≤ upv xs t := by
  obtain ⟨a1, a2⟩ := rank_half hs f
  obtain ⟨b1, b2⟩ := up_half hs t
  rcases Nat.lt_or_ge (upv xs t) (M.rRank xs f) with e | e
  · have hl : upv xs t < xs.length := Nat.lt_of_lt_of_le e (rank_le xs f)
    have h1 := a1 _ hl e
    have h2 := b2 _ hl (Nat.le_refl _)
    omega
  · exact e
end Go.Proofs.YtkehehfphccpbaaGreatDoor.A
end
section
namespace Go.Proofs.YtkehehfphccpbaaGreatDoor.A
set_option maxRecDepth 40000
open Go.RowKit Go.Shelf
theorem copy_any (w : World) (B n c : Nat) (A : Option Addr) (xs : List Int) (hn : n = xs.length) (hr : Rh w B A xs) (hB : B ≤ w.heap.size) (few : n ≤ 1000000) :
    Calls Tryz.prog 75 #[.slice (some ⟨w.heap.size, 0, none⟩) 1 1] (w.alloc (.cells #[.slice A n c] 37)) fun e w' => ∃ v, e = .returned v ∧ w'.ownsRow w.heap.size 35 1 v xs.length (hv xs) ∧ Below w.heap.size w w' := by
  have HP := Lib.hid (rh_cell (c := c) hr hn hB)
  have hcat : cat [(A, c, xs)] = xs := by simp [cat]
  have hB1 : B ≤ (w.alloc (.cells #[.slice A n c] 37)).heap.size := by simp; omega
  have hb0 := (Below.refl w.heap.size w).alloc (Nat.le_refl _) (.cells #[.slice A n c] 37)
  have c1 := concat_any (w.alloc (.cells #[.slice A n c] 37)) B w.heap.size 0 1 [(A, c, xs)] HP.out hB1 (by simp) (by rw [hcat, ← hn]; omega) (by simp)
  rw [hcat] at c1
  have c2 : Calls Tryz.prog 75 #[.slice (some ⟨w.heap.size, 0, none⟩) 1 1] (w.alloc (.cells #[.slice A n c] 37)) _ := c1
  refine c2.mono ?_
  rintro e w2 ⟨v, rfl, h1, h2⟩
  exact ⟨v, rfl, own_low h1 (by simp), hb0.trans (h2.mono (by simp))⟩
theorem parts_drew {w : World} {B g off : Nat} {L : List Part} (h : Parts w B g off L) (k : Nat) : Parts (w.drewN k) B g off L := h
theorem cat_three (w : World) (B n1 c1 n3 c3 : Nat) (A1 A3 : Option Addr) (xs1 xs3 : List Int) (v : Int) (h1 : n1 = xs1.length) (h3 : n3 = xs3.length) (r1 : Rh w B A1 xs1) (r3 : Rh w B A3 xs3) (hB : B ≤ w.heap.size) (f1 : n1 ≤ 1000000) (f3 : n3 ≤ 1000000) :
    Calls Tryz.prog 75 #[.slice (some ⟨w.heap.size + 1, 0, none⟩) 3 3] ((w.alloc (.cells #[.int .u16 v] 35)).alloc (.cells #[.slice A1 n1 c1, .slice (some ⟨w.heap.size, 0, none⟩) 1 1, .slice A3 n3 c3] 37)).drew
      fun e w' => ∃ v', e = .returned v' ∧ w'.ownsRow w.heap.size 35 1 v' (xs1 ++ ([v] ++ xs3)).length (hv (xs1 ++ ([v] ++ xs3))) ∧ Below w.heap.size w w' := by
  subst h1 h3
  have b1 := (Below.refl w.heap.size w).alloc (Nat.le_refl _) (.cells #[.int .u16 v] 35)
  have z1 : (w.alloc (.cells #[.int .u16 v] 35)).heap.size = w.heap.size + 1 := by simp
  have R2 : Rh (w.alloc (.cells #[.int .u16 v] 35)) (w.heap.size + 1) (some ⟨w.heap.size, 0, none⟩) [v] := rh_new w [v]
  have R1 := (r1.below b1 hB).more (show B ≤ w.heap.size + 1 by omega)
  have R3 := (r3.below b1 hB).more (show B ≤ w.heap.size + 1 by omega)
  clear r1 r3
  generalize w.alloc (.cells #[.int .u16 v] 35) = W at *
  have b2 := (Below.refl W.heap.size W).alloc (Nat.le_refl _) (.cells #[.slice A1 xs1.length c1, .slice (some ⟨w.heap.size, 0, none⟩) 1 1, .slice A3 xs3.length c3] 37)
  have HP : Parts (W.alloc (.cells #[.slice A1 xs1.length c1, .slice (some ⟨w.heap.size, 0, none⟩) 1 1, .slice A3 xs3.length c3] 37)) (w.heap.size + 1) (w.heap.size + 1) 0 [(A1, c1, xs1), (some ⟨w.heap.size, 0, none⟩, 1, [v]), (A3, c3, xs3)] := by
    intro k hk
    rw [← z1]
    rw [← z1] at R1 R2 R3
    match k, hk with
    | 0, _ => exact ⟨by rw [Nat.zero_add, World.cell?_alloc_new]; rfl, R1.below b2 (Nat.le_refl _)⟩
    | 1, _ => exact ⟨by rw [Nat.zero_add, World.cell?_alloc_new]; rfl, R2.below b2 (Nat.le_refl _)⟩
    | 2, _ => exact ⟨by rw [Nat.zero_add, World.cell?_alloc_new]; rfl, R3.below b2 (Nat.le_refl _)⟩
  have hcat : cat [(A1, c1, xs1), (some ⟨w.heap.size, 0, none⟩, 1, [v]), (A3, c3, xs3)] = xs1 ++ ([v] ++ xs3) := by simp [cat]
  have hl : (xs1 ++ ([v] ++ xs3)).length ≤ 1099511627776 := by simp; omega
  have c1 := concat_any (W.alloc (.cells #[.slice A1 xs1.length c1, .slice (some ⟨w.heap.size, 0, none⟩) 1 1, .slice A3 xs3.length c3] 37)).drew (w.heap.size + 1) (w.heap.size + 1) 0 3 [(A1, c1, xs1), (some ⟨w.heap.size, 0, none⟩, 1, [v]), (A3, c3, xs3)] HP (by simp [World.drew]; omega) (by simp [World.drew]; omega) (by rw [hcat]; exact hl) (by simp)
  rw [hcat] at c1
  refine c1.mono ?_
  rintro e w2 ⟨v', rfl, g1, g2⟩
  exact ⟨v', rfl, own_low g1 (by simp [World.drew]; omega), b1.trans ((b2.mono (by omega)).trans (Below.mono (show Below _ _ _ from ⟨g2.os, g2.tape, g2.output, g2.size, g2.block⟩) (by simp [World.drew]; omega)))⟩
def AddP (w : World) (n : Nat) (xs : List Int) (v : Int) (e : Ending) (w' : World) : Prop := ∃ (val : Value) (zs : List Int), e = .returned (.tuple #[val, .bool (!decide (v ∈ xs))]) ∧ zs.Pairwise (· < ·) ∧ (∀ x, x ∈ zs ↔ x ∈ xs ∨ x = v) ∧ zs.length ≤ n + 1 ∧ w'.ownsRow w.heap.size 35 1 val zs.length (hv zs) ∧ Below w.heap.size w w'
set_option maxHeartbeats 8000000 in
set_option maxRecDepth 100000 in
theorem a_add (w : World) (B n c : Nat) (A : Option Addr) (xs : List Int) (v : Int) (hn : n = xs.length) (hr : Rh w B A xs) (hs : xs.Pairwise (· < ·)) (hB : B ≤ w.heap.size) (hc : n ≤ c) (few : n ≤ 1000000) :
    Calls Tryz.prog 50 #[.slice A n c, .int .u16 v] w (AddP w n xs v) := by
  have HS := Lib.hid (a_search w B n c A xs v hn hr hs few)
  by_cases hv : v ∈ xs
  · have hd : decide (v ∈ xs) = true := decide_eq_true hv
    rw [hd] at HS
    have HC := Lib.hid (copy_any w B n c A xs hn hr hB few)
    have HV := Lib.hid hv
    have HSS := Lib.hid hs
    have HN := Lib.hid hn
    unfold AddP
    rw [hd]
    generalize M.rRank xs v = r at *
    clear hn hr hs hB hv hd
    go_enter Tryz.func50, Tryz.ntmps50
    go_wp2_with (first
      | (go_at_call 78; (with_reducible refine HS.out.mono ?_); rintro e w' ⟨rfl, rfl⟩)
      | (go_at_call 75; (with_reducible refine HC.out.mono ?_); rintro e w2 ⟨val, rfl, h1, h2⟩; replace h1 := Lib.hid h1; replace h2 := Lib.hid h2))
    go_ret2
    exact ⟨val, xs, rfl, HSS.out, fun x => ⟨.inl, fun h => h.elim id (fun e => e ▸ HV.out)⟩, by have := HN.out; omega, h1.out, h2.out⟩
  · have hd : decide (v ∈ xs) = false := decide_eq_false hv
    rw [hd] at HS
    have HH := rank_half hs v
    have hrl := rank_le xs v
    unfold AddP
    rw [hd]
    generalize M.rRank xs v = r at *
    have SRT := Lib.hid (sort_add hs HH hv)
    have MEM := Lib.hid (mem_add (xs := xs) (v := v) (r := r))
    have R1 := Lib.hid (rh_take (l := r) hr)
    have R3 := Lib.hid (cutA_rh (l := r) (h := n) hr hn (by omega) (Nat.le_refl _) hc)
    obtain ⟨g1, g2⟩ := cut_h A n c r (r : Int) rfl (by omega) hc
    obtain ⟨g3, g4⟩ := cut_l A n c r (r : Int) rfl (by omega)
    have hrc : (r : Int) ≤ (c : Int) := by omega
    have hrn : (r : Int) ≤ (n : Int) := by omega
    have HN := Lib.hid hn
    have HB := Lib.hid hB
    clear hn hs hrl hr hv hd HH hB
    go_enter Tryz.func50, Tryz.ntmps50
    go_wp2_with (go_at_call 78; (with_reducible refine HS.out.mono ?_); rintro e w' ⟨rfl, rfl⟩)
    have HC := Lib.hid (cat_three w B r c (n - r) (c - r) A (cutA A r c) (xs.take r) (xs.drop r) v (by rw [List.length_take]; have := HN.out; omega) (by rw [List.length_drop, HN.out]) R1.out (by have h := R3.out; rw [HN.out, List.take_length] at h; exact h) HB.out (by omega) (by omega))
    have HLL : Hid ((xs.take r ++ ([v] ++ xs.drop r)).length ≤ n + 1) := by
      show _ ≤ _
      rw [List.length_append, List.length_append, List.length_take, List.length_drop]
      have := HN.out
      simp
      omega
    clear R1 R3 HN HB
    generalize xs.take r ++ ([v] ++ xs.drop r) = ys at *
    go_region_held3 (fun _ => True) (trivial) (first
      | (go_at_call 75; (with_reducible refine HC.out.mono ?_); rintro e w2 ⟨val, rfl, h1, h2⟩; replace h1 := Lib.hid h1; replace h2 := Lib.hid h2))
    all_goals
      go_wp2
      go_ret2
      exact ⟨val, ys, rfl, SRT.out, MEM.out, HLL.out, h1.out, h2.out⟩
theorem cat_two (w : World) (B n1 c1 n3 c3 : Nat) (A1 A3 : Option Addr) (xs1 xs3 : List Int) (h1 : n1 = xs1.length) (h3 : n3 = xs3.length) (R1 : Rh w B A1 xs1) (R3 : Rh w B A3 xs3) (hB : B ≤ w.heap.size) (f1 : n1 ≤ 1000000) (f3 : n3 ≤ 1000000) :
    Calls Tryz.prog 75 #[.slice (some ⟨w.heap.size, 0, none⟩) 2 2] (w.alloc (.cells #[.slice A1 n1 c1, .slice A3 n3 c3] 37)).drew
      fun e w' => ∃ v', e = .returned v' ∧ w'.ownsRow w.heap.size 35 1 v' (xs1 ++ xs3).length (hv (xs1 ++ xs3)) ∧ Below w.heap.size w w' := by
  subst h1 h3
  have b2 := (Below.refl w.heap.size w).alloc (Nat.le_refl _) (.cells #[.slice A1 xs1.length c1, .slice A3 xs3.length c3] 37)
  have HP : Parts (w.alloc (.cells #[.slice A1 xs1.length c1, .slice A3 xs3.length c3] 37)) B w.heap.size 0 [(A1, c1, xs1), (A3, c3, xs3)] := by
    intro k hk
    match k, hk with
    | 0, _ => exact ⟨by rw [Nat.zero_add, World.cell?_alloc_new]; rfl, R1.below b2 hB⟩
    | 1, _ => exact ⟨by rw [Nat.zero_add, World.cell?_alloc_new]; rfl, R3.below b2 hB⟩
  have hcat : cat [(A1, c1, xs1), (A3, c3, xs3)] = xs1 ++ xs3 := by simp [cat]
  have hl : (xs1 ++ xs3).length ≤ 1099511627776 := by simp; omega
  have c1 := concat_any (w.alloc (.cells #[.slice A1 xs1.length c1, .slice A3 xs3.length c3] 37)).drew B w.heap.size 0 2 [(A1, c1, xs1), (A3, c3, xs3)] HP (by simp [World.drew]; omega) (by simp [World.drew]) (by rw [hcat]; exact hl) (by simp)
  rw [hcat] at c1
  refine c1.mono ?_
  rintro e w2 ⟨v', rfl, g1, g2⟩
  exact ⟨v', rfl, own_low g1 (by simp [World.drew]), b2.trans (Below.mono (show Below _ _ _ from ⟨g2.os, g2.tape, g2.output, g2.size, g2.block⟩) (by simp [World.drew]))⟩
def DropP (w : World) (n : Nat) (xs : List Int) (v : Int) (e : Ending) (w' : World) : Prop := ∃ (val : Value) (zs : List Int), e = .returned (.tuple #[val, .bool (decide (v ∈ xs))]) ∧ zs.Pairwise (· < ·) ∧ (∀ x, x ∈ zs ↔ x ∈ xs ∧ x ≠ v) ∧ zs.length ≤ n ∧ w'.ownsRow w.heap.size 35 1 val zs.length (hv zs) ∧ Below w.heap.size w w'
set_option maxHeartbeats 8000000 in
set_option maxRecDepth 100000 in
theorem a_drop (w : World) (B n c : Nat) (A : Option Addr) (xs : List Int) (v : Int) (hn : n = xs.length) (hr : Rh w B A xs) (hs : xs.Pairwise (· < ·)) (hB : B ≤ w.heap.size) (hc : n ≤ c) (few : n ≤ 1000000) :
    Calls Tryz.prog 51 #[.slice A n c, .int .u16 v] w (DropP w n xs v) := by
  have HS := Lib.hid (a_search w B n c A xs v hn hr hs few)
  by_cases hv : v ∈ xs
  · have hd : decide (v ∈ xs) = true := decide_eq_true hv
    rw [hd] at HS
    have HH := rank_half hs v
    obtain ⟨hrl, hre⟩ := (mem_at HH.1 HH.2 hs).1 hv
    unfold DropP
    rw [hd]
    generalize M.rRank xs v = r at *
    have SRT := Lib.hid (sort_drop (r := r) hs)
    have MEM := Lib.hid (mem_drop hs hrl hre)
    have R1 := Lib.hid (rh_take (l := r) hr)
    have R3 := Lib.hid (cutA_rh (l := r + 1) (h := n) hr hn (by omega) (Nat.le_refl _) hc)
    obtain ⟨g1, g2⟩ := cut_h A n c r (r : Int) rfl (by omega) hc
    obtain ⟨g3, g4⟩ := cut_l A n c (r + 1) ((r : Int) + 1) (by omega) (by omega)
    have hrc : (r : Int) ≤ (c : Int) := by omega
    have hrn : (r : Int) + 1 ≤ (n : Int) := by omega
    have wr1 : IntKind.i64.wrap ((r : Int) + 1) = (r : Int) + 1 := IntWalk.i64_in _ (by omega)
    have HN := Lib.hid hn
    have HB := Lib.hid hB
    have HRL := Lib.hid hrl
    clear hn hs hrl hre hr hv hd HH hB
    go_enter Tryz.func51, Tryz.ntmps51
    go_wp2_with (go_at_call 78; (with_reducible refine HS.out.mono ?_); rintro e w' ⟨rfl, rfl⟩)
    have HC := Lib.hid (cat_two w B r c (n - (r + 1)) (c - (r + 1)) A (cutA A (r + 1) c) (xs.take r) (xs.drop (r + 1)) (by rw [List.length_take]; have := HRL.out; omega) (by rw [List.length_drop, HN.out]) R1.out (by have h := R3.out; rw [HN.out, List.take_length] at h; exact h) HB.out (by omega) (by omega))
    have HLL : Hid ((xs.take r ++ xs.drop (r + 1)).length ≤ n) := by
      show _ ≤ _
      rw [List.length_append, List.length_take, List.length_drop]
      have := HN.out
      omega
    clear R1 R3 HN HB HRL
    generalize xs.take r ++ xs.drop (r + 1) = ys at *
    go_region_held3 (fun _ => True) (trivial) (first
      | (go_at_call 75; (with_reducible refine HC.out.mono ?_); rintro e w2 ⟨val, rfl, h1, h2⟩; replace h1 := Lib.hid h1; replace h2 := Lib.hid h2))
    all_goals
      go_wp2
      go_ret2
      exact ⟨val, ys, rfl, SRT.out, MEM.out, HLL.out, h1.out, h2.out⟩
  · have hd : decide (v ∈ xs) = false := decide_eq_false hv
    rw [hd] at HS
    have HC := Lib.hid (copy_any w B n c A xs hn hr hB few)
    have HV := Lib.hid hv
    have HSS := Lib.hid hs
    have HN := Lib.hid hn
    unfold DropP
    rw [hd]
    generalize M.rRank xs v = r at *
    clear hn hr hs hB hv hd
    go_enter Tryz.func51, Tryz.ntmps51
    go_wp2_with (first
      | (go_at_call 78; (with_reducible refine HS.out.mono ?_); rintro e w' ⟨rfl, rfl⟩)
      | (go_at_call 75; (with_reducible refine HC.out.mono ?_); rintro e w2 ⟨val, rfl, h1, h2⟩; replace h1 := Lib.hid h1; replace h2 := Lib.hid h2))
    go_ret2
    exact ⟨val, xs, rfl, HSS.out, fun x => ⟨fun h => ⟨h, fun e => HV.out (e ▸ h)⟩, fun h => h.1⟩, by have := HN.out; omega, h1.out, h2.out⟩
end Go.Proofs.YtkehehfphccpbaaGreatDoor.A
end
