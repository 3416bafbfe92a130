
/- array.Of: a list of one's own with each number once, rising; the text walked. -/
import Derived.Test.YtfccgefpchgdlaaArr1
import Derived.Test.YtfccgefpchgdlaaArr2
namespace Go.Proofs.Ytfccgefpchgdlaa
open Go.RowKit
set_option maxHeartbeats 4000000 in
theorem ins_nil (c : Nat) (w : World) : Calls Try.prog 52 #[.slice none 0 c, .int .i64 0, .int .i64 0] w fun e w' => e = .returned (.tuple #[]) ∧ w = w' := by
  go_enter Try.func52, Try.ntmps52
  go_wp2
  go_loop [6] (fun vi => vi = .int .i64 1) (fun _ => 0)
  case atStart => rfl
  case round =>
    subst hrel
    go_wp2
    go_end0
    exact ⟨rfl, rfl⟩
set_option maxHeartbeats 4000000 in
set_option maxRecDepth 100000 in
theorem pdq_nil (c : Nat) (l : Int) (w : World) : Calls Try.prog 47 #[.slice none 0 c, .int .i64 0, .int .i64 0, .int .i64 l] w fun e w' => e = .returned (.tuple #[]) ∧ w = w' := by
  go_enter Try.func47, Try.ntmps47
  go_wp2_with (fail)
  go_loop [1, 2] (fun v1 v2 => v1 = .int .i64 0 ∧ v2 = .int .i64 0) (fun _ _ => 0)
  case atStart => exact ⟨rfl, rfl⟩
  case round =>
    obtain ⟨rfl, rfl⟩ := hrel
    go_wp2_with (go_at_call 52; (with_reducible refine (ins_nil c _).mono ?_); rintro e w' ⟨rfl, rfl⟩)
    refine bodyPost_ret (results_none rfl _ _ _) rfl ?_
    exact ⟨rfl, rfl⟩
set_option maxHeartbeats 4000000 in
theorem sort_nil (c : Nat) (w : World) : Calls Try.prog 36 #[.slice none 0 c] w fun e w' => e = .returned (.tuple #[]) ∧ w = w' := by
  go_enter Try.func36, Try.ntmps36
  go_wp2_with (first
    | (go_at_call 48; (with_reducible refine (len_any _ _ (by omega) (by omega)).mono ?_); rintro e w' ⟨rfl, rfl⟩)
    | (go_at_call 47; (with_reducible refine (pdq_nil c _ _).mono ?_); rintro e w' ⟨rfl, rfl⟩))
  go_end0
  exact ⟨rfl, rfl⟩
set_option maxHeartbeats 4000000 in
theorem comp_nil (c : Nat) (w : World) : Calls Try.prog 37 #[.slice none 0 c] w fun e w' => e = .returned (.slice none 0 c) ∧ w = w' := by
  go_enter Try.func37, Try.ntmps37
  go_wp2
  go_ret
  exact ⟨rfl, rfl⟩
theorem own_two {w : World} {base : Nat} {e : TypeId} {n : Nat} {v : Value} {xs : List Value} (h : w.ownsRow base e 1 v n xs) : v = .slice none 0 0 ∧ n = 0 ∨ ∃ g c, v = .slice (some ⟨g, 0, none⟩) n c ∧ base ≤ g := by
  rcases h.2 with ⟨h1, h2⟩ | ⟨g, cap, cur, h1, hb, _⟩
  · exact .inl ⟨h1, h2⟩
  · exact .inr ⟨g, cap, h1, hb⟩
theorem own_low {w : World} {base b : Nat} {e : TypeId} {n : Nat} {v : Value} {xs : List Value} (h : w.ownsRow base e 1 v n xs) (hb : b ≤ base) : w.ownsRow b e 1 v n xs := by
  refine ⟨h.1, ?_⟩
  rcases h.2 with h1 | ⟨g, cap, cur, h1, h2, h3⟩
  · exact .inl h1
  · exact .inr ⟨g, cap, cur, h1, Nat.le_trans hb h2, h3⟩
theorem rh_cell {w : World} {B : Nat} {A : Option Addr} {n c : Nat} {xs : List Int} (hr : Rh w B A xs) (hn : n = xs.length) (hB : B ≤ w.heap.size) : Parts (w.alloc (.cells #[.slice A n c] 22)) B w.heap.size 0 [(A, c, xs)] := by
  intro k hk
  have hk0 : k = 0 := by simp at hk; exact hk
  subst hk0
  refine ⟨by simp [hn], ?_⟩
  exact hr.below ((Below.refl _ _).alloc hB _) (Nat.le_refl _)
set_option maxHeartbeats 8000000 in
set_option maxRecDepth 100000 in
theorem of_any (w : World) (B n c : Nat) (A : Option Addr) (xs : List Int) (hn : n = xs.length) (hr : Rh w B A xs) (hB : B ≤ w.heap.size) (few : n ≤ 1000000) :
    Calls Try.prog 10 #[.slice A n c] w fun e w' => ∃ (v : Value) (zs : List Int), e = .returned v ∧ zs.Pairwise (· < ·) ∧ (∀ x, x ∈ zs ↔ x ∈ xs) ∧ w'.ownsRow w.heap.size 30 1 v zs.length (hv zs) ∧ Below w.heap.size w w' ∧ zs.length ≤ n := by
  have HP := Lib.hid (rh_cell (c := c) hr hn hB)
  have hcat : cat [(A, c, xs)] = xs := by simp [cat]
  have HC := Lib.hid hcat
  have hB1 : B ≤ (w.alloc (.cells #[.slice A n c] 22)).heap.size := by simp; omega
  have hb0 := (Below.refl w.heap.size w).alloc (Nat.le_refl _) (.cells #[.slice A n c] 22)
  have c1 := concat_any (w.alloc (.cells #[.slice A n c] 22)) B w.heap.size 0 1 [(A, c, xs)] HP.out hB1 (by simp) (by rw [hcat, ← hn]; omega) (by simp)
  rw [hcat, ← hn] at c1
  have c2 : Calls Try.prog 35 #[.slice (some ⟨w.heap.size, 0, none⟩) 1 1] (w.alloc (.cells #[.slice A n c] 22)) _ := c1
  have C1 := Lib.hid c2
  have HB0 := Lib.hid hb0
  have HN := Lib.hid hn
  clear c1 c2 hb0 hcat hr hn hB1
  go_enter Try.func10, Try.ntmps10
  go_wp2_with (go_at_call 35; (with_reducible refine C1.out.mono ?_); rintro e w2 ⟨v, rfl, h1, h2⟩; replace h1 := Lib.hid h1; replace h2 := Lib.hid h2)
  have hbw : Hid (Below w.heap.size w w2) := Lib.hid (HB0.out.trans (h2.out.mono (by simp)))
  rcases own_two h1.out with ⟨rfl, h0⟩ | ⟨g, cap, rfl, hg⟩
  · have hx : xs = [] := List.eq_nil_of_length_eq_zero (by rw [← HN.out]; exact h0)
    have HX := Lib.hid hx
    clear hx h0
    go_wp2_with (first
      | (go_at_call 36; (with_reducible refine (sort_nil 0 w2).mono ?_); rintro e w' ⟨rfl, rfl⟩)
      | (go_at_call 37; (with_reducible refine (comp_nil 0 w2).mono ?_); rintro e w' ⟨rfl, rfl⟩))
    go_ret
    exact ⟨_, [], rfl, List.Pairwise.nil, fun x => by rw [HX.out], ⟨rfl, .inl ⟨rfl, rfl⟩⟩, hbw.out, Nat.zero_le _⟩
  · have hxl : xs.length = n := HN.out.symm
    have s1 := so_sort w2 w.heap.size g n cap xs (own_low h1.out (by simp)) hxl (by omega)
    have S1 := Lib.hid s1
    have HX := Lib.hid hxl
    have hgw : w.heap.size ≤ g := by simp at hg; omega
    clear s1 hxl
    go_wp2_with (go_at_call 36; (with_reducible refine S1.out.mono ?_); rintro e w3 ⟨rfl, ys, p1, p2, p3, p4⟩; replace p1 := Lib.hid p1; replace p2 := Lib.hid p2; replace p3 := Lib.hid p3; replace p4 := Lib.hid p4)
    have s2 := so_comp w3 w.heap.size g n cap ys p3.out (by rw [p1.out.length_eq]; exact HX.out) p2.out (by omega)
    have S2 := Lib.hid s2
    clear s2
    go_wp2_with (go_at_call 37; (with_reducible refine S2.out.mono ?_); rintro e w4 ⟨zs, rfl, q1, q2, q3, q4, q5⟩; replace q5 := Lib.hid q5; replace q1 := Lib.hid q1; replace q2 := Lib.hid q2; replace q3 := Lib.hid q3; replace q4 := Lib.hid q4)
    go_ret
    have hb4 : ButS w2 w4 (· = g) := p4.out.trans q4.out
    exact ⟨_, zs, rfl, q1.out, fun x => by rw [q2.out x]; exact p1.out.mem_iff, q3.out, hbw.out.trans (hb4.below hbw.out.size (fun j e => by subst e; exact hgw)), q5.out⟩
end Go.Proofs.Ytfccgefpchgdlaa
