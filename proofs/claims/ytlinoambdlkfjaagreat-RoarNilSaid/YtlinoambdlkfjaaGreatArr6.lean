
/- array: Select, Next, Prev, Is; the text walked. -/
import Derived.Test.YtlinoambdlkfjaaGreatArr5
namespace Go.Proofs.YtlinoambdlkfjaaGreat.A
set_option maxRecDepth 40000
open Go.RowKit
set_option maxHeartbeats 4000000 in
theorem a_select (w : World) (B n c : Nat) (A : Option Addr) (xs : List Int) (k : Int) (hn : n = xs.length) (hr : Rh w B A xs) (_few : n ≤ 1000000) :
    Calls Tryz.prog 168 #[.slice A n c, .int .i64 k] w fun e w' => e = .returned (.tuple #[.int .u16 (if selb xs k then selv xs k else 0), .bool (selb xs k)]) ∧ w = w' := by
  have HN := Lib.hid hn
  have HR := Lib.hid hr
  clear hn hr
  obtain ⟨t, ht⟩ : ∃ t, t = selb xs k := ⟨_, rfl⟩
  rw [← ht]
  obtain ⟨x, hx⟩ : ∃ x, x = (if t then selv xs k else 0) := ⟨_, rfl⟩
  rw [← hx]
  have HT := Lib.hid ht
  have HX := Lib.hid hx
  clear ht hx
  by_cases h0 : k < 0
  · have e : Hid (selb xs k = false) := Lib.hid (by unfold selb; rw [decide_eq_false_iff_not]; omega)
    have hd : decide (k < 0) = true := decide_eq_true h0
    go_enter Tryz.func168, Tryz.ntmps168
    go_wp2
    go_ret2
    exact ⟨by rw [HX.out, HT.out, e.out]; rfl, rfl⟩
  · have hd : decide (k < 0) = false := decide_eq_false h0
    obtain ⟨K, rfl⟩ : ∃ K : Nat, k = (K : Int) := ⟨k.toNat, by omega⟩
    by_cases h1 : n ≤ K
    · have e : Hid (selb xs (K : Int) = false) := Lib.hid (by unfold selb; rw [decide_eq_false_iff_not]; have := HN.out; omega)
      go_enter Tryz.func168, Tryz.ntmps168
      go_wp2
      go_ret2
      exact ⟨by rw [HX.out, HT.out, e.out]; rfl, rfl⟩
    · have hK : K < n := by omega
      have hKx : K < xs.length := by rw [← HN.out]; exact hK
      have e : Hid (selb xs (K : Int) = true) := Lib.hid (by unfold selb; rw [decide_eq_true_eq]; omega)
      have e2 : Hid (selv xs (K : Int) = xs[K]) := Lib.hid (by unfold selv; rw [if_pos (by omega)]; simp [hKx])
      obtain ⟨b, off, hA, _, hcell⟩ := HR.out.at hKx
      subst hA
      obtain ⟨y, hy⟩ : ∃ y, y = xs[K] := ⟨_, rfl⟩
      rw [← hy] at hcell
      have HY := Lib.hid hy
      clear hy
      go_enter Tryz.func168, Tryz.ntmps168
      go_wp2
      go_ret2
      exact ⟨by rw [HX.out, HT.out, e.out, if_pos rfl, e2.out, ← HY.out]; rfl, rfl⟩
section
variable (w : World) (B n c : Nat) (A : Option Addr) (xs : List Int) (v : Int) (hn : n = xs.length) (hr : Rh w B A xs) (hs : xs.Pairwise (· < ·)) (few : n ≤ 1000000)
include hn hr hs few
set_option maxHeartbeats 2000000 in
theorem a_next : Calls Tryz.prog 165 #[.slice A n c, .int .u16 v] w fun e w' => e = .returned (.tuple #[.int .u16 (if selb xs (M.rRank xs v : Nat) then selv xs (M.rRank xs v : Nat) else 0), .bool (selb xs (M.rRank xs v : Nat))]) ∧ w = w' := by
  have H := Lib.hid (a_rank w B n c A xs v hn hr hs few)
  have H2 := Lib.hid (a_select w B n c A xs (M.rRank xs v : Nat) hn hr few)
  obtain ⟨r, hr⟩ : ∃ r : Int, r = (M.rRank xs v : Nat) := ⟨_, rfl⟩
  rw [← hr] at H H2 ⊢
  clear hn hr hs
  obtain ⟨x, hx⟩ : ∃ x, x = (if selb xs r then selv xs r else 0) := ⟨_, rfl⟩
  obtain ⟨t, ht⟩ : ∃ t, t = selb xs r := ⟨_, rfl⟩
  rw [← ht] at hx
  rw [← ht, ← hx] at H2 ⊢
  clear hx ht
  go_enter Tryz.func165, Tryz.ntmps165
  go_wp2_with (first
    | (go_at_call 169; (with_reducible refine H.out.mono ?_); rintro e w' ⟨rfl, rfl⟩)
    | (go_at_call 168; (with_reducible refine H2.out.mono ?_); rintro e w' ⟨rfl, rfl⟩))
  go_ret2
  exact ⟨rfl, rfl⟩
set_option maxHeartbeats 2000000 in
theorem a_prev : Calls Tryz.prog 166 #[.slice A n c, .int .u16 v] w fun e w' => e = .returned (.tuple #[.int .u16 (if selb xs ((upv xs v : Nat) - 1) then selv xs ((upv xs v : Nat) - 1) else 0), .bool (selb xs ((upv xs v : Nat) - 1))]) ∧ w = w' := by
  have H := Lib.hid (a_upto w B n c A xs v hn hr hs few)
  have H2 := Lib.hid (a_select w B n c A xs ((upv xs v : Nat) - 1) hn hr few)
  obtain ⟨r, hr⟩ : ∃ r : Nat, r = upv xs v := ⟨_, rfl⟩
  have hrn : r ≤ 1000000 := by rw [hr]; exact Nat.le_trans (up_le xs v hs) (by omega)
  rw [← hr] at H H2 ⊢
  clear hn hr hs
  obtain ⟨q, hq⟩ : ∃ q : Int, (r : Int) - 1 = q := ⟨_, rfl⟩
  rw [hq] at H2 ⊢
  obtain ⟨x, hx⟩ : ∃ x, x = (if selb xs q then selv xs q else 0) := ⟨_, rfl⟩
  obtain ⟨t, ht⟩ : ∃ t, t = selb xs q := ⟨_, rfl⟩
  rw [← ht] at hx
  rw [← ht, ← hx] at H2 ⊢
  clear hx ht
  go_enter Tryz.func166, Tryz.ntmps166
  go_wp2_with (first
    | (go_at_call 170; (with_reducible refine H.out.mono ?_); rintro e w' ⟨rfl, rfl⟩)
    | (go_at_call 168; (with_reducible refine H2.out.mono ?_); rintro e w' ⟨rfl, rfl⟩))
  go_ret2
  exact ⟨rfl, rfl⟩
end
end Go.Proofs.YtlinoambdlkfjaaGreat.A
