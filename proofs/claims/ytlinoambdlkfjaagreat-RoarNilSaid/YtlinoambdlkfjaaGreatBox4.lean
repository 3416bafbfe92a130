
/- What one is told through the interface of numbers that are kept as an array: the functions' contracts in one form. -/
import Derived.Test.YtlinoambdlkfjaaGreatBox3
import Derived.Test.YtlinoambdlkfjaaGreatArrU
namespace Go.Proofs.YtlinoambdlkfjaaGreat
set_option maxRecDepth 40000
open Go.RowKit
theorem selp_at (zs : List Int) (k : Int) : (if A.selb zs k then A.selv zs k else -1) = M.rSel zs k := by
  unfold A.selb A.selv M.rSel
  by_cases h0 : k < 0
  · rw [if_pos h0, if_neg (by rw [decide_eq_true_eq]; omega)]
  · rw [if_neg h0]
    by_cases h1 : k < zs.length
    · have h2 : k.toNat < zs.length := by omega
      rw [if_pos (by rw [decide_eq_true_eq]; omega), if_pos (by omega), List.getD_eq_getElem?_getD, List.getElem?_eq_getElem h2]
      rfl
    · rw [if_neg (by rw [decide_eq_true_eq]; omega), List.getElem?_eq_none (by omega)]
      rfl
theorem selp_in {zs : List Int} {k : Int} (h : A.selb zs k = true) : A.selv zs k ∈ zs := by
  unfold A.selb at h
  rw [decide_eq_true_eq] at h
  have h2 : k.toNat < zs.length := by omega
  unfold A.selv
  rw [if_pos h.1, List.getD_eq_getElem?_getD, List.getElem?_eq_getElem h2]
  exact List.getElem_mem h2
theorem selp_pack {zs : List Int} (hz : ∀ y ∈ zs, 0 ≤ y ∧ y ≤ 65535) (k : Int) : ∃ x b, (if A.selb zs k then A.selv zs k else 0) = x ∧ A.selb zs k = b ∧ 0 ≤ x ∧ x ≤ 65535 ∧ (if b then x else -1) = (if A.selb zs k then A.selv zs k else -1) := by
  by_cases h : A.selb zs k = true
  · have h1 := hz _ (selp_in h)
    refine ⟨A.selv zs k, true, by rw [if_pos h], h, h1.1, h1.2, by rw [if_pos h, if_pos rfl]⟩
  · refine ⟨0, false, by rw [if_neg h], by simpa using h, by omega, by omega, by rw [if_neg h]; rfl⟩
theorem has_eq (xs : List Int) (v : Int) : M.rHas xs v = decide (v ∈ xs) := by
  rw [Bool.eq_iff_iff, rHas_mem, decide_eq_true_eq]
section
variable (w : World) (B n c : Nat) (U : Option Addr) (xs : List Int) (hn : n = xs.length)
include hn
theorem askA_Len : Calls Tryz.prog 156 #[.slice U n c] w (AskI w (xs.length : Nat)) := by
  go_enter Tryz.func156, Tryz.ntmps156
  go_wp2
  go_ret
  exact ⟨by subst hn; rfl, Below.refl _ _⟩
theorem askA_cost : Calls Tryz.prog 162 #[.slice U n c] w (AskI w (xs.length : Nat)) := by
  go_enter Tryz.func162, Tryz.ntmps162
  go_wp2
  go_ret
  exact ⟨by subst hn; rfl, Below.refl _ _⟩
variable (hr : Rh w B U xs) (few : n ≤ 1000000)
include hr few
variable (hx : ∀ y ∈ xs, 0 ≤ y ∧ y ≤ 65535)
variable (hs : xs.Pairwise (· < ·))
include hs
theorem askA_Has (v : Int) : Calls Tryz.prog 155 #[.slice U n c, .int .u16 v] w (AskB w (M.rHas xs v)) := by
  have H0 := A.a_has w B n c U xs v hn hr hs few
  rw [← has_eq] at H0
  have H := Lib.hid H0
  clear H0 hn hr hs
  go_enter Tryz.func155, Tryz.ntmps155
  go_wp2_with (go_at_call 164; (with_reducible refine H.out.mono ?_); rintro e w' ⟨rfl, rfl⟩)
  go_ret
  exact ⟨rfl, Below.refl _ _⟩
include hx in
theorem askA_Next (v : Int) : Calls Tryz.prog 157 #[.slice U n c, .int .u16 v] w (AskP w (M.rNext xs v)) := by
  have H0 := A.a_next w B n c U xs v hn hr hs few
  obtain ⟨x, b, e1, e2, h0, h1, h2⟩ := selp_pack hx (M.rRank xs v : Nat)
  rw [A.next_at hs v] at h2
  rw [e1, e2] at H0
  have H := Lib.hid H0
  clear H0 hn hr hs
  go_enter Tryz.func157, Tryz.ntmps157
  go_wp2_with (go_at_call 165; (with_reducible refine H.out.mono ?_); rintro e w' ⟨rfl, rfl⟩)
  go_ret2
  exact ⟨x, b, rfl, h0, h1, h2, Below.refl _ _⟩
include hx in
theorem askA_Prev (v : Int) : Calls Tryz.prog 158 #[.slice U n c, .int .u16 v] w (AskP w (M.rPrev xs v)) := by
  have H0 := A.a_prev w B n c U xs v hn hr hs few
  obtain ⟨x, b, e1, e2, h0, h1, h2⟩ := selp_pack hx ((A.upv xs v : Nat) - 1)
  rw [A.prev_at hs v] at h2
  rw [e1, e2] at H0
  have H := Lib.hid H0
  clear H0 hn hr hs
  go_enter Tryz.func158, Tryz.ntmps158
  go_wp2_with (go_at_call 166; (with_reducible refine H.out.mono ?_); rintro e w' ⟨rfl, rfl⟩)
  go_ret2
  exact ⟨x, b, rfl, h0, h1, h2, Below.refl _ _⟩
end
end Go.Proofs.YtlinoambdlkfjaaGreat
