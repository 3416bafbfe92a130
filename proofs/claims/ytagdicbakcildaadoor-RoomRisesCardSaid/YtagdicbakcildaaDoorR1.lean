
/- The bounds by tag: what the calls of package room answer; the text walked. -/
import Derived.Test.YtagdicbakcildaaDoorRefs3B
namespace Go.Proofs.YtagdicbakcildaaDoor
open Go.RowKit
namespace M
def tb : List Nat := [0, 0, 0, 0, 0, 0, 5, 1, 9, 21, 1, 5, 66, 0, 1, 9, 1, 65, 4, 68, 11, 12, 12, 66, 11, 0, 11, 12, 1, 11, 2, 0, 66, 66, 1, 2]
/-- The k-th bound of a tag; noughts where there is no such tag. -/
def bd (t : Int) (k : Nat) : Nat := if t < 0 ∨ 6 ≤ t then 0 else tb.getD (6 * t.toNat + k) 0
theorem bd_no {t : Int} (h : t < 1 ∨ 6 ≤ t) (k : Nat) (hk : k < 6) : bd t k = 0 := by
  unfold bd
  by_cases h0 : t < 0 ∨ 6 ≤ t
  · rw [if_pos h0]
  · have : t = 0 := by omega
    subst this
    rw [if_neg (by omega)]
    have : k = 0 ∨ k = 1 ∨ k = 2 ∨ k = 3 ∨ k = 4 ∨ k = 5 := by omega
    rcases this with rfl | rfl | rfl | rfl | rfl | rfl <;> rfl
theorem bd_yes {t : Int} (h : 1 ≤ t) (h5 : t ≤ 5) : (t = 1 ∧ bd t 0 = 5 ∧ bd t 1 = 1) ∨ (t = 2 ∧ bd t 0 = 66 ∧ bd t 1 = 0) ∨ (t = 3 ∧ bd t 0 = 4 ∧ bd t 1 = 68) ∨ (t = 4 ∧ bd t 0 = 11 ∧ bd t 1 = 0) ∨ (t = 5 ∧ bd t 0 = 2 ∧ bd t 1 = 0) := by
  have : t = 1 ∨ t = 2 ∨ t = 3 ∨ t = 4 ∨ t = 5 := by omega
  rcases this with rfl | rfl | rfl | rfl | rfl
  · exact .inl ⟨rfl, rfl, rfl⟩
  · exact .inr (.inl ⟨rfl, rfl, rfl⟩)
  · exact .inr (.inr (.inl ⟨rfl, rfl, rfl⟩))
  · exact .inr (.inr (.inr (.inl ⟨rfl, rfl, rfl⟩)))
  · exact .inr (.inr (.inr (.inr ⟨rfl, rfl, rfl⟩)))
theorem bd_steps {t : Int} (h : 1 ≤ t) (h5 : t ≤ 5) : 0 < bd t 2 ∧ 0 < bd t 3 ∧ 0 < bd t 4 ∧ 0 < bd t 5 := by
  have : t = 1 ∨ t = 2 ∨ t = 3 ∨ t = 4 ∨ t = 5 := by omega
  rcases this with rfl | rfl | rfl | rfl | rfl <;> decide
end M
/-- The table as the program's text lays it. -/
def BT (w : World) : Prop := ∀ j, j < 36 → w.cell? ⟨0, j, none⟩ = some (.int .i64 ((M.tb.getD j 0 : Nat) : Int))
theorem BT.pos {w : World} (h : BT w) : 0 < w.heap.size := by
  rcases Nat.eq_zero_or_pos w.heap.size with h0 | h0
  · have := h 0 (by omega)
    simp [World.cell?, Array.getElem?_eq_none (show w.heap.size ≤ 0 by omega)] at this
  · exact h0
theorem BT.below {w w' : World} (h : BT w) (hb : Below w.heap.size w w') : BT w' := fun j hj => (hb.cell (p := ⟨0, j, none⟩) h.pos).trans (h j hj)
abbrev bval (t : Int) : Value := .agg #[.int .i64 (M.bd t 0 : Nat), .int .i64 (M.bd t 1 : Nat), .int .i64 (M.bd t 2 : Nat), .int .i64 (M.bd t 3 : Nat), .int .i64 (M.bd t 4 : Nat), .int .i64 (M.bd t 5 : Nat)]
/-- Where a bound's cells lie. -/
def Bd (w : World) (b off : Nat) (t : Int) : Prop := ∀ k, k < 6 → w.cell? ⟨b, off + k, none⟩ = some (.int .i64 (M.bd t k : Nat))
theorem of_res (tmps : Array Value) (w : World) (g : Nat) (t : Int) (hp : tmps.getD 2 undef = .pointer (some ⟨g, 0, none⟩)) (hc : Bd w g 0 t) :
    (results Tryd.f14 tmps).run Tryd.prog w = .ok (bval t) w := by
  have hres : Tryd.f14.results = #[.cell 2 36] := by kernel_rfl
  have hp' : tmps[2]?.getD undef = .pointer (some ⟨g, 0, none⟩) := by simpa using hp
  have c0 := hc 0 (by omega)
  have c1 := hc 1 (by omega)
  have c2 := hc 2 (by omega)
  have c3 := hc 3 (by omega)
  have c4 := hc 4 (by omega)
  have c5 := hc 5 (by omega)
  simp only [Nat.zero_add] at c0 c1 c2 c3 c4 c5
  simp only [results, hres]
  simp [hp', asAddr]
  go_simp
theorem new_bd (w : World) : ∀ k, k < 6 → (w.alloc (.cells #[.int .i64 0, .int .i64 0, .int .i64 0, .int .i64 0, .int .i64 0, .int .i64 0] 36)).cell? ⟨w.heap.size, 0 + k, none⟩ = some (.int .i64 0) := fun k hk => by
  have : k = 0 ∨ k = 1 ∨ k = 2 ∨ k = 3 ∨ k = 4 ∨ k = 5 := by omega
  rcases this with rfl | rfl | rfl | rfl | rfl | rfl <;> simp
theorem new_bd0 {w : World} {t : Int} {g : Nat} (h : ∀ k, k < 6 → w.cell? ⟨g, 0 + k, none⟩ = some (.int .i64 0)) (e : ∀ k, k < 6 → M.bd t k = 0) : Bd w g 0 t := fun k hk => by
  rw [h k hk, e k hk]
  rfl
theorem new_bdv (w : World) (t : Int) : Bd (w.alloc (.cells #[.int .i64 (M.bd t 0 : Nat), .int .i64 (M.bd t 1 : Nat), .int .i64 (M.bd t 2 : Nat), .int .i64 (M.bd t 3 : Nat), .int .i64 (M.bd t 4 : Nat), .int .i64 (M.bd t 5 : Nat)] 36)) w.heap.size 0 t := fun k hk => by
  have : k = 0 ∨ k = 1 ∨ k = 2 ∨ k = 3 ∨ k = 4 ∨ k = 5 := by omega
  rcases this with rfl | rfl | rfl | rfl | rfl | rfl <;> simp
set_option maxRecDepth 100000 in
set_option maxHeartbeats 4000000 in
theorem of_any (t : Int) (w : World) (h : BT w) : Calls Tryd.prog 14 #[.int .i64 t] w fun e w' => e = .returned (bval t) ∧ Below w.heap.size w w' := by
  have hn := new_bd w
  by_cases h0 : t < 0 ∨ 6 ≤ t
  · have e : Hid (∀ k, k < 6 → M.bd t k = 0) := Lib.hid fun k hk => M.bd_no (by omega) k hk
    have HB := Lib.hid (new_bd0 hn e.out)
    clear hn
    rcases h0 with h1 | h1
    · have g1 : decide (t < 0) = true := decide_eq_true h1
      go_enter Tryd.func14, Tryd.ntmps14
      go_wp2
      refine bodyPost_ret (of_res _ _ w.heap.size t rfl HB.out) rfl ?_; exact ⟨rfl, (Below.refl _ w).alloc (Nat.le_refl _) _⟩
    · have g1 : decide (t < 0) = false := decide_eq_false (by omega)
      have g2 : decide (6 ≤ t) = true := decide_eq_true h1
      go_enter Tryd.func14, Tryd.ntmps14
      go_wp2
      refine bodyPost_ret (of_res _ _ w.heap.size t rfl HB.out) rfl ?_; exact ⟨rfl, (Below.refl _ w).alloc (Nat.le_refl _) _⟩
  · have c : t = 0 ∨ t = 1 ∨ t = 2 ∨ t = 3 ∨ t = 4 ∨ t = 5 := by omega
    have hA := h.below ((Below.refl _ w).alloc (Nat.le_refl _) (.cells #[.int .i64 0, .int .i64 0, .int .i64 0, .int .i64 0, .int .i64 0, .int .i64 0] 36))
    clear h h0 hn
    rcases c with rfl | rfl | rfl | rfl | rfl | rfl
    · have HV := Lib.hid (show Bd (w.alloc (.cells #[.int .i64 0, .int .i64 0, .int .i64 0, .int .i64 0, .int .i64 0, .int .i64 0] 36)) w.heap.size 0 0 from new_bdv w 0)
      have d0 : (w.alloc (.cells #[.int .i64 0, .int .i64 0, .int .i64 0, .int .i64 0, .int .i64 0, .int .i64 0] 36)).cell? ⟨0, 0, none⟩ = some (.int .i64 0) := hA 0 (by omega)
      have d1 : (w.alloc (.cells #[.int .i64 0, .int .i64 0, .int .i64 0, .int .i64 0, .int .i64 0, .int .i64 0] 36)).cell? ⟨0, 1, none⟩ = some (.int .i64 0) := hA 1 (by omega)
      have d2 : (w.alloc (.cells #[.int .i64 0, .int .i64 0, .int .i64 0, .int .i64 0, .int .i64 0, .int .i64 0] 36)).cell? ⟨0, 2, none⟩ = some (.int .i64 0) := hA 2 (by omega)
      have d3 : (w.alloc (.cells #[.int .i64 0, .int .i64 0, .int .i64 0, .int .i64 0, .int .i64 0, .int .i64 0] 36)).cell? ⟨0, 3, none⟩ = some (.int .i64 0) := hA 3 (by omega)
      have d4 : (w.alloc (.cells #[.int .i64 0, .int .i64 0, .int .i64 0, .int .i64 0, .int .i64 0, .int .i64 0] 36)).cell? ⟨0, 4, none⟩ = some (.int .i64 0) := hA 4 (by omega)
      have d5 : (w.alloc (.cells #[.int .i64 0, .int .i64 0, .int .i64 0, .int .i64 0, .int .i64 0, .int .i64 0] 36)).cell? ⟨0, 5, none⟩ = some (.int .i64 0) := hA 5 (by omega)
      clear hA
      go_enter Tryd.func14, Tryd.ntmps14
      go_wp2
      refine bodyPost_ret (of_res _ _ w.heap.size 0 rfl HV.out) rfl ?_
      exact ⟨rfl, (Below.refl _ w).alloc (Nat.le_refl _) _⟩
    · have HV := Lib.hid (show Bd (w.alloc (.cells #[.int .i64 5, .int .i64 1, .int .i64 9, .int .i64 21, .int .i64 1, .int .i64 5] 36)) w.heap.size 0 1 from new_bdv w 1)
      have d0 : (w.alloc (.cells #[.int .i64 0, .int .i64 0, .int .i64 0, .int .i64 0, .int .i64 0, .int .i64 0] 36)).cell? ⟨0, 6, none⟩ = some (.int .i64 5) := hA 6 (by omega)
      have d1 : (w.alloc (.cells #[.int .i64 0, .int .i64 0, .int .i64 0, .int .i64 0, .int .i64 0, .int .i64 0] 36)).cell? ⟨0, 7, none⟩ = some (.int .i64 1) := hA 7 (by omega)
      have d2 : (w.alloc (.cells #[.int .i64 0, .int .i64 0, .int .i64 0, .int .i64 0, .int .i64 0, .int .i64 0] 36)).cell? ⟨0, 8, none⟩ = some (.int .i64 9) := hA 8 (by omega)
      have d3 : (w.alloc (.cells #[.int .i64 0, .int .i64 0, .int .i64 0, .int .i64 0, .int .i64 0, .int .i64 0] 36)).cell? ⟨0, 9, none⟩ = some (.int .i64 21) := hA 9 (by omega)
      have d4 : (w.alloc (.cells #[.int .i64 0, .int .i64 0, .int .i64 0, .int .i64 0, .int .i64 0, .int .i64 0] 36)).cell? ⟨0, 10, none⟩ = some (.int .i64 1) := hA 10 (by omega)
      have d5 : (w.alloc (.cells #[.int .i64 0, .int .i64 0, .int .i64 0, .int .i64 0, .int .i64 0, .int .i64 0] 36)).cell? ⟨0, 11, none⟩ = some (.int .i64 5) := hA 11 (by omega)
      clear hA
      go_enter Tryd.func14, Tryd.ntmps14
      go_wp2
      refine bodyPost_ret (of_res _ _ w.heap.size 1 rfl HV.out) rfl ?_
      exact ⟨rfl, (Below.refl _ w).alloc (Nat.le_refl _) _⟩
    · have HV := Lib.hid (show Bd (w.alloc (.cells #[.int .i64 66, .int .i64 0, .int .i64 1, .int .i64 9, .int .i64 1, .int .i64 65] 36)) w.heap.size 0 2 from new_bdv w 2)
      have d0 : (w.alloc (.cells #[.int .i64 0, .int .i64 0, .int .i64 0, .int .i64 0, .int .i64 0, .int .i64 0] 36)).cell? ⟨0, 12, none⟩ = some (.int .i64 66) := hA 12 (by omega)
      have d1 : (w.alloc (.cells #[.int .i64 0, .int .i64 0, .int .i64 0, .int .i64 0, .int .i64 0, .int .i64 0] 36)).cell? ⟨0, 13, none⟩ = some (.int .i64 0) := hA 13 (by omega)
      have d2 : (w.alloc (.cells #[.int .i64 0, .int .i64 0, .int .i64 0, .int .i64 0, .int .i64 0, .int .i64 0] 36)).cell? ⟨0, 14, none⟩ = some (.int .i64 1) := hA 14 (by omega)
      have d3 : (w.alloc (.cells #[.int .i64 0, .int .i64 0, .int .i64 0, .int .i64 0, .int .i64 0, .int .i64 0] 36)).cell? ⟨0, 15, none⟩ = some (.int .i64 9) := hA 15 (by omega)
      have d4 : (w.alloc (.cells #[.int .i64 0, .int .i64 0, .int .i64 0, .int .i64 0, .int .i64 0, .int .i64 0] 36)).cell? ⟨0, 16, none⟩ = some (.int .i64 1) := hA 16 (by omega)
      have d5 : (w.alloc (.cells #[.int .i64 0, .int .i64 0, .int .i64 0, .int .i64 0, .int .i64 0, .int .i64 0] 36)).cell? ⟨0, 17, none⟩ = some (.int .i64 65) := hA 17 (by omega)
      clear hA
      go_enter Tryd.func14, Tryd.ntmps14
      go_wp2
      refine bodyPost_ret (of_res _ _ w.heap.size 2 rfl HV.out) rfl ?_
      exact ⟨rfl, (Below.refl _ w).alloc (Nat.le_refl _) _⟩
    · have HV := Lib.hid (show Bd (w.alloc (.cells #[.int .i64 4, .int .i64 68, .int .i64 11, .int .i64 12, .int .i64 12, .int .i64 66] 36)) w.heap.size 0 3 from new_bdv w 3)
      have d0 : (w.alloc (.cells #[.int .i64 0, .int .i64 0, .int .i64 0, .int .i64 0, .int .i64 0, .int .i64 0] 36)).cell? ⟨0, 18, none⟩ = some (.int .i64 4) := hA 18 (by omega)
      have d1 : (w.alloc (.cells #[.int .i64 0, .int .i64 0, .int .i64 0, .int .i64 0, .int .i64 0, .int .i64 0] 36)).cell? ⟨0, 19, none⟩ = some (.int .i64 68) := hA 19 (by omega)
      have d2 : (w.alloc (.cells #[.int .i64 0, .int .i64 0, .int .i64 0, .int .i64 0, .int .i64 0, .int .i64 0] 36)).cell? ⟨0, 20, none⟩ = some (.int .i64 11) := hA 20 (by omega)
      have d3 : (w.alloc (.cells #[.int .i64 0, .int .i64 0, .int .i64 0, .int .i64 0, .int .i64 0, .int .i64 0] 36)).cell? ⟨0, 21, none⟩ = some (.int .i64 12) := hA 21 (by omega)
      have d4 : (w.alloc (.cells #[.int .i64 0, .int .i64 0, .int .i64 0, .int .i64 0, .int .i64 0, .int .i64 0] 36)).cell? ⟨0, 22, none⟩ = some (.int .i64 12) := hA 22 (by omega)
      have d5 : (w.alloc (.cells #[.int .i64 0, .int .i64 0, .int .i64 0, .int .i64 0, .int .i64 0, .int .i64 0] 36)).cell? ⟨0, 23, none⟩ = some (.int .i64 66) := hA 23 (by omega)
      clear hA
      go_enter Tryd.func14, Tryd.ntmps14
      go_wp2
      refine bodyPost_ret (of_res _ _ w.heap.size 3 rfl HV.out) rfl ?_
      exact ⟨rfl, (Below.refl _ w).alloc (Nat.le_refl _) _⟩
    · have HV := Lib.hid (show Bd (w.alloc (.cells #[.int .i64 11, .int .i64 0, .int .i64 11, .int .i64 12, .int .i64 1, .int .i64 11] 36)) w.heap.size 0 4 from new_bdv w 4)
      have d0 : (w.alloc (.cells #[.int .i64 0, .int .i64 0, .int .i64 0, .int .i64 0, .int .i64 0, .int .i64 0] 36)).cell? ⟨0, 24, none⟩ = some (.int .i64 11) := hA 24 (by omega)
      have d1 : (w.alloc (.cells #[.int .i64 0, .int .i64 0, .int .i64 0, .int .i64 0, .int .i64 0, .int .i64 0] 36)).cell? ⟨0, 25, none⟩ = some (.int .i64 0) := hA 25 (by omega)
      have d2 : (w.alloc (.cells #[.int .i64 0, .int .i64 0, .int .i64 0, .int .i64 0, .int .i64 0, .int .i64 0] 36)).cell? ⟨0, 26, none⟩ = some (.int .i64 11) := hA 26 (by omega)
      have d3 : (w.alloc (.cells #[.int .i64 0, .int .i64 0, .int .i64 0, .int .i64 0, .int .i64 0, .int .i64 0] 36)).cell? ⟨0, 27, none⟩ = some (.int .i64 12) := hA 27 (by omega)
      have d4 : (w.alloc (.cells #[.int .i64 0, .int .i64 0, .int .i64 0, .int .i64 0, .int .i64 0, .int .i64 0] 36)).cell? ⟨0, 28, none⟩ = some (.int .i64 1) := hA 28 (by omega)
      have d5 : (w.alloc (.cells #[.int .i64 0, .int .i64 0, .int .i64 0, .int .i64 0, .int .i64 0, .int .i64 0] 36)).cell? ⟨0, 29, none⟩ = some (.int .i64 11) := hA 29 (by omega)
      clear hA
      go_enter Tryd.func14, Tryd.ntmps14
      go_wp2
      refine bodyPost_ret (of_res _ _ w.heap.size 4 rfl HV.out) rfl ?_
      exact ⟨rfl, (Below.refl _ w).alloc (Nat.le_refl _) _⟩
    · have HV := Lib.hid (show Bd (w.alloc (.cells #[.int .i64 2, .int .i64 0, .int .i64 66, .int .i64 66, .int .i64 1, .int .i64 2] 36)) w.heap.size 0 5 from new_bdv w 5)
      have d0 : (w.alloc (.cells #[.int .i64 0, .int .i64 0, .int .i64 0, .int .i64 0, .int .i64 0, .int .i64 0] 36)).cell? ⟨0, 30, none⟩ = some (.int .i64 2) := hA 30 (by omega)
      have d1 : (w.alloc (.cells #[.int .i64 0, .int .i64 0, .int .i64 0, .int .i64 0, .int .i64 0, .int .i64 0] 36)).cell? ⟨0, 31, none⟩ = some (.int .i64 0) := hA 31 (by omega)
      have d2 : (w.alloc (.cells #[.int .i64 0, .int .i64 0, .int .i64 0, .int .i64 0, .int .i64 0, .int .i64 0] 36)).cell? ⟨0, 32, none⟩ = some (.int .i64 66) := hA 32 (by omega)
      have d3 : (w.alloc (.cells #[.int .i64 0, .int .i64 0, .int .i64 0, .int .i64 0, .int .i64 0, .int .i64 0] 36)).cell? ⟨0, 33, none⟩ = some (.int .i64 66) := hA 33 (by omega)
      have d4 : (w.alloc (.cells #[.int .i64 0, .int .i64 0, .int .i64 0, .int .i64 0, .int .i64 0, .int .i64 0] 36)).cell? ⟨0, 34, none⟩ = some (.int .i64 1) := hA 34 (by omega)
      have d5 : (w.alloc (.cells #[.int .i64 0, .int .i64 0, .int .i64 0, .int .i64 0, .int .i64 0, .int .i64 0] 36)).cell? ⟨0, 35, none⟩ = some (.int .i64 2) := hA 35 (by omega)
      clear hA
      go_enter Tryd.func14, Tryd.ntmps14
      go_wp2
      refine bodyPost_ret (of_res _ _ w.heap.size 5 rfl HV.out) rfl ?_
      exact ⟨rfl, (Below.refl _ w).alloc (Nat.le_refl _) _⟩
end Go.Proofs.YtagdicbakcildaaDoor
