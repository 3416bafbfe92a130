
/- A reader of numbers: number; the text walked. -/
import Derived.Test.YtclaejaicjmohaaD13
import Derived.Test.YtclaejaicjmohaaButC
namespace Go.Proofs.Ytclaejaicjmohaa
set_option maxRecDepth 20000
open Go.RowKit
namespace E
/-- A reader at block R: what is left to read, and has there been no number? -/
def RS (w : World) (R : Nat) (A : Option Addr) (l c : Nat) (bad : Bool) : Prop := w.heap[R]? = some (.cells #[.slice A l c, .bool bad] 66 (0, 0))
theorem RS.but {w w' : World} {R l c : Nat} {A : Option Addr} {bad : Bool} {S : Nat → Prop} (h : RS w R A l c bad) (hb : ButS w w' S) (hS : ¬ S R) : RS w' R A l c bad := (hb.block R (row_lt h) hS).trans h
theorem Rb.but {w w' : World} {B : Nat} {A : Option Addr} {bs : List Nat} {S : Nat → Prop} (h : Rb w B A bs) (hB : B ≤ w.heap.size) (hb : ButS w w' S) (hS : ∀ j, S j → B ≤ j) : Rb w' B A bs := h.below (hb.below hB hS) (Nat.le_refl _)
theorem rs_set {w : World} {R l c l' c' : Nat} {A A' : Option Addr} {b b' : Bool} (h : RS w R A l c b) : RS ((w.setCell ⟨R, 1, none⟩ (.bool b')).setCell ⟨R, 0, none⟩ (.slice A' l' c')) R A' l' c' b' := by
  have h1 := row_set h 1 (.bool b')
  have h2 := row_set h1 0 (.slice A' l' c')
  simpa [RS] using h2
theorem but_set2 (w : World) (R : Nat) (u v : Value) : ButS w ((w.setCell ⟨R, 1, none⟩ u).setCell ⟨R, 0, none⟩ v) (· = R) :=
  (ButS.of_chg (chg_set w R 1 u (· = R) rfl)).trans (ButS.of_chg (chg_set _ R 0 v (· = R) rfl))
set_option maxRecDepth 100000 in
set_option maxHeartbeats 8000000 in
theorem rnum_any (w : World) (B R : Nat) (A : Option Addr) (l c : Nat) (bad : Bool) (bs : List Nat) (hR : RS w R A l c bad) (hBR : B ≤ R) (hr : Rb w B A bs) (hl : bs.length = l) (hlc : l ≤ c) (hl2 : l ≤ 1000000000) (hb : ∀ x ∈ bs, x < 256) :
    Calls Try.prog 31 #[.pointer (some ⟨R, 0, none⟩)] w fun e w' => ∃ n k : Nat, e = .returned (.int .u64 (n : Int)) ∧ Rd bs n k ∧ RS w' R (cutA A k c) (l - k) (c - k) (bad || decide (k = 0)) ∧ Rb w' B (cutA A k c) (bs.drop k) ∧ ButS w w' (· = R) := by
  have HN := Lib.hid (read_any w B A c bs l hl hl2 hb hr)
  have HRS := Lib.hid hR
  have HRB := Lib.hid hr
  have HL := Lib.hid hl
  have f0 := cell_of_row w R 0 _ _ (0, 0) hR
  have f1 := cell_of_row w R 1 _ _ (0, 0) hR
  simp at f0 f1
  have hlt := row_lt hR
  clear hb hl hr hR
  go_enter Try.func31, Try.ntmps31
  go_wp2_with (fail)
  refine HN.out.mono ?_
  rintro e w1 ⟨n, k, rfl, hrd, hb1⟩
  have hkl := hrd.le
  rw [HL.out] at hkl
  have HRD := Lib.hid hrd
  have h1 := (hb1.block R hlt).trans HRS.out
  have H1 := Lib.hid (show RS w1 R A l c bad from h1)
  have g0 := cell_of_row w1 R 0 _ _ (0, 0) h1
  have g1 := cell_of_row w1 R 1 _ _ (0, 0) h1
  simp at g0 g1
  have fz := frozen_of_row w1 R 0 _ _ h1
  have fz1 := frozen_of_row w1 R 1 _ _ h1
  have hcut := cutb_l A l c k (k : Int) rfl hkl
  have a1 := hcut.1
  have a2 := hcut.2
  have HBW := Lib.hid (ButS.of_below (S := (· = R)) hb1 (Nat.le_refl _))
  have HRB1 := Lib.hid (HRB.out.below hb1 (by omega))
  have hlt1 : R < w1.heap.size := Nat.lt_of_lt_of_le hlt hb1.size
  clear hcut h1 hb1 hrd f0 f1
  have HFIN : Hid (∀ b', RS ((w1.setCell ⟨R, 1, none⟩ (.bool b')).setCell ⟨R, 0, none⟩ (.slice (cutA A k c) (l - k) (c - k))) R (cutA A k c) (l - k) (c - k) b' ∧ Rb ((w1.setCell ⟨R, 1, none⟩ (.bool b')).setCell ⟨R, 0, none⟩ (.slice (cutA A k c) (l - k) (c - k))) B (cutA A k c) (bs.drop k) ∧ ButS w ((w1.setCell ⟨R, 1, none⟩ (.bool b')).setCell ⟨R, 0, none⟩ (.slice (cutA A k c) (l - k) (c - k))) (· = R)) := Lib.hid fun b' =>
    ⟨rs_set H1.out, (HRB1.out.but (by omega) (but_set2 w1 R _ _) (fun j h => by have h2 : j = R := h; omega)).drop HL.out hlc, HBW.out.trans (but_set2 w1 R _ _)⟩
  by_cases hk : k = 0
  · have e0 : ((k : Int) == 0) = true := beq_iff_eq.2 (by omega)
    have HBD : Hid ((bad || decide (k = 0)) = true) := Lib.hid (by rw [decide_eq_true hk]; simp)
    clear hk
    cases bad
    · go_wp2
      go_ret
      exact ⟨n, k, rfl, HRD.out, by rw [HBD.out]; exact (HFIN.out true).1, (HFIN.out true).2.1, (HFIN.out true).2.2⟩
    · go_wp2
      go_ret
      exact ⟨n, k, rfl, HRD.out, by rw [HBD.out]; exact (HFIN.out true).1, (HFIN.out true).2.1, (HFIN.out true).2.2⟩
  · have e0 : ((k : Int) == 0) = false := beq_eq_false_iff_ne.2 (by omega)
    have HBD : Hid ((bad || decide (k = 0)) = bad) := Lib.hid (by rw [decide_eq_false hk]; simp)
    clear hk
    cases bad
    · go_wp2
      go_ret
      exact ⟨n, k, rfl, HRD.out, by rw [HBD.out]; exact (HFIN.out false).1, (HFIN.out false).2.1, (HFIN.out false).2.2⟩
    · go_wp2
      go_ret
      exact ⟨n, k, rfl, HRD.out, by rw [HBD.out]; exact (HFIN.out true).1, (HFIN.out true).2.1, (HFIN.out true).2.2⟩
end E
end Go.Proofs.Ytclaejaicjmohaa
