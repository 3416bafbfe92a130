
/- Are runs and the document's set the same; rows of runs that are written; the text walked. -/
import Derived.Test.YtejboemifncjoaaRun19
import Derived.Test.YtejboemifncjoaaRun17
namespace Go.Proofs.Ytejboemifncjoaa
open Go.RowKit
set_option maxHeartbeats 8000000 in
set_option maxRecDepth 100000 in
theorem r_same (w : World) (B n c g m : Nat) (A : Option Addr) (rs : List (Int × Int)) (bs : List Bool) (hn : n = rs.length) (hr : Rq w B A rs) (hB : B ≤ w.heap.size) (hg : Rn.Ok rs) (hb : Bs w g m bs) (hv : ∀ x, x ∈ M.L bs ↔ Rn.V rs x) :
    Calls Try.prog 9 #[.slice A n c, .slice (some ⟨g, 0, none⟩) m m] w fun e w' => e = .returned (.bool true) ∧ Below w.heap.size w w' := by
  have few : n ≤ 65536 := by rw [hn]; exact ok_len hg
  have HR := Lib.hid hr
  have HN := Lib.hid hn
  have HG := Lib.hid hg
  have HS := Lib.hid hb
  have EL : Hid (M.L bs = Rn.flat rs) := Lib.hid (M.sorted_ext (M.L_up bs) (Rn.flat_up hg) fun x => by rw [hv x, Rn.mem_flat])
  have EC : Hid (cst (M.L bs) (M.L bs) = n) := Lib.hid (by rw [hn]; exact Rn.starts_len hg (M.L_up bs) hv)
  have hfl := ok_flat hg
  obtain ⟨L0, hL0⟩ : ∃ L0, (Rn.flat rs).length = L0 := ⟨_, rfl⟩
  rw [hL0] at hfl
  have HL0 := Lib.hid hL0
  have CIS := Lib.hid (r_is w B n c A rs hn hr hB (fun r hr => by have g := hg.1 r hr; unfold Rn.Good at g; omega) (by omega) true (iff_of_true rfl (ok_ga hg)))
  have CLI : Hid (∀ W, Below w.heap.size w W → Calls Try.prog 24 #[.slice A n c] W fun e w' => ∃ A' c', e = .returned (.slice A' L0 c') ∧ Rh w' w'.heap.size A' (Rn.flat rs) ∧ Below w.heap.size w w') := Lib.hid (fun W hW => by
    refine (r_list W B n c A rs HN.out (HR.out.below hW hB) (Nat.le_trans hB hW.size) HG.out).mono ?_
    rintro e w' ⟨v, rfl, h1, h2⟩
    obtain ⟨A', c', rfl, h3, _⟩ := Rh.of_own h1
    rw [HL0.out]
    exact ⟨A', c', rfl, h3, hW.trans (h2.mono hW.size)⟩)
  have CLS : Hid (∀ W A', Below w.heap.size w W → Rh W W.heap.size A' (Rn.flat rs) → Calls Try.prog 30 #[.slice (some ⟨g, 0, none⟩) m m] W fun e w' => ∃ A2 c2, e = .returned (.slice A2 L0 c2) ∧ Rh w' w'.heap.size A2 (Rn.flat rs) ∧ Rh w' w'.heap.size A' (Rn.flat rs) ∧ Below w.heap.size w w') := Lib.hid (fun W A' hW hA => by
    refine (f_list W g m bs (HS.out.all_below hW)).mono ?_
    rintro e w' ⟨A2, c2, rfl, h1, _, h3⟩
    rw [EL.out] at h1 ⊢
    rw [HL0.out]
    exact ⟨A2, c2, rfl, h1, (hA.below h3 (Nat.le_refl _)).more h3.size, hW.trans (h3.mono hW.size)⟩)
  have CSA : Hid (∀ W A' A2 c' c2, Below w.heap.size w W → Rh W W.heap.size A' (Rn.flat rs) → Rh W W.heap.size A2 (Rn.flat rs) → Calls Try.prog 23 #[.slice A' L0 c', .slice A2 L0 c2] W fun e w' => e = .returned (.bool true) ∧ Below w.heap.size w w') := Lib.hid (fun W A' A2 c' c2 hW h1 h2 => by
    have h3 := f_same A' A2 c' c2 (Rn.flat rs) (Rn.flat rs) W _ _ h1 h2 (by rw [HL0.out]; omega) (by rw [HL0.out]; omega)
    rw [decide_eq_true rfl, HL0.out] at h3
    refine h3.mono ?_
    rintro e w' ⟨rfl, q, rfl⟩
    exact ⟨rfl, below_drewN hW q⟩)
  have CLN : Hid (∀ W, Below w.heap.size w W → Calls Try.prog 29 #[.slice A n c] W fun e w' => e = .returned (.int .i64 (L0 : Int)) ∧ Below w.heap.size w w') := Lib.hid (fun W hW => by
    refine (r_len W B n c A rs HN.out (HR.out.below hW hB) (Nat.le_trans hB hW.size) HG.out.1 (by rw [HL0.out]; omega) (by omega)).mono ?_
    rintro e w' ⟨rfl, h⟩
    exact ⟨by rw [HL0.out], hW.trans (h.mono hW.size)⟩)
  have CFL : Hid (∀ W, Below w.heap.size w W → Calls Try.prog 34 #[.slice (some ⟨g, 0, none⟩) m m] W fun e w' => e = .returned (.int .i64 (L0 : Int)) ∧ W = w') := Lib.hid (fun W hW => by
    have h := f_len W g m bs (HS.out.all_below hW)
    rw [EL.out, HL0.out] at h
    exact h)
  have CFR : Hid (∀ W, Below w.heap.size w W → Calls Try.prog 35 #[.slice (some ⟨g, 0, none⟩) m m] W fun e w' => e = .returned (.int .i64 (n : Int)) ∧ W = w') := Lib.hid (fun W hW => by
    have h := f_runs W g m bs (HS.out.all_below hW)
    rw [EC.out] at h
    exact h)
  clear hr hn hg hb hv hL0
  go_enter Try.func9, Try.ntmps9
  go_wp2_with (first
    | (go_at_call 27; (with_reducible refine CIS.out.mono ?_); rintro e w1 ⟨rfl, h1⟩; have LW := Lib.hid h1; clear h1 CIS)
    | (go_at_call 24; (with_reducible refine (CLI.out _ LW.out).mono ?_); rintro e w2 ⟨A2, c2, rfl, r2, h2⟩; clear LW; have LW := Lib.hid h2; have R2 := Lib.hid r2; clear h2 r2)
    | (go_at_call 30; (with_reducible refine (CLS.out _ _ LW.out R2.out).mono ?_); rintro e w3 ⟨A3, c3, rfl, r3, r2, h3⟩; clear LW R2; have LW := Lib.hid h3; have R2 := Lib.hid r2; have R3 := Lib.hid r3; clear h3 r2 r3)
    | (go_at_call 23; (with_reducible refine (CSA.out _ _ _ _ _ LW.out R2.out R3.out).mono ?_); rintro e w4 ⟨rfl, h4⟩; clear LW; have LW := Lib.hid h4; clear h4)
    | (go_at_call 29; (with_reducible refine (CLN.out _ LW.out).mono ?_); rintro e w5 ⟨rfl, h5⟩; clear LW; have LW := Lib.hid h5; clear h5)
    | (go_at_call 34; (with_reducible refine (CFL.out _ LW.out).mono ?_); rintro e w6 ⟨rfl, rfl⟩)
    | (go_at_call 35; (with_reducible refine (CFR.out _ LW.out).mono ?_); rintro e w7 ⟨rfl, rfl⟩))
  go_ret
  exact ⟨by simp, LW.out⟩
/-- The first n runs' cells (from B on, below E) may be written. -/
def WrR (W : World) (B E : Nat) (A : Option Addr) (n : Nat) : Prop :=
  n ≠ 0 → ∃ g cur, A = some ⟨g, 0, none⟩ ∧ B ≤ g ∧ g < E ∧ W.heap[g]? = some (.cells cur 46 (0, 0)) ∧ n * 2 ≤ cur.size
theorem WrR.of_own {W : World} {B n : Nat} {v : Value} {xs : List Value} (h : W.ownsRow B 46 2 v n xs) : ∃ A c, v = .slice A n c ∧ WrR W B W.heap.size A n := by
  rcases h.2 with ⟨h1, h0⟩ | ⟨g, cap, cur, h1, h2, h3, h4, h5, h6, h7⟩
  · exact ⟨none, 0, by rw [h1, h0], fun hn => absurd h0 hn⟩
  · exact ⟨some ⟨g, 0, none⟩, cap, h1, fun _ => ⟨g, cur, rfl, h2, (Array.getElem?_eq_some_iff.1 h3).1, h3, by omega⟩⟩
theorem WrR.below {W W' : World} {B E D n : Nat} {A : Option Addr} (h : WrR W B E A n) (hb : Below D W W') (hE : E ≤ D) : WrR W' B E A n := fun hn => by
  obtain ⟨g, cur, h1, h2, h3, h4, h5⟩ := h hn
  exact ⟨g, cur, h1, h2, h3, (hb.block g (by omega)).trans h4, h5⟩
theorem WrR.other {W : World} {B E n : Nat} {A : Option Addr} (h : WrR W B E A n) {g k : Nat} {u : Value} (hg : g < B ∨ E ≤ g) : WrR (W.setCell ⟨g, k, none⟩ u) B E A n := fun hn => by
  obtain ⟨g', cur, h1, h2, h3, h4, h5⟩ := h hn
  refine ⟨g', cur, h1, h2, h3, ?_, h5⟩
  unfold World.setCell
  rw [Array.getElem?_modify, if_neg (by show ¬ g = g'; omega)]
  exact h4
theorem WrR.at {W : World} {B E n : Nat} {A : Option Addr} (h : WrR W B E A n) {k : Nat} (hk : k < n) : ∃ g u, A = some ⟨g, 0, none⟩ ∧ B ≤ g ∧ g < E ∧ W.cell? ⟨g, k * 2 + 1, none⟩ = some u ∧ W.frozen? ⟨g, k * 2 + 1, none⟩ = false ∧
    ∀ y, WrR (W.setCell ⟨g, k * 2 + 1, none⟩ y) B E A n := by
  obtain ⟨g, cur, h1, h2, h3, h4, h5⟩ := h (by omega)
  refine ⟨g, cur[k * 2 + 1]'(by omega), h1, h2, h3, ?_, ?_, fun y _ => ?_⟩
  · rw [cell_of_row W g _ _ _ (0, 0) h4, Array.getElem?_eq_getElem (by omega)]
  · simp [World.frozen?, h4]
  · refine ⟨g, cur.setIfInBounds (k * 2 + 1) y, h1, h2, h3, ?_, by rw [Array.size_setIfInBounds]; exact h5⟩
    simp [World.setCell, Array.getElem?_modify, h4]
theorem rq_other {W : World} {B : Nat} {A : Option Addr} {rs : List (Int × Int)} (h : Rq W B A rs) {g k : Nat} {u : Value} (hg : B ≤ g) : Rq (W.setCell ⟨g, k, none⟩ u) B A rs := fun hne => by
  obtain ⟨b, off, h1, h2, h3⟩ := h hne
  refine ⟨b, off, h1, h2, fun j hj => ?_⟩
  rw [World.cell?_setCell_other (h := by simp <;> omega), World.cell?_setCell_other (h := by simp <;> omega)]
  exact h3 j hj
theorem rh_other {W : World} {B : Nat} {A : Option Addr} {xs : List Int} (h : Rh W B A xs) {g k : Nat} {u : Value} (hg : B ≤ g) : Rh (W.setCell ⟨g, k, none⟩ u) B A xs := fun hne => by
  obtain ⟨b, off, h1, h2, h3⟩ := h hne
  refine ⟨b, off, h1, h2, fun j hj => ?_⟩
  rw [World.cell?_setCell_other (h := by simp <;> omega)]
  exact h3 j hj
end Go.Proofs.Ytejboemifncjoaa
