
/- find: over a set with nothing, and one with one part; the texts walked. -/
import Derived.Test.YtlinoambdlkfjaaGreatRo4
namespace Go.Proofs.YtlinoambdlkfjaaGreat
open Go.RowKit
theorem below_ud {B n : Nat} {w w' : World} (h : Below B (w.drewN n) w') : Below B w w' := ⟨h.os, h.tape, h.output, h.size, h.block⟩
/-- A box of nothing stays, whatever is written elsewhere. -/
theorem Ba.far {w w' : World} {q : Nat} {S : Nat → Prop} (b : Ba w q []) (h : ButS w w' S) (hq : ¬ S q) : Ba w' q [] := by
  obtain ⟨h1, h2, h3, U, c, a, _, hc⟩ := b
  exact ⟨h1, h2, h3, U, c, ⟨(h.block q a.lt hq).trans a.row⟩, Rh.nil _ _ _, hc⟩
theorem two_apart (w3 : World) (o : Obj) (a b : Nat) (ha : w3.heap[a]? = some (plo 0 0)) (hb : w3.heap[b]? = some (plo 0 0)) (h : a < b) :
    (w3.alloc o).frozen? ⟨a, 0, none⟩ = false ∧ (w3.alloc o).frozen? ⟨a, 1, none⟩ = false ∧ (w3.alloc o).cell? ⟨a, 0, none⟩ = some (.int .i64 0) ∧ (w3.alloc o).cell? ⟨a, 1, none⟩ = some (.int .i64 0) ∧
    ((((w3.alloc o).setCell ⟨a, 0, none⟩ (.int .i64 0)).setCell ⟨a, 1, none⟩ (.int .i64 0)).cell? ⟨b, 0, none⟩ = some (.int .i64 0) ∧ (((w3.alloc o).setCell ⟨a, 0, none⟩ (.int .i64 0)).setCell ⟨a, 1, none⟩ (.int .i64 0)).cell? ⟨b, 1, none⟩ = some (.int .i64 0)) := by
  have y0 := al_keep ha o
  have hs : ButS (w3.alloc o) (((w3.alloc o).setCell ⟨a, 0, none⟩ (.int .i64 0)).setCell ⟨a, 1, none⟩ (.int .i64 0)) (· = a) := (but_set' _ _ 0 _ (· = a) rfl).trans (but_set' _ _ 1 _ (· = a) rfl)
  have z4 := (hs.block _ (row_lt (al_keep hb o)) (fun e => by have e2 : b = a := e; omega)).trans (al_keep hb o)
  exact ⟨frozen_of_row _ _ 0 _ _ y0, frozen_of_row _ _ 1 _ _ y0, cell_of_row _ _ 0 _ _ (0, 0) y0, cell_of_row _ _ 1 _ _ (0, 0) y0, cell_of_row _ _ 0 _ _ (0, 0) z4, cell_of_row _ _ 1 _ _ (0, 0) z4⟩
set_option maxHeartbeats 8000000 in
theorem find_none (w : World) (P G : Nat) (h : R0 w P G) : Calls Tryz.prog 20 #[.pointer (some ⟨P, 0, none⟩), .int .u64 0, rdv G] w fun e w' => ∃ X Q, e = .returned (.tuple #[plv 0 0, .pointer (some ⟨X, 0, none⟩)]) ∧ w'.heap[X]? = some (pto 0 (.pointer (some ⟨Q, 0, none⟩))) ∧ Ba w' Q [] ∧ Below w.heap.size w w' ∧ w.heap.size ≤ X ∧ w.heap.size ≤ Q := by
  have hB := (Below.refl _ w).alloc (Nat.le_refl _) (plo 0 0)
  have h1 := h.below hB
  have HS := Lib.hid (seek_none _ P G h1)
  have HB := Lib.hid hB
  have Z0 := Lib.hid (alloc_top w (plo 0 0))
  have H1 := Lib.hid h1
  clear h h1 hB
  go_enter Tryz.func20, Tryz.ntmps20
  go_wp2_with (first
    | (go_at_call 41; (with_reducible refine HS.out.mono ?_); rintro e w1 ⟨rfl, hb⟩
       have b2 := bel_al hb (Nat.le_refl _) (plo 0 0)
       have HAT := Lib.hid (fun n => at_none ((w1.alloc (plo 0 0)).drewN n) P G (H1.out.below (below_dr b2 n)))
       have z1 := alloc_top w1 (plo 0 0)
       have q0 : (w1.alloc (plo 0 0)).cell? ⟨w1.heap.size, 0, none⟩ = some (.int .i64 0) := cell_of_row _ _ 0 _ _ (0, 0) z1
       have q1 : (w1.alloc (plo 0 0)).cell? ⟨w1.heap.size, 1, none⟩ = some (.int .i64 0) := cell_of_row _ _ 1 _ _ (0, 0) z1
       have hS1 : Hid ((w1.alloc (plo 0 0)).drew.cell? ⟨w1.heap.size, 0, none⟩ = some (.int .i64 0) ∧ (w1.alloc (plo 0 0)).drew.cell? ⟨w1.heap.size, 1, none⟩ = some (.int .i64 0)) := Lib.hid ⟨q0, q1⟩
       have Z1 := Lib.hid z1
       have B2 := Lib.hid b2
       have HLT : Hid (w.heap.size < w1.heap.size) := Lib.hid (by have := hb.size; simp at this; omega)
       clear b2 hb z1 q0 q1))
  go_region_held3 (fun Y => Y.cell? ⟨w1.heap.size, 0, none⟩ = some (.int .i64 0) ∧ Y.cell? ⟨w1.heap.size, 1, none⟩ = some (.int .i64 0)) (first | (with_reducible exact hS1.out) | (with_reducible exact HS2.out) | go_keep) (first
    | (go_at_call 42; (refine (HAT.out _).mono ?_); rintro e w2 ⟨rfl, hb2⟩
       have z2 := (hb2.block _ (row_lt Z1.out)).trans Z1.out
       have HS2 : Hid (w2.cell? ⟨w1.heap.size, 0, none⟩ = some (.int .i64 0) ∧ w2.cell? ⟨w1.heap.size, 1, none⟩ = some (.int .i64 0)) := Lib.hid ⟨cell_of_row _ _ 0 _ _ (0, 0) z2, cell_of_row _ _ 1 _ _ (0, 0) z2⟩
       have Z2 := Lib.hid z2
       have HB2 := Lib.hid hb2
       clear z2 hb2))
  have z0 : w2.heap[w.heap.size]? = some (plo 0 0) := (HB2.out.block w.heap.size (by have := HLT.out; simp; omega)).trans ((B2.out.block w.heap.size (row_lt Z0.out)).trans Z0.out)
  have n0 : ∀ W, Below w2.heap.size w2 W → W.heap[w.heap.size]? = some (plo 0 0) := fun W hW => (hW.block _ (row_lt z0)).trans z0
  have HN := Lib.hid (fun n => box_new (w2.drewN n))
  have N0 := Lib.hid n0
  have hZ0 := Lib.hid z0
  clear z0 n0
  go_wp2
  go_region_held3 (fun Y => Y.cell? ⟨w1.heap.size, 0, none⟩ = some (.int .i64 0) ∧ Y.cell? ⟨w1.heap.size, 1, none⟩ = some (.int .i64 0)) (first | (with_reducible exact hS1.out) | (with_reducible exact HS2.out) | (with_reducible exact HS3.out) | (with_reducible exact HS4.out) | go_keep) (first
    | (go_at_call 43; (refine (HN.out _).mono ?_); rintro e w3 ⟨q, rfl, hq, hqz, hb3⟩
       replace hqz : w2.heap.size ≤ q := hqz
       have HQZ := Lib.hid hqz
       replace hb3 : Below w2.heap.size w2 w3 := below_ud hb3
       have z3 := (hb3.block _ (row_lt Z2.out)).trans Z2.out
       have z0 := N0.out w3 hb3
       obtain ⟨f0, f1, k0, k1, hs4⟩ := two_apart w3 (pto 0 (.pointer (some ⟨q, 0, none⟩))) w.heap.size w1.heap.size z0 z3 HLT.out
       have HS4 := Lib.hid hs4
       have hZ3 := Lib.hid z0
       have f2 := frozen_of_row _ _ 0 _ _ z0
       have f3 := frozen_of_row _ _ 1 _ _ z0
       have k2 : w3.cell? ⟨w.heap.size, 0, none⟩ = some (.int .i64 0) := cell_of_row _ _ 0 _ _ (0, 0) z0
       have k3 : w3.cell? ⟨w.heap.size, 1, none⟩ = some (.int .i64 0) := cell_of_row _ _ 1 _ _ (0, 0) z0
       have hn1 : w.heap.size ≠ w3.heap.size := Nat.ne_of_lt (row_lt z0)
       have hn2 : w3.heap.size ≠ w.heap.size := Ne.symm hn1
       have hn3 : w.heap.size ≠ w1.heap.size := Nat.ne_of_lt HLT.out
       have hne := HLT.out
       have HS3 : Hid (w3.cell? ⟨w1.heap.size, 0, none⟩ = some (.int .i64 0) ∧ w3.cell? ⟨w1.heap.size, 1, none⟩ = some (.int .i64 0)) := Lib.hid ⟨cell_of_row _ _ 0 _ _ (0, 0) z3, cell_of_row _ _ 1 _ _ (0, 0) z3⟩
       have Z03 := Lib.hid z0
       have HB3 := Lib.hid hb3
       have HQ := Lib.hid hq
       clear z3 z0 hb3 hq hs4 hqz))
  all_goals
    go_wp2
    have hs : ButS w3 ((w3.setCell ⟨w.heap.size, 0, none⟩ (.int .i64 0)).setCell ⟨w.heap.size, 1, none⟩ (.int .i64 0)) (· = w.heap.size) := (but_set' w3 _ 0 _ (· = w.heap.size) rfl).trans (but_set' _ _ 1 _ (· = w.heap.size) rfl)
    have b3 : Below w.heap.size w w3 := (((HB.out.trans (B2.out.mono HB.out.size)).trans ((below_ud HB2.out).mono (Nat.le_trans HB.out.size B2.out.size))).trans (HB3.out.mono (Nat.le_trans (Nat.le_trans HB.out.size B2.out.size) HB2.out.size)))
    have hb := (ButS.of_below (S := (· = w.heap.size)) b3 (Nat.le_refl _)).trans hs
    have hbel : Below w.heap.size w _ := hb.below (Nat.le_refl _) (fun j e => by have e2 : j = w.heap.size := e; omega)
    obtain ⟨v, hqr⟩ := HQ.out.row
    have hqn : q ≠ w.heap.size := row_ne hqr hZ3.out (by decide)
    have hz3 := row_lt hZ3.out
    have hs2 : ButS (w3.alloc (pto 0 (.pointer (some ⟨q, 0, none⟩)))) (((w3.alloc (pto 0 (.pointer (some ⟨q, 0, none⟩)))).setCell ⟨w.heap.size, 0, none⟩ (.int .i64 0)).setCell ⟨w.heap.size, 1, none⟩ (.int .i64 0)) (· = w.heap.size) := (but_set' _ _ 0 _ (· = w.heap.size) rfl).trans (but_set' _ _ 1 _ (· = w.heap.size) rfl)
    have hb2 := (ButS.of_below (S := (· = w.heap.size)) (bel_al b3 (Nat.le_refl _) (pto 0 (.pointer (some ⟨q, 0, none⟩)))) (Nat.le_refl _)).trans hs2
    have hbel2 : Below w.heap.size w _ := hb2.below (Nat.le_refl _) (fun j e => by have e2 : j = w.heap.size := e; omega)
    have tA : (((w3.setCell ⟨w.heap.size, 0, none⟩ (.int .i64 0)).setCell ⟨w.heap.size, 1, none⟩ (.int .i64 0)).alloc (pto 0 (.pointer (some ⟨q, 0, none⟩)))).heap[w3.heap.size]? = some (pto 0 (.pointer (some ⟨q, 0, none⟩))) := by
      have e : ((w3.setCell ⟨w.heap.size, 0, none⟩ (.int .i64 0)).setCell ⟨w.heap.size, 1, none⟩ (.int .i64 0)).heap.size = w3.heap.size := by simp [World.setCell]
      have t := alloc_top ((w3.setCell ⟨w.heap.size, 0, none⟩ (.int .i64 0)).setCell ⟨w.heap.size, 1, none⟩ (.int .i64 0)) (pto 0 (.pointer (some ⟨q, 0, none⟩)))
      rw [e] at t
      exact t
    first
      | exact bodyPost_ret (place_res rfl _ _ w.heap.size _ _ _ rfl (al_keep (row_two hZ3.out _ _) _) rfl) rfl ⟨w3.heap.size, q, rfl, tA, (HQ.out.far hs (fun e => hqn e)).below ((Below.refl _ _).alloc (Nat.le_refl _) _), bel_al hbel (Nat.le_refl _) _, b3.size, Nat.le_trans (Nat.le_trans (Nat.le_trans HB.out.size B2.out.size) HB2.out.size) HQZ.out⟩
      | exact bodyPost_ret (place_res rfl _ _ w.heap.size _ _ _ rfl (row_two (al_keep hZ3.out _) _ _) rfl) rfl ⟨w3.heap.size, q, rfl, (hs2.block _ (by simp) (fun e => by have e2 : w3.heap.size = w.heap.size := e; omega)).trans (alloc_top w3 _), (HQ.out.below ((Below.refl _ w3).alloc (Nat.le_refl _) _)).far hs2 (fun e => hqn e), hbel2, b3.size, Nat.le_trans (Nat.le_trans (Nat.le_trans HB.out.size B2.out.size) HB2.out.size) HQZ.out⟩
end Go.Proofs.YtlinoambdlkfjaaGreat
