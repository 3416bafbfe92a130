
/- find over a set with one part; the text walked. -/
import Derived.Test.YtlinoambdlkfjaaGreatRo5
namespace Go.Proofs.YtlinoambdlkfjaaGreat
open Go.RowKit
set_option maxHeartbeats 8000000 in
theorem find_one (w : World) (P G B L X Q c : Nat) (xs : List Int) (h : R1 w P G B L X Q c xs) : Calls Tryz.prog 20 #[.pointer (some ⟨P, 0, none⟩), .int .u64 0, rdv G] w fun e w' => e = .returned (.tuple #[plv 0 0, .pointer (some ⟨X, 0, none⟩)]) ∧ Only w G w' := by
  have hB := (Below.refl _ w).alloc (Nat.le_refl _) (plo 0 0)
  have h1 := h.below hB
  have HS := Lib.hid (seek_one _ P G B L X Q c xs h1)
  have HB := Lib.hid hB
  have Z0 := Lib.hid (alloc_top w (plo 0 0))
  have H1 := Lib.hid h1
  clear h h1 hB
  go_enter Tryz.func20, Tryz.ntmps20
  go_wp2_with (first
    | (go_at_call 41; (with_reducible refine HS.out.mono ?_); rintro e w1 ⟨rfl, ho⟩
       have r1 := H1.out.only ho
       have b2 := (Below.refl _ w1).alloc (Nat.le_refl _) (plo 0 0)
       have HAT := Lib.hid (fun n => at_one ((w1.alloc (plo 0 0)).drewN n) P G B L X Q c xs (r1.below (below_dr b2 n)))
       have z1 := alloc_top w1 (plo 0 0)
       have q0 : (w1.alloc (plo 0 0)).cell? ⟨w1.heap.size, 0, none⟩ = some (.int .i64 0) := cell_of_row _ _ 0 _ _ (0, 0) z1
       have q1 : (w1.alloc (plo 0 0)).cell? ⟨w1.heap.size, 1, none⟩ = some (.int .i64 0) := cell_of_row _ _ 1 _ _ (0, 0) z1
       have hS1 : Hid ((w1.alloc (plo 0 0)).drew.cell? ⟨w1.heap.size, 0, none⟩ = some (.int .i64 0) ∧ (w1.alloc (plo 0 0)).drew.cell? ⟨w1.heap.size, 1, none⟩ = some (.int .i64 0)) := Lib.hid ⟨q0, q1⟩
       have Z1 := Lib.hid z1
       have Z01 := Lib.hid (ho.row H1.out.m Z0.out (by decide))
       have B2 := Lib.hid b2
       have RR := Lib.hid (r1.below b2)
       have HO := Lib.hid ho
       clear b2 ho z1 q0 q1 r1))
  go_region_held3 (fun Y => Y.cell? ⟨w1.heap.size, 0, none⟩ = some (.int .i64 0) ∧ Y.cell? ⟨w1.heap.size, 1, none⟩ = some (.int .i64 0)) (first | (with_reducible exact hS1.out) | (with_reducible exact HS2.out) | go_keep) (first
    | (go_at_call 42; (refine (HAT.out _).mono ?_); rintro e w2 ⟨rfl, hb2⟩
       have z2 := (hb2.block _ (row_lt Z1.out)).trans Z1.out
       have HS2 : Hid (w2.cell? ⟨w1.heap.size, 0, none⟩ = some (.int .i64 0) ∧ w2.cell? ⟨w1.heap.size, 1, none⟩ = some (.int .i64 0)) := Lib.hid ⟨cell_of_row _ _ 0 _ _ (0, 0) z2, cell_of_row _ _ 1 _ _ (0, 0) z2⟩
       have r2 := RR.out.below (below_ud hb2)
       have x0 : w2.cell? ⟨X, 0, none⟩ = some (.int .u64 0) := cell_of_row w2 X 0 _ _ (0, 0) r2.x
       have HRD := Lib.hid (q_read w2 G r2.m)
       have M2 := Lib.hid r2.m
       have Z2 := Lib.hid z2
       have Z02 := Lib.hid ((hb2.block _ (row_lt (al_keep Z01.out (plo 0 0)))).trans (al_keep Z01.out (plo 0 0)))
       have HB2 := Lib.hid (below_ud hb2)
       clear z2 hb2 r2))
  go_wp2_with (first
    | (go_at_call 22; (with_reducible refine HRD.out.mono ?_); rintro e w3 ⟨rfl, hm, hbt⟩
       have ho : Only w2 G w3 := ⟨hm, hbt⟩
       have z3 := ho.row M2.out Z2.out (by decide)
       have z0 := ho.row M2.out Z02.out (by decide)
       have j0 : w3.cell? ⟨w1.heap.size, 0, none⟩ = some (.int .i64 0) := cell_of_row _ _ 0 _ _ (0, 0) z3
       have j1 : w3.cell? ⟨w1.heap.size, 1, none⟩ = some (.int .i64 0) := cell_of_row _ _ 1 _ _ (0, 0) z3
       have f0 := frozen_of_row _ _ 0 _ _ z0
       have f1 := frozen_of_row _ _ 1 _ _ z0
       have k0 : w3.cell? ⟨w.heap.size, 0, none⟩ = some (.int .i64 0) := cell_of_row _ _ 0 _ _ (0, 0) z0
       have k1 : w3.cell? ⟨w.heap.size, 1, none⟩ = some (.int .i64 0) := cell_of_row _ _ 1 _ _ (0, 0) z0
       have Z3 := Lib.hid z3
       have Z03 := Lib.hid z0
       have HO3 := Lib.hid ho
       clear hm hbt ho z3 z0))
  have o3 : Only w G w3 := ((HO.out.then (HO3.out.of_below (HB2.out.mono B2.out.size |> fun h => B2.out.trans h))).of_below HB.out)
  obtain ⟨r, c0, s, t, p, hr⟩ := o3.mq
  have hne : G ≠ w.heap.size := row_ne hr Z03.out (by decide)
  have hs : ButS w3 ((w3.setCell ⟨w.heap.size, 0, none⟩ (.int .i64 0)).setCell ⟨w.heap.size, 1, none⟩ (.int .i64 0)) (· = w.heap.size) := (but_set' w3 _ 0 _ (· = w.heap.size) rfl).trans (but_set' _ _ 1 _ (· = w.heap.size) rfl)
  exact bodyPost_ret (place_res rfl _ _ w.heap.size _ _ _ rfl (row_two Z03.out _ _) rfl) rfl ⟨rfl, o3.mq.but hs (fun e => hne e), o3.but.then hs (fun j e => .inr (by have e2 : j = w.heap.size := e; omega))⟩
end Go.Proofs.YtlinoambdlkfjaaGreat
