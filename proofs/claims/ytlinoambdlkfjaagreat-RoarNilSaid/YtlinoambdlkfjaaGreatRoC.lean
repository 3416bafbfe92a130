
/- Insert into a set with one part; the text walked. -/
import Derived.Test.YtlinoambdlkfjaaGreatRoB
namespace Go.Proofs.YtlinoambdlkfjaaGreat
open Go.RowKit
/-- What the region leaves: two variables, of the place and of the part. -/
def Fnd1 (w0 : World) (P G B L X Q c : Nat) (xs : List Int) (z : Nat) (k : Int) (v5 v6 : Value) (W : World) : Prop := ∃ pb xb, v5 = .pointer (some ⟨pb, 0, none⟩) ∧ v6 = .pointer (some ⟨xb, 0, none⟩) ∧ W.heap[pb]? = some (plo 0 0) ∧ W.heap[xb]? = some (.cells #[.pointer (some ⟨X, 0, none⟩)] 46 (0, 0)) ∧ R1 W P G B L X Q c xs ∧ W.heap[z]? = some (.cells #[.int .u64 k] 22 (0, 0)) ∧ ButS w0 W (· = G)
theorem fnd1_of {w0 w1 W : World} {P G B L X Q c z pb xb : Nat} {xs : List Int} {k : Int} (r1 : R1 w1 P G B L X Q c xs) (z1 : w1.heap[z]? = some (.cells #[.int .u64 k] 22 (0, 0))) (o : Only w1 G W) (h1 : W.heap[pb]? = some (plo 0 0)) (h2 : W.heap[xb]? = some (.cells #[.pointer (some ⟨X, 0, none⟩)] 46 (0, 0))) (hw : ButS w0 w1 (· = G)) : Fnd1 w0 P G B L X Q c xs z k (.pointer (some ⟨pb, 0, none⟩)) (.pointer (some ⟨xb, 0, none⟩)) W :=
  ⟨pb, xb, rfl, rfl, h1, h2, r1.only o, o.row r1.m z1 (by decide), hw.trans o.but⟩
set_option maxHeartbeats 16000000 in
theorem insert_one (w : World) (P G B L X Q c k : Nat) (xs zs : List Int) (b : Bool) (h : R1 w P G B L X Q c xs) (hk : k < 65536) (hv : M.rHas xs (k : Int) = b) (h0 : 0 < xs.length) (few : xs.length + 1 ≤ 100) (hzb : b = false → zs.Pairwise (· < ·) ∧ (∀ y, y ∈ zs ↔ y ∈ xs ∨ y = (k : Int)) ∧ zs.length = xs.length + 1) (hzt : b = true → zs = xs) :
    Calls Tryz.prog 11 #[.pointer (some ⟨P, 0, none⟩), .int .u64 (k : Int)] w fun e w' => e = .returned (.int .i64 (if b then 4 else 0)) ∧ R1 w' P G B L X Q c zs ∧ ButS w w' (fun j => j = P ∨ j = G ∨ j = X ∨ j = B ∨ j = Q) := by
  have hb0 := (Below.refl _ w).alloc (Nat.le_refl _) (.cells #[.int .u64 (k : Int)] 22)
  have hr0 := h.below hb0
  have c0 : (w.alloc (.cells #[.int .u64 (k : Int)] 22)).cell? ⟨P, 0, none⟩ = some (.pointer (some ⟨G, 0, none⟩)) := cell_of_row _ P 0 _ _ (0, 0) hr0.p
  have HST := Lib.hid (q_start _ G hr0.m)
  have Z0 := Lib.hid (alloc_top w (.cells #[.int .u64 (k : Int)] 22))
  have H0 := Lib.hid hr0
  have HU := fun W => Lib.hid (up_any W k hk)
  clear h hr0 hb0
  go_enter Tryz.func11, Tryz.ntmps11
  go_wp2_with (first
    | (go_at_call 19; (with_reducible refine HST.out.mono ?_); rintro e w1 ⟨rfl, hm, hbt⟩
       have ho : Only (w.alloc (.cells #[.int .u64 (k : Int)] 22)) G w1 := ⟨hm, hbt⟩
       have r1 := H0.out.only ho
       have z1 := ho.row H0.out.m Z0.out (by decide)
       have HFI := Lib.hid (fun m => find_one (w1.drewN m) P G B L X Q c xs (r1.below (below_dr (Below.refl _ _) m)))
       have HFA := Lib.hid (fun m a => find_one ((w1.alloc a).drewN m) P G B L X Q c xs (r1.below (below_dr (bel_al (Below.refl _ w1) (Nat.le_refl _) a) m)))
       have HFB := Lib.hid (fun m a b => find_one (((w1.alloc a).alloc b).drewN m) P G B L X Q c xs (r1.below (below_dr (bel_al (bel_al (Below.refl _ w1) (Nat.le_refl _) a) (Nat.le_refl _) b) m)))
       have hS1 : Hid (w1.drew.cell? ⟨P, 0, none⟩ = some (.pointer (some ⟨G, 0, none⟩)) ∧ w1.drew.cell? ⟨w.heap.size, 0, none⟩ = some (.int .u64 (k : Int))) := Lib.hid ⟨cell_of_row w1 _ 0 _ _ (0, 0) r1.p, cell_of_row w1 _ 0 _ _ (0, 0) z1⟩
       have hA1 : Hid (∀ a, (w1.alloc a).drew.cell? ⟨P, 0, none⟩ = some (.pointer (some ⟨G, 0, none⟩)) ∧ (w1.alloc a).drew.cell? ⟨w.heap.size, 0, none⟩ = some (.int .u64 (k : Int))) := Lib.hid (fun a => ⟨cell_of_row (w1.alloc a) _ 0 _ _ (0, 0) (al_keep r1.p a), cell_of_row (w1.alloc a) _ 0 _ _ (0, 0) (al_keep z1 a)⟩)
       have hA2 : Hid (∀ a b, ((w1.alloc a).alloc b).drew.cell? ⟨P, 0, none⟩ = some (.pointer (some ⟨G, 0, none⟩)) ∧ ((w1.alloc a).alloc b).drew.cell? ⟨w.heap.size, 0, none⟩ = some (.int .u64 (k : Int))) := Lib.hid (fun a b => ⟨cell_of_row ((w1.alloc a).alloc b) _ 0 _ _ (0, 0) (al_keep (al_keep r1.p a) b), cell_of_row ((w1.alloc a).alloc b) _ 0 _ _ (0, 0) (al_keep (al_keep z1 a) b)⟩)
       have OW : Hid (ButS w w1 (· = G)) := Lib.hid ((but_alloc' w _ _).trans hbt)
       have R1x := Lib.hid r1
       have Z1 := Lib.hid z1
       clear hm hbt ho r1 z1))
  go_cut [5, 6] from 14 (fun s5 s6 wc => Hid (Fnd1 w P G B L X Q c xs w.heap.size (k : Int) s5 s6 wc))
  case first =>
    clear H0 HST Z0 c0
    go_region_held3 (fun Y => Y.cell? ⟨P, 0, none⟩ = some (.pointer (some ⟨G, 0, none⟩)) ∧ Y.cell? ⟨w.heap.size, 0, none⟩ = some (.int .u64 (k : Int))) (first | (with_reducible exact hS1.out) | (with_reducible exact hA1.out _) | (with_reducible exact hA2.out _ _) | (with_reducible exact hS2.out) | (with_reducible exact hS3.out _) | (with_reducible exact hS4.out _ _) | (with_reducible exact hS5.out) | (with_reducible exact hS6.out)) (first
      | (go_at_call 21; (with_reducible refine (HU _).out.mono ?_); rintro e w2 ⟨rfl, rfl⟩)
      | (go_at_call 20; (refine (HFI.out _).mono ?_); rintro e w2 ⟨rfl, ho⟩
         have o2 : Only w1 G w2 := ho.drawn
         have hF1 := Lib.hid (fnd1_of R1x.out Z1.out (wl1 o2 (plo 0 0) (ptx X)) (al_keep (alloc_top w2 _) _) (al_top2 w2 _ _) OW.out)
         have hF2 := Lib.hid (fnd1_of R1x.out Z1.out (wl1 o2 (ptx X) (plo 0 0)) (al_top2 w2 _ _) (al_keep (alloc_top w2 _) _) OW.out)
         have hS2 : Hid (w2.cell? ⟨P, 0, none⟩ = some (.pointer (some ⟨G, 0, none⟩)) ∧ w2.cell? ⟨w.heap.size, 0, none⟩ = some (.int .u64 (k : Int))) := Lib.hid (s_of R1x.out.p rfl Z1.out R1x.out.m (o2))
         have hS3 : Hid (∀ a, (w2.alloc a).cell? ⟨P, 0, none⟩ = some (.pointer (some ⟨G, 0, none⟩)) ∧ (w2.alloc a).cell? ⟨w.heap.size, 0, none⟩ = some (.int .u64 (k : Int))) := Lib.hid (fun a => s_of R1x.out.p rfl Z1.out R1x.out.m (o2.al a))
         have hS4 : Hid (∀ a b, ((w2.alloc a).alloc b).cell? ⟨P, 0, none⟩ = some (.pointer (some ⟨G, 0, none⟩)) ∧ ((w2.alloc a).alloc b).cell? ⟨w.heap.size, 0, none⟩ = some (.int .u64 (k : Int))) := Lib.hid (fun a b => s_of R1x.out.p rfl Z1.out R1x.out.m (wl1 o2 a b))
         clear ho o2)
      | (go_at_call 20; (refine (HFA.out _ (plo 0 0)).mono ?_); rintro e w2 ⟨rfl, ho⟩
         have o2 : Only w1 G w2 := ho.drawn.of_below (bel_al (Below.refl _ w1) (Nat.le_refl _) _)
         have y2 := ho.drawn.row (w := w1.alloc (plo 0 0)) (R1x.out.m.but (but_alloc' w1 _ (fun _ => False)) (fun h => h)) (alloc_top w1 (plo 0 0)) (by decide)
         obtain ⟨zf0, zf1, zc0, zc1⟩ := plo_cells (al_keep y2 nilpt)
         have nY1 : w1.heap.size ≠ w2.heap.size := Nat.ne_of_lt (row_lt y2)
         have nY2 := Ne.symm nY1
         obtain ⟨oa, ob, oc, od, oe⟩ := wl2 o2 y2 (Nat.le_refl _) (.pointer (some ⟨X, 0, none⟩))
         have hF1 := Lib.hid (fnd1_of R1x.out Z1.out (ob) (oc) (od) OW.out)
         have hS2 : Hid (w2.cell? ⟨P, 0, none⟩ = some (.pointer (some ⟨G, 0, none⟩)) ∧ w2.cell? ⟨w.heap.size, 0, none⟩ = some (.int .u64 (k : Int))) := Lib.hid (s_of R1x.out.p rfl Z1.out R1x.out.m (o2))
         have hS3 : Hid (∀ a, (w2.alloc a).cell? ⟨P, 0, none⟩ = some (.pointer (some ⟨G, 0, none⟩)) ∧ (w2.alloc a).cell? ⟨w.heap.size, 0, none⟩ = some (.int .u64 (k : Int))) := Lib.hid (fun a => s_of R1x.out.p rfl Z1.out R1x.out.m (o2.al a))
         have hS5 : Hid ((((w2.alloc nilpt).setCell ⟨w1.heap.size, 0, none⟩ (.int .i64 0)).setCell ⟨w1.heap.size, 1, none⟩ (.int .i64 0)).cell? ⟨P, 0, none⟩ = some (.pointer (some ⟨G, 0, none⟩)) ∧ (((w2.alloc nilpt).setCell ⟨w1.heap.size, 0, none⟩ (.int .i64 0)).setCell ⟨w1.heap.size, 1, none⟩ (.int .i64 0)).cell? ⟨w.heap.size, 0, none⟩ = some (.int .u64 (k : Int))) := Lib.hid (s_of R1x.out.p rfl Z1.out R1x.out.m (oa))
         have hS6 : Hid (((((w2.alloc nilpt).setCell ⟨w1.heap.size, 0, none⟩ (.int .i64 0)).setCell ⟨w1.heap.size, 1, none⟩ (.int .i64 0)).setCell ⟨w2.heap.size, 0, none⟩ (.pointer (some ⟨X, 0, none⟩))).cell? ⟨P, 0, none⟩ = some (.pointer (some ⟨G, 0, none⟩)) ∧ ((((w2.alloc nilpt).setCell ⟨w1.heap.size, 0, none⟩ (.int .i64 0)).setCell ⟨w1.heap.size, 1, none⟩ (.int .i64 0)).setCell ⟨w2.heap.size, 0, none⟩ (.pointer (some ⟨X, 0, none⟩))).cell? ⟨w.heap.size, 0, none⟩ = some (.int .u64 (k : Int))) := Lib.hid (s_of R1x.out.p rfl Z1.out R1x.out.m (ob))
         clear ho o2 y2 oa ob oc od oe)
      | (go_at_call 20; (refine (HFA.out _ nilpt).mono ?_); rintro e w2 ⟨rfl, ho⟩
         have o2 : Only w1 G w2 := ho.drawn.of_below (bel_al (Below.refl _ w1) (Nat.le_refl _) _)
         have x2 := ho.drawn.row (w := w1.alloc nilpt) (R1x.out.m.but (but_alloc' w1 _ (fun _ => False)) (fun h => h)) (alloc_top w1 nilpt) (by decide)
         obtain ⟨zf0, zc0⟩ := npt_cells (al_keep x2 (plo 0 0))
         have nY1 : w1.heap.size ≠ w2.heap.size := Nat.ne_of_lt (row_lt x2)
         have nY2 := Ne.symm nY1
         obtain ⟨oa, oc, od, oe⟩ := wl3 o2 x2 (Nat.le_refl _) (.pointer (some ⟨X, 0, none⟩))
         have hF1 := Lib.hid (fnd1_of R1x.out Z1.out (oa) (oc) (od) OW.out)
         have hS2 : Hid (w2.cell? ⟨P, 0, none⟩ = some (.pointer (some ⟨G, 0, none⟩)) ∧ w2.cell? ⟨w.heap.size, 0, none⟩ = some (.int .u64 (k : Int))) := Lib.hid (s_of R1x.out.p rfl Z1.out R1x.out.m (o2))
         have hS3 : Hid (∀ a, (w2.alloc a).cell? ⟨P, 0, none⟩ = some (.pointer (some ⟨G, 0, none⟩)) ∧ (w2.alloc a).cell? ⟨w.heap.size, 0, none⟩ = some (.int .u64 (k : Int))) := Lib.hid (fun a => s_of R1x.out.p rfl Z1.out R1x.out.m (o2.al a))
         have hS5 : Hid (((w2.alloc (plo 0 0)).setCell ⟨w1.heap.size, 0, none⟩ (.pointer (some ⟨X, 0, none⟩))).cell? ⟨P, 0, none⟩ = some (.pointer (some ⟨G, 0, none⟩)) ∧ ((w2.alloc (plo 0 0)).setCell ⟨w1.heap.size, 0, none⟩ (.pointer (some ⟨X, 0, none⟩))).cell? ⟨w.heap.size, 0, none⟩ = some (.int .u64 (k : Int))) := Lib.hid (s_of R1x.out.p rfl Z1.out R1x.out.m (oa))
         clear ho o2 x2 oa oc od oe)
      | (go_at_call 20; (refine (HFB.out _ (plo 0 0) nilpt).mono ?_); rintro e w2 ⟨rfl, ho⟩
         have o2 : Only w1 G w2 := ho.drawn.of_below (bel_al (bel_al (Below.refl _ w1) (Nat.le_refl _) _) (Nat.le_refl _) _)
         have y2 := ho.drawn.row (w := (w1.alloc (plo 0 0)).alloc nilpt) (R1x.out.m.but ((but_alloc' w1 _ (fun _ => False)).trans (but_alloc' _ _ _)) (fun h => h)) (al_keep (alloc_top w1 (plo 0 0)) nilpt) (by decide)
         have x2 := ho.drawn.row (w := (w1.alloc (plo 0 0)).alloc nilpt) (R1x.out.m.but ((but_alloc' w1 _ (fun _ => False)).trans (but_alloc' _ _ _)) (fun h => h)) (al_top2 w1 (plo 0 0) nilpt) (by decide)
         obtain ⟨zf0, zf1, zc0, zc1⟩ := plo_cells y2
         obtain ⟨xf0, xc0⟩ := npt_cells x2
         have nYX := row_ne y2 x2 (by decide)
         obtain ⟨oa, ob, oc, od, oe⟩ := wl4 o2 y2 x2 (by omega) (by omega) (.pointer (some ⟨X, 0, none⟩))
         have hF1 := Lib.hid (fnd1_of R1x.out Z1.out (ob) (oc) (od) OW.out)
         have hS2 : Hid (w2.cell? ⟨P, 0, none⟩ = some (.pointer (some ⟨G, 0, none⟩)) ∧ w2.cell? ⟨w.heap.size, 0, none⟩ = some (.int .u64 (k : Int))) := Lib.hid (s_of R1x.out.p rfl Z1.out R1x.out.m (o2))
         have hS5 : Hid (((w2.setCell ⟨w1.heap.size, 0, none⟩ (.int .i64 0)).setCell ⟨w1.heap.size, 1, none⟩ (.int .i64 0)).cell? ⟨P, 0, none⟩ = some (.pointer (some ⟨G, 0, none⟩)) ∧ ((w2.setCell ⟨w1.heap.size, 0, none⟩ (.int .i64 0)).setCell ⟨w1.heap.size, 1, none⟩ (.int .i64 0)).cell? ⟨w.heap.size, 0, none⟩ = some (.int .u64 (k : Int))) := Lib.hid (s_of R1x.out.p rfl Z1.out R1x.out.m (oa))
         have hS6 : Hid ((((w2.setCell ⟨w1.heap.size, 0, none⟩ (.int .i64 0)).setCell ⟨w1.heap.size, 1, none⟩ (.int .i64 0)).setCell ⟨w1.heap.size + 1, 0, none⟩ (.pointer (some ⟨X, 0, none⟩))).cell? ⟨P, 0, none⟩ = some (.pointer (some ⟨G, 0, none⟩)) ∧ (((w2.setCell ⟨w1.heap.size, 0, none⟩ (.int .i64 0)).setCell ⟨w1.heap.size, 1, none⟩ (.int .i64 0)).setCell ⟨w1.heap.size + 1, 0, none⟩ (.pointer (some ⟨X, 0, none⟩))).cell? ⟨w.heap.size, 0, none⟩ = some (.int .u64 (k : Int))) := Lib.hid (s_of R1x.out.p rfl Z1.out R1x.out.m (ob))
         clear ho o2 y2 x2 oa ob oc od oe)
      | (go_at_call 20; (refine (HFB.out _ nilpt (plo 0 0)).mono ?_); rintro e w2 ⟨rfl, ho⟩
         have o2 : Only w1 G w2 := ho.drawn.of_below (bel_al (bel_al (Below.refl _ w1) (Nat.le_refl _) _) (Nat.le_refl _) _)
         have y2 := ho.drawn.row (w := (w1.alloc nilpt).alloc (plo 0 0)) (R1x.out.m.but ((but_alloc' w1 _ (fun _ => False)).trans (but_alloc' _ _ _)) (fun h => h)) (al_top2 w1 nilpt (plo 0 0)) (by decide)
         have x2 := ho.drawn.row (w := (w1.alloc nilpt).alloc (plo 0 0)) (R1x.out.m.but ((but_alloc' w1 _ (fun _ => False)).trans (but_alloc' _ _ _)) (fun h => h)) (al_keep (alloc_top w1 nilpt) (plo 0 0)) (by decide)
         obtain ⟨zf0, zf1, zc0, zc1⟩ := plo_cells y2
         obtain ⟨xf0, xc0⟩ := npt_cells x2
         have nYX := row_ne y2 x2 (by decide)
         obtain ⟨oa, ob, oc, od, oe⟩ := wl4 o2 y2 x2 (by omega) (by omega) (.pointer (some ⟨X, 0, none⟩))
         have hF1 := Lib.hid (fnd1_of R1x.out Z1.out (ob) (oc) (od) OW.out)
         have hS2 : Hid (w2.cell? ⟨P, 0, none⟩ = some (.pointer (some ⟨G, 0, none⟩)) ∧ w2.cell? ⟨w.heap.size, 0, none⟩ = some (.int .u64 (k : Int))) := Lib.hid (s_of R1x.out.p rfl Z1.out R1x.out.m (o2))
         have hS5 : Hid (((w2.setCell ⟨w1.heap.size + 1, 0, none⟩ (.int .i64 0)).setCell ⟨w1.heap.size + 1, 1, none⟩ (.int .i64 0)).cell? ⟨P, 0, none⟩ = some (.pointer (some ⟨G, 0, none⟩)) ∧ ((w2.setCell ⟨w1.heap.size + 1, 0, none⟩ (.int .i64 0)).setCell ⟨w1.heap.size + 1, 1, none⟩ (.int .i64 0)).cell? ⟨w.heap.size, 0, none⟩ = some (.int .u64 (k : Int))) := Lib.hid (s_of R1x.out.p rfl Z1.out R1x.out.m (oa))
         have hS6 : Hid ((((w2.setCell ⟨w1.heap.size + 1, 0, none⟩ (.int .i64 0)).setCell ⟨w1.heap.size + 1, 1, none⟩ (.int .i64 0)).setCell ⟨w1.heap.size, 0, none⟩ (.pointer (some ⟨X, 0, none⟩))).cell? ⟨P, 0, none⟩ = some (.pointer (some ⟨G, 0, none⟩)) ∧ (((w2.setCell ⟨w1.heap.size + 1, 0, none⟩ (.int .i64 0)).setCell ⟨w1.heap.size + 1, 1, none⟩ (.int .i64 0)).setCell ⟨w1.heap.size, 0, none⟩ (.pointer (some ⟨X, 0, none⟩))).cell? ⟨w.heap.size, 0, none⟩ = some (.int .u64 (k : Int))) := Lib.hid (s_of R1x.out.p rfl Z1.out R1x.out.m (ob))
         clear ho o2 y2 x2 oa ob oc od oe))
    all_goals
      go_wp2
      go_meet
      first | (with_reducible exact hF1) | (with_reducible exact hF2)
  case rest =>
    obtain ⟨pb, xb, rfl, rfl, hpb, hxb, hr, hz, hwc⟩ := hcut.out
    have HHA : Hid (∀ m, Calls Tryz.prog 32 #[.pointer (some ⟨Q, 0, none⟩), .int .u16 (k : Int)] (wc.drewN m) (AskB (wc.drewN m) b)) := Lib.hid (fun m => by rw [← hv]; exact ba_Has (wc.drewN m) Q xs (hr.q.ba.below (below_dr (Below.refl _ _) m)) k)
    have HL := fun W => Lib.hid (lo_any W k hk)
    have hT1 : Hid (wc.drew.cell? ⟨xb, 0, none⟩ = some (.pointer (some ⟨X, 0, none⟩)) ∧ wc.drew.cell? ⟨X, 2, none⟩ = some (.pointer (some ⟨Q, 0, none⟩)) ∧ wc.drew.cell? ⟨w.heap.size, 0, none⟩ = some (.int .u64 (k : Int))) := Lib.hid ⟨cell_of_row wc _ 0 _ _ (0, 0) hxb, cell_of_row wc _ 2 _ _ (0, 0) hr.x, cell_of_row wc _ 0 _ _ (0, 0) hz⟩
    have WC := Lib.hid hwc
    have PB := Lib.hid hpb
    have XB := Lib.hid hxb
    have RC := Lib.hid hr
    have ZC := Lib.hid hz
    have XC := Lib.hid hr.x
    clear hcut hpb hxb hr hz hwc  HST Z0 H0
    go_wp2
    go_region_held3 (fun Y => Y.cell? ⟨xb, 0, none⟩ = some (.pointer (some ⟨X, 0, none⟩)) ∧ Y.cell? ⟨X, 2, none⟩ = some (.pointer (some ⟨Q, 0, none⟩)) ∧ Y.cell? ⟨w.heap.size, 0, none⟩ = some (.int .u64 (k : Int))) (first | (with_reducible exact hT1.out) | (with_reducible exact hT2.out) | go_keep) (first
      | (go_at_call 24; (with_reducible refine (HL _).out.mono ?_); rintro e w1 ⟨rfl, rfl⟩)
      | (go_at_call 32; (refine (HHA.out _).mono ?_); rintro e w5 ⟨rfl, hb⟩
         have hb5 : Below wc.heap.size wc w5 := below_ud hb
         have xb5 := (hb5.block _ (row_lt XB.out)).trans XB.out
         have x5 := (hb5.block _ (row_lt XC.out)).trans XC.out
         have z5 := (hb5.block _ (row_lt ZC.out)).trans ZC.out
         have hT2 : Hid (w5.cell? ⟨xb, 0, none⟩ = some (.pointer (some ⟨X, 0, none⟩)) ∧ w5.cell? ⟨X, 2, none⟩ = some (.pointer (some ⟨Q, 0, none⟩)) ∧ w5.cell? ⟨w.heap.size, 0, none⟩ = some (.int .u64 (k : Int))) := Lib.hid ⟨cell_of_row w5 _ 0 _ _ (0, 0) xb5, cell_of_row w5 _ 2 _ _ (0, 0) x5, cell_of_row w5 _ 0 _ _ (0, 0) z5⟩
         have XB5 := Lib.hid xb5
         have X5 := Lib.hid x5
         have Z5 := Lib.hid z5
         have HB5 := Lib.hid hb5
         clear hb hb5 xb5 x5 z5))
    all_goals
      have r5 := RC.out.below HB5.out
      cases b with
      | true =>
        have hR5 := Lib.hid r5
        obtain rfl := hzt rfl
        clear hzb
        go_wp2
        go_ret
        exact ⟨rfl, hR5.out, (WC.out.mono (fun _ _ e => .inr (.inl e))).trans (ButS.of_below HB5.out (Nat.le_refl _))⟩
      | false =>
        obtain ⟨hz1, hz2, hz3⟩ := hzb rfl
        have hnv : ¬ (k : Int) ∈ xs := fun hm => by rw [has_eq, decide_eq_true hm] at hv; cases hv
        have pb5 := (HB5.out.block _ (row_lt PB.out)).trans PB.out
        have HMO := Lib.hid (more_some w5 X Q xs r5.x r5.q.ba h0 (by omega))
        have HRO := Lib.hid (fun (W : World) (hW : R1 W P G B L X Q c xs) => room_any W P _ _ _ _ ((xs.length : Nat) + 1) 4000 1 hW.p (by omega) rfl (by decide) (by omega))
        have HCH := Lib.hid (fun (W : World) (hW : R1 W P G B L X Q c xs) a1 a2 => change_more W P G B L X Q c xb w.heap.size k xs zs hW a1 a2 hk hnv h0 few hz1 hz2 hz3)
        have j0 : w5.cell? ⟨xb, 0, none⟩ = some (.pointer (some ⟨X, 0, none⟩)) := hT2.out.1
        have P5 := Lib.hid pb5
        have R5 := Lib.hid r5
        clear r5 pb5 hz1 hz2 hz3 hnv
        go_wp2_with (first
          | (go_at_call 34; (with_reducible refine HMO.out.mono ?_); rintro e w6 ⟨rfl, hb6⟩
             have HB6 := Lib.hid hb6
             have r6 := R5.out.below hb6
             have p6 := (hb6.block _ (row_lt P5.out)).trans P5.out
             have x6 := (hb6.block _ (row_lt XB5.out)).trans XB5.out
             have z6 := (hb6.block _ (row_lt Z5.out)).trans Z5.out
             have HR6 := Lib.hid (HRO.out w6 r6)
             have HC6 := Lib.hid (fun m => HCH.out (w6.drewN m) (r6.below (below_dr (Below.refl _ _) m)) x6 z6)
             have l0 : w6.cell? ⟨xb, 0, none⟩ = some (.pointer (some ⟨X, 0, none⟩)) := cell_of_row _ _ 0 _ _ (0, 0) x6
             have l1 : w6.cell? ⟨pb, 0, none⟩ = some (.int .i64 0) := cell_of_row _ _ 0 _ _ (0, 0) p6
             have l2 : w6.cell? ⟨pb, 1, none⟩ = some (.int .i64 0) := cell_of_row _ _ 1 _ _ (0, 0) p6
             clear hb6 r6 p6 x6 z6)
          | (go_at_call 33; (with_reducible refine HR6.out.mono ?_); rintro e w7 ⟨rfl, m6, rfl⟩)
          | (go_at_call 35; (first | (with_reducible refine (HC6.out _).mono ?_) | (refine (HC6.out _).mono ?_)); rintro e w8 ⟨rfl, h8, s8⟩; replace h8 := Lib.hid h8; replace s8 := Lib.hid s8))
        go_ret
        have b6 : ButS w w6 (· = G) := (WC.out.trans (ButS.of_below HB5.out (Nat.le_refl _))).trans (ButS.of_below HB6.out (Nat.le_refl _))
        have t8 : ButS w6 w8 (fun j => j = P ∨ j = X ∨ j = B ∨ j = Q) := ⟨s8.out.os, s8.out.tape, s8.out.output, s8.out.size, s8.out.block⟩
        exact ⟨rfl, h8.out, (b6.mono (fun _ _ e => .inr (.inl e))).trans (t8.mono (fun _ _ e => e.elim .inl (fun e => .inr (.inr e))))⟩
end Go.Proofs.YtlinoambdlkfjaaGreat
