
/- Insert of the first key; the text walked. -/
import Derived.Test.YtlinoambdlkfjaaGreatRoD
namespace Go.Proofs.YtlinoambdlkfjaaGreat
open Go.RowKit
abbrev nilpt : Obj := .cells #[.pointer none] 46
abbrev ptx (X : Nat) : Obj := .cells #[.pointer (some ⟨X, 0, none⟩)] 46
theorem npt_cells {w : World} {g : Nat} (h : w.heap[g]? = some nilpt) : w.frozen? ⟨g, 0, none⟩ = false ∧ w.cell? ⟨g, 0, none⟩ = some (.pointer none) :=
  ⟨frozen_of_row _ _ 0 _ _ h, cell_of_row _ _ 0 _ _ (0, 0) h⟩
theorem al_top2 (w : World) (a b : Obj) : ((w.alloc a).alloc b).heap[w.heap.size + 1]? = some b := by
  have := alloc_top (w.alloc a) b
  simpa only [World.size_alloc] using this
theorem set_far {w : World} {g g' i : Nat} {o : Obj} {v : Value} (h : w.heap[g]? = some o) (hne : g ≠ g') : (w.setCell ⟨g', i, none⟩ v).heap[g]? = some o :=
  ((but_set' w g' i v (· = g') rfl).block g (row_lt h) (fun e => hne e)).trans h
theorem row_npt {w : World} {g : Nat} {v : Value} (h : w.heap[g]? = some nilpt) : (w.setCell ⟨g, 0, none⟩ v).heap[g]? = some (.cells #[v] 46 (0, 0)) := by
  have := row_set h 0 v
  simpa using this
theorem Only.set1 {w w1 : World} {G g : Nat} {cs : Array Value} {T : TypeId} (h : Only w G w1) (hg : w1.heap[g]? = some (.cells cs T (0, 0))) (hT : T ≠ 69) (hw : w.heap.size ≤ g) (a : Value) : Only w G (w1.setCell ⟨g, 0, none⟩ a) := by
  obtain ⟨r, c, s, t, p, hr⟩ := h.mq
  have hs : ButS w1 (w1.setCell ⟨g, 0, none⟩ a) (· = g) := but_set' w1 g 0 a (· = g) rfl
  exact ⟨h.mq.but hs (fun e => row_ne hg hr hT e.symm), h.but.then hs (fun j e => .inr (by have e2 : j = g := e; omega))⟩
theorem s_of {w1 W : World} {P G z : Nat} {k : Int} {cs : Array Value} (hp : w1.heap[P]? = some (.cells cs 43 (0, 0))) (h0 : cs[0]? = some (.pointer (some ⟨G, 0, none⟩))) (hz : w1.heap[z]? = some (.cells #[.int .u64 k] 22 (0, 0))) (hm : Mq w1 G) (o : Only w1 G W) :
    W.cell? ⟨P, 0, none⟩ = some (.pointer (some ⟨G, 0, none⟩)) ∧ W.cell? ⟨z, 0, none⟩ = some (.int .u64 k) :=
  ⟨(o.cell hm hp (by decide) 0).trans h0, o.cell hm hz (by decide) 0⟩
/-- The worlds behind the two stores, by where the variables lie. -/
theorem wl1 {w1 w2 : World} {G : Nat} (o : Only w1 G w2) (a b : Obj) : Only w1 G ((w2.alloc a).alloc b) := (o.al a).al b
theorem wl2 {w1 w2 : World} {G y : Nat} (o : Only w1 G w2) (hy : w2.heap[y]? = some (plo 0 0)) (h : w1.heap.size ≤ y) (X : Value) :
    Only w1 G (((w2.alloc nilpt).setCell ⟨y, 0, none⟩ (.int .i64 0)).setCell ⟨y, 1, none⟩ (.int .i64 0)) ∧
    Only w1 G ((((w2.alloc nilpt).setCell ⟨y, 0, none⟩ (.int .i64 0)).setCell ⟨y, 1, none⟩ (.int .i64 0)).setCell ⟨w2.heap.size, 0, none⟩ X) ∧
    ((((w2.alloc nilpt).setCell ⟨y, 0, none⟩ (.int .i64 0)).setCell ⟨y, 1, none⟩ (.int .i64 0)).setCell ⟨w2.heap.size, 0, none⟩ X).heap[y]? = some (plo 0 0) ∧
    ((((w2.alloc nilpt).setCell ⟨y, 0, none⟩ (.int .i64 0)).setCell ⟨y, 1, none⟩ (.int .i64 0)).setCell ⟨w2.heap.size, 0, none⟩ X).heap[w2.heap.size]? = some (.cells #[X] 46 (0, 0)) ∧
    ButS w2 ((((w2.alloc nilpt).setCell ⟨y, 0, none⟩ (.int .i64 0)).setCell ⟨y, 1, none⟩ (.int .i64 0)).setCell ⟨w2.heap.size, 0, none⟩ X) (· = y) := by
  have hn : w2.heap.size ≠ y := by have := row_lt hy; omega
  have o1 := (o.al nilpt).set2 (al_keep hy nilpt) (by decide) h (.int .i64 0) (.int .i64 0)
  have t1 := set_far (i := 1) (v := .int .i64 0) (set_far (i := 0) (v := .int .i64 0) (alloc_top w2 nilpt) hn) hn
  have b1 := (but_alloc' w2 nilpt (· = y)).trans ((but_set' (w2.alloc nilpt) y 0 (.int .i64 0) (· = y) rfl).trans (but_set' _ y 1 (.int .i64 0) (· = y) rfl))
  exact ⟨o1, o1.set1 t1 (by decide) (Nat.le_trans h (Nat.le_of_lt (row_lt hy))) X, set_far (row_two (al_keep hy nilpt) _ _) (Ne.symm hn), row_npt t1, b1.then (but_set' _ w2.heap.size 0 X (· = w2.heap.size) rfl) (fun j e => .inr (by have e2 : j = w2.heap.size := e; omega))⟩
theorem wl3 {w1 w2 : World} {G y : Nat} (o : Only w1 G w2) (hy : w2.heap[y]? = some nilpt) (h : w1.heap.size ≤ y) (X : Value) :
    Only w1 G ((w2.alloc (plo 0 0)).setCell ⟨y, 0, none⟩ X) ∧ ((w2.alloc (plo 0 0)).setCell ⟨y, 0, none⟩ X).heap[w2.heap.size]? = some (plo 0 0) ∧ ((w2.alloc (plo 0 0)).setCell ⟨y, 0, none⟩ X).heap[y]? = some (.cells #[X] 46 (0, 0)) ∧ ButS w2 ((w2.alloc (plo 0 0)).setCell ⟨y, 0, none⟩ X) (· = y) := by
  have hn : w2.heap.size ≠ y := by have := row_lt hy; omega
  exact ⟨(o.al _).set1 (al_keep hy _) (by decide) h X, set_far (alloc_top w2 _) hn, row_npt (al_keep hy _), (but_alloc' w2 _ (· = y)).trans (but_set' _ y 0 X (· = y) rfl)⟩
theorem wl4 {w1 w2 : World} {G y x : Nat} (o : Only w1 G w2) (hy : w2.heap[y]? = some (plo 0 0)) (hx : w2.heap[x]? = some nilpt) (h : w1.heap.size ≤ y) (h' : w1.heap.size ≤ x) (X : Value) :
    Only w1 G ((w2.setCell ⟨y, 0, none⟩ (.int .i64 0)).setCell ⟨y, 1, none⟩ (.int .i64 0)) ∧
    Only w1 G (((w2.setCell ⟨y, 0, none⟩ (.int .i64 0)).setCell ⟨y, 1, none⟩ (.int .i64 0)).setCell ⟨x, 0, none⟩ X) ∧
    (((w2.setCell ⟨y, 0, none⟩ (.int .i64 0)).setCell ⟨y, 1, none⟩ (.int .i64 0)).setCell ⟨x, 0, none⟩ X).heap[y]? = some (plo 0 0) ∧
    (((w2.setCell ⟨y, 0, none⟩ (.int .i64 0)).setCell ⟨y, 1, none⟩ (.int .i64 0)).setCell ⟨x, 0, none⟩ X).heap[x]? = some (.cells #[X] 46 (0, 0)) ∧
    ButS w2 (((w2.setCell ⟨y, 0, none⟩ (.int .i64 0)).setCell ⟨y, 1, none⟩ (.int .i64 0)).setCell ⟨x, 0, none⟩ X) (fun j => j = y ∨ j = x) := by
  have hn : x ≠ y := row_ne hx hy (by decide)
  have o1 := o.set2 hy (by decide) h (.int .i64 0) (.int .i64 0)
  have t1 := set_far (i := 1) (v := .int .i64 0) (set_far (i := 0) (v := .int .i64 0) hx hn) hn
  exact ⟨o1, o1.set1 t1 (by decide) h' X, set_far (row_two hy _ _) (Ne.symm hn), row_npt t1, ((but_set' w2 y 0 (.int .i64 0) _ (.inl rfl)).trans (but_set' _ y 1 (.int .i64 0) _ (.inl rfl))).trans (but_set' _ x 0 X _ (.inr rfl))⟩
/-- What the region leaves: two variables, of the place and of a new part. -/
def Fnd0 (w0 : World) (P G z : Nat) (k : Int) (v5 v6 : Value) (W : World) : Prop := ∃ pb xb X Q, v5 = .pointer (some ⟨pb, 0, none⟩) ∧ v6 = .pointer (some ⟨xb, 0, none⟩) ∧ W.heap[pb]? = some (plo 0 0) ∧ W.heap[xb]? = some (.cells #[.pointer (some ⟨X, 0, none⟩)] 46 (0, 0)) ∧ R0 W P G ∧ W.heap[z]? = some (.cells #[.int .u64 k] 22 (0, 0)) ∧ W.heap[X]? = some (pto 0 (.pointer (some ⟨Q, 0, none⟩))) ∧ Ba W Q [] ∧ ButS w0 W (· = G) ∧ w0.heap.size ≤ X ∧ w0.heap.size ≤ Q
theorem fnd_of {w0 w1 w2 W : World} {P G z pb xb X Q : Nat} {k : Int} {S : Nat → Prop} (r1 : R0 w1 P G) (z1 : w1.heap[z]? = some (.cells #[.int .u64 k] 22 (0, 0))) (hx : w2.heap[X]? = some (pto 0 (.pointer (some ⟨Q, 0, none⟩)))) (hb : Ba w2 Q []) (o : Only w1 G W) (h1 : W.heap[pb]? = some (plo 0 0)) (h2 : W.heap[xb]? = some (.cells #[.pointer (some ⟨X, 0, none⟩)] 46 (0, 0))) (hs : ButS w2 W S) (hX : ¬ S X) (hQ : ¬ S Q) (hw : ButS w0 w1 (· = G)) (lX : w1.heap.size ≤ X) (lQ : w1.heap.size ≤ Q) : Fnd0 w0 P G z k (.pointer (some ⟨pb, 0, none⟩)) (.pointer (some ⟨xb, 0, none⟩)) W :=
  ⟨pb, xb, X, Q, rfl, rfl, h1, h2, r1.only o, o.row r1.m z1 (by decide), (hs.block _ (row_lt hx) hX).trans hx, hb.far hs hQ, hw.trans o.but, Nat.le_trans hw.size lX, Nat.le_trans hw.size lQ⟩
set_option maxHeartbeats 16000000 in
theorem insert_first (w : World) (P G k : Nat) (h : R0 w P G) (hk : k < 65536) :
    Calls Tryz.prog 11 #[.pointer (some ⟨P, 0, none⟩), .int .u64 (k : Int)] w fun e w' => e = .returned (.int .i64 0) ∧ ∃ B L X Q c, R1 w' P G B L X Q c [(k : Int)] ∧ ButS w w' (fun j => j = P ∨ j = G) ∧ w.heap.size ≤ B ∧ w.heap.size ≤ X ∧ w.heap.size ≤ Q := by
  have hb0 := (Below.refl _ w).alloc (Nat.le_refl _) (.cells #[.int .u64 (k : Int)] 22)
  have hr0 := h.below hb0
  have c0 : (w.alloc (.cells #[.int .u64 (k : Int)] 22)).cell? ⟨P, 0, none⟩ = some (.pointer (some ⟨G, 0, none⟩)) := cell_of_row _ P 0 _ _ (0, 0) hr0.p
  have HST := Lib.hid (q_start _ G hr0.m)
  have Z0 := Lib.hid (alloc_top w (.cells #[.int .u64 (k : Int)] 22))
  have H0 := Lib.hid hr0
  have HU := fun W => Lib.hid (up_any W k hk)
  clear h hr0 hb0
  go_enter Tryz.func11, Tryz.ntmps11
  go_wp2_with (first
    | (go_at_call 19; (with_reducible refine HST.out.mono ?_); rintro e w1 ⟨rfl, hm, hbt⟩
       have ho : Only (w.alloc (.cells #[.int .u64 (k : Int)] 22)) G w1 := ⟨hm, hbt⟩
       have r1 := H0.out.only ho
       have z1 := ho.row H0.out.m Z0.out (by decide)
       have HFI := Lib.hid (fun m => find_none (w1.drewN m) P G (r1.below (below_dr (Below.refl _ _) m)))
       have HFA := Lib.hid (fun m a => find_none ((w1.alloc a).drewN m) P G (r1.below (below_dr (bel_al (Below.refl _ w1) (Nat.le_refl _) a) m)))
       have HFB := Lib.hid (fun m a b => find_none (((w1.alloc a).alloc b).drewN m) P G (r1.below (below_dr (bel_al (bel_al (Below.refl _ w1) (Nat.le_refl _) a) (Nat.le_refl _) b) m)))
       have hS1 : Hid (w1.drew.cell? ⟨P, 0, none⟩ = some (.pointer (some ⟨G, 0, none⟩)) ∧ w1.drew.cell? ⟨w.heap.size, 0, none⟩ = some (.int .u64 (k : Int))) := Lib.hid ⟨cell_of_row w1 _ 0 _ _ (0, 0) r1.p, cell_of_row w1 _ 0 _ _ (0, 0) z1⟩
       have hA1 : Hid (∀ a, (w1.alloc a).drew.cell? ⟨P, 0, none⟩ = some (.pointer (some ⟨G, 0, none⟩)) ∧ (w1.alloc a).drew.cell? ⟨w.heap.size, 0, none⟩ = some (.int .u64 (k : Int))) := Lib.hid (fun a => ⟨cell_of_row (w1.alloc a) _ 0 _ _ (0, 0) (al_keep r1.p a), cell_of_row (w1.alloc a) _ 0 _ _ (0, 0) (al_keep z1 a)⟩)
       have hA2 : Hid (∀ a b, ((w1.alloc a).alloc b).drew.cell? ⟨P, 0, none⟩ = some (.pointer (some ⟨G, 0, none⟩)) ∧ ((w1.alloc a).alloc b).drew.cell? ⟨w.heap.size, 0, none⟩ = some (.int .u64 (k : Int))) := Lib.hid (fun a b => ⟨cell_of_row ((w1.alloc a).alloc b) _ 0 _ _ (0, 0) (al_keep (al_keep r1.p a) b), cell_of_row ((w1.alloc a).alloc b) _ 0 _ _ (0, 0) (al_keep (al_keep z1 a) b)⟩)
       have OW : Hid (ButS w w1 (· = G)) := Lib.hid ((but_alloc' w _ _).trans hbt)
       have R1x := Lib.hid r1
       have Z1 := Lib.hid z1
       clear hm hbt ho r1 z1))
  go_cut [5, 6] from 14 (fun s5 s6 wc => Hid (Fnd0 w P G w.heap.size (k : Int) s5 s6 wc))
  case first =>
    clear H0 HST Z0 c0
    go_region_held3 (fun Y => Y.cell? ⟨P, 0, none⟩ = some (.pointer (some ⟨G, 0, none⟩)) ∧ Y.cell? ⟨w.heap.size, 0, none⟩ = some (.int .u64 (k : Int))) (first | (with_reducible exact hS1.out) | (with_reducible exact hA1.out _) | (with_reducible exact hA2.out _ _) | (with_reducible exact hS2.out) | (with_reducible exact hS3.out _) | (with_reducible exact hS4.out _ _) | (with_reducible exact hS5.out) | (with_reducible exact hS6.out)) (first
      | (go_at_call 21; (with_reducible refine (HU _).out.mono ?_); rintro e w2 ⟨rfl, rfl⟩)
      | (go_at_call 20; (refine (HFI.out _).mono ?_); rintro e w2 ⟨X, Q, rfl, hx, hba, hb2, hX9, hQ9⟩
         have o2 : Only w1 G w2 := Only.of_below (Only.refl (R1x.out.m.but (ButS.of_below (S := fun _ => False) (below_ud hb2) (Nat.le_refl _)) (fun h => h))) (below_ud hb2)
         have hXl : w1.heap.size ≤ X := hX9
         have hQl : w1.heap.size ≤ Q := hQ9
         have hF1 := Lib.hid (fnd_of (S := fun _ => False) R1x.out Z1.out hx hba (wl1 o2 (plo 0 0) (ptx X)) (al_keep (alloc_top w2 _) _) (al_top2 w2 _ _) ((but_alloc' w2 _ _).trans (but_alloc' _ _ _)) (fun h => h) (fun h => h) OW.out hXl hQl)
         have hF2 := Lib.hid (fnd_of (S := fun _ => False) R1x.out Z1.out hx hba (wl1 o2 (ptx X) (plo 0 0)) (al_top2 w2 _ _) (al_keep (alloc_top w2 _) _) ((but_alloc' w2 _ _).trans (but_alloc' _ _ _)) (fun h => h) (fun h => h) OW.out hXl hQl)
         have hS2 : Hid (w2.cell? ⟨P, 0, none⟩ = some (.pointer (some ⟨G, 0, none⟩)) ∧ w2.cell? ⟨w.heap.size, 0, none⟩ = some (.int .u64 (k : Int))) := Lib.hid (s_of R1x.out.p rfl Z1.out R1x.out.m (o2))
         have hS3 : Hid (∀ a, (w2.alloc a).cell? ⟨P, 0, none⟩ = some (.pointer (some ⟨G, 0, none⟩)) ∧ (w2.alloc a).cell? ⟨w.heap.size, 0, none⟩ = some (.int .u64 (k : Int))) := Lib.hid (fun a => s_of R1x.out.p rfl Z1.out R1x.out.m (o2.al a))
         have hS4 : Hid (∀ a b, ((w2.alloc a).alloc b).cell? ⟨P, 0, none⟩ = some (.pointer (some ⟨G, 0, none⟩)) ∧ ((w2.alloc a).alloc b).cell? ⟨w.heap.size, 0, none⟩ = some (.int .u64 (k : Int))) := Lib.hid (fun a b => s_of R1x.out.p rfl Z1.out R1x.out.m (wl1 o2 a b))
         clear hx hba hb2 o2 hX9 hQ9 hXl hQl)
      | (go_at_call 20; (refine (HFA.out _ (plo 0 0)).mono ?_); rintro e w2 ⟨X, Q, rfl, hx, hba, hb2, hX9, hQ9⟩
         have hXl : w1.heap.size ≤ X := Nat.le_trans (but_alloc' w1 _ (fun _ => False)).size hX9
         have hQl : w1.heap.size ≤ Q := Nat.le_trans (but_alloc' w1 _ (fun _ => False)).size hQ9
         have o2 : Only w1 G w2 := Only.of_below (Only.refl (R1x.out.m.but (ButS.of_below (S := fun _ => False) ((bel_al (Below.refl _ w1) (Nat.le_refl _) _).trans ((below_ud hb2).mono (by simp))) (Nat.le_refl _)) (fun h => h))) ((bel_al (Below.refl _ w1) (Nat.le_refl _) _).trans ((below_ud hb2).mono (by simp)))
         have y2 := ((below_ud hb2).block _ (row_lt (alloc_top w1 (plo 0 0)))).trans (alloc_top w1 (plo 0 0))
         obtain ⟨zf0, zf1, zc0, zc1⟩ := plo_cells (al_keep y2 nilpt)
         have nY1 : w1.heap.size ≠ w2.heap.size := Nat.ne_of_lt (row_lt y2)
         have nY2 := Ne.symm nY1
         obtain ⟨oa, ob, oc, od, oe⟩ := wl2 o2 y2 (Nat.le_refl _) (.pointer (some ⟨X, 0, none⟩))
         obtain ⟨vq, hqr⟩ := hba.row
         have hF1 := Lib.hid (fnd_of (S := (· = w1.heap.size)) R1x.out Z1.out hx hba (ob) (oc) (od) (oe) (fun e => row_ne hx y2 (by decide) e) (fun e => row_ne hqr y2 (by decide) e) OW.out hXl hQl)
         have hS2 : Hid (w2.cell? ⟨P, 0, none⟩ = some (.pointer (some ⟨G, 0, none⟩)) ∧ w2.cell? ⟨w.heap.size, 0, none⟩ = some (.int .u64 (k : Int))) := Lib.hid (s_of R1x.out.p rfl Z1.out R1x.out.m (o2))
         have hS3 : Hid (∀ a, (w2.alloc a).cell? ⟨P, 0, none⟩ = some (.pointer (some ⟨G, 0, none⟩)) ∧ (w2.alloc a).cell? ⟨w.heap.size, 0, none⟩ = some (.int .u64 (k : Int))) := Lib.hid (fun a => s_of R1x.out.p rfl Z1.out R1x.out.m (o2.al a))
         have hS5 : Hid ((((w2.alloc nilpt).setCell ⟨w1.heap.size, 0, none⟩ (.int .i64 0)).setCell ⟨w1.heap.size, 1, none⟩ (.int .i64 0)).cell? ⟨P, 0, none⟩ = some (.pointer (some ⟨G, 0, none⟩)) ∧ (((w2.alloc nilpt).setCell ⟨w1.heap.size, 0, none⟩ (.int .i64 0)).setCell ⟨w1.heap.size, 1, none⟩ (.int .i64 0)).cell? ⟨w.heap.size, 0, none⟩ = some (.int .u64 (k : Int))) := Lib.hid (s_of R1x.out.p rfl Z1.out R1x.out.m (oa))
         have hS6 : Hid (((((w2.alloc nilpt).setCell ⟨w1.heap.size, 0, none⟩ (.int .i64 0)).setCell ⟨w1.heap.size, 1, none⟩ (.int .i64 0)).setCell ⟨w2.heap.size, 0, none⟩ (.pointer (some ⟨X, 0, none⟩))).cell? ⟨P, 0, none⟩ = some (.pointer (some ⟨G, 0, none⟩)) ∧ ((((w2.alloc nilpt).setCell ⟨w1.heap.size, 0, none⟩ (.int .i64 0)).setCell ⟨w1.heap.size, 1, none⟩ (.int .i64 0)).setCell ⟨w2.heap.size, 0, none⟩ (.pointer (some ⟨X, 0, none⟩))).cell? ⟨w.heap.size, 0, none⟩ = some (.int .u64 (k : Int))) := Lib.hid (s_of R1x.out.p rfl Z1.out R1x.out.m (ob))
         clear hx hba hb2 o2 hX9 hQ9 hXl hQl y2 oa ob oc od oe hqr)
      | (go_at_call 20; (refine (HFA.out _ nilpt).mono ?_); rintro e w2 ⟨X, Q, rfl, hx, hba, hb2, hX9, hQ9⟩
         have hXl : w1.heap.size ≤ X := Nat.le_trans (but_alloc' w1 _ (fun _ => False)).size hX9
         have hQl : w1.heap.size ≤ Q := Nat.le_trans (but_alloc' w1 _ (fun _ => False)).size hQ9
         have o2 : Only w1 G w2 := Only.of_below (Only.refl (R1x.out.m.but (ButS.of_below (S := fun _ => False) ((bel_al (Below.refl _ w1) (Nat.le_refl _) _).trans ((below_ud hb2).mono (by simp))) (Nat.le_refl _)) (fun h => h))) ((bel_al (Below.refl _ w1) (Nat.le_refl _) _).trans ((below_ud hb2).mono (by simp)))
         have x2 := ((below_ud hb2).block _ (row_lt (alloc_top w1 nilpt))).trans (alloc_top w1 nilpt)
         obtain ⟨zf0, zc0⟩ := npt_cells (al_keep x2 (plo 0 0))
         have nY1 : w1.heap.size ≠ w2.heap.size := Nat.ne_of_lt (row_lt x2)
         have nY2 := Ne.symm nY1
         obtain ⟨oa, oc, od, oe⟩ := wl3 o2 x2 (Nat.le_refl _) (.pointer (some ⟨X, 0, none⟩))
         obtain ⟨vq, hqr⟩ := hba.row
         have hF1 := Lib.hid (fnd_of (S := (· = w1.heap.size)) R1x.out Z1.out hx hba (oa) (oc) (od) (oe) (fun e => row_ne hx x2 (by decide) e) (fun e => row_ne hqr x2 (by decide) e) OW.out hXl hQl)
         have hS2 : Hid (w2.cell? ⟨P, 0, none⟩ = some (.pointer (some ⟨G, 0, none⟩)) ∧ w2.cell? ⟨w.heap.size, 0, none⟩ = some (.int .u64 (k : Int))) := Lib.hid (s_of R1x.out.p rfl Z1.out R1x.out.m (o2))
         have hS3 : Hid (∀ a, (w2.alloc a).cell? ⟨P, 0, none⟩ = some (.pointer (some ⟨G, 0, none⟩)) ∧ (w2.alloc a).cell? ⟨w.heap.size, 0, none⟩ = some (.int .u64 (k : Int))) := Lib.hid (fun a => s_of R1x.out.p rfl Z1.out R1x.out.m (o2.al a))
         have hS5 : Hid (((w2.alloc (plo 0 0)).setCell ⟨w1.heap.size, 0, none⟩ (.pointer (some ⟨X, 0, none⟩))).cell? ⟨P, 0, none⟩ = some (.pointer (some ⟨G, 0, none⟩)) ∧ ((w2.alloc (plo 0 0)).setCell ⟨w1.heap.size, 0, none⟩ (.pointer (some ⟨X, 0, none⟩))).cell? ⟨w.heap.size, 0, none⟩ = some (.int .u64 (k : Int))) := Lib.hid (s_of R1x.out.p rfl Z1.out R1x.out.m (oa))
         clear hx hba hb2 o2 hX9 hQ9 hXl hQl x2 oa oc od oe hqr)
      | (go_at_call 20; (refine (HFB.out _ (plo 0 0) nilpt).mono ?_); rintro e w2 ⟨X, Q, rfl, hx, hba, hb2, hX9, hQ9⟩
         have hXl : w1.heap.size ≤ X := Nat.le_trans ((but_alloc' w1 _ (fun _ => False)).trans (but_alloc' _ _ (fun _ => False))).size hX9
         have hQl : w1.heap.size ≤ Q := Nat.le_trans ((but_alloc' w1 _ (fun _ => False)).trans (but_alloc' _ _ (fun _ => False))).size hQ9
         have o2 : Only w1 G w2 := Only.of_below (Only.refl (R1x.out.m.but (ButS.of_below (S := fun _ => False) ((bel_al (bel_al (Below.refl _ w1) (Nat.le_refl _) _) (Nat.le_refl _) _).trans ((below_ud hb2).mono (by simp; omega))) (Nat.le_refl _)) (fun h => h))) ((bel_al (bel_al (Below.refl _ w1) (Nat.le_refl _) _) (Nat.le_refl _) _).trans ((below_ud hb2).mono (by simp; omega)))
         have y2 := ((below_ud hb2).block _ (row_lt (al_keep (alloc_top w1 (plo 0 0)) nilpt))).trans (al_keep (alloc_top w1 (plo 0 0)) nilpt)
         have x2 := ((below_ud hb2).block _ (row_lt (al_top2 w1 (plo 0 0) nilpt))).trans (al_top2 w1 (plo 0 0) nilpt)
         obtain ⟨zf0, zf1, zc0, zc1⟩ := plo_cells y2
         obtain ⟨xf0, xc0⟩ := npt_cells x2
         have nYX := row_ne y2 x2 (by decide)
         obtain ⟨oa, ob, oc, od, oe⟩ := wl4 o2 y2 x2 (by omega) (by omega) (.pointer (some ⟨X, 0, none⟩))
         obtain ⟨vq, hqr⟩ := hba.row
         have hF1 := Lib.hid (fnd_of (S := fun j => j = w1.heap.size ∨ j = w1.heap.size + 1) R1x.out Z1.out hx hba (ob) (oc) (od) (oe) (fun e => e.elim (row_ne hx y2 (by decide)) (row_ne hx x2 (by decide))) (fun e => e.elim (row_ne hqr y2 (by decide)) (row_ne hqr x2 (by decide))) OW.out hXl hQl)
         have hS2 : Hid (w2.cell? ⟨P, 0, none⟩ = some (.pointer (some ⟨G, 0, none⟩)) ∧ w2.cell? ⟨w.heap.size, 0, none⟩ = some (.int .u64 (k : Int))) := Lib.hid (s_of R1x.out.p rfl Z1.out R1x.out.m (o2))
         have hS5 : Hid (((w2.setCell ⟨w1.heap.size, 0, none⟩ (.int .i64 0)).setCell ⟨w1.heap.size, 1, none⟩ (.int .i64 0)).cell? ⟨P, 0, none⟩ = some (.pointer (some ⟨G, 0, none⟩)) ∧ ((w2.setCell ⟨w1.heap.size, 0, none⟩ (.int .i64 0)).setCell ⟨w1.heap.size, 1, none⟩ (.int .i64 0)).cell? ⟨w.heap.size, 0, none⟩ = some (.int .u64 (k : Int))) := Lib.hid (s_of R1x.out.p rfl Z1.out R1x.out.m (oa))
         have hS6 : Hid ((((w2.setCell ⟨w1.heap.size, 0, none⟩ (.int .i64 0)).setCell ⟨w1.heap.size, 1, none⟩ (.int .i64 0)).setCell ⟨w1.heap.size + 1, 0, none⟩ (.pointer (some ⟨X, 0, none⟩))).cell? ⟨P, 0, none⟩ = some (.pointer (some ⟨G, 0, none⟩)) ∧ (((w2.setCell ⟨w1.heap.size, 0, none⟩ (.int .i64 0)).setCell ⟨w1.heap.size, 1, none⟩ (.int .i64 0)).setCell ⟨w1.heap.size + 1, 0, none⟩ (.pointer (some ⟨X, 0, none⟩))).cell? ⟨w.heap.size, 0, none⟩ = some (.int .u64 (k : Int))) := Lib.hid (s_of R1x.out.p rfl Z1.out R1x.out.m (ob))
         clear hx hba hb2 o2 hX9 hQ9 hXl hQl y2 x2 oa ob oc od oe hqr)
      | (go_at_call 20; (refine (HFB.out _ nilpt (plo 0 0)).mono ?_); rintro e w2 ⟨X, Q, rfl, hx, hba, hb2, hX9, hQ9⟩
         have hXl : w1.heap.size ≤ X := Nat.le_trans ((but_alloc' w1 _ (fun _ => False)).trans (but_alloc' _ _ (fun _ => False))).size hX9
         have hQl : w1.heap.size ≤ Q := Nat.le_trans ((but_alloc' w1 _ (fun _ => False)).trans (but_alloc' _ _ (fun _ => False))).size hQ9
         have o2 : Only w1 G w2 := Only.of_below (Only.refl (R1x.out.m.but (ButS.of_below (S := fun _ => False) ((bel_al (bel_al (Below.refl _ w1) (Nat.le_refl _) _) (Nat.le_refl _) _).trans ((below_ud hb2).mono (by simp; omega))) (Nat.le_refl _)) (fun h => h))) ((bel_al (bel_al (Below.refl _ w1) (Nat.le_refl _) _) (Nat.le_refl _) _).trans ((below_ud hb2).mono (by simp; omega)))
         have y2 := ((below_ud hb2).block _ (row_lt (al_top2 w1 nilpt (plo 0 0)))).trans (al_top2 w1 nilpt (plo 0 0))
         have x2 := ((below_ud hb2).block _ (row_lt (al_keep (alloc_top w1 nilpt) (plo 0 0)))).trans (al_keep (alloc_top w1 nilpt) (plo 0 0))
         obtain ⟨zf0, zf1, zc0, zc1⟩ := plo_cells y2
         obtain ⟨xf0, xc0⟩ := npt_cells x2
         have nYX := row_ne y2 x2 (by decide)
         obtain ⟨oa, ob, oc, od, oe⟩ := wl4 o2 y2 x2 (by omega) (by omega) (.pointer (some ⟨X, 0, none⟩))
         obtain ⟨vq, hqr⟩ := hba.row
         have hF1 := Lib.hid (fnd_of (S := fun j => j = w1.heap.size + 1 ∨ j = w1.heap.size) R1x.out Z1.out hx hba (ob) (oc) (od) (oe) (fun e => e.elim (row_ne hx y2 (by decide)) (row_ne hx x2 (by decide))) (fun e => e.elim (row_ne hqr y2 (by decide)) (row_ne hqr x2 (by decide))) OW.out hXl hQl)
         have hS2 : Hid (w2.cell? ⟨P, 0, none⟩ = some (.pointer (some ⟨G, 0, none⟩)) ∧ w2.cell? ⟨w.heap.size, 0, none⟩ = some (.int .u64 (k : Int))) := Lib.hid (s_of R1x.out.p rfl Z1.out R1x.out.m (o2))
         have hS5 : Hid (((w2.setCell ⟨w1.heap.size + 1, 0, none⟩ (.int .i64 0)).setCell ⟨w1.heap.size + 1, 1, none⟩ (.int .i64 0)).cell? ⟨P, 0, none⟩ = some (.pointer (some ⟨G, 0, none⟩)) ∧ ((w2.setCell ⟨w1.heap.size + 1, 0, none⟩ (.int .i64 0)).setCell ⟨w1.heap.size + 1, 1, none⟩ (.int .i64 0)).cell? ⟨w.heap.size, 0, none⟩ = some (.int .u64 (k : Int))) := Lib.hid (s_of R1x.out.p rfl Z1.out R1x.out.m (oa))
         have hS6 : Hid ((((w2.setCell ⟨w1.heap.size + 1, 0, none⟩ (.int .i64 0)).setCell ⟨w1.heap.size + 1, 1, none⟩ (.int .i64 0)).setCell ⟨w1.heap.size, 0, none⟩ (.pointer (some ⟨X, 0, none⟩))).cell? ⟨P, 0, none⟩ = some (.pointer (some ⟨G, 0, none⟩)) ∧ (((w2.setCell ⟨w1.heap.size + 1, 0, none⟩ (.int .i64 0)).setCell ⟨w1.heap.size + 1, 1, none⟩ (.int .i64 0)).setCell ⟨w1.heap.size, 0, none⟩ (.pointer (some ⟨X, 0, none⟩))).cell? ⟨w.heap.size, 0, none⟩ = some (.int .u64 (k : Int))) := Lib.hid (s_of R1x.out.p rfl Z1.out R1x.out.m (ob))
         clear hx hba hb2 o2 hX9 hQ9 hXl hQl y2 x2 oa ob oc od oe hqr))
    all_goals
      go_wp2
      go_meet
      first | (with_reducible exact hF1) | (with_reducible exact hF2)
  case rest =>
    obtain ⟨pb, xb, X, Q, rfl, rfl, hpb, hxb, hr, hz, hx, hba, hwc, hlX, hlQ⟩ := hcut.out
    have HHA : Hid (∀ m, Calls Tryz.prog 32 #[.pointer (some ⟨Q, 0, none⟩), .int .u16 (k : Int)] (wc.drewN m) (AskB (wc.drewN m) false)) := Lib.hid (fun m => by simpa [M.rHas] using ba_Has (wc.drewN m) Q [] (hba.below (below_dr (Below.refl _ _) m)) k)
    have HL := fun W => Lib.hid (lo_any W k hk)
    have hT1 : Hid (wc.drew.cell? ⟨xb, 0, none⟩ = some (.pointer (some ⟨X, 0, none⟩)) ∧ wc.drew.cell? ⟨X, 2, none⟩ = some (.pointer (some ⟨Q, 0, none⟩)) ∧ wc.drew.cell? ⟨w.heap.size, 0, none⟩ = some (.int .u64 (k : Int))) := Lib.hid ⟨cell_of_row wc _ 0 _ _ (0, 0) hxb, cell_of_row wc _ 2 _ _ (0, 0) hx, cell_of_row wc _ 0 _ _ (0, 0) hz⟩
    have WC := Lib.hid hwc
    have PB := Lib.hid hpb
    have XB := Lib.hid hxb
    have RC := Lib.hid hr
    have ZC := Lib.hid hz
    have XC := Lib.hid hx
    have BC := Lib.hid hba
    clear hcut hpb hxb hr hz hwc hx hba HST Z0 H0
    go_wp2
    go_region_held3 (fun Y => Y.cell? ⟨xb, 0, none⟩ = some (.pointer (some ⟨X, 0, none⟩)) ∧ Y.cell? ⟨X, 2, none⟩ = some (.pointer (some ⟨Q, 0, none⟩)) ∧ Y.cell? ⟨w.heap.size, 0, none⟩ = some (.int .u64 (k : Int))) (first | (with_reducible exact hT1.out) | (with_reducible exact hT2.out) | go_keep) (first
      | (go_at_call 24; (with_reducible refine (HL _).out.mono ?_); rintro e w1 ⟨rfl, rfl⟩)
      | (go_at_call 32; (refine (HHA.out _).mono ?_); rintro e w5 ⟨rfl, hb⟩
         have hb5 : Below wc.heap.size wc w5 := below_ud hb
         have xb5 := (hb5.block _ (row_lt XB.out)).trans XB.out
         have x5 := (hb5.block _ (row_lt XC.out)).trans XC.out
         have z5 := (hb5.block _ (row_lt ZC.out)).trans ZC.out
         have hT2 : Hid (w5.cell? ⟨xb, 0, none⟩ = some (.pointer (some ⟨X, 0, none⟩)) ∧ w5.cell? ⟨X, 2, none⟩ = some (.pointer (some ⟨Q, 0, none⟩)) ∧ w5.cell? ⟨w.heap.size, 0, none⟩ = some (.int .u64 (k : Int))) := Lib.hid ⟨cell_of_row w5 _ 0 _ _ (0, 0) xb5, cell_of_row w5 _ 2 _ _ (0, 0) x5, cell_of_row w5 _ 0 _ _ (0, 0) z5⟩
         have XB5 := Lib.hid xb5
         have X5 := Lib.hid x5
         have Z5 := Lib.hid z5
         have HB5 := Lib.hid hb5
         clear hb hb5 xb5 x5 z5))
    all_goals
      have r5 := RC.out.below HB5.out
      have pb5 := (HB5.out.block _ (row_lt PB.out)).trans PB.out
      have b5 := BC.out.below HB5.out
      have HMO := Lib.hid (more_zero w5 X _ X5.out)
      have HRO := Lib.hid (room_any w5 P _ _ _ _ 0 4000 2 r5.p (by decide) rfl (by decide) (by decide))
      have HCH := fun m => Lib.hid (change_new (w5.drewN m) P G X Q xb w.heap.size k (r5.below (below_dr (Below.refl _ _) m)) XB5.out Z5.out X5.out (b5.below (below_dr (Below.refl _ _) m)) hk)
      have j0 : w5.cell? ⟨xb, 0, none⟩ = some (.pointer (some ⟨X, 0, none⟩)) := hT2.out.1
      have j1 : w5.cell? ⟨pb, 0, none⟩ = some (.int .i64 0) := cell_of_row _ _ 0 _ _ (0, 0) pb5
      have j2 : w5.cell? ⟨pb, 1, none⟩ = some (.int .i64 0) := cell_of_row _ _ 1 _ _ (0, 0) pb5
      clear r5 pb5 b5
      go_wp2_with (first
        | (go_at_call 34; (with_reducible refine HMO.out.mono ?_); rintro e w6 ⟨rfl, rfl⟩)
        | (go_at_call 33; (with_reducible refine HRO.out.mono ?_); rintro e w6 ⟨rfl, m6, rfl⟩)
        | (go_at_call 35; (first | (with_reducible refine (HCH _).out.mono ?_) | (refine (HCH _).out.mono ?_)); rintro e w6 ⟨rfl, B, L, c, h6, s6, l6⟩; replace h6 := Lib.hid h6; replace s6 := Lib.hid s6; replace l6 := Lib.hid l6))
      go_ret
      have b5 : ButS w w5 (· = G) := WC.out.trans (ButS.of_below HB5.out (Nat.le_refl _))
      have t6 : ButS w5 w6 (fun j => j = P ∨ j = X ∨ j = Q) := ⟨s6.out.os, s6.out.tape, s6.out.output, s6.out.size, s6.out.block⟩
      exact ⟨rfl, B, L, X, Q, c, h6.out, (b5.mono (fun _ _ e => .inr e)).then t6 (fun j e => by rcases e with e | e | e <;> first | exact .inl (.inl e) | exact .inr (by omega)), Nat.le_trans b5.size l6.out, hlX, hlQ⟩
end Go.Proofs.YtlinoambdlkfjaaGreat
