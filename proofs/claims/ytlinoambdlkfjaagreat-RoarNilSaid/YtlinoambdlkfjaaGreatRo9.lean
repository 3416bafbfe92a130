
/- The first key is put in: the closure, the change; the texts walked. -/
import Derived.Test.YtlinoambdlkfjaaGreatRo8
namespace Go.Proofs.YtlinoambdlkfjaaGreat
open Go.RowKit
/-- Rising lists with the same numbers are one. -/
theorem up_same : ∀ (xs ys : List Int), xs.Pairwise (· < ·) → ys.Pairwise (· < ·) → (∀ y, y ∈ xs ↔ y ∈ ys) → xs = ys
  | [], ys, _, _, h => by
    cases ys with
    | nil => rfl
    | cons y l => have := (h y).2 (by simp); simp at this
  | x :: l, ys, hx, hy, h => by
    cases ys with
    | nil => have := (h x).1 (by simp); simp at this
    | cons y m =>
      rw [List.pairwise_cons] at hx hy
      have e : x = y := by
        have h1 := (h x).1 (by simp)
        have h2 := (h y).2 (by simp)
        rcases List.mem_cons.1 h1 with e | h1
        · exact e
        · rcases List.mem_cons.1 h2 with e | h2
          · exact e.symm
          · have := hy.1 x h1; have := hx.1 y h2; omega
      subst e
      rw [up_same l m hx.2 hy.2 (fun z => ?_)]
      constructor
      · intro hz
        rcases List.mem_cons.1 ((h z).1 (List.mem_cons_of_mem _ hz)) with e | h3
        · have := hx.1 z hz; omega
        · exact h3
      · intro hz
        rcases List.mem_cons.1 ((h z).2 (List.mem_cons_of_mem _ hz)) with e | h3
        · have := hy.1 z hz; omega
        · exact h3
set_option maxHeartbeats 8000000 in
theorem add_clo (w : World) (cx ck X Q k : Nat) (n : Int) (xs zs : List Int) (hcx : w.heap[cx]? = some (.cells #[.pointer (some ⟨X, 0, none⟩)] 46 (0, 0))) (hck : w.heap[ck]? = some (.cells #[.int .u64 (k : Int)] 22 (0, 0))) (hx : w.heap[X]? = some (pto n (.pointer (some ⟨Q, 0, none⟩)))) (b : Ba w Q xs) (hk : k < 65536) (hv : ¬ (k : Int) ∈ xs) (few : xs.length + 1 ≤ 100) (hz : zs.Pairwise (· < ·)) (hm : ∀ y, y ∈ zs ↔ y ∈ xs ∨ y = (k : Int)) :
    Calls Tryz.prog 36 #[.pointer (some ⟨cx, 0, none⟩), .pointer (some ⟨ck, 0, none⟩)] w fun e w' => e = .returned (.tuple #[]) ∧ Bd w' Q zs (fun j => j < w.heap.size) ∧ ButS w w' (· = Q) := by
  obtain ⟨vq, hq⟩ := b.row
  have HA := Lib.hid (fun m => ba_Add (w.drewN m) Q xs (b.below (below_dr (Below.refl _ w) m)) k (by omega) hv (by omega))
  have hS1 : Hid (w.drew.cell? ⟨cx, 0, none⟩ = some (.pointer (some ⟨X, 0, none⟩)) ∧ w.drew.cell? ⟨X, 2, none⟩ = some (.pointer (some ⟨Q, 0, none⟩)) ∧ w.drew.cell? ⟨ck, 0, none⟩ = some (.int .u64 (k : Int))) := Lib.hid ⟨cell_of_row w _ 0 _ _ (0, 0) hcx, cell_of_row w _ 2 _ _ (0, 0) hx, cell_of_row w _ 0 _ _ (0, 0) hck⟩
  have HF : Hid (∀ w', ButS w w' (· = Q) → w'.cell? ⟨cx, 0, none⟩ = some (.pointer (some ⟨X, 0, none⟩)) ∧ w'.cell? ⟨X, 2, none⟩ = some (.pointer (some ⟨Q, 0, none⟩)) ∧ w'.cell? ⟨ck, 0, none⟩ = some (.int .u64 (k : Int))) := Lib.hid (fun w' hb =>
    ⟨(hb.cell (row_lt hcx) (row_ne hcx hq (by decide)) 0).trans (cell_of_row w _ 0 _ _ (0, 0) hcx), (hb.cell (row_lt hx) (row_ne hx hq (by decide)) 2).trans (cell_of_row w _ 2 _ _ (0, 0) hx), (hb.cell (row_lt hck) (row_ne hck hq (by decide)) 0).trans (cell_of_row w _ 0 _ _ (0, 0) hck)⟩)
  have HL := fun W => Lib.hid (lo_any W k hk)
  have HZ := Lib.hid hz
  have HM := Lib.hid hm
  clear hcx hck hx b hq hv hz hm
  go_enter Tryz.func36, Tryz.ntmps36
  go_wp2
  go_region_held3 (fun Y => Y.cell? ⟨cx, 0, none⟩ = some (.pointer (some ⟨X, 0, none⟩)) ∧ Y.cell? ⟨X, 2, none⟩ = some (.pointer (some ⟨Q, 0, none⟩)) ∧ Y.cell? ⟨ck, 0, none⟩ = some (.int .u64 (k : Int))) (first | (with_reducible exact hS1.out) | (with_reducible exact hS2.out) | go_keep) (first
    | (go_at_call 24; (with_reducible refine (HL _).out.mono ?_); rintro e w1 ⟨rfl, rfl⟩)
    | (go_at_call 37; (refine (HA.out _).mono ?_); rintro e w1 ⟨rfl, ys, hb, hy, _, ho⟩
       have ho1 : ButS w w1 (· = Q) := ⟨ho.os, ho.tape, ho.output, ho.size, ho.block⟩
       have hS2 := Lib.hid (HF.out w1 ho1)
       have HB := Lib.hid hb
       have HY := Lib.hid hy
       have HO := Lib.hid ho1
       clear hb hy ho ho1))
  all_goals
    go_end0
    have e : ys = zs := up_same ys zs HB.out.up HZ.out (fun y => (HY.out y).trans (HM.out y).symm)
    subst e
    exact ⟨rfl, HB.out, HO.out⟩
set_option maxHeartbeats 8000000 in
theorem change_new (w : World) (P G X Q cx ck k : Nat) (h : R0 w P G) (hcx : w.heap[cx]? = some (.cells #[.pointer (some ⟨X, 0, none⟩)] 46 (0, 0))) (hck : w.heap[ck]? = some (.cells #[.int .u64 (k : Int)] 22 (0, 0))) (hx : w.heap[X]? = some (pto 0 (.pointer (some ⟨Q, 0, none⟩)))) (b : Ba w Q []) (hk : k < 65536) :
    Calls Tryz.prog 35 #[.pointer (some ⟨P, 0, none⟩), plv 0 0, .pointer (some ⟨X, 0, none⟩), .int .i64 1, .func (.func 36) #[] #[.pointer (some ⟨cx, 0, none⟩), .pointer (some ⟨ck, 0, none⟩)]] w fun e w' => e = .returned (.tuple #[]) ∧ ∃ B L c, R1 w' P G B L X Q c [(k : Int)] ∧ ButS w w' (fun j => j = P ∨ j = X ∨ j = Q) ∧ w.heap.size ≤ B := by
  obtain ⟨gr, gc, gs, gt, gp, hg⟩ := h.m
  obtain ⟨vq, hq⟩ := b.row
  have nXP := row_ne hx h.p (by decide)
  have nPX := Ne.symm nXP
  have nPz : P ≠ w.heap.size := Nat.ne_of_lt (row_lt h.p)
  have nzP := Ne.symm nPz
  have nXz : X ≠ w.heap.size := Nat.ne_of_lt (row_lt hx)
  have nzX := Ne.symm nXz
  have y := al_keep h.p (plo 0 0)
  have yx := al_keep hx (plo 0 0)
  have k4 : (w.alloc (plo 0 0)).cell? ⟨P, 4, none⟩ = some (.int .i64 0) := cell_of_row _ _ 4 _ _ (0, 0) y
  have k3 : (w.alloc (plo 0 0)).cell? ⟨P, 3, none⟩ = some (.int .i64 0) := cell_of_row _ _ 3 _ _ (0, 0) y
  have kx : (w.alloc (plo 0 0)).cell? ⟨X, 1, none⟩ = some (.int .i64 0) := cell_of_row _ _ 1 _ _ (0, 0) yx
  have f4 := frozen_of_row _ _ 4 _ _ y
  have f3 := frozen_of_row _ _ 3 _ _ y
  have fx := frozen_of_row _ _ 1 _ _ yx
  have HMO := fun m => Lib.hid (more_zero ((w.alloc (plo 0 0)).drewN m) X _ yx)
  have HH := Lib.hid h
  have HCX := Lib.hid hcx
  have HCK := Lib.hid hck
  have HX := Lib.hid hx
  have HQ := Lib.hid hq
  have HBA := Lib.hid b
  have HG := Lib.hid hg
  clear h hcx hck hx b hg y yx hq
  go_enter Tryz.func35, Tryz.ntmps35
  go_wp2
  go_region_law (first
    | (go_simp; go_at_call 34; (refine (HMO _).out.mono ?_); rintro e w3 ⟨rfl, rfl⟩))
  all_goals
    obtain ⟨WA, hWA⟩ : ∃ WA, WA = ((w.alloc (plo 0 0)).drewN 1).setCell ⟨P, 4, none⟩ (.int .i64 2) := ⟨_, rfl⟩
    rw [show ((w.alloc (plo 0 0)).drewN 1).setCell ⟨P, 4, none⟩ (.int .i64 (IntKind.i64.wrap 2)) = WA from hWA.symm]
    have sA : ButS (w.alloc (plo 0 0)) WA (· = P) := by rw [hWA]; exact ((but_set' (w.alloc (plo 0 0)) P 4 _ (· = P) rfl).drewN 1)
    have pA : WA.heap[P]? = some (ro G (.slice none 0 0) 0 0 2) := by
      rw [hWA]
      have := row_set (w := (w.alloc (plo 0 0)).drewN 1) (al_keep HH.out.p (plo 0 0)) 4 (.int .i64 2)
      simpa using this
    have xA : WA.heap[X]? = some (pto 0 (.pointer (some ⟨Q, 0, none⟩))) := (sA.block _ (row_lt (al_keep HX.out _)) nXP).trans (al_keep HX.out _)
    have j3 : WA.cell? ⟨P, 3, none⟩ = some (.int .i64 0) := cell_of_row _ _ 3 _ _ (0, 0) pA
    have jx : WA.cell? ⟨X, 1, none⟩ = some (.int .i64 0) := cell_of_row _ _ 1 _ _ (0, 0) xA
    have d3 := frozen_of_row _ _ 3 _ _ pA
    have dx := frozen_of_row _ _ 1 _ _ xA
    have SA := Lib.hid sA
    have PA := Lib.hid pA
    have XA := Lib.hid xA
    clear hWA sA pA xA k4 k3 kx f4 f3 fx
    go_wp2
    obtain ⟨W1, hW1⟩ : ∃ W1, W1 = (WA.setCell ⟨P, 3, none⟩ (.int .i64 1)).setCell ⟨X, 1, none⟩ (.int .i64 1) := ⟨_, rfl⟩
    rw [show (WA.setCell ⟨P, 3, none⟩ (.int .i64 1)).setCell ⟨X, 1, none⟩ (.int .i64 1) = W1 from hW1.symm]
    have sB : ButS WA W1 (fun j => j = P ∨ j = X) := by rw [hW1]; exact (but_set' WA P 3 _ _ (.inl rfl)).trans (but_set' _ X 1 _ _ (.inr rfl))
    have pB : W1.heap[P]? = some (ro G (.slice none 0 0) 0 1 2) := by
      rw [hW1]
      have := row_set PA.out 3 (.int .i64 1)
      have := (but_set' (WA.setCell ⟨P, 3, none⟩ (.int .i64 1)) X 1 (.int .i64 1) (· = X) rfl).block P (row_lt this) nPX |>.trans this
      simpa using this
    have xB : W1.heap[X]? = some (pto 1 (.pointer (some ⟨Q, 0, none⟩))) := by
      rw [hW1]
      have h1 := ((but_set' WA P 3 (.int .i64 1) (· = P) rfl).block X (row_lt XA.out) nXP).trans XA.out
      have := row_set h1 1 (.int .i64 1)
      simpa using this
    have sW : ButS w W1 (fun j => j = P ∨ j = X) := ((but_alloc' w (plo 0 0) _).trans (SA.out.mono (fun _ _ h => .inl h))).trans sB
    have ne2 : ∀ {g : Nat} {cs : Array Value} {T : TypeId}, w.heap[g]? = some (.cells cs T (0, 0)) → T ≠ 43 → T ≠ 54 → ¬ (g = P ∨ g = X) := fun h h1 h2 e => e.elim (row_ne h HH.out.p h1) (row_ne h HX.out h2)
    have gB := (sW.block _ (row_lt HG.out) (ne2 HG.out (by decide) (by decide))).trans HG.out
    have cxB := (sW.block _ (row_lt HCX.out) (ne2 HCX.out (by decide) (by decide))).trans HCX.out
    have ckB := (sW.block _ (row_lt HCK.out) (ne2 HCK.out (by decide) (by decide))).trans HCK.out
    have bB := HBA.out.far sW (ne2 HQ.out (by decide) (by decide))
    have zB : W1.heap[w.heap.size]? = some (plo 0 0) := (sB.block _ (by have := SA.out.size; simp at this; omega) (fun e => e.elim nzP nzX)).trans ((SA.out.block _ (by simp) nzP).trans (alloc_top w _))
    have HI := fun m => Lib.hid (ins_none (W1.drewN m) P G X 1 2 1 (.pointer (some ⟨Q, 0, none⟩)) pB xB (by decide))
    have hS1 : Hid (W1.drew.cell? ⟨w.heap.size, 0, none⟩ = some (.int .i64 0) ∧ W1.drew.cell? ⟨w.heap.size, 1, none⟩ = some (.int .i64 0)) := Lib.hid ⟨cell_of_row W1 _ 0 _ _ (0, 0) zB, cell_of_row W1 _ 1 _ _ (0, 0) zB⟩
    have SW := Lib.hid sW
    have PB := Lib.hid pB
    have XB := Lib.hid xB
    have GB := Lib.hid gB
    have CXB := Lib.hid cxB
    have CKB := Lib.hid ckB
    have BB := Lib.hid bB
    have ZB := Lib.hid zB
    clear hW1 sB pB xB gB cxB ckB bB zB sW ne2 j3 jx d3 dx
    go_region_held3 (fun Y => Y.cell? ⟨w.heap.size, 0, none⟩ = some (.int .i64 0) ∧ Y.cell? ⟨w.heap.size, 1, none⟩ = some (.int .i64 0)) (first | (with_reducible exact hS1.out) | (with_reducible exact hS2.out) | go_keep) (first
      | (go_at_call 48; (refine (HI _).out.mono ?_); rintro e w2 ⟨rfl, B, L, c, hp, hb, hl, hs, hlB⟩
         have hs1 : ButS W1 w2 (· = P) := ⟨hs.os, hs.tape, hs.output, hs.size, hs.block⟩
         have z2 := (hs1.block _ (row_lt ZB.out) (row_ne ZB.out PB.out (by decide))).trans ZB.out
         have hS2 : Hid (w2.cell? ⟨w.heap.size, 0, none⟩ = some (.int .i64 0) ∧ w2.cell? ⟨w.heap.size, 1, none⟩ = some (.int .i64 0)) := Lib.hid ⟨cell_of_row w2 _ 0 _ _ (0, 0) z2, cell_of_row w2 _ 1 _ _ (0, 0) z2⟩
         have LEB : Hid (W1.heap.size ≤ B) := Lib.hid hlB
         have P2 := Lib.hid hp
         have B2 := Lib.hid hb
         have L2 := Lib.hid hl
         have S2 := Lib.hid hs1
         clear hp hb hl hs hs1 z2 hlB))
    have x2 := (S2.out.block _ (row_lt XB.out) nXP).trans XB.out
    have ne3 : ∀ {g : Nat} {cs : Array Value} {T : TypeId}, W1.heap[g]? = some (.cells cs T (0, 0)) → T ≠ 43 → ¬ (g = P) := fun h h1 => row_ne h PB.out h1
    have cx2 := (S2.out.block _ (row_lt CXB.out) (ne3 CXB.out (by decide))).trans CXB.out
    have ck2 := (S2.out.block _ (row_lt CKB.out) (ne3 CKB.out (by decide))).trans CKB.out
    have g2 := (S2.out.block _ (row_lt GB.out) (ne3 GB.out (by decide))).trans GB.out
    obtain ⟨vb, hbr⟩ := BB.out.row
    have b2 := BB.out.far S2.out (ne3 hbr (by decide))
    have xk : w2.cell? ⟨X, 1, none⟩ = some (.int .i64 1) := cell_of_row _ _ 1 _ _ (0, 0) x2
    have HAD := Lib.hid (add_clo w2 cx ck X Q k 1 [] [(k : Int)] cx2 ck2 x2 b2 hk (by simp) (by simp) (by simp) (by simp))
    have X2 := Lib.hid x2
    have G2 := Lib.hid g2
    have Q2 := Lib.hid b2
    clear x2 ne3 cx2 ck2 g2 b2 hbr
    go_wp2_with (first
      | (go_at_call 36; (with_reducible refine HAD.out.mono ?_); rintro e w3 ⟨rfl, hb3, hs3⟩; have HB3 := Lib.hid hb3; have HS3 := Lib.hid hs3; clear hb3 hs3))
    obtain ⟨v2, hq2⟩ := Q2.out.row
    have ne4 : ∀ {g : Nat} {cs : Array Value} {T : TypeId}, w2.heap[g]? = some (.cells cs T (0, 0)) → T ≠ 88 → ¬ (g = Q) := fun h h1 => row_ne h hq2 h1
    obtain ⟨cs, hb1, hb2, hb3⟩ := B2.out
    go_end0
    refine ⟨rfl, B, L, c, ⟨(HS3.out.block _ (row_lt P2.out) (ne4 P2.out (by decide))).trans P2.out, ⟨gr, gc, gs, gt, gp, (HS3.out.block _ (row_lt G2.out) (ne4 G2.out (by decide))).trans G2.out⟩, ⟨cs, (HS3.out.block _ (row_lt hb1) (ne4 hb1 (by decide))).trans hb1, hb2, hb3⟩, (HS3.out.block _ (row_lt L2.out) (ne4 L2.out (by decide))).trans L2.out, (HS3.out.block _ (row_lt X2.out) (ne4 X2.out (by decide))).trans X2.out, HB3.out.mono (fun j e => ?_), by simp⟩, ((SW.out.mono (fun _ _ h => h.elim .inl (fun h => .inr (.inl h)))).trans (S2.out.mono (fun _ _ h => .inl h))).trans (HS3.out.mono (fun _ _ h => .inr (.inr h))), Nat.le_trans SW.out.size LEB.out⟩
    rcases e with rfl | rfl | rfl | rfl
    · exact row_lt P2.out
    · exact row_lt G2.out
    · exact row_lt hb1
    · exact row_lt X2.out
end Go.Proofs.YtlinoambdlkfjaaGreat
