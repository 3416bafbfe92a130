
/- A further key is put in: count, the change; the texts walked. -/
import Derived.Test.YtlinoambdlkfjaaGreatRo9
namespace Go.Proofs.YtlinoambdlkfjaaGreat
open Go.RowKit
set_option maxHeartbeats 8000000 in
theorem count_one (w : World) (P B c : Nat) (n : Nat) (ps cs : Array Value) (T : TypeId) (A : Option Addr) (hp : w.heap[P]? = some (.cells ps T (0, 0))) (h1 : ps[1]? = some (.slice (some ⟨B, 0, none⟩) 1 c)) (hb : w.heap[B]? = some (.cells cs 80 (0, 0))) (h2 : cs[0]? = some (.slice A 1 1)) (h3 : cs[1]? = some (.int .i64 n)) (hn : n ≤ 100) :
    Calls Tryz.prog 49 #[.pointer (some ⟨P, 1, none⟩), plv 0 0, .int .i64 1] w fun e w' => e = .returned (.tuple #[]) ∧ (∃ cs', w'.heap[B]? = some (.cells cs' 80 (0, 0)) ∧ cs'[0]? = some (.slice A 1 1) ∧ cs'[1]? = some (.int .i64 ((n : Int) + 1))) ∧ ButS w w' (· = B) := by
  have k1 : (w.alloc (plo 0 0)).cell? ⟨P, 1, none⟩ = some (.slice (some ⟨B, 0, none⟩) 1 c) := (cell_of_row _ _ 1 _ _ (0, 0) (al_keep hp (plo 0 0))).trans h1
  have k2 : (w.alloc (plo 0 0)).cell? ⟨B, 1, none⟩ = some (.int .i64 n) := (cell_of_row _ _ 1 _ _ (0, 0) (al_keep hb (plo 0 0))).trans h3
  have f2 := frozen_of_row _ _ 1 _ _ (al_keep hb (plo 0 0))
  have e1 : IntKind.i64.wrap ((n : Int) + 1) = (n : Int) + 1 := IntWalk.i64_in _ (by omega)
  have i2 : (0 : Int) < 1 := by decide
  have i3 : (0 : Int) < ((1 : Nat) : Int) := by decide
  have e2 : IntKind.i64.wrap 0 = 0 := by decide
  have HB := Lib.hid (al_keep hb (plo 0 0))
  have H2 := Lib.hid h2
  have H3 := Lib.hid h3
  clear hp h1 hb h2 h3
  go_enter Tryz.func49, Tryz.ntmps49
  go_wp2
  go_region
  all_goals
    go_end0
    have hr := row_set HB.out 1 (.int .i64 ((n : Int) + 1))
    have hlt : 1 < cs.size := (Array.getElem?_eq_some_iff.1 H3.out).1
    have hs := (but_alloc' w (plo 0 0) (· = B)).trans (but_set' (w.alloc (plo 0 0)) B 1 (.int .i64 ((n : Int) + 1)) (· = B) rfl)
    refine ⟨rfl, ⟨_, hr, ?_, ?_⟩, ⟨hs.os, hs.tape, hs.output, hs.size, hs.block⟩⟩
    · rw [Array.getElem?_setIfInBounds_ne (by decide)]; exact H2.out
    · rw [Array.getElem?_setIfInBounds_self_of_lt hlt]
set_option maxHeartbeats 16000000 in
theorem change_more (w : World) (P G B L X Q c cx ck k : Nat) (xs zs : List Int) (h : R1 w P G B L X Q c xs) (hcx : w.heap[cx]? = some (.cells #[.pointer (some ⟨X, 0, none⟩)] 46 (0, 0))) (hck : w.heap[ck]? = some (.cells #[.int .u64 (k : Int)] 22 (0, 0))) (hk : k < 65536) (hv : ¬ (k : Int) ∈ xs) (h0 : 0 < xs.length) (few : xs.length + 1 ≤ 100) (hz : zs.Pairwise (· < ·)) (hm : ∀ y, y ∈ zs ↔ y ∈ xs ∨ y = (k : Int)) (hzl : zs.length = xs.length + 1) :
    Calls Tryz.prog 35 #[.pointer (some ⟨P, 0, none⟩), plv 0 0, .pointer (some ⟨X, 0, none⟩), .int .i64 1, .func (.func 36) #[] #[.pointer (some ⟨cx, 0, none⟩), .pointer (some ⟨ck, 0, none⟩)]] w fun e w' => e = .returned (.tuple #[]) ∧ R1 w' P G B L X Q c zs ∧ ButS w w' (fun j => j = P ∨ j = X ∨ j = B ∨ j = Q) := by
  obtain ⟨gr, gc, gs, gt, gp, hg⟩ := h.m
  obtain ⟨vq, hq⟩ := h.q.row
  obtain ⟨n, hn⟩ : ∃ n, xs.length = n := ⟨_, rfl⟩
  have hW0 := (Below.refl _ w).alloc (Nat.le_refl _) (plo 0 0)
  have h0R := h.below hW0
  have nXP := row_ne h.x h.p (by decide)
  have nPX := Ne.symm nXP
  have nPz : P ≠ w.heap.size := Nat.ne_of_lt (row_lt h.p)
  have nzP := Ne.symm nPz
  have nXz : X ≠ w.heap.size := Nat.ne_of_lt (row_lt h.x)
  have nzX := Ne.symm nXz
  have k4 : (w.alloc (plo 0 0)).cell? ⟨P, 4, none⟩ = some (.int .i64 ((n : Int) + 1)) := by
    have := cell_of_row _ P 4 _ _ (0, 0) h0R.p
    rw [hn] at this
    exact this
  have f4 := frozen_of_row _ _ 4 _ _ h0R.p
  have HMO := fun m => Lib.hid (more_some ((w.alloc (plo 0 0)).drewN m) X Q xs h0R.x (h0R.q.ba.below (below_dr (Below.refl _ _) m)) h0 (by omega))
  have w1 : IntKind.i64.wrap ((n : Int) + 1 + 1) = (n : Int) + 1 + 1 := IntWalk.i64_in _ (by omega)
  have w2 : IntKind.i64.wrap ((n : Int) + 1) = (n : Int) + 1 := IntWalk.i64_in _ (by omega)
  have g1 : ((n : Int) + 1 == 1) = false := by rw [beq_eq_false_iff_ne]; omega
  have g2 : ((n : Int) + 1 == 0) = false := by rw [beq_eq_false_iff_ne]; omega
  have HH := Lib.hid h
  have HCX := Lib.hid hcx
  have HCK := Lib.hid hck
  have HQ := Lib.hid hq
  have HG := Lib.hid hg
  have HN := Lib.hid hn
  have HZ := Lib.hid hz
  have HM := Lib.hid hm
  have HZL := Lib.hid hzl
  have HV := Lib.hid hv
  have H0R := Lib.hid h0R
  clear h hcx hck hg hq hn hz hm hzl hv h0R hW0
  go_enter Tryz.func35, Tryz.ntmps35
  go_wp2
  go_region_law (first
    | (go_simp; go_at_call 34; (refine (HMO _).out.mono ?_); rintro e w3 ⟨rfl, hb3⟩
       have r3 := H0R.out.below (below_ud hb3)
       have k5 : w3.cell? ⟨P, 4, none⟩ = some (.int .i64 ((n : Int) + 1)) := by
         have := cell_of_row _ P 4 _ _ (0, 0) r3.p
         rw [HN.out] at this
         exact this
       have f5 := frozen_of_row _ _ 4 _ _ r3.p
       have HB3 := Lib.hid (below_ud hb3)
       have HR3 := Lib.hid r3
       clear hb3 r3))
  all_goals
    obtain ⟨WA, hWA⟩ : ∃ WA, WA = w3.setCell ⟨P, 4, none⟩ (.int .i64 ((n : Int) + 1 + 1)) := ⟨_, rfl⟩
    rw [show w3.setCell ⟨P, 4, none⟩ (.int .i64 ((n : Int) + 1 + 1)) = WA from hWA.symm]
    have sA : ButS w3 WA (· = P) := by rw [hWA]; exact but_set' w3 P 4 _ (· = P) rfl
    have p3 := HR3.out.p
    have x3 := HR3.out.x
    rw [HN.out] at p3 x3
    have pA : WA.heap[P]? = some (ro G (.slice (some ⟨B, 0, none⟩) 1 c) 1 n ((n : Int) + 1 + 1)) := by
      rw [hWA]
      have := row_set p3 4 (.int .i64 ((n : Int) + 1 + 1))
      simpa using this
    have xA : WA.heap[X]? = some (pto n (.pointer (some ⟨Q, 0, none⟩))) := (sA.block _ (row_lt x3) nXP).trans x3
    have j3 : WA.cell? ⟨P, 3, none⟩ = some (.int .i64 n) := cell_of_row _ _ 3 _ _ (0, 0) pA
    have jx : WA.cell? ⟨X, 1, none⟩ = some (.int .i64 n) := cell_of_row _ _ 1 _ _ (0, 0) xA
    have d3 := frozen_of_row _ _ 3 _ _ pA
    have dx := frozen_of_row _ _ 1 _ _ xA
    have SA := Lib.hid sA
    have PA := Lib.hid pA
    have XA := Lib.hid xA
    clear hWA sA pA xA k4 f4 p3 x3 k5 f5
    go_wp2
    obtain ⟨W1, hW1⟩ : ∃ W1, W1 = (WA.setCell ⟨P, 3, none⟩ (.int .i64 ((n : Int) + 1))).setCell ⟨X, 1, none⟩ (.int .i64 ((n : Int) + 1)) := ⟨_, rfl⟩
    rw [show (WA.setCell ⟨P, 3, none⟩ (.int .i64 ((n : Int) + 1))).setCell ⟨X, 1, none⟩ (.int .i64 ((n : Int) + 1)) = W1 from hW1.symm]
    have sB : ButS WA W1 (fun j => j = P ∨ j = X) := by rw [hW1]; exact (but_set' WA P 3 _ _ (.inl rfl)).trans (but_set' _ X 1 _ _ (.inr rfl))
    have pB : W1.heap[P]? = some (ro G (.slice (some ⟨B, 0, none⟩) 1 c) 1 ((n : Int) + 1) ((n : Int) + 1 + 1)) := by
      rw [hW1]
      have := row_set PA.out 3 (.int .i64 ((n : Int) + 1))
      have := (but_set' (WA.setCell ⟨P, 3, none⟩ (.int .i64 ((n : Int) + 1))) X 1 (.int .i64 ((n : Int) + 1)) (· = X) rfl).block P (row_lt this) nPX |>.trans this
      simpa using this
    have xB : W1.heap[X]? = some (pto ((n : Int) + 1) (.pointer (some ⟨Q, 0, none⟩))) := by
      rw [hW1]
      have h1 := ((but_set' WA P 3 (.int .i64 ((n : Int) + 1)) (· = P) rfl).block X (row_lt XA.out) nXP).trans XA.out
      have := row_set h1 1 (.int .i64 ((n : Int) + 1))
      simpa using this
    have sW : ButS w W1 (fun j => j = P ∨ j = X) := (((but_alloc' w (plo 0 0) _).trans (ButS.of_below HB3.out (Nat.le_refl _))).trans (SA.out.mono (fun _ _ h => .inl h))).trans sB
    have ne2 : ∀ {g : Nat} {cs : Array Value} {T : TypeId}, w.heap[g]? = some (.cells cs T (0, 0)) → T ≠ 43 → T ≠ 54 → ¬ (g = P ∨ g = X) := fun h h1 h2 e => e.elim (row_ne h HH.out.p h1) (row_ne h HH.out.x h2)
    obtain ⟨cs, hb1, hb2, hb3⟩ := HH.out.b
    rw [HN.out] at hb3
    have gB := (sW.block _ (row_lt HG.out) (ne2 HG.out (by decide) (by decide))).trans HG.out
    have cxB := (sW.block _ (row_lt HCX.out) (ne2 HCX.out (by decide) (by decide))).trans HCX.out
    have ckB := (sW.block _ (row_lt HCK.out) (ne2 HCK.out (by decide) (by decide))).trans HCK.out
    have bbB := (sW.block _ (row_lt hb1) (ne2 hb1 (by decide) (by decide))).trans hb1
    have lB := (sW.block _ (row_lt HH.out.l) (ne2 HH.out.l (by decide) (by decide))).trans HH.out.l
    have bB := HH.out.q.but sW (fun j e => e.elim .inl (fun e => .inr (.inr (.inr e)))) (ne2 HQ.out (by decide) (by decide))
    have zB : W1.heap[w.heap.size]? = some (plo 0 0) := (sB.block _ (by have := SA.out.size; have := HB3.out.size; simp at this; omega) (fun e => e.elim nzP nzX)).trans ((SA.out.block _ (by have := HB3.out.size; simp at this; omega) nzP).trans ((HB3.out.block _ (by simp)).trans (alloc_top w _)))
    have HI := fun m => Lib.hid (count_one (W1.drewN m) P B c n _ cs _ _ pB rfl bbB hb2 hb3 (by have := HN.out; omega))
    have hS1 : Hid (W1.drew.cell? ⟨w.heap.size, 0, none⟩ = some (.int .i64 0) ∧ W1.drew.cell? ⟨w.heap.size, 1, none⟩ = some (.int .i64 0)) := Lib.hid ⟨cell_of_row W1 _ 0 _ _ (0, 0) zB, cell_of_row W1 _ 1 _ _ (0, 0) zB⟩
    have SW := Lib.hid sW
    have PB := Lib.hid pB
    have XB := Lib.hid xB
    have GB := Lib.hid gB
    have CXB := Lib.hid cxB
    have CKB := Lib.hid ckB
    have BBB := Lib.hid bbB
    have LB := Lib.hid lB
    have BB := Lib.hid bB
    have ZB := Lib.hid zB
    clear hW1 sB pB xB gB cxB ckB bbB lB bB zB sW ne2 j3 jx d3 dx hb1 hb2 hb3
    go_region_held3 (fun Y => Y.cell? ⟨w.heap.size, 0, none⟩ = some (.int .i64 0) ∧ Y.cell? ⟨w.heap.size, 1, none⟩ = some (.int .i64 0)) (first | (with_reducible exact hS1.out) | (with_reducible exact hS2.out) | go_keep) (first
      | (go_at_call 49; (refine (HI _).out.mono ?_); rintro e w2 ⟨rfl, hb, hs⟩
         have hs1 : ButS W1 w2 (· = B) := ⟨hs.os, hs.tape, hs.output, hs.size, hs.block⟩
         have z2 := (hs1.block _ (row_lt ZB.out) (row_ne ZB.out BBB.out (by decide))).trans ZB.out
         have hS2 : Hid (w2.cell? ⟨w.heap.size, 0, none⟩ = some (.int .i64 0) ∧ w2.cell? ⟨w.heap.size, 1, none⟩ = some (.int .i64 0)) := Lib.hid ⟨cell_of_row w2 _ 0 _ _ (0, 0) z2, cell_of_row w2 _ 1 _ _ (0, 0) z2⟩
         have B2 := Lib.hid hb
         have S2 := Lib.hid hs1
         clear hb hs hs1 z2))
    have ne3 : ∀ {g : Nat} {cs : Array Value} {T : TypeId}, W1.heap[g]? = some (.cells cs T (0, 0)) → T ≠ 80 → ¬ (g = B) := fun h h1 => row_ne h BBB.out h1
    have p2 := (S2.out.block _ (row_lt PB.out) (ne3 PB.out (by decide))).trans PB.out
    have x2 := (S2.out.block _ (row_lt XB.out) (ne3 XB.out (by decide))).trans XB.out
    have cx2 := (S2.out.block _ (row_lt CXB.out) (ne3 CXB.out (by decide))).trans CXB.out
    have ck2 := (S2.out.block _ (row_lt CKB.out) (ne3 CKB.out (by decide))).trans CKB.out
    have g2r := (S2.out.block _ (row_lt GB.out) (ne3 GB.out (by decide))).trans GB.out
    have l2 := (S2.out.block _ (row_lt LB.out) (ne3 LB.out (by decide))).trans LB.out
    obtain ⟨vb, hbr⟩ := BB.out.row
    have b2 := BB.out.but S2.out (fun j e => .inr (.inr (.inl e))) (ne3 hbr (by decide))
    have xk : w2.cell? ⟨X, 1, none⟩ = some (.int .i64 ((n : Int) + 1)) := cell_of_row _ _ 1 _ _ (0, 0) x2
    have HAD := Lib.hid (add_clo w2 cx ck X Q k ((n : Int) + 1) xs zs cx2 ck2 x2 b2.ba hk HV.out few HZ.out HM.out)
    have P2 := Lib.hid p2
    have X2 := Lib.hid x2
    have G2 := Lib.hid g2r
    have L2 := Lib.hid l2
    have Q2 := Lib.hid b2
    clear p2 x2 ne3 cx2 ck2 g2r l2 b2 hbr
    go_wp2_with (first
      | (go_at_call 36; (with_reducible refine HAD.out.mono ?_); rintro e w3 ⟨rfl, hb3, hs3⟩; have HB3 := Lib.hid hb3; have HS3 := Lib.hid hs3; clear hb3 hs3))
    go_end0
    obtain ⟨v2, hq2⟩ := Q2.out.row
    have ne4 : ∀ {g : Nat} {cs : Array Value} {T : TypeId}, w2.heap[g]? = some (.cells cs T (0, 0)) → T ≠ 88 → ¬ (g = Q) := fun h h1 => row_ne h hq2 h1
    obtain ⟨cs, hb1, hb2, hb3⟩ := B2.out
    have ez : ((zs.length : Nat) : Int) = (n : Int) + 1 := by have := HZL.out; have := HN.out; omega
    have fp := (HS3.out.block _ (row_lt P2.out) (ne4 P2.out (by decide))).trans P2.out
    have fx := (HS3.out.block _ (row_lt X2.out) (ne4 X2.out (by decide))).trans X2.out
    rw [← ez] at fp fx hb3
    refine ⟨rfl, ⟨fp, ⟨gr, gc, gs, gt, gp, (HS3.out.block _ (row_lt G2.out) (ne4 G2.out (by decide))).trans G2.out⟩, ⟨cs, (HS3.out.block _ (row_lt hb1) (ne4 hb1 (by decide))).trans hb1, hb2, hb3⟩, (HS3.out.block _ (row_lt L2.out) (ne4 L2.out (by decide))).trans L2.out, fx, HB3.out.mono (fun j e => ?_), by have := HZL.out; omega⟩, ((SW.out.mono (fun _ _ h => h.elim .inl (fun h => .inr (.inl h)))).trans (S2.out.mono (fun _ _ h => .inr (.inr (.inl h))))).trans (HS3.out.mono (fun _ _ h => .inr (.inr (.inr h))))⟩
    rcases e with rfl | rfl | rfl | rfl
    · exact row_lt P2.out
    · exact row_lt G2.out
    · exact row_lt hb1
    · exact row_lt X2.out
end Go.Proofs.YtlinoambdlkfjaaGreat
