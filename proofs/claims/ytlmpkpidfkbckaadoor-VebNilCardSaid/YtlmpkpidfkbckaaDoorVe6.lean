
/- Next and Prev between two keys; a new tree; a nil one; the texts walked. -/
import Derived.Test.YtlmpkpidfkbckaaDoorVe5
namespace Go.Proofs.YtlmpkpidfkbckaaDoor
set_option maxRecDepth 40000
open Go.RowKit
set_option maxHeartbeats 4000000 in
theorem near_next (w : World) (P a c k b : Nat) (keys o0 : Int) (h1 : a < k) (h2 : k < c) (h : VX w P [(nd0 a c, true)] keys o0 b) : Calls Tryd.prog 20 #[.pointer (some ⟨P, 0, none⟩), .int .u64 (k : Int), .bool true] w fun e w' => e = .returned (.tuple #[.int .u64 (c : Int), .bool true]) ∧ VX w' P [(nd0 a c, true)] keys o0 b ∧ Below b w w' := by
  obtain ⟨N, G, T, An, cn, Af, cf, tk, htk, hv⟩ := h
  have c0 : w.cell? ⟨P, 0, none⟩ = some (.pointer (some ⟨G, 0, none⟩)) := hv.c 0
  have HST := Lib.hid (v_start hv)
  have HEN := fun W => Lib.hid (end_up W a c)
  have HPA := fun W => Lib.hid (past_up W k c false (decide_eq_false (by omega)))
  have HBE := fun W => Lib.hid (beside_up W P a c k h1 h2)
  clear hv h1 h2
  go_enter Tryd.func20, Tryd.ntmps20
  go_wp2_with (first
    | (go_at_call 24; (with_reducible refine HST.out.mono ?_); rintro e w1 ⟨rfl, h1, b1⟩
       have d3 : w1.cell? ⟨P, 3, none⟩ = some (.int .i64 0) := h1.c 3
       have HAT := Lib.hid (at_yes a c h1 (by decide))
       have B1 := Lib.hid b1
       clear h1 b1)
    | (go_at_call 32; (with_reducible refine HAT.out.mono ?_); rintro e w2 ⟨rfl, h2, b2⟩
       have hb := (Below.refl _ w2).alloc (Nat.le_refl _) (spo a c)
       have H3 := Lib.hid (h2.below hb)
       have B3 := Lib.hid ((B1.out.trans b2).trans (h2.low hb))
       have Z3 := Lib.hid (K.alloc_top w2 (spo a c))
       clear h2 b2 hb)
    | (go_at_call 34; (with_reducible refine (HEN _).out.mono ?_); rintro e w4 ⟨rfl, hb4⟩
       have z4 := (hb4.block _ (row_lt Z3.out)).trans Z3.out
       have k0 := cell_of_row _ _ 0 _ _ (0, 0) z4
       have k1 := cell_of_row _ _ 1 _ _ (0, 0) z4
       have k2 := cell_of_row _ _ 2 _ _ (0, 0) z4
       have k3 := cell_of_row _ _ 3 _ _ (0, 0) z4
       have k4 := cell_of_row _ _ 4 _ _ (0, 0) z4
       have k5 := cell_of_row _ _ 5 _ _ (0, 0) z4
       simp at k0 k1 k2 k3 k4 k5
       have H4 := Lib.hid (H3.out.below hb4)
       have B4 := Lib.hid (B3.out.trans (H3.out.low hb4))
       clear hb4 z4)
    | (go_at_call 33; (with_reducible refine (HPA _).out.mono ?_); rintro e w5 ⟨rfl, rfl⟩)
    | (go_at_call 35; (with_reducible refine (HBE _).out.mono ?_); rintro e w6 ⟨rfl, hb6⟩
       have H6 := Lib.hid (H4.out.below hb6)
       have B6 := Lib.hid (B4.out.trans (H4.out.low hb6))
       clear hb6))
  go_ret2
  exact ⟨rfl, ⟨N, G, T, An, cn, Af, cf, 0 + 1, by decide, H6.out⟩, B6.out⟩
theorem next_some (w : World) (P a c k b : Nat) (keys o0 : Int) (h1 : a < k) (h2 : k < c) (h : VX w P [(nd0 a c, true)] keys o0 b) : Calls Tryd.prog 6 #[.pointer (some ⟨P, 0, none⟩), .int .u64 (k : Int)] w fun e w' => e = .returned (.tuple #[.int .u64 (c : Int), .bool true]) ∧ VX w' P [(nd0 a c, true)] keys o0 b ∧ Below b w w' := by
  have HN := Lib.hid (near_next w P a c k b keys o0 h1 h2 h)
  clear h
  go_enter Tryd.func6, Tryd.ntmps6
  go_wp2_with (go_at_call 20; (with_reducible refine HN.out.mono ?_); rintro e w1 ⟨rfl, h1, b1⟩; have H1 := Lib.hid (And.intro h1 b1); clear h1 b1)
  go_ret2
  exact ⟨rfl, H1.out⟩
set_option maxHeartbeats 4000000 in
theorem near_prev (w : World) (P a c k b : Nat) (keys o0 : Int) (h1 : a < k) (h2 : k < c) (h : VX w P [(nd0 a c, true)] keys o0 b) : Calls Tryd.prog 20 #[.pointer (some ⟨P, 0, none⟩), .int .u64 (k : Int), .bool false] w fun e w' => e = .returned (.tuple #[.int .u64 (a : Int), .bool true]) ∧ VX w' P [(nd0 a c, true)] keys o0 b ∧ Below b w w' := by
  obtain ⟨N, G, T, An, cn, Af, cf, tk, htk, hv⟩ := h
  have c0 : w.cell? ⟨P, 0, none⟩ = some (.pointer (some ⟨G, 0, none⟩)) := hv.c 0
  have HST := Lib.hid (v_start hv)
  have HEN := fun W => Lib.hid (end_down W a c)
  have HPA := fun W => Lib.hid (past_down W k a false (decide_eq_false (by omega)))
  have HBE := fun W => Lib.hid (beside_down W P a c k h1 h2)
  clear hv h1 h2
  go_enter Tryd.func20, Tryd.ntmps20
  go_wp2_with (first
    | (go_at_call 24; (with_reducible refine HST.out.mono ?_); rintro e w1 ⟨rfl, h1, b1⟩
       have d3 : w1.cell? ⟨P, 3, none⟩ = some (.int .i64 0) := h1.c 3
       have HAT := Lib.hid (at_yes a c h1 (by decide))
       have B1 := Lib.hid b1
       clear h1 b1)
    | (go_at_call 32; (with_reducible refine HAT.out.mono ?_); rintro e w2 ⟨rfl, h2, b2⟩
       have hb := (Below.refl _ w2).alloc (Nat.le_refl _) (spo a c)
       have H3 := Lib.hid (h2.below hb)
       have B3 := Lib.hid ((B1.out.trans b2).trans (h2.low hb))
       have Z3 := Lib.hid (K.alloc_top w2 (spo a c))
       clear h2 b2 hb)
    | (go_at_call 34; (with_reducible refine (HEN _).out.mono ?_); rintro e w4 ⟨rfl, hb4⟩
       have z4 := (hb4.block _ (row_lt Z3.out)).trans Z3.out
       have k0 := cell_of_row _ _ 0 _ _ (0, 0) z4
       have k1 := cell_of_row _ _ 1 _ _ (0, 0) z4
       have k2 := cell_of_row _ _ 2 _ _ (0, 0) z4
       have k3 := cell_of_row _ _ 3 _ _ (0, 0) z4
       have k4 := cell_of_row _ _ 4 _ _ (0, 0) z4
       have k5 := cell_of_row _ _ 5 _ _ (0, 0) z4
       simp at k0 k1 k2 k3 k4 k5
       have H4 := Lib.hid (H3.out.below hb4)
       have B4 := Lib.hid (B3.out.trans (H3.out.low hb4))
       clear hb4 z4)
    | (go_at_call 33; (with_reducible refine (HPA _).out.mono ?_); rintro e w5 ⟨rfl, rfl⟩)
    | (go_at_call 35; (with_reducible refine (HBE _).out.mono ?_); rintro e w6 ⟨rfl, hb6⟩
       have H6 := Lib.hid (H4.out.below hb6)
       have B6 := Lib.hid (B4.out.trans (H4.out.low hb6))
       clear hb6))
  go_ret2
  exact ⟨rfl, ⟨N, G, T, An, cn, Af, cf, 0 + 1, by decide, H6.out⟩, B6.out⟩
theorem prev_some (w : World) (P a c k b : Nat) (keys o0 : Int) (h1 : a < k) (h2 : k < c) (h : VX w P [(nd0 a c, true)] keys o0 b) : Calls Tryd.prog 7 #[.pointer (some ⟨P, 0, none⟩), .int .u64 (k : Int)] w fun e w' => e = .returned (.tuple #[.int .u64 (a : Int), .bool true]) ∧ VX w' P [(nd0 a c, true)] keys o0 b ∧ Below b w w' := by
  have HN := Lib.hid (near_prev w P a c k b keys o0 h1 h2 h)
  clear h
  go_enter Tryd.func7, Tryd.ntmps7
  go_wp2_with (go_at_call 20; (with_reducible refine HN.out.mono ?_); rintro e w1 ⟨rfl, h1, b1⟩; have H1 := Lib.hid (And.intro h1 b1); clear h1 b1)
  go_ret2
  exact ⟨rfl, H1.out⟩
theorem p_new (w : World) (lim : Nat) (hlim : lim ≤ 1048576) :
    Calls Tryd.prog 18 #[.pointer none, .int .i64 (lim : Int)] w fun e w' => ∃ Q m0, e = .returned (.tuple #[.pointer (some ⟨Q, 0, none⟩), .int .i64 0]) ∧ Qo w' Q m0 lim none 0 none 0 [] [] ∧ Mx w' m0 0 ∧ w.heap.size ≤ Q ∧ w.heap.size ≤ m0 ∧ Below w.heap.size w w' := by
  have g0 : decide ((lim : Int) < 0) = false := decide_eq_false (by omega)
  have g1 : decide (1048576 < (lim : Int)) = false := decide_eq_false (by omega)
  have g2 : decide (1048576 < lim) = false := decide_eq_false (by omega)
  go_enter Tryd.func18, Tryd.ntmps18
  go_wp2_with (go_at_call 31; (with_reducible refine (x_new _).mono ?_); rintro e w1 ⟨rfl, hm, hb1⟩; have hmH := Lib.hid hm; clear hm; have hbH := Lib.hid hb1; clear hb1)
  go_ret2
  have hlt := hmH.out.lt
  have hs := hbH.out.size
  refine ⟨_, _, rfl, ⟨K.alloc_top _ _, World.ownsRow_nil _ _ _ _, World.ownsRow_nil _ _ _ _, by simp, by simp, hlim, by simp, by simp⟩, hmH.out.chg (chg_alloc _ _ (fun _ => False)) (fun h => h), hs, Nat.le_refl _, hbH.out.alloc hs _⟩
theorem p_new_no (w : World) (n : Int) (hn : ¬ (0 ≤ n ∧ n ≤ 1048576)) :
    Calls Tryd.prog 18 #[.pointer none, .int .i64 n] w fun e w' => e = .returned (.tuple #[.pointer none, .int .i64 1]) ∧ w = w' := by
  by_cases h0 : n < 0
  · have g0 : decide (n < 0) = true := decide_eq_true h0
    clear hn
    go_enter Tryd.func18, Tryd.ntmps18
    go_wp2
    go_ret2
    exact ⟨rfl, rfl⟩
  · have g0 : decide (n < 0) = false := decide_eq_false h0
    have g1 : decide (1048576 < n) = true := decide_eq_true (by omega)
    clear hn
    go_enter Tryd.func18, Tryd.ntmps18
    go_wp2
    go_ret2
    exact ⟨rfl, rfl⟩
theorem mk_eight : ∃ E : Array Value, ∀ w : World, (Instr.makeSlice 62 (.int .i64 8) (.int .i64 8)).run Tryd.prog w = .ok (.slice (some ⟨w.heap.size, 0, none⟩) 8 8) (w.alloc (.cells E 114)) := by
  obtain ⟨ti, hi, hb, hz⟩ : ∃ ti, Tryd.prog.info? 114 = some ti ∧ ti.bytes = 32 ∧ ti.zero = some (.agg #[.int .u8 0, .int .u64 0, .int .u64 0, .bool false]) := ⟨_, rfl, rfl, rfl⟩
  exact ⟨_, fun w => run_make (P := Tryd.prog) w 62 114 ti _ (by kernel_rfl) hi hz .i64 .i64 8 8 (by decide) (by decide) (by rw [hb]; decide) (by decide)⟩
theorem h_new (w : World) (s : Nat) : Calls Tryd.prog 19 #[.pointer none, .int .u64 (s : Int)] w fun e w' => ∃ T, e = .returned (.pointer (some ⟨T, 0, none⟩)) ∧ Below w.heap.size w w' := by
  obtain ⟨E, hmk⟩ := mk_eight
  have HC := Lib.hid (x_new w)
  go_enter Tryd.func19, Tryd.ntmps19
  go_wp2_with (go_at_call 31; (with_reducible refine HC.out.mono ?_); rintro e w1 ⟨rfl, hm, hb1⟩; have HB := Lib.hid hb1; clear hb1 hm)
  go_ret
  exact ⟨_, rfl, below_al (below_al HB.out (Nat.le_refl _) _) (Nat.le_refl _) _⟩
set_option maxHeartbeats 4000000 in
theorem new_yes (w : World) (s lim : Nat) (hlim : lim ≤ 1048576) : Calls Tryd.prog 5 #[.int .u64 (s : Int), .int .i64 (lim : Int)] w fun e w' => ∃ P, e = .returned (.tuple #[.pointer (some ⟨P, 0, none⟩), .int .i64 0]) ∧ (lim = 4000 → VX w' P [] 0 0 w.heap.size) ∧ Below w.heap.size w w' := by
  have HP := Lib.hid (p_new w lim hlim)
  have HH := fun W => Lib.hid (h_new W s)
  go_enter Tryd.func5, Tryd.ntmps5
  go_wp2_with (first
    | (go_at_call 18; (with_reducible refine HP.out.mono ?_); rintro e w1 ⟨N, G, rfl, hq, hm, lN, lG, hb⟩
       have hS1 : Hid (w1.drew.cell? ⟨N, 0, none⟩ = some (.pointer (some ⟨G, 0, none⟩))) := Lib.hid hq.c0
       have HQ := Lib.hid hq
       have HM := Lib.hid hm
       have LN := Lib.hid lN
       have LG := Lib.hid lG
       have HB := Lib.hid hb
       clear hq hm lN lG hb))
  go_region_held3 (fun Y => Y.cell? ⟨N, 0, none⟩ = some (.pointer (some ⟨G, 0, none⟩))) (first | (exact hS1.out) | (with_reducible exact hS2.out) | (with_reducible exact hS3.out _)) (first
    | (go_at_call 19; (with_reducible refine (HH _).out.mono ?_); rintro e w2 ⟨T, rfl, hb2⟩
       have b2 : Below w1.heap.size w1 w2 := by first | exact below_ud hb2 | exact hb2
       have q2 := HQ.out.chg (K.Chg.of_below (O := fun _ => False) b2) (fun _ _ h => h)
       have hS2 : Hid (w2.cell? ⟨N, 0, none⟩ = some (.pointer (some ⟨G, 0, none⟩))) := Lib.hid q2.c0
       have hS3 : Hid (∀ o, (w2.alloc o).cell? ⟨N, 0, none⟩ = some (.pointer (some ⟨G, 0, none⟩))) := Lib.hid (fun o => cell_of_row _ _ 0 _ _ (0, 0) (al_keep q2.row o))
       have Q2 := Lib.hid q2
       have B2 := Lib.hid b2
       clear hb2 b2 q2))
  all_goals
    go_wp2
    go_ret2
    have hc := chg_alloc w2 (veo G N T 0 0) (fun _ => False)
    have hm2 := (HM.out.chg (K.Chg.of_below (O := fun _ => False) B2.out) (fun h => h)).chg hc (fun h => h)
    have hq2 := Q2.out.chg hc (fun _ _ h => h)
    have hb := HB.out.trans (B2.out.mono HB.out.size)
    refine ⟨_, rfl, fun e => ?_, below_al hb (Nat.le_refl _) _⟩
    subst e
    refine ⟨N, G, T, none, 0, none, 0, 0, by decide, ⟨K.alloc_top _ _, hq2, hm2, hb.size, LG.out, fun j hj => ?_, Nat.le_trans hb.size hc.size⟩⟩
    rcases hj with rfl | hj | hj
    · exact LN.out
    · cases hj
    · cases hj
theorem new_no (w : World) (s : Nat) (n : Int) (hn : ¬ (0 ≤ n ∧ n ≤ 1048576)) : Calls Tryd.prog 5 #[.int .u64 (s : Int), .int .i64 n] w fun e w' => e = .returned (.tuple #[.pointer none, .int .i64 1]) ∧ w = w' := by
  have HP := Lib.hid (p_new_no w n hn)
  clear hn
  go_enter Tryd.func5, Tryd.ntmps5
  go_wp2_with (go_at_call 18; (with_reducible refine HP.out.mono ?_); rintro e w1 ⟨rfl, rfl⟩)
  go_ret2
  exact ⟨rfl, rfl⟩
end Go.Proofs.YtlmpkpidfkbckaaDoor
