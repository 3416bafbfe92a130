
/- The law of pools that there can't be, and of a nil one: it returns true at every input. -/
import Derived.RangeFuncNested
import Derived.RangeFuncBound
import Derived.RangeFuncCalls
import Derived.RangeFuncBox
import Derived.RangeFuncLeaves
import Derived.Shelf.Abstract
import Derived.Shelf.RegionOpen
import Derived.OwnWalkIn
import Derived.TacticsInMore
import Derived.LoopNIn
import Derived.LoopIn
import Derived.Test.YtdpokgkpmdendaaPLaws
namespace Go.Proofs.Ytdpokgkpmdendaa
open Go.RowKit Go.Shelf
attribute [local go_sem] Oper.semAt_some
theorem below_of_drew {w w' : World} (h : ∃ n, w' = w.drewN n) : Below w.heap.size w w' := by
  obtain ⟨n, rfl⟩ := h
  exact ⟨rfl, rfl, rfl, Nat.le_refl _, fun _ _ => rfl⟩
theorem below_drewN' {B : Nat} {a w : World} (h : Below B a w) (n : Nat) : Below B a (w.drewN n) := ⟨h.os, h.tape, h.output, h.size, h.block⟩
theorem all_any (v : Value) (w : World) (hs : ∃ a, v = .pointer a) :
    Calls Try.prog 23 #[v] w fun e w' => e = .returned (.func (.func 29) #[] #[.pointer (some ⟨w.heap.size, 0, none⟩)]) ∧ w' = w.alloc (.cells #[v] 27) := by
  obtain ⟨a, rfl⟩ := hs
  go_enter Try.func23, Try.ntmps23
  go_wp2
  go_ret
  exact ⟨rfl, rfl⟩
theorem p_clear_nil (w : World) : Calls Try.prog 22 #[.pointer none] w fun e w' => e = .returned (.tuple #[]) ∧ w = w' := by
  go_enter Try.func22, Try.ntmps22
  go_wp2
  refine bodyPost_ret (results_none rfl _ _ _) rfl ?_
  exact ⟨rfl, rfl⟩
set_option maxRecDepth 100000 in
set_option maxHeartbeats 1000000 in
theorem all1_nil (n l Bn : Nat) (J Jx : List (Int × Int) → World → Prop) (W : World)
    (hBn : W.cell? ⟨Bn, 0, none⟩ = some (.pointer none)) (h0 : J [] W) :
    CallsIn Fence.wide n Try.prog 29 #[.func (.yield l) #[] #[], .pointer (some ⟨Bn, 0, none⟩)] W fun e W' => (∃ v, e = .returned v) ∧
      ((∃ ys, ys = [] ∧ J ys W') ∨ (∃ pre : List (Int × Int), False ∧ Jx pre W')) := by
  have hJ0 := Lib.hid h0
  clear h0
  refine callsIn_of_wp Try.func29 rfl trivial ?_ rfl
  simp only [Try.ntmps29, List.size_toArray, List.length_cons, List.length_nil, Nat.reduceAdd, Nat.reduceSub, Array.replicate_succ, Array.replicate_zero, List.push_toArray, List.append_toArray, List.nil_append, List.cons_append]
  gi_wp2
  refine bodyPost_ret (results_none rfl _ _ _) rfl ?_
  exact ⟨⟨_, rfl⟩, .inl ⟨_, rfl, hJ0.out⟩⟩
set_option maxRecDepth 100000 in
set_option maxHeartbeats 4000000 in
theorem law_args (n i : Int) (v : Nat) (w : World) :
    Calls Try.prog 5 #[.int .i64 n, .int .i64 i, .int .u64 (v : Int)] w fun e w' => e = .returned (.bool true) ∧ Below w.heap.size w w' := by
  refine (callsIn_wide (n := 5)).1 ?_
  refine callsIn_of_wp_marks Try.func5 rfl trivial ?_ rfl
  simp only [Try.ntmps5, List.size_toArray, List.length_cons, List.length_nil, Nat.reduceAdd, Nat.reduceSub, Array.replicate_succ, Array.replicate_zero, List.push_toArray, List.append_toArray, List.nil_append, List.cons_append]
  refine wpIn_wide.2 ?_
  by_cases hr : 0 ≤ n ∧ n ≤ 1048576
  · obtain ⟨k, rfl⟩ : ∃ k : Nat, n = (k : Int) := ⟨n.toNat, by omega⟩
    have g1 : decide (0 ≤ (k : Int)) = true := decide_eq_true (by omega)
    have g2 : decide ((k : Int) ≤ 1048576) = true := decide_eq_true (by omega)
    have hk : k ≤ 1048576 := by omega
    clear hr
    go_wp2_with (go_at_call 6; (with_reducible refine (awake_any _).mono ?_); rintro e w1 ⟨rfl, hb1⟩; have hB1 := Lib.hid hb1; clear hb1)
    go_wp2_with (go_at_call 9; (with_reducible refine (p_new_nil _ w1.heap.size k hk (Nat.le_refl _)).mono ?_); rintro e w2 ⟨P, M, rfl, _, _, _, _, _, hb⟩; have hB2 := Lib.hid hb; clear hb)
    go_wp2_with (first
      | (go_at_call 18; (with_reducible refine (p_alloc_nil _ v).mono ?_); rintro e w3 ⟨rfl, hN⟩; have hB3 := Lib.hid (below_of_drew hN); clear hN)
      | (go_at_call 20; (with_reducible refine (p_at_no _ i none (p_live_nil _ i)).mono ?_); rintro e w3 ⟨rfl, rfl⟩)
      | (go_at_call 21; (with_reducible refine (p_peek_no _ i none (p_live_nil _ i)).mono ?_); rintro e w3 ⟨rfl, rfl⟩)
      | (go_at_call 22; (with_reducible refine (p_clear_nil _).mono ?_); rintro e w3 ⟨rfl, rfl⟩)
      | (go_at_call 23; (with_reducible refine (all_any (.pointer none) _ ⟨_, rfl⟩).mono ?_); rintro e w3 ⟨rfl, rfl⟩))
    obtain ⟨w4, hw4⟩ : ∃ w4, w3.alloc (.cells #[.int .i64 0] 3) = w4 := ⟨_, rfl⟩
    have hz4 : w4.heap.size = w3.heap.size + 1 := by rw [← hw4]; simp
    have hB4 : Below w3.heap.size w3 w4 := by rw [← hw4]; exact (Below.refl _ w3).alloc (Nat.le_refl _) _
    have hO : Boxed w4 w3.heap.size 3 (.int .i64 0) := by rw [← hw4]; exact Boxed.new w3 3 (.int .i64 0)
    rw [hw4]
    clear hw4
    have hB5 : Hid (Below w.heap.size w w4) := hB1.out.trans ((hB2.out.mono hB1.out.size).trans ((hB3.out.mono (Nat.le_trans hB1.out.size hB2.out.size)).trans (hB4.mono (Nat.le_trans hB1.out.size (Nat.le_trans hB2.out.size hB3.out.size)))))
    have bR := Boxed.new w4 27 (.pointer none)
    have hB6 : Hid (Below w.heap.size w (w4.alloc (.cells #[.pointer none] 27))) := hB5.out.alloc hB5.out.size _
    have hze := hB5.out.size
    refine wpIn_wide.1 (wpIn_rangeFunc_ownG (n := 5) rfl (by decide) (gf := 29) (lb := #[.pointer (some ⟨w3.heap.size + 1, 0, none⟩)]) rfl trivial (enters_of Try.func29 (by kernel_rfl) rfl)
      (encs := fun y : Int × Int => #[Value.int .i64 y.1, Value.int .u64 y.2]) (Kp := Below 0) (S := fun ys => ys = []) (Sp := fun _ => False) (N := 0) (w0 := w4.alloc (.cells #[.pointer none] 27))
      (fun l J Jx W hW hJ _ _ h0 => all1_nil (5 - 1) l (w3.heap.size + 1) J Jx W ((hW.cell (p := ⟨w3.heap.size + 1, 0, none⟩) (by simp; omega)).trans (by rw [← hz4]; exact bR.cell)) h0) belowK_t (belowK_b (by omega)) (Below.refl _ _) (fun _ => rfl)
      (fun _ W => Boxed W w3.heap.size 3 (.int .i64 0) ∧ Below w.heap.size w W)
      (fun _ _ _ => False)
      (OwnFrom.and (Own.from (boxed_own w3.heap.size 3 (fun _ : List (Int × Int) => .int .i64 0)) _) (ownFrom_below (Nat.le_refl _) (by simp; omega)))
      (fun _ => ownFrom_pure _ (fun _ => False))
      ⟨hO.alloc _, hB6.out⟩
      (fun y => { tmps := ((#[53, 54] : Array Tmp).zip #[Value.int .i64 y.1, Value.int .u64 y.2]).foldl (fun t (p, v) => t.setIfInBounds p v) ?tt, defers := [] }) ?assign ?body ?done ?stop)
    case assign =>
      intro l y W K hK
      refine wpIn_skip ?_
      exact hK
    case body =>
      intro l pre y W _ hlt
      exact absurd hlt (by omega)
    case stop =>
      rintro D c pre W hD hpre _ hK
      exact hpre.elim
    case done =>
      rintro D ys W hD rfl ⟨hv, hB⟩ hK
      have hc := hv.cell
      clear hB1 hB2 hB3 hB4 hO bR hB6 hv
      go_wp2
      go_quiet ((first
        | (go_at_call 19; exact Calls.quiet_of_same ((p_free_no _ i none (p_live_nil _ i)).mono (by rintro e w' ⟨rfl, rfl⟩; exact ⟨rfl, rfl⟩)))
        | (go_at_call 24; exact Calls.quiet_of_same ((p_put_no _ i v none (p_live_nil _ i)).mono (by rintro e w' ⟨rfl, rfl⟩; exact ⟨rfl, rfl⟩)))
        | (go_at_call 25; exact Calls.quiet_of_same ((p_live_nil _ i).mono (by rintro e w' ⟨rfl, rfl⟩; exact ⟨rfl, rfl⟩)))
        | (go_at_call 11; exact Calls.quiet_of_same ((p_len_nil _).mono (by rintro e w' ⟨rfl, rfl⟩; exact ⟨rfl, rfl⟩)))
        | (go_at_call 17; exact Calls.quiet_of_same ((p_limit_nil _).mono (by rintro e w' ⟨rfl, rfl⟩; exact ⟨rfl, rfl⟩)))
        | (go_at_call 13; exact Calls.quiet_of (p_room_nil _ 0))))
      go_wp2
      refine ⟨by simp, .inl ⟨_, _, rfl, run_takeDeferred hK, ?_⟩⟩
      exact ⟨_, results_tmp rfl _ _ _, rfl, (below_drewN' hB nq).trans (belowK_b (w := w) (Nat.le_refl _) (W.drewN nq) D _ _ (by simp at hD; omega) hK rfl rfl)⟩
  · have hr' := Lib.hid hr
    clear hr
    by_cases h0 : 0 ≤ n
    · have g1 : decide (0 ≤ n) = true := decide_eq_true h0
      have g2 : decide (n ≤ 1048576) = false := decide_eq_false (fun h => hr'.out ⟨h0, h⟩)
      clear h0
      go_wp2_with (go_at_call 6; (with_reducible refine (awake_any _).mono ?_); rintro e w1 ⟨rfl, hb1⟩; have hB1 := Lib.hid hb1; clear hb1)
      go_wp2_with (go_at_call 9; (with_reducible refine (p_new_no _ n none hr'.out).mono ?_); rintro e w2 ⟨rfl, rfl⟩)
      go_wp2_with (first
        | (go_at_call 18; (with_reducible refine (p_alloc_nil _ v).mono ?_); rintro e w3 ⟨rfl, hN⟩; have hB3 := Lib.hid (below_of_drew hN); clear hN)
        | (go_at_call 20; (with_reducible refine (p_at_no _ i none (p_live_nil _ i)).mono ?_); rintro e w3 ⟨rfl, rfl⟩)
        | (go_at_call 21; (with_reducible refine (p_peek_no _ i none (p_live_nil _ i)).mono ?_); rintro e w3 ⟨rfl, rfl⟩)
        | (go_at_call 22; (with_reducible refine (p_clear_nil _).mono ?_); rintro e w3 ⟨rfl, rfl⟩)
        | (go_at_call 23; (with_reducible refine (all_any (.pointer none) _ ⟨_, rfl⟩).mono ?_); rintro e w3 ⟨rfl, rfl⟩))
      obtain ⟨w4, hw4⟩ : ∃ w4, w3.alloc (.cells #[.int .i64 0] 3) = w4 := ⟨_, rfl⟩
      have hz4 : w4.heap.size = w3.heap.size + 1 := by rw [← hw4]; simp
      have hB4 : Below w3.heap.size w3 w4 := by rw [← hw4]; exact (Below.refl _ w3).alloc (Nat.le_refl _) _
      have hO : Boxed w4 w3.heap.size 3 (.int .i64 0) := by rw [← hw4]; exact Boxed.new w3 3 (.int .i64 0)
      rw [hw4]
      clear hw4
      have hB5 : Hid (Below w.heap.size w w4) := hB1.out.trans ((hB3.out.mono hB1.out.size).trans (hB4.mono (Nat.le_trans hB1.out.size hB3.out.size)))
      have bR := Boxed.new w4 27 (.pointer none)
      have hB6 : Hid (Below w.heap.size w (w4.alloc (.cells #[.pointer none] 27))) := hB5.out.alloc hB5.out.size _
      have hze := hB5.out.size
      refine wpIn_wide.1 (wpIn_rangeFunc_ownG (n := 5) rfl (by decide) (gf := 29) (lb := #[.pointer (some ⟨w3.heap.size + 1, 0, none⟩)]) rfl trivial (enters_of Try.func29 (by kernel_rfl) rfl)
        (encs := fun y : Int × Int => #[Value.int .i64 y.1, Value.int .u64 y.2]) (Kp := Below 0) (S := fun ys => ys = []) (Sp := fun _ => False) (N := 0) (w0 := w4.alloc (.cells #[.pointer none] 27))
        (fun l J Jx W hW hJ _ _ h0 => all1_nil (5 - 1) l (w3.heap.size + 1) J Jx W ((hW.cell (p := ⟨w3.heap.size + 1, 0, none⟩) (by simp; omega)).trans (by rw [← hz4]; exact bR.cell)) h0) belowK_t (belowK_b (by omega)) (Below.refl _ _) (fun _ => rfl)
        (fun _ W => Boxed W w3.heap.size 3 (.int .i64 0) ∧ Below w.heap.size w W)
        (fun _ _ _ => False)
        (OwnFrom.and (Own.from (boxed_own w3.heap.size 3 (fun _ : List (Int × Int) => .int .i64 0)) _) (ownFrom_below (Nat.le_refl _) (by simp; omega)))
        (fun _ => ownFrom_pure _ (fun _ => False))
        ⟨hO.alloc _, hB6.out⟩
        (fun y => { tmps := ((#[53, 54] : Array Tmp).zip #[Value.int .i64 y.1, Value.int .u64 y.2]).foldl (fun t (p, v) => t.setIfInBounds p v) ?tt2, defers := [] }) ?assign2 ?body2 ?done2 ?stop2)
      case assign2 =>
        intro l y W K hK
        refine wpIn_skip ?_
        exact hK
      case body2 =>
        intro l pre y W _ hlt
        exact absurd hlt (by omega)
      case stop2 =>
        rintro D c pre W hD hpre _ hK
        exact hpre.elim
      case done2 =>
        rintro D ys W hD rfl ⟨hv, hB⟩ hK
        have hc := hv.cell
        clear hB1 hB3 hB4 hO bR hB6 hv
        go_wp2
        go_quiet ((first
          | (go_at_call 19; exact Calls.quiet_of_same ((p_free_no _ i none (p_live_nil _ i)).mono (by rintro e w' ⟨rfl, rfl⟩; exact ⟨rfl, rfl⟩)))
          | (go_at_call 24; exact Calls.quiet_of_same ((p_put_no _ i v none (p_live_nil _ i)).mono (by rintro e w' ⟨rfl, rfl⟩; exact ⟨rfl, rfl⟩)))
          | (go_at_call 25; exact Calls.quiet_of_same ((p_live_nil _ i).mono (by rintro e w' ⟨rfl, rfl⟩; exact ⟨rfl, rfl⟩)))
          | (go_at_call 11; exact Calls.quiet_of_same ((p_len_nil _).mono (by rintro e w' ⟨rfl, rfl⟩; exact ⟨rfl, rfl⟩)))
          | (go_at_call 17; exact Calls.quiet_of_same ((p_limit_nil _).mono (by rintro e w' ⟨rfl, rfl⟩; exact ⟨rfl, rfl⟩)))
          | (go_at_call 13; exact Calls.quiet_of (p_room_nil _ 0))))
        go_wp2
        refine ⟨by simp, .inl ⟨_, _, rfl, run_takeDeferred hK, ?_⟩⟩
        exact ⟨_, results_tmp rfl _ _ _, rfl, (below_drewN' hB nq).trans (belowK_b (w := w) (Nat.le_refl _) (W.drewN nq) D _ _ (by simp at hD; omega) hK rfl rfl)⟩
    · have g1 : decide (0 ≤ n) = false := decide_eq_false h0
      clear h0
      go_wp2_with (go_at_call 6; (with_reducible refine (awake_any _).mono ?_); rintro e w1 ⟨rfl, hb1⟩; have hB1 := Lib.hid hb1; clear hb1)
      go_wp2_with (go_at_call 9; (with_reducible refine (p_new_no _ n none hr'.out).mono ?_); rintro e w2 ⟨rfl, rfl⟩)
      go_wp2_with (first
        | (go_at_call 18; (with_reducible refine (p_alloc_nil _ v).mono ?_); rintro e w3 ⟨rfl, hN⟩; have hB3 := Lib.hid (below_of_drew hN); clear hN)
        | (go_at_call 20; (with_reducible refine (p_at_no _ i none (p_live_nil _ i)).mono ?_); rintro e w3 ⟨rfl, rfl⟩)
        | (go_at_call 21; (with_reducible refine (p_peek_no _ i none (p_live_nil _ i)).mono ?_); rintro e w3 ⟨rfl, rfl⟩)
        | (go_at_call 22; (with_reducible refine (p_clear_nil _).mono ?_); rintro e w3 ⟨rfl, rfl⟩)
        | (go_at_call 23; (with_reducible refine (all_any (.pointer none) _ ⟨_, rfl⟩).mono ?_); rintro e w3 ⟨rfl, rfl⟩))
      obtain ⟨w4, hw4⟩ : ∃ w4, w3.alloc (.cells #[.int .i64 0] 3) = w4 := ⟨_, rfl⟩
      have hz4 : w4.heap.size = w3.heap.size + 1 := by rw [← hw4]; simp
      have hB4 : Below w3.heap.size w3 w4 := by rw [← hw4]; exact (Below.refl _ w3).alloc (Nat.le_refl _) _
      have hO : Boxed w4 w3.heap.size 3 (.int .i64 0) := by rw [← hw4]; exact Boxed.new w3 3 (.int .i64 0)
      rw [hw4]
      clear hw4
      have hB5 : Hid (Below w.heap.size w w4) := hB1.out.trans ((hB3.out.mono hB1.out.size).trans (hB4.mono (Nat.le_trans hB1.out.size hB3.out.size)))
      have bR := Boxed.new w4 27 (.pointer none)
      have hB6 : Hid (Below w.heap.size w (w4.alloc (.cells #[.pointer none] 27))) := hB5.out.alloc hB5.out.size _
      have hze := hB5.out.size
      refine wpIn_wide.1 (wpIn_rangeFunc_ownG (n := 5) rfl (by decide) (gf := 29) (lb := #[.pointer (some ⟨w3.heap.size + 1, 0, none⟩)]) rfl trivial (enters_of Try.func29 (by kernel_rfl) rfl)
        (encs := fun y : Int × Int => #[Value.int .i64 y.1, Value.int .u64 y.2]) (Kp := Below 0) (S := fun ys => ys = []) (Sp := fun _ => False) (N := 0) (w0 := w4.alloc (.cells #[.pointer none] 27))
        (fun l J Jx W hW hJ _ _ h0 => all1_nil (5 - 1) l (w3.heap.size + 1) J Jx W ((hW.cell (p := ⟨w3.heap.size + 1, 0, none⟩) (by simp; omega)).trans (by rw [← hz4]; exact bR.cell)) h0) belowK_t (belowK_b (by omega)) (Below.refl _ _) (fun _ => rfl)
        (fun _ W => Boxed W w3.heap.size 3 (.int .i64 0) ∧ Below w.heap.size w W)
        (fun _ _ _ => False)
        (OwnFrom.and (Own.from (boxed_own w3.heap.size 3 (fun _ : List (Int × Int) => .int .i64 0)) _) (ownFrom_below (Nat.le_refl _) (by simp; omega)))
        (fun _ => ownFrom_pure _ (fun _ => False))
        ⟨hO.alloc _, hB6.out⟩
        (fun y => { tmps := ((#[53, 54] : Array Tmp).zip #[Value.int .i64 y.1, Value.int .u64 y.2]).foldl (fun t (p, v) => t.setIfInBounds p v) ?tt4, defers := [] }) ?assign4 ?body4 ?done4 ?stop4)
      case assign4 =>
        intro l y W K hK
        refine wpIn_skip ?_
        exact hK
      case body4 =>
        intro l pre y W _ hlt
        exact absurd hlt (by omega)
      case stop4 =>
        rintro D c pre W hD hpre _ hK
        exact hpre.elim
      case done4 =>
        rintro D ys W hD rfl ⟨hv, hB⟩ hK
        have hc := hv.cell
        clear hB1 hB3 hB4 hO bR hB6 hv
        go_wp2
        go_quiet ((first
          | (go_at_call 19; exact Calls.quiet_of_same ((p_free_no _ i none (p_live_nil _ i)).mono (by rintro e w' ⟨rfl, rfl⟩; exact ⟨rfl, rfl⟩)))
          | (go_at_call 24; exact Calls.quiet_of_same ((p_put_no _ i v none (p_live_nil _ i)).mono (by rintro e w' ⟨rfl, rfl⟩; exact ⟨rfl, rfl⟩)))
          | (go_at_call 25; exact Calls.quiet_of_same ((p_live_nil _ i).mono (by rintro e w' ⟨rfl, rfl⟩; exact ⟨rfl, rfl⟩)))
          | (go_at_call 11; exact Calls.quiet_of_same ((p_len_nil _).mono (by rintro e w' ⟨rfl, rfl⟩; exact ⟨rfl, rfl⟩)))
          | (go_at_call 17; exact Calls.quiet_of_same ((p_limit_nil _).mono (by rintro e w' ⟨rfl, rfl⟩; exact ⟨rfl, rfl⟩)))
          | (go_at_call 13; exact Calls.quiet_of (p_room_nil _ 0))))
        go_wp2
        refine ⟨by simp, .inl ⟨_, _, rfl, run_takeDeferred hK, ?_⟩⟩
        exact ⟨_, results_tmp rfl _ _ _, rfl, (below_drewN' hB nq).trans (belowK_b (w := w) (Nat.le_refl _) (W.drewN nq) D _ _ (by simp at hD; omega) hK rfl rfl)⟩
end Go.Proofs.Ytdpokgkpmdendaa
