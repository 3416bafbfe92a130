
/- A nil trie: Min, Max, All; what the law's own function reads of it; the texts walked. -/
import Derived.Test.YtndielncleohlaaDoorU15
namespace Go.Proofs.YtndielncleohlaaDoor
set_option maxRecDepth 40000
open Go.RowKit Go.Shelf
attribute [local go_sem] Oper.semAt_some
attribute [local simp] wide_fn
theorem t_top_nil (w : World) : Calls Tryd.prog 52 #[.pointer none] w fun e w' => e = .returned (.tuple #[ndzv, .bool false]) ∧ Below w.heap.size w w' := by
  go_enter Tryd.func52, Tryd.ntmps52
  go_wp2
  refine bodyPost_ret (nd_res rfl _ _ w.heap.size _ _ _ _ _ _ rfl (K.alloc_top _ _) rfl) rfl ?_
  exact ⟨rfl, (Below.refl _ w).alloc (Nat.le_refl _) _⟩
theorem t_min_nil (w : World) : Calls Tryd.prog 27 #[.pointer none] w fun e w' => e = .returned (.tuple #[.int .u64 0, .bool false]) ∧ Below w.heap.size w w' := by
  have ht := Lib.hid (t_top_nil w)
  go_enter Tryd.func27, Tryd.ntmps27
  go_wp2_with (go_at_call 52; (with_reducible refine ht.out.mono ?_); rintro e w1 ⟨rfl, hb⟩; have HB := Lib.hid hb; clear hb)
  go_ret2
  exact ⟨rfl, HB.out.alloc HB.out.size _⟩
theorem t_max_nil (w : World) : Calls Tryd.prog 28 #[.pointer none] w fun e w' => e = .returned (.tuple #[.int .u64 0, .bool false]) ∧ Below w.heap.size w w' := by
  have ht := Lib.hid (t_top_nil w)
  go_enter Tryd.func28, Tryd.ntmps28
  go_wp2_with (go_at_call 52; (with_reducible refine ht.out.mono ?_); rintro e w1 ⟨rfl, hb⟩; have HB := Lib.hid hb; clear hb)
  go_ret2
  exact ⟨rfl, HB.out.alloc HB.out.size _⟩
theorem t_all_any (w : World) (p : Option Addr) : Calls Tryd.prog 43 #[.pointer p] w fun e w' => e = .returned (.func (.func 66) #[] #[.pointer (some ⟨w.heap.size, 0, none⟩)]) ∧ w' = w.alloc (.cells #[.pointer p] 25) := by
  go_enter Tryd.func43, Tryd.ntmps43
  go_wp2
  go_ret
  exact ⟨rfl, rfl⟩
theorem t_all1_nil (l Bn : Nat) (W : World) (hr : W.heap[Bn]? = some (.cells #[.pointer none] 25 (0, 0))) :
    CallsIn Fence.wide 8 Tryd.prog 66 #[.func (.yield l) #[] #[], .pointer (some ⟨Bn, 0, none⟩)] W fun e W' => e = .returned (.tuple #[]) ∧ W = W' := by
  have hc := cell_of_row W Bn 0 _ _ (0, 0) hr
  simp at hc
  refine callsIn_of_wp Tryd.func66 rfl trivial ?_ rfl
  simp only [Tryd.ntmps66, List.size_toArray, List.length_cons, List.length_nil, Nat.reduceAdd, Nat.reduceSub, Array.replicate_succ, Array.replicate_zero, List.push_toArray, List.append_toArray, List.nil_append, List.cons_append]
  gi_wp2_with (gi_at_call 32; refine (callsIn_wide.2 (t_len_nil _)).mono ?_; rintro e w' ⟨rfl, rfl⟩)
  go_end0
  exact ⟨rfl, rfl⟩
theorem all_stops_nil (Bn : Nat) (w : World) (hr : w.heap[Bn]? = some (.cells #[.pointer none] 25 (0, 0))) :
    SeqStopsK Fence.wide 8 Tryd.prog 66 #[.pointer (some ⟨Bn, 0, none⟩)] (fun y : Nat => #[Value.int .u64 (y : Int)]) (fun _ _ => True) (fun ys => ys = []) (fun pre => pre = []) 0 w := fun l J Jx W hW _ _ _ h0 =>
  (t_all1_nil l Bn W ((hW.block Bn (row_lt hr)).trans hr)).mono (by rintro e W' ⟨rfl, rfl⟩; exact ⟨⟨_, rfl⟩, .inl ⟨[], rfl, h0⟩⟩)
theorem three_rows (w : World) (a b c : Obj) : (((w.alloc a).alloc b).alloc c).heap.size = w.heap.size + 3 ∧ (((w.alloc a).alloc b).alloc c).heap[w.heap.size]? = some a ∧ (((w.alloc a).alloc b).alloc c).heap[w.heap.size + 1]? = some b ∧ (((w.alloc a).alloc b).alloc c).heap[w.heap.size + 2]? = some c ∧ K.Chg w (((w.alloc a).alloc b).alloc c) (fun _ => False) := by
  have c1 := chg_alloc w a (fun _ => False)
  have c2 := chg_alloc (w.alloc a) b (fun _ => False)
  have c3 := chg_alloc ((w.alloc a).alloc b) c (fun _ => False)
  have t1 := K.alloc_top w a
  have t2 := K.alloc_top (w.alloc a) b
  have t3 := K.alloc_top ((w.alloc a).alloc b) c
  simp only [World.size_alloc, Nat.add_assoc, Nat.reduceAdd] at t2 t3
  exact ⟨by simp, ((c2.same c3).block _ (by simp) (fun h => h)).trans t1, (c3.block _ (by simp) (fun h => h)).trans t2, t3, (c1.same c2).same c3⟩
set_option maxRecDepth 100000 in
set_option maxHeartbeats 1000000 in
theorem law_all_nil (w : World) (most : Int) : Calls Tryd.prog 19 #[.pointer none, .int .i64 most] w fun e w' => e = .returned (.slice none 0 0) ∧ K.Chg w w' (fun _ => False) := by
  refine (callsIn_wide (n := 9)).1 ?_
  refine callsIn_of_wp_marks Tryd.func19 rfl trivial ?_ rfl
  simp only [Tryd.ntmps19, List.size_toArray, List.length_cons, List.length_nil, Nat.reduceAdd, Nat.reduceSub, Array.replicate_succ, Array.replicate_zero, List.push_toArray, List.append_toArray, List.nil_append, List.cons_append]
  gi_wp2_with (gi_at_call 43; refine (callsIn_wide.2 (t_all_any _ none)).mono ?_; rintro e w' ⟨rfl, rfl⟩)
  obtain ⟨hsz, r0, r1, r2, hC0⟩ := three_rows w (.cells #[.int .i64 most] 3) (.cells #[.slice none 0 0] 29) (.cells #[.pointer none] 25)
  generalize hW0 : ((w.alloc (.cells #[.int .i64 most] 3)).alloc (.cells #[.slice none 0 0] 29)).alloc (.cells #[.pointer none] 25) = W0 at *
  clear hW0
  refine wpIn_rangeFunc_ownH rfl (by decide) (gf := 66) (lb := #[.pointer (some ⟨w.heap.size + 2, 0, none⟩)]) rfl trivial (enters_of Tryd.func66 (by kernel_rfl) rfl)
    (all_stops_nil (w.heap.size + 2) W0 r2) (fun _ _ => trivial) (fun _ _ _ _ _ _ _ _ => trivial) (Below.refl _ _) (fun _ => rfl)
    (fun _ W => K.Chg W0 W (fun _ => False)) (fun _ _ _ => False) (ownFrom_chg (Nat.le_refl _)) (fun _ _ _ _ _ h _ _ => h) (chg_refl _ _) (fun _ _ _ => True) (fun _ _ _ _ _ _ h _ _ => h)
    ?assign ?body ?done ?stop
  case assign =>
    rintro l pre y W K0 hI hK
    gi_wp2
    exact hK _ _ (KeepsFrom.refl _ _) trivial hI trivial
  case body =>
    rintro l pre y a' W _ _ _ _ h
    exact absurd h (Nat.not_lt_zero _)
  case done =>
    rintro D zs W hD hzs hI hK
    have q1 := (hI.block (w.heap.size + 1) (by omega) (fun h => h)).trans r1
    have z1 : W.cell? ⟨w.heap.size + 1, 0, none⟩ = some (.slice none 0 0) := by simpa using cell_of_row W _ 0 _ _ (0, 0) q1
    have HK := Lib.hid hK
    have HI := Lib.hid hI
    clear hK hI q1 r0 r1 r2
    gi_wp2
    refine ⟨by simp, .inl ⟨_, _, rfl, run_takeDeferred HK.out, ?_⟩⟩
    refine ⟨_, results_tmp rfl _ _ _, rfl, (hC0.same HI.out).grown (grownBy_putObj' W D (.deferred none)) (fun j e => .inr (by cases e; omega))⟩
  case stop =>
    rintro D c pre W hD hpre h hK
    exact h.elim
end Go.Proofs.YtndielncleohlaaDoor
