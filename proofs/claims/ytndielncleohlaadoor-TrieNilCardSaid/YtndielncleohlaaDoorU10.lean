
/- New, Has, Len, Used, Limit; a nil trie; the texts walked. -/
import Derived.Test.YtndielncleohlaaDoorU9
namespace Go.Proofs.YtndielncleohlaaDoor
set_option maxRecDepth 40000
open Go.RowKit
theorem q_new (w : World) (lim : Nat) (hlim : lim ≤ 1048576) :
    Calls Tryd.prog 38 #[.pointer none, .int .i64 (lim : Int)] w fun e w' => ∃ Q m0, e = .returned (.tuple #[.pointer (some ⟨Q, 0, none⟩), .int .i64 0]) ∧ Qo w' Q m0 lim none 0 none 0 [] [] ∧ Mx w' m0 0 ∧ w.heap.size ≤ Q ∧ w.heap.size ≤ m0 ∧ Below w.heap.size w w' := by
  have g0 : decide ((lim : Int) < 0) = false := decide_eq_false (by omega)
  have g1 : decide (1048576 < (lim : Int)) = false := decide_eq_false (by omega)
  have g2 : decide (1048576 < lim) = false := decide_eq_false (by omega)
  go_enter Tryd.func38, Tryd.ntmps38
  go_wp2_with (go_at_call 65; (with_reducible refine (x_new _).mono ?_); rintro e w1 ⟨rfl, hm, hb1⟩; have hmH := Lib.hid hm; clear hm; have hbH := Lib.hid hb1; clear hb1)
  go_ret2
  have hlt := hmH.out.lt
  have hs := hbH.out.size
  refine ⟨_, _, rfl, ⟨K.alloc_top _ _, World.ownsRow_nil _ _ _ _, World.ownsRow_nil _ _ _ _, by simp, by simp, hlim, by simp, by simp⟩, hmH.out.chg (chg_alloc _ _ (fun _ => False)) (fun h => h), hs, Nat.le_refl _, hbH.out.alloc hs _⟩
theorem q_new_no (w : World) (n : Int) (hn : ¬ (0 ≤ n ∧ n ≤ 1048576)) :
    Calls Tryd.prog 38 #[.pointer none, .int .i64 n] w fun e w' => e = .returned (.tuple #[.pointer none, .int .i64 1]) ∧ w = w' := by
  by_cases h0 : n < 0
  · have g0 : decide (n < 0) = true := decide_eq_true h0
    clear hn
    go_enter Tryd.func38, Tryd.ntmps38
    go_wp2
    go_ret2
    exact ⟨rfl, rfl⟩
  · have g0 : decide (n < 0) = false := decide_eq_false h0
    have g1 : decide (1048576 < n) = true := decide_eq_true (by omega)
    clear hn
    go_enter Tryd.func38, Tryd.ntmps38
    go_wp2
    go_ret2
    exact ⟨rfl, rfl⟩
/-- A trie without keys is told by any places. -/
theorem tr_nil (pl : Nat → Nat → Nat) (nd : Nat → Option Nd) : T.Tr (fun _ => []) pl nd :=
  ⟨fun l p _ hp => (by obtain ⟨x, hx, _⟩ := hp; exact nomatch hx), fun l p l' p' _ _ hp => (by obtain ⟨x, hx, _⟩ := hp; exact nomatch hx)⟩
def NewP (w : World) (lim : Nat) (e : Ending) (w' : World) : Prop :=
  ∃ P Q m0, e = .returned (.tuple #[.pointer (some ⟨P, 0, none⟩), .int .i64 0]) ∧ TWs w w' P Q m0 lim (fun _ => False) [] 0 ∧ Below w.heap.size w w'
theorem t_new (w : World) (lim : Nat) (hlim : lim ≤ 1048576) : Calls Tryd.prog 10 #[.int .i64 (lim : Int)] w (NewP w lim) := by
  have hq := Lib.hid (q_new w lim hlim)
  go_enter Tryd.func10, Tryd.ntmps10
  go_wp2_with (go_at_call 38; (with_reducible refine hq.out.mono ?_); rintro e w1 ⟨Q, m0, rfl, hQ, hM, hq1, hq2, hb1⟩
               have HQ := Lib.hid hQ
               have HM := Lib.hid hM
               have HB := Lib.hid hb1
               have c0 := hQ.c0
               clear hQ hM hb1)
  go_ret2
  have hc := chg_alloc w1 (.cells #[.pointer (some ⟨m0, 0, none⟩), .pointer (some ⟨Q, 0, none⟩), .int .i64 ((0 : Nat) : Int)] 43) (fun _ => False)
  have hb : Below w.heap.size w (w1.alloc (.cells #[.pointer (some ⟨m0, 0, none⟩), .pointer (some ⟨Q, 0, none⟩), .int .i64 ((0 : Nat) : Int)] 43)) := HB.out.alloc HB.out.size _
  refine ⟨w1.heap.size, Q, m0, rfl, ⟨none, 0, none, 0, [], [], 0, fun _ _ => 0, ⟨K.alloc_top _ _, HM.out.chg hc (fun h => h), HQ.out.chg hc (fun _ _ h => h), ⟨fun i hi => by simp at hi, fun i j hi => by simp at hi, fun i hi => by simp at hi⟩, tr_nil _ _, fun h => absurd rfl h, by decide, List.Pairwise.nil, by simp, by omega⟩, K.Chg.of_below hb, fun b hb => ?_⟩, hb⟩
  right
  rcases hb with rfl | rfl | (rfl | hb | hb) | ⟨i, hi, _⟩
  · exact HB.out.size
  · exact hq2
  · exact hq1
  · cases hb
  · cases hb
  · simp at hi
theorem t_new_no (w : World) (n : Int) (hn : ¬ (0 ≤ n ∧ n ≤ 1048576)) : Calls Tryd.prog 10 #[.int .i64 n] w fun e w' => e = .returned (.tuple #[.pointer none, .int .i64 1]) ∧ w = w' := by
  have hq := Lib.hid (q_new_no w n hn)
  clear hn
  go_enter Tryd.func10, Tryd.ntmps10
  go_wp2_with (go_at_call 38; (with_reducible refine hq.out.mono ?_); rintro e w1 ⟨rfl, rfl⟩)
  go_ret2
  exact ⟨rfl, rfl⟩
section
variable (w : World) (P Q m0 lim tk root cn cf : Nat) (An Af : Option Addr) (ns : List (Nd × Bool)) (fs xs : List Nat) (pl : Nat → Nat → Nat)
theorem t_used (h : TW w P Q m0 lim tk An cn Af cf ns fs root pl xs) : Calls Tryd.prog 14 #[.pointer (some ⟨P, 0, none⟩)] w fun e w' => e = .returned (.int .i64 ((K.trie xs : Nat) : Int)) ∧ Below w.heap.size w w' := by
  have hP1 := cell_of_row w P 1 _ _ (0, 0) h.row
  simp at hP1
  have hq := Lib.hid (q_len w Q m0 lim cn cf An Af ns fs h.po)
  rw [h.used] at hq
  clear h
  go_enter Tryd.func14, Tryd.ntmps14
  go_wp2_with (go_at_call 42; (with_reducible refine hq.out.mono ?_); rintro e w1 ⟨rfl, N, rfl⟩)
  go_ret
  exact ⟨rfl, below_drewN (Below.refl _ _) _⟩
theorem t_limit (h : TW w P Q m0 lim tk An cn Af cf ns fs root pl xs) : Calls Tryd.prog 20 #[.pointer (some ⟨P, 0, none⟩)] w fun e w' => e = .returned (.int .i64 (lim : Int)) ∧ Below w.heap.size w w' := by
  have hP1 := cell_of_row w P 1 _ _ (0, 0) h.row
  simp at hP1
  have hq := Lib.hid (q_limit w Q m0 lim cn cf An Af ns fs h.po)
  clear h
  go_enter Tryd.func20, Tryd.ntmps20
  go_wp2_with (go_at_call 44; (with_reducible refine hq.out.mono ?_); rintro e w1 ⟨rfl, rfl⟩)
  go_ret
  exact ⟨rfl, Below.refl _ _⟩
/-- A node that is there, or none. -/
theorem t_peek_yes (h : TW w P Q m0 lim tk An cn Af cf ns fs root pl xs) (i : Nat) (hi : i < ns.length) (ht : ns[i].2 = true) : Calls Tryd.prog 57 #[.pointer (some ⟨P, 0, none⟩), .int .i64 (i : Int)] w (RetB w ns[i].1.v) := by
  have hb : Below w.heap.size w (w.alloc ndzo) := (Below.refl _ w).alloc (Nat.le_refl _) _
  have h1 := h.chg (K.Chg.of_below (O := fun _ => False) hb) (fun _ _ h => h)
  have hP1 := cell_of_row _ P 1 _ _ (0, 0) h1.row
  simp only [List.getElem?_toArray] at hP1
  have hP1 : (w.alloc ndzo).cell? ⟨P, 1, none⟩ = some (.pointer (some ⟨Q, 0, none⟩)) := hP1
  have hq := Lib.hid (q_peek_yes _ Q m0 lim cn cf An Af ns fs h1.po i hi ht)
  have HB := Lib.hid hb
  have hz1 : (w.alloc ndzo).heap.size = w.heap.size + 1 := by simp
  have HZ := Lib.hid hz1
  clear h h1 ht hb hz1
  generalize ns[i].1 = x at *
  obtain ⟨W, A, ch, c, ks, le, gr⟩ := x
  have hq : Hid (Calls _ _ _ _ (PeekP (w.alloc ndzo) (ndv W A ch.length c ks le gr) true)) := hq
  show Calls _ _ _ _ (RetB w (ndv W A ch.length c ks le gr))
  generalize ch.length = n at *
  go_enter Tryd.func57, Tryd.ntmps57
  go_wp2_with (go_at_call 61; (with_reducible refine hq.out.mono ?_); rintro e w1 ⟨rfl, hb1⟩
               have hs1 := hb1.size
               rw [HZ.out] at hs1
               have HB1 := Lib.hid ((HB.out.trans (hb1.mono (by simp))).alloc (B := w.heap.size) (by omega) (ndo W A n c ks le gr))
               have zz := (Below.heap_alloc w1 (ndo W A n c ks le gr) w.heap.size (by omega)).trans ((hb1.block w.heap.size (by (rw [HZ.out]; omega))).trans (K.alloc_top _ _))
               have f0 := frozen_of_row _ _ 0 _ _ zz
               have f1 := frozen_of_row _ _ 1 _ _ zz
               have f2 := frozen_of_row _ _ 2 _ _ zz
               have f3 := frozen_of_row _ _ 3 _ _ zz
               have f4 := frozen_of_row _ _ 4 _ _ zz
               obtain ⟨t0, t1, t2, t3, t4⟩ := nd_cells zz
               have ZZ := Lib.hid zz
               clear hb1 zz)
  refine bodyPost_ret (results_cell_row rfl _ _ w.heap.size _ _ _ _ rfl (row_z5 ZZ.out _ _ _ _ _) Tryd.underlying72 (by kernel_rfl) (by kernel_rfl)) rfl ?_
  exact ⟨rfl, ((((HB1.out.setCell (by simp) _).setCell (by simp) _).setCell (by simp) _).setCell (by simp) _).setCell (by simp) _⟩
theorem t_peek_no (h : TW w P Q m0 lim tk An cn Af cf ns fs root pl xs) (i : Int) (ht : lvq ns i = false) : Calls Tryd.prog 57 #[.pointer (some ⟨P, 0, none⟩), .int .i64 i] w (RetB w ndzv) := by
  have hb : Below w.heap.size w (w.alloc ndzo) := (Below.refl _ w).alloc (Nat.le_refl _) _
  have h1 := h.chg (K.Chg.of_below (O := fun _ => False) hb) (fun _ _ h => h)
  have hP1 := cell_of_row _ P 1 _ _ (0, 0) h1.row
  have hP1 : (w.alloc ndzo).cell? ⟨P, 1, none⟩ = some (.pointer (some ⟨Q, 0, none⟩)) := hP1
  have hq := Lib.hid (q_peek_no _ Q m0 lim cn cf An Af ns fs h1.po i ht)
  have HB := Lib.hid hb
  have hz1 : (w.alloc ndzo).heap.size = w.heap.size + 1 := by simp
  have HZ := Lib.hid hz1
  clear h h1 ht hb hz1
  go_enter Tryd.func57, Tryd.ntmps57
  go_wp2_with (go_at_call 61; (with_reducible refine hq.out.mono ?_); rintro e w1 ⟨rfl, hb1⟩
               have hs1 := hb1.size
               rw [HZ.out] at hs1
               have HB1 := Lib.hid ((HB.out.trans (hb1.mono (by simp))).alloc (B := w.heap.size) (by omega) ndzo)
               have zz := (Below.heap_alloc w1 ndzo w.heap.size (by omega)).trans ((hb1.block w.heap.size (by (rw [HZ.out]; omega))).trans (K.alloc_top _ _))
               have f0 := frozen_of_row _ _ 0 _ _ zz
               have f1 := frozen_of_row _ _ 1 _ _ zz
               have f2 := frozen_of_row _ _ 2 _ _ zz
               have f3 := frozen_of_row _ _ 3 _ _ zz
               have f4 := frozen_of_row _ _ 4 _ _ zz
               obtain ⟨t0, t1, t2, t3, t4⟩ := nd_cells zz
               have ZZ := Lib.hid zz
               clear hb1 zz)
  refine bodyPost_ret (results_cell_row rfl _ _ w.heap.size _ _ _ _ rfl (row_z5 ZZ.out _ _ _ _ _) Tryd.underlying72 (by kernel_rfl) (by kernel_rfl)) rfl ?_
  exact ⟨rfl, ((((HB1.out.setCell (by simp) _).setCell (by simp) _).setCell (by simp) _).setCell (by simp) _).setCell (by simp) _⟩
theorem run_ks (w : World) (W : Nat) (A : Option Addr) (n c ks le gr : Nat) : (Instr.field 72 (ndv W A n c ks le gr) 2).run Tryd.prog w = .ok (.int .i64 (ks : Int)) w := by kernel_rfl
theorem run_ksz (w : World) : (Instr.field 72 ndzv 2).run Tryd.prog w = .ok (.int .i64 0) w := by kernel_rfl
theorem t_len (h : TW w P Q m0 lim tk An cn Af cf ns fs root pl xs) : Calls Tryd.prog 32 #[.pointer (some ⟨P, 0, none⟩)] w fun e w' => e = .returned (.int .i64 ((xs.length : Nat) : Int)) ∧ Below w.heap.size w w' := by
  have hP2 := cell_of_row w P 2 _ _ (0, 0) h.row
  simp at hP2
  by_cases hx : xs = []
  · have hp := Lib.hid (t_peek_no w P Q m0 lim tk root cn cf An Af ns fs xs pl h (root : Int) (h.none hx))
    subst hx
    clear h
    have hfd := run_ksz
    go_enter Tryd.func32, Tryd.ntmps32
    go_wp2_with (go_at_call 57; (with_reducible refine hp.out.mono ?_); rintro e w1 ⟨rfl, hb1⟩; have HB1 := Lib.hid hb1; clear hb1)
    go_ret
    exact ⟨rfl, HB1.out⟩
  · obtain ⟨x, hm⟩ := List.exists_mem_of_ne_nil _ hx
    obtain ⟨hi, hns, hok⟩ := h.node (l := 0) (p := 0) (by omega) ⟨x, hm, T.pre_zero (h.lt x hm)⟩
    rw [← h.rt hx] at hi
    have hns : ns[root] = (nat ns (pl 0 0), true) := by
      have := h.rt hx
      subst this
      exact hns
    have hp := Lib.hid (t_peek_yes w P Q m0 lim tk root cn cf An Af ns fs xs pl h root hi (by rw [hns]))
    rw [hns] at hp
    have hks := hok.ks
    rw [T.sub_zero h.lt] at hks
    have HK := Lib.hid hks
    clear h hns hok hks hi
    generalize nat ns (pl 0 0) = nd at *
    obtain ⟨W, A, ch, c, ks, le, gr⟩ := nd
    have hp : Hid (Calls _ _ _ _ (RetB w (ndv W A ch.length c ks le gr))) := hp
    have HK : Hid (ks = xs.length) := HK
    rw [← HK.out]
    have hfd := fun V => run_ks V W A ch.length c ks le gr
    go_enter Tryd.func32, Tryd.ntmps32
    go_wp2_with (go_at_call 57; (with_reducible refine hp.out.mono ?_); rintro e w1 ⟨rfl, hb1⟩; have HB1 := Lib.hid hb1; clear hb1)
    go_ret
    exact ⟨rfl, HB1.out⟩
end
theorem t_len_nil (w : World) : Calls Tryd.prog 32 #[.pointer none] w fun e w' => e = .returned (.int .i64 0) ∧ w = w' := by
  go_enter Tryd.func32, Tryd.ntmps32
  go_wp2
  go_ret
  exact ⟨rfl, rfl⟩
theorem t_used_nil (w : World) : Calls Tryd.prog 14 #[.pointer none] w fun e w' => e = .returned (.int .i64 0) ∧ w = w' := by
  go_enter Tryd.func14, Tryd.ntmps14
  go_wp2
  go_ret
  exact ⟨rfl, rfl⟩
theorem t_limit_nil (w : World) : Calls Tryd.prog 20 #[.pointer none] w fun e w' => e = .returned (.int .i64 0) ∧ w = w' := by
  go_enter Tryd.func20, Tryd.ntmps20
  go_wp2
  go_ret
  exact ⟨rfl, rfl⟩
theorem t_insert_nil (w : World) (k : Int) : Calls Tryd.prog 23 #[.pointer none, .int .u64 k] w fun e w' => e = .returned (.int .i64 3) ∧ w = w' := by
  go_enter Tryd.func23, Tryd.ntmps23
  go_wp2
  go_ret
  exact ⟨rfl, rfl⟩
theorem t_delete_nil (w : World) (k : Int) : Calls Tryd.prog 25 #[.pointer none, .int .u64 k] w fun e w' => e = .returned (.int .i64 3) ∧ w = w' := by
  go_enter Tryd.func25, Tryd.ntmps25
  go_wp2
  go_ret
  exact ⟨rfl, rfl⟩
theorem t_has_nil (w : World) (k : Int) : Calls Tryd.prog 26 #[.pointer none, .int .u64 k] w fun e w' => e = .returned (.bool false) ∧ w = w' := by
  go_enter Tryd.func26, Tryd.ntmps26
  go_wp2
  go_ret
  exact ⟨rfl, rfl⟩
theorem t_clear_nil (w : World) : Calls Tryd.prog 31 #[.pointer none] w fun e w' => e = .returned (.tuple #[]) ∧ w = w' := by
  go_enter Tryd.func31, Tryd.ntmps31
  go_wp2
  refine bodyPost_ret (results_none rfl _ _ _) rfl ?_
  exact ⟨rfl, rfl⟩
end Go.Proofs.YtndielncleohlaaDoor
