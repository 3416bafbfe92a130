/- slices.Backward over a way: the iterator's contract. -/
import Derived.RangeFuncNested
import Derived.RangeFuncBound
import Derived.RangeFuncCalls
import Derived.RangeFuncBox
import Derived.RangeFuncLeaves
import Derived.Shelf.Abstract
import Derived.Shelf.RegionOpen
import Derived.OwnWalkIn
import Derived.TacticsInMore
import Derived.LoopNIn
import Derived.LoopIn
import Derived.Test.YtbiingpdchoppaaDoorMgN
namespace Go.Proofs.YtbiingpdchoppaaDoor
set_option maxRecDepth 40000
open Go.RowKit Go.Shelf
attribute [local go_sem] Oper.semAt_some
/-- What a stop is, as a value. -/
abbrev stv (x : Nd × Nat) : Value := .agg #[.int .u64 (x.1.W : Int), .slice x.1.A x.1.ch.length x.1.c, .int .i64 (x.1.ks : Int), .int .u64 (x.1.le : Int), .int .u64 (x.1.gr : Int), .int .i64 (x.2 : Int)]
def ben (ss : List (Nd × Nat)) (y : Nat) : Array Value := #[.int .i64 (y : Int), stv ((ss[y]?).getD (Nd.z, 0))]
/-- What a round must leave: the way, and the box in which the slice lies. -/
def KpB (Bn : Nat) (Aw : Option Addr) (W W' : World) : Prop := W'.heap[Bn]? = W.heap[Bn]? ∧ (∀ g, Aw.map (·.block) = some g → W'.heap[g]? = W.heap[g]?) ∧ W.heap.size ≤ W'.heap.size
theorem KpB.trans {Bn : Nat} {Aw : Option Addr} {A B C : World} (h : KpB Bn Aw A B) (k : KpB Bn Aw B C) : KpB Bn Aw A C := ⟨k.1.trans h.1, fun g hg => (k.2.1 g hg).trans (h.2.1 g hg), Nat.le_trans h.2.2 k.2.2⟩
theorem KpB.refl (Bn : Nat) (Aw : Option Addr) (W : World) : KpB Bn Aw W W := ⟨rfl, fun _ _ => rfl, Nat.le_refl _⟩
theorem rev_at (m j : Nat) (h : j < m) : (List.range m).reverse.take (m - (j + 1)) ++ [j] = (List.range m).reverse.take (m - j) := by
  have e : m - j = m - (j + 1) + 1 := by omega
  rw [e, List.take_succ_eq_append_getElem (by simp; omega)]
  congr 2
  rw [List.getElem_reverse]
  simp
  omega
/-- The way as it reads. -/
structure WyR (W : World) (Bn : Nat) (Aw : Option Addr) (cw : Nat) (ss : List (Nd × Nat)) : Prop where
  box : W.heap[Bn]? = some (.cells #[.slice Aw ss.length cw] 83 (0, 0))
  row : W.ownsRow 0 99 6 (.slice Aw ss.length cw) ss.length (sv ss)
theorem WyR.kept {W W' : World} {Bn : Nat} {Aw : Option Addr} {cw : Nat} {ss : List (Nd × Nat)} (h : WyR W Bn Aw cw ss) (k : KpB Bn Aw W W') : WyR W' Bn Aw cw ss := by
  refine ⟨k.1.trans h.box, h.row.1, ?_⟩
  rcases h.row.2 with hn | ⟨g, cap, cur, e, hb0, hg, rest⟩
  · exact .inl hn
  · refine .inr ⟨g, cap, cur, e, hb0, (k.2.1 g ?_).trans hg, rest⟩
    simp only [Value.slice.injEq] at e
    rw [e.1]
    rfl
set_option maxRecDepth 100000 in
set_option maxHeartbeats 2000000 in
theorem backward1 (n : Nat) (hn : 1 ≤ n) (l Bn cw : Nat) (Aw : Option Addr) (ss : List (Nd × Nat)) (hl : ss.length ≤ 11) (J Jx : List Nat → World → Prop)
    (hY : ∀ pre y W, J pre W → pre.length < ss.length → y < ss.length → YieldAt Fence.wide (n - 1) Tryd.prog l (ben ss y) W fun e W' =>
      (e = .returned (.bool true) ∧ J (pre ++ [y]) W' ∧ KpB Bn Aw W W') ∨ (e = .returned (.bool false) ∧ Jx (pre ++ [y]) W'))
    (W : World) (hR : WyR W Bn Aw cw ss) (h0 : J [] W) :
    CallsIn Fence.wide n Tryd.prog 91 #[.func (.yield l) #[] #[], .pointer (some ⟨Bn, 0, none⟩)] W fun e W' => (∃ v, e = .returned v) ∧
      ((∃ ys, ys = (List.range ss.length).reverse ∧ J ys W') ∨ (∃ pre, pre <+: (List.range ss.length).reverse ∧ Jx pre W')) := by
  refine callsIn_of_wp Tryd.func91 rfl trivial ?_ rfl
  simp only [Tryd.ntmps91, List.size_toArray, List.length_cons, List.length_nil, Nat.reduceAdd, Nat.reduceSub, Array.replicate_succ, Array.replicate_zero, List.push_toArray, List.append_toArray, List.nil_append, List.cons_append]
  obtain ⟨m, hm⟩ : ∃ m, ss.length = m := ⟨_, rfl⟩
  have hw0 : IntKind.i64.wrap ((m : Int) - 1) = (m : Int) - 1 := IntWalk.i64_in _ (by omega)
  have hc := cell_of_row W Bn 0 _ _ (0, 0) hR.box
  simp at hc
  rw [hm] at hc hl ⊢
  have HR := Lib.hid hR
  have HM := Lib.hid hm
  clear hR hm
  gi_wp2
  gi_loopw [3] (fun q wr => ∃ j : Nat, j ≤ m ∧ q = .int .i64 ((j : Int) - 1) ∧ Hid (J ((List.range m).reverse.take (m - j)) wr) ∧ Hid (WyR wr Bn Aw cw ss)) (fun q _ => (intOf q + 1).toNat)
  case atStart => exact ⟨m, by omega, rfl, by rw [Nat.sub_self]; exact h0, HR⟩
  case round =>
    obtain ⟨j, hj, rfl, hJ, hWR⟩ := hrel
    rcases j with _ | j
    · gi_wp2
      go_end0
      have := hJ.out
      rw [Nat.sub_zero, List.take_of_length_le (by simp)] at this
      exact ⟨⟨_, rfl⟩, .inl ⟨_, rfl, this⟩⟩
    · have el : (((j + 1 : Nat) : Int) - 1) = (j : Int) := by omega
      rw [el]
      have g0 : decide (0 ≤ (j : Int)) = true := decide_eq_true (by omega)
      have hw1 : IntKind.i64.wrap ((j : Int) - 1) = (j : Int) - 1 := IntWalk.i64_in _ (by omega)
      have k1 : (j : Int) < (m : Int) := by omega
      have hbx := cell_of_row wr Bn 0 _ _ (0, 0) hWR.out.box
      simp at hbx
      rw [HM.out] at hbx
      obtain ⟨gw, hAw, c0, c1, c2, c3, c4, c5⟩ := Wy.at hWR.out.row (k := j) (by rw [HM.out]; omega)
      have htk := Lib.hid (rev_at m j (by omega))
      obtain ⟨fn, tmps, assign, body, hy, hRR⟩ := hY _ j wr hJ.out (by rw [List.length_take, List.length_reverse, List.length_range, HM.out]; omega) (by rw [HM.out]; omega)
      have hge : (ss[j]?).getD (Nd.z, 0) = ss[j]'(by rw [HM.out]; omega) := by rw [List.getElem?_eq_getElem (by rw [HM.out]; omega)]; rfl
      unfold ben at hy
      rw [hge] at hy
      subst hAw
      generalize ss[j]'(by rw [HM.out]; omega) = st at *
      gi_wp2
      refine hRR.mono ?_
      rintro e W3 (⟨rfl, hJ3, hk3⟩ | ⟨rfl, hJx3⟩)
      · have hJ4 : Hid (J ((List.range m).reverse.take (m - j)) W3) := by show J _ _; rw [← htk.out]; exact hJ3
        have hW4 : Hid (WyR W3 Bn (some ⟨gw, 0, none⟩) cw ss) := hWR.out.kept hk3
        gi_wp2
        go_roundw
        case rel => exact ⟨j, by omega, rfl, hJ4, hW4⟩
        case measure => first | (simp [intOf]; done) | (simp [intOf]; omega)
      · have hJ4 : Hid (Jx ((List.range m).reverse.take (m - j)) W3) := by show Jx _ _; rw [← htk.out]; exact hJx3
        gi_wp2
        refine bodyPost_ret (results_none rfl _ _ _) rfl ?_
        exact ⟨⟨_, rfl⟩, .inr ⟨_, List.take_prefix _ _, hJ4.out⟩⟩
/-- The iterator that Backward hands back: by levels. -/
theorem backward_stops (n : Nat) (hn : 1 ≤ n) (Bn cw : Nat) (Aw : Option Addr) (ss : List (Nd × Nat)) (hl : ss.length ≤ 11) (w : World) (hR : WyR w Bn Aw cw ss) :
    SeqStopsK Fence.wide n Tryd.prog 91 #[.pointer (some ⟨Bn, 0, none⟩)] (fun y : Fin ss.length => ben ss y.val) (KpB Bn Aw) (fun ys => ys.map Fin.val = (List.range ss.length).reverse) (fun pre => pre.map Fin.val <+: (List.range ss.length).reverse) ss.length w := fun l J Jx W hW _ _ hY h0 => by
  have := backward1 n hn l Bn cw Aw ss hl (fun q W => ∃ p : List (Fin ss.length), p.map Fin.val = q ∧ J p W) (fun q W => ∃ p : List (Fin ss.length), p.map Fin.val = q ∧ Jx p W) ?_ W (hR.kept ⟨hW.block Bn (row_lt hR.box), fun g hg => hW.block g (own_block_lt hR.row hg).1, hW.size⟩) ⟨[], rfl, h0⟩
  · refine this.mono ?_
    rintro e W' ⟨hv, h⟩
    refine ⟨hv, ?_⟩
    rcases h with ⟨ys, h1, p, h2, h3⟩ | ⟨pre, h1, p, h2, h3⟩
    · exact .inl ⟨p, h2.trans h1, h3⟩
    · exact .inr ⟨p, by show p.map Fin.val <+: _; rw [h2]; exact h1, h3⟩
  · rintro q y W ⟨p, rfl, hJ⟩ hlen hy
    obtain ⟨fn, tmps, assign, body, h1, h2⟩ := hY p ⟨y, hy⟩ W hJ (by simpa using hlen)
    refine ⟨fn, tmps, assign, body, h1, h2.mono ?_⟩
    rintro e W' (⟨h3, h4, h5⟩ | ⟨h3, h4⟩)
    · exact .inl ⟨h3, ⟨p ++ [⟨y, hy⟩], by simp, h4⟩, h5⟩
    · exact .inr ⟨h3, ⟨p ++ [⟨y, hy⟩], by simp, h4⟩⟩
theorem backward_any (w : World) (v : Value) (A : Option Addr) (n c : Nat) (hv : v = .slice A n c) :
    Calls Tryd.prog 74 #[v] w fun e w' => e = .returned (.func (.func 91) #[] #[.pointer (some ⟨w.heap.size, 0, none⟩)]) ∧ w' = w.alloc (.cells #[v] 83) := by
  subst hv
  go_enter Tryd.func74, Tryd.ntmps74
  go_wp2
  go_ret
  exact ⟨rfl, rfl⟩
end Go.Proofs.YtbiingpdchoppaaDoor
