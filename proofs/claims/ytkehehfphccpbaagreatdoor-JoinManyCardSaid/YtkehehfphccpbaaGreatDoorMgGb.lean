/- All of a bitmap: an iterator that goes over the strip's; the text walked. What the law's own function 'all' collects of an iterator: the first ones. slices.AppendSeq over a bitmap's numbers. The law BitmapMakes, walked. -/
import Derived.Maps.OwnIn
import Derived.Test.YtkehehfphccpbaaGreatDoorMgGa
import Derived.Test.YtkehehfphccpbaaGreatDoorMgOb
import Derived.Test.YtkehehfphccpbaaGreatDoorMgBr
section
namespace Go.Proofs.YtkehehfphccpbaaGreatDoor
set_option maxRecDepth 40000
open Go.RowKit Go.Shelf
attribute [local go_sem] Oper.semAt_some
theorem strip_all_any (p : Option Addr) (w : World) :
    Calls Tryz.prog 61 #[.pointer p] w fun e w' => e = .returned (.func (.func 83) #[] #[.pointer (some ⟨w.heap.size, 0, none⟩)]) ∧ w' = w.alloc (.cells #[.pointer p] 84) := by
  go_enter Tryz.func61, Tryz.ntmps61
  go_wp2
  go_ret
  exact ⟨rfl, rfl⟩
theorem bit_all_any (p : Option Addr) (w : World) :
    Calls Tryz.prog 38 #[.pointer p] w fun e w' => e = .returned (.func (.func 60) #[] #[.pointer (some ⟨w.heap.size, 0, none⟩)]) ∧ w' = w.alloc (.cells #[.pointer p] 59) := by
  go_enter Tryz.func38, Tryz.ntmps38
  go_wp2
  go_ret
  exact ⟨rfl, rfl⟩
set_option maxRecDepth 100000 in
set_option maxHeartbeats 1000000 in
/-- A nil strip tells nothing. -/
theorem strip_seq_nil (n Bn n₀ : Nat) (w : World) (hBn : Bn < w.heap.size) (hc : w.cell? ⟨Bn, 0, none⟩ = some (.pointer none)) :
    SeqY Fence.wide n Tryz.prog 83 #[.pointer (some ⟨Bn, 0, none⟩)] (fun y : Int => #[Value.int .i64 y]) n₀ (fun ys => ys = []) (fun pre => pre <+: []) (fun pre => pre <+: []) w := by
  intro l J Jx W hW hJ hJx hY h0
  have hltB : Bn < W.heap.size := Nat.lt_of_lt_of_le hBn hW.size
  have hf1 : ∀ o, (W.alloc o).cell? ⟨Bn, 0, none⟩ = some (.pointer none) := fun o => (World.cell?_alloc_lt W o ⟨Bn, 0, none⟩ hltB).trans ((hW.cell (p := ⟨Bn, 0, none⟩) hBn).trans hc)
  have hJ0 : Hid (∀ o, J [] (fun _ => False) (W.alloc o)) := fun o => hJ _ _ _ _ _ h0 (but_alloc' _ _ _) (fun _ h => h.elim)
  refine callsIn_of_wp Tryz.func83 rfl trivial ?_ rfl
  simp only [Tryz.ntmps83, List.size_toArray, List.length_cons, List.length_nil, Nat.reduceAdd, Nat.reduceSub, Array.replicate_succ, Array.replicate_zero, List.push_toArray, List.append_toArray, List.nil_append, List.cons_append]
  gi_wp2
  refine bodyPost_ret (results_none rfl _ _ _) rfl ?_
  first
    | exact ⟨⟨_, rfl⟩, .inl ⟨_, _, rfl, hJ0.out _⟩⟩
    | exact ⟨⟨_, rfl⟩, .inl ⟨_, hJ0.out _⟩⟩
set_option maxRecDepth 100000 in
set_option maxHeartbeats 4000000 in
theorem bit_seq (n Bn n₀ : Nat) (w : World) (bp sp : Option Addr) (xs : List Int) (hx : ∀ y ∈ xs, 0 ≤ y ∧ y ≤ 65535) (hnw : n₀ ≤ w.heap.size) (hBn : Bn < w.heap.size)
    (hc : w.cell? ⟨Bn, 0, none⟩ = some (.pointer bp)) (hn : 6 ≤ n)
    (hkept : ∀ W, Below w.heap.size w W → Calls Tryz.prog 57 #[.pointer bp] W fun e w' => e = .returned (.pointer sp) ∧ W = w')
    (hstrip : ∀ m Bs W, 3 ≤ m → Below w.heap.size w W → Bs < W.heap.size → W.cell? ⟨Bs, 0, none⟩ = some (.pointer sp) →
      SeqY Fence.wide m Tryz.prog 83 #[.pointer (some ⟨Bs, 0, none⟩)] (fun y : Int => #[Value.int .i64 y]) n₀ (fun ys => ys = xs) (fun pre => pre <+: xs) (fun pre => pre <+: xs) W) :
    SeqY Fence.wide n Tryz.prog 60 #[.pointer (some ⟨Bn, 0, none⟩)] (fun y : Int => #[Value.int .u16 y]) n₀ (fun ys => ys = xs) (fun pre => pre <+: xs) (fun pre => pre <+: xs) w := by
  intro l J Jx W hW hJ hJx hY h0
  have hn1 : 1 ≤ n := by omega
  have hltB : Bn < W.heap.size := Nat.lt_of_lt_of_le hBn hW.size
  have hnW : n₀ ≤ W.heap.size := Nat.le_trans hnw hW.size
  have hf1 : ∀ o, (W.alloc o).cell? ⟨Bn, 0, none⟩ = some (.pointer bp) := fun o => (World.cell?_alloc_lt W o ⟨Bn, 0, none⟩ hltB).trans ((hW.cell (p := ⟨Bn, 0, none⟩) hBn).trans hc)
  have hk0 : ∀ o, Hid (Calls Tryz.prog 57 #[.pointer bp] (W.alloc o) fun e w' => e = .returned (.pointer sp) ∧ W.alloc o = w') := fun o => hkept _ (hW.alloc hW.size o)
  refine callsIn_of_wp_marks Tryz.func60 rfl trivial ?_ rfl
  simp only [Tryz.ntmps60, List.size_toArray, List.length_cons, List.length_nil, Nat.reduceAdd, Nat.reduceSub, Array.replicate_succ, Array.replicate_zero, List.push_toArray, List.append_toArray, List.nil_append, List.cons_append]
  gi_wp2_with (first
    | (refine ⟨trivial, ?_⟩; gi_at_call 57; refine (callsIn_wide.2 (hk0 _).out).mono ?_; rintro e w' ⟨rfl, rfl⟩)
    | (refine ⟨trivial, ?_⟩; gi_at_call 61; refine (callsIn_wide.2 (strip_all_any sp _)).mono ?_; rintro e w' ⟨rfl, rfl⟩))
  obtain ⟨By, hBy⟩ : ∃ By, W.heap.size = By := ⟨_, rfl⟩
  obtain ⟨Wq, hWq⟩ : ∃ Wq, (W.alloc (.cells #[.func (.yield l) #[] #[]] 48)).alloc (.cells #[.pointer sp] 84) = Wq := ⟨_, rfl⟩
  have hzq : Wq.heap.size = By + 2 := by rw [← hWq, ← hBy]; simp
  have hbut : ButS W Wq (fun _ => False) := by rw [← hWq]; exact (but_alloc' _ _ _).trans (but_alloc' _ _ _)
  have hq3 : Wq.heap[By]? = some (.cells #[.func (.yield l) #[] #[]] 48 (0, 0)) := by rw [← hWq, Below.heap_alloc _ _ _ (by simp; omega)]; exact alloc_top _ _ hBy.symm
  have hq2 : Wq.cell? ⟨By + 1, 0, none⟩ = some (.pointer sp) := by
    have h1 : Wq.heap[By + 1]? = some (.cells #[.pointer sp] 84 (0, 0)) := by rw [← hWq]; exact alloc_top _ _ (by simp; omega)
    exact cell_of_row Wq (By + 1) 0 _ _ (0, 0) h1
  have hbl : Below w.heap.size w Wq := hW.trans (hbut.below hW.size (fun _ h => h.elim))
  have hseq := hstrip (n - 1) (By + 1) Wq (by omega) hbl (by omega) hq2
  have hJq : IJ n₀ Wq J id [] (fun j => n₀ ≤ j ∧ j < By) Wq := by
    refine ⟨fun j hj => ⟨hj.1, by omega⟩, Below.refl _ _, ?_⟩
    exact hJ _ _ _ _ _ h0 (hbut.mono fun _ _ h => h.elim) (fun j hj => ⟨.inr (by omega), hj.2.1⟩)
  have hnq : n₀ ≤ Wq.heap.size := by omega
  have hSlt : ∀ j, j = By → j < Wq.heap.size := fun j hj => by omega
  have hSt : Stays (· = By) Wq (fun j => n₀ ≤ j ∧ j < By) Wq := fun j hj => ⟨by omega, rfl⟩
  rw [hBy, hWq]
  clear hWq hf1 hk0 hstrip hkept h0 hbut
  refine wpIn_rangeY (Q := _) rfl (by omega) (gf := 83) (lb := #[.pointer (some ⟨By + 1, 0, none⟩)]) rfl trivial (enters_of Tryz.func83 (by kernel_rfl) rfl)
    (encs := fun y : Int => #[Value.int .i64 y]) (n₀ := n₀) (S := fun ys => ys = xs) (Sp := fun pre => pre <+: xs) (T := fun pre => pre <+: xs) (w0 := Wq)
    hseq hnq (Below.refl _ _) (fun _ => rfl)
    (fun pre O W1 => IJ n₀ Wq J id pre O W1 ∧ Stays (· = By) Wq O W1) (fun c pre O W1 => c = .ret ∧ IJ n₀ Wq Jx id pre O W1 ∧ Stays (· = By) Wq O W1)
    (fun pp a1 O W1 => a1 = { tmps := #[.func (.yield l) #[] #[], .pointer (some ⟨Bn, 0, none⟩), .pointer (some ⟨By, 0, none⟩), .int .i64 pp.2, .pointer bp, .pointer sp, .func (.func 83) #[] #[.pointer (some ⟨By + 1, 0, none⟩)], .int .i64 pp.2, undef, undef, undef, undef, undef], defers := [] } ∧
      (pp.1 ++ [pp.2] <+: xs ∧ IJ n₀ Wq J id pp.1 O W1 ∧ Stays (· = By) Wq O W1))
    ((IJ.abides _ hJ hnq hnq).and (Stays.abides hSlt)) (fun c => Abides.pure (fun _ => c = .ret) ((IJ.abides _ hJx hnq hnq).and (Stays.abides hSlt)))
    (fun a' pp O W1 W' R hi hw hR => ⟨hi.1, hi.2.1, ((IJ.abides id hJ hnq hnq).and (Stays.abides hSlt)) pp.1 O W1 W' R hi.2.2 hw hR⟩)
    (fun pre O W1 hi j hj => (hi.1.1 j hj).1) (fun j => n₀ ≤ j ∧ j < By) (fun j hj => by omega) ⟨hJq, hSt⟩ ?assign ?body ?done ?stop
  case assign =>
    intro l2 pre y O1 W1 hi hT1
    gi_wp2
    exact ⟨O1, ⟨ButS.refl _ _, fun j hj => ⟨.inl hj, (hi.1.1 j hj).2⟩⟩, by first | trivial | rfl, hT1, hi⟩
  case body =>
    rintro l2 pre y O1 a1 W1 ⟨rfl, hT1, hi, hst1⟩
    have hT1 : pre ++ [y] <+: xs := hT1
    have hyb := hx y (prefix_snoc hT1)
    have hw16 : IntKind.u16.wrap y = y := wrap16 hyb.1 hyb.2
    have hg1 : W1.cell? ⟨By, 0, none⟩ = some (.func (.yield l) #[] #[]) := cell_of_row W1 By 0 _ _ (0, 0) ((hst1 By rfl).2.trans hq3)
    obtain ⟨fn, tm, asg, bd, hy, hR⟩ := hY pre y _ W1 hi.2.2 hT1
    have HI := Lib.hid hi
    have HST := Lib.hid hst1
    clear hi hst1 hT1 hyb
    gi_wp2
    refine ⟨fun h => (by cases h), (roundIn_any hR).mono ?_⟩
    rintro e W2 (⟨rfl, hj2, hb2, hs2⟩ | ⟨rfl, hj2, hb2, hs2⟩)
    · obtain ⟨O2, ho2, hlo2, hj3⟩ := yield_own hJ hj2 hb2 hs2
      have HF : Hid (IJ n₀ Wq J id (pre ++ [y]) O2 W2 ∧ Stays (· = By) Wq O2 W2) := ⟨⟨hlo2, HI.out.2.1.trans hb2, hj3⟩, HST.out.own hSlt ho2⟩
      have HO := Lib.hid ho2
      clear hj2 hb2 hs2 ho2 hlo2 hj3
      gi_wp2
      exact ⟨O2, HO.out, HF.out⟩
    · obtain ⟨O2, ho2, hlo2, hj3⟩ := yield_own hJx hj2 hb2 hs2
      have HF : Hid (IJ n₀ Wq Jx id (pre ++ [y]) O2 W2 ∧ Stays (· = By) Wq O2 W2) := ⟨⟨hlo2, HI.out.2.1.trans hb2, hj3⟩, HST.out.own hSlt ho2⟩
      have HO := Lib.hid ho2
      clear hj2 hb2 hs2 ho2 hlo2 hj3
      gi_wp2
      exact ⟨O2, HO.out, rfl, HF.out⟩
  case done =>
    rintro D ys O1 W1 hDw hOD rfl ⟨hi, hst1⟩ hK
    have HL : Hid (∀ W2, ButS W1 W2 (· ∈ [D]) → J ys (fun j => n₀ ≤ j ∧ j < W1.heap.size ∧ ¬ O1 j) W2) := fun W2 hb => hJ _ _ _ _ _ hi.2.2 (hb.mono fun j hlt hj => by
      have e : j = D := by simpa using hj
      subst e
      exact ⟨by omega, hlt, hOD⟩) (fun j hj => ⟨.inl hj, Nat.lt_of_lt_of_le hj.2.1 hb.size⟩)
    have HK := Lib.hid hK
    clear hi hst1 hK
    gi_wp2
    exact leaves_marks [D] W1 (by simp) (fun E hE => by have e : E = D := (by simpa using hE); subst e; exact HK.out) (fun W2 hb => ⟨_, results_none rfl _ _ _, ⟨_, rfl⟩, .inl ⟨_, _, rfl, HL.out W2 hb⟩⟩)
  case stop =>
    rintro D c pre O1 W1 hDw hOD hpre ⟨rfl, hi, hst1⟩ hK
    have HL : Hid (∀ W2, ButS W1 W2 (· ∈ [D]) → Jx pre (fun j => n₀ ≤ j ∧ j < W1.heap.size ∧ ¬ O1 j) W2) := fun W2 hb => hJx _ _ _ _ _ hi.2.2 (hb.mono fun j hlt hj => by
      have e : j = D := by simpa using hj
      subst e
      exact ⟨by omega, hlt, hOD⟩) (fun j hj => ⟨.inl hj, Nat.lt_of_lt_of_le hj.2.1 hb.size⟩)
    have HK := Lib.hid hK
    have HP := Lib.hid hpre
    clear hi hst1 hK hpre
    gi_wp2
    exact leaves_marks [D] W1 (by simp) (fun E hE => by have e : E = D := (by simpa using hE); subst e; exact HK.out) (fun W2 hb => ⟨_, results_none rfl _ _ _, ⟨_, rfl⟩, .inr ⟨_, _, HP.out, HL.out W2 hb⟩⟩)
end Go.Proofs.YtkehehfphccpbaaGreatDoor
end
section
namespace Go.Proofs.YtkehehfphccpbaaGreatDoor
set_option maxRecDepth 40000
open Go.RowKit Go.Shelf
attribute [local go_sem] Oper.semAt_some
/-- The list that is collected: its box at b, its row. -/
def Outs (b : Nat) (es : List Int) (O : Nat → Prop) (W : World) : Prop :=
  ∃ v, W.heap[b]? = some (.cells #[v] 37 (0, 0)) ∧ W.ownsRow b 35 1 v es.length (es.map (Value.int .u16)) ∧ v.ownBlock ≠ some b ∧ ∀ j, O j ↔ (j = b ∨ v.ownBlock = some j)
theorem own_ltG {W : World} {base : Nat} {e : TypeId} {size n : Nat} {v : Value} {xs : List Value} (h : W.ownsRow base e size v n xs) {j : Nat} (hj : v.ownBlock = some j) : j < W.heap.size ∧ base ≤ j := by
  rcases h.2 with ⟨rfl, _⟩ | ⟨g, cap, cur, rfl, hb, hg, _⟩
  · simp [Value.ownBlock] at hj
  · simp [Value.ownBlock] at hj
    subst hj
    exact ⟨(Array.getElem?_eq_some_iff.1 hg).1, hb⟩
theorem Outs.but {b : Nat} {es : List Int} {O R : Nat → Prop} {W W' : World} (h : Outs b es O W) (hw : ButS W W' R) (hR : ∀ j, R j → ¬ O j) : Outs b es O W' := by
  obtain ⟨v, h1, h2, h3, h4⟩ := h
  refine ⟨v, (hw.block b (Array.getElem?_eq_some_iff.1 h1).1 (fun hr => hR b hr ((h4 b).2 (.inl rfl)))).trans h1, hw.own h2 (fun k hk hr => hR k hr ((h4 k).2 (.inr hk))), h3, h4⟩
theorem Outs.lt {b : Nat} {es : List Int} {O : Nat → Prop} {W : World} (h : Outs b es O W) : ∀ j, O j → b ≤ j ∧ j < W.heap.size := by
  obtain ⟨v, h1, h2, h3, h4⟩ := h
  intro j hj
  rcases (h4 j).1 hj with rfl | hj
  · exact ⟨Nat.le_refl _, (Array.getElem?_eq_some_iff.1 h1).1⟩
  · exact ⟨(own_ltG h2 hj).2, (own_ltG h2 hj).1⟩
theorem eq_testG (a m : Nat) : ((a : Int) + 1 == (m : Int)) = decide (a + 1 = m) := by
  rw [Bool.eq_iff_iff]; simp; omega
theorem far_blockG {W w2 : World} {o : Obj} {row : Option Nat} (hg : (W.alloc o).grownBy w2 row) {b : Nat} (hb : b < W.heap.size) (hne : some b ≠ row) : w2.heap[b]? = W.heap[b]? :=
  (hg.block b (by simp; omega) hne).trans (Below.heap_alloc _ _ _ hb)
theorem far_cellG {W w2 : World} {o : Obj} {row : Option Nat} (hg : (W.alloc o).grownBy w2 row) {b : Nat} (off : Nat) (hb : b < W.heap.size) (hne : some b ≠ row) : w2.cell? ⟨b, off, none⟩ = W.cell? ⟨b, off, none⟩ := by
  have := far_blockG hg hb hne
  simp [World.cell?, this]
theorem own_baseG {w : World} {base base' : Nat} {e : TypeId} {size n : Nat} {v : Value} {xs : List Value} (h : w.ownsRow base e size v n xs) (hb : base' ≤ base) : w.ownsRow base' e size v n xs := by
  refine ⟨h.1, ?_⟩
  rcases h.2 with h | ⟨g, cap, cur, hv, hb', rest⟩
  · exact .inl h
  · exact .inr ⟨g, cap, cur, hv, by omega, rest⟩
theorem set_heapG {w : World} {b : Nat} {v u : Value} {T : TypeId} (h : w.heap[b]? = some (.cells #[v] T (0, 0))) : (w.setCell ⟨b, 0, none⟩ u).heap[b]? = some (.cells #[u] T (0, 0)) := by
  simp [World.setCell, Array.getElem?_modify, h]
/-- What 'all' answers. -/
def AllQ (w : World) (es : List Int) (e : Ending) (w' : World) : Prop :=
  ∃ A c, e = .returned (.slice A es.length c) ∧ Rh w' w'.heap.size A es ∧ Young w.heap.size A ∧ Below w.heap.size w w'
end Go.Proofs.YtkehehfphccpbaaGreatDoor
end
section
namespace Go.Proofs.YtkehehfphccpbaaGreatDoor
set_option maxRecDepth 40000
open Go.RowKit Go.Shelf
attribute [local go_sem] Oper.semAt_some
/-- These numbers are handed back, in a row of one's own. -/
def ListP (w : World) (xs : List Int) (e : Ending) (w' : World) : Prop := ∃ v, e = .returned v ∧ w'.ownsRow w.heap.size 35 1 v xs.length (hv xs) ∧ Below w.heap.size w w'
set_option maxRecDepth 100000 in
set_option maxHeartbeats 4000000 in
theorem append_seq (w : World) (Bn : Nat) (xs : List Int) (hl : xs.length ≤ 1000000)
    (hseq : ∀ W, Below w.heap.size w W → w.heap.size + 1 ≤ W.heap.size →
      SeqY Fence.wide 8 Tryz.prog 60 #[.pointer (some ⟨Bn, 0, none⟩)] (fun y : Int => #[Value.int .u16 y]) w.heap.size (fun ys => ys = xs) (fun pre => pre <+: xs) (fun pre => pre <+: xs) W) :
    Calls Tryz.prog 59 #[.slice none 0 0, .func (.func 60) #[] #[.pointer (some ⟨Bn, 0, none⟩)]] w (ListP w xs) := by
  refine (callsIn_wide (n := 9)).1 ?_
  obtain ⟨i0, hi, hz0, hz1, hz2⟩ := info_parts u16_info
  refine callsIn_of_wp_marks Tryz.func59 rfl trivial ?_ rfl
  simp only [Tryz.ntmps59, List.size_toArray, List.length_cons, List.length_nil, Nat.reduceAdd, Nat.reduceSub, Array.replicate_succ, Array.replicate_zero, List.push_toArray, List.append_toArray, List.nil_append, List.cons_append]
  gi_wp2
  have hs0 : (w.alloc (.cells #[.slice none 0 0] 37)).heap.size = w.heap.size + 1 := by simp
  have hout : (w.alloc (.cells #[.slice none 0 0] 37)).heap[w.heap.size]? = some (.cells #[.slice none 0 0] 37 (0, 0)) := alloc_top _ _ rfl
  have hb0 : Below w.heap.size w (w.alloc (.cells #[.slice none 0 0] 37)) := (Below.refl _ w).alloc (by omega) _
  generalize hW0 : w.alloc (.cells #[.slice none 0 0] 37) = W0 at *
  have hO0 : Outs w.heap.size [] (fun j => j = w.heap.size) W0 := ⟨_, hout, World.ownsRow_nil _ _ _ _, by simp [Value.ownBlock], fun j => by simp [Value.ownBlock]⟩
  have hsq := hseq W0 hb0 (by omega)
  clear hout hW0 hseq
  refine wpIn_rangeY rfl (by decide) (gf := 60) (lb := #[.pointer (some ⟨Bn, 0, none⟩)]) rfl trivial (enters_of Tryz.func60 (by kernel_rfl) rfl)
    (n₀ := w.heap.size) hsq (by omega) (Below.refl _ _) (fun _ => rfl)
    (fun pre O W => Outs w.heap.size pre O W ∧ Below w.heap.size w W)
    (fun _ _ _ _ => False)
    (fun s a1 O W => a1 = { tmps := #[.slice none 0 0, .func (.func 60) #[] #[.pointer (some ⟨Bn, 0, none⟩)], .pointer (some ⟨w.heap.size, 0, none⟩), undef, .slice none 0 0, .int .u16 s.2, .func (.func 60) #[] #[.pointer (some ⟨Bn, 0, none⟩)], .int .u16 s.2, undef, undef, undef, undef, undef], defers := [] }
      ∧ Outs w.heap.size s.1 O W ∧ s.1.length < 1000000 ∧ Below w.heap.size w W)
    ?hI ?hIx ?hA ?hlow (fun j => j = w.heap.size) (fun j hj => by omega) ⟨hO0, hb0⟩ ?assign ?body ?done ?stop
  case hI =>
    rintro pre O W W' R ⟨h1, h3⟩ hw hR
    exact ⟨h1.but hw (fun j hj => (hR j hj).1), h3.trans (hw.below (by have := h3.size; omega) (fun j hj => by have := (hR j hj).2; omega))⟩
  case hIx =>
    rintro c pre O W W' R h hw hR
    exact h
  case hA =>
    rintro a' s O W W' R ⟨e1, h1, h2, h3⟩ hw hR
    exact ⟨e1, h1.but hw (fun j hj ho => (hR j hj).1 ho), h2, h3.trans (hw.below (by have := h3.size; omega) (fun j hj => by have := (hR j hj).2; omega))⟩
  case hlow =>
    rintro pre O W ⟨h1, _⟩ j hj
    exact (h1.lt j hj).1
  case assign =>
    rintro L pre x O W ⟨h1, h3⟩ hpx
    have hpl : pre.length < 1000000 := by
      have h4 := hpx.length_le
      rw [List.length_append, List.length_singleton] at h4
      omega
    gi_wp2
    exact ⟨O, ⟨ButS.refl _ _, fun j hj => ⟨.inl hj, (h1.lt j hj).2⟩⟩, by first | trivial | rfl, h1, hpl, h3⟩
  case body =>
    rintro L pre x O a1 W ⟨rfl, ⟨v, hv, hrow, hvb, hO⟩, h2, h3⟩
    have hc : W.cell? ⟨w.heap.size, 0, none⟩ = some v := cell_of_row _ _ 0 _ _ (0, 0) hv
    have hvl : ∀ j, v.ownBlock = some j → j < W.heap.size ∧ w.heap.size ≤ j := fun j hj => own_ltG hrow hj
    have hsz := h3.size
    have h2 : pre.length < 1000000 := h2
    have hbl : w.heap.size < W.heap.size := (Array.getElem?_eq_some_iff.1 hv).1
    have HV := Lib.hid hv
    have HR := Lib.hid hrow
    have HVB := Lib.hid hvb
    have HVL := Lib.hid hvl
    have H3 := Lib.hid h3
    clear hv hrow hvb hvl h3
    gi_wp2_with (gi_at_builtin; refine wpListIn_append_own_at _ rfl _ _ 37 rfl w.heap.size 35 i0 _ 1 2 Tryz.underlying37 hi hz0 hz1 hz2 rfl (by decide) v pre.length (pre.map (Value.int .u16)) rfl (HR.out.alloc _) ⟨W.heap.size, 0, none⟩ 1 1 [.int .u16 x] rfl rfl (cell_oneB W _ _) (by intro u hu; simp at hu; subst hu; rfl) (by unfold maxLen; omega) (by omega) (by simp; omega) ?_; intro v' w2 hown' hgrow _ hblk; obtain ⟨A', c', rfl⟩ := own_form hown'; have hbB := (far_blockG hgrow hbl (fun e => HVB.out e.symm)).trans HV.out; have hcb : w2.cell? ⟨w.heap.size, 0, none⟩ = some v := cell_of_row _ _ 0 _ _ (0, 0) hbB; have hfb : w2.frozen? ⟨w.heap.size, 0, none⟩ = false := (by simp [World.frozen?, hbB]); have HBB := Lib.hid hbB; have HOW := Lib.hid hown'; have HGR := Lib.hid hgrow; have HBL := Lib.hid hblk; clear hbB hown' hgrow hblk)
    all_goals
      have hown2 : w2.ownsRow w.heap.size 35 1 (.slice A' (pre.length + 1) c') (pre.length + 1) (pre.map (Value.int .u16) ++ [.int .u16 x]) := HOW.out
      have hvb2 : (Value.slice A' (pre.length + 1) c').ownBlock ≠ some w.heap.size := by
        intro e
        rcases HBL.out with h | h
        · rw [e] at h; exact HVB.out h.symm
        · rw [e] at h; simp at h; omega
      have hbut : ButS W (w2.setCell ⟨w.heap.size, 0, none⟩ (.slice A' (pre.length + 1) c')) O := by
        refine ((but_alloc' W _ O).trans (ButS.of_grown HGR.out (fun j e => (hO j).2 (.inr e)))).trans (but_set' w2 _ 0 _ O ((hO _).2 (.inl rfl)))
      have hout : Outs w.heap.size (pre ++ [x]) (fun j => j = w.heap.size ∨ (Value.slice A' (pre.length + 1) c').ownBlock = some j) (w2.setCell ⟨w.heap.size, 0, none⟩ (.slice A' (pre.length + 1) c')) := by
        refine ⟨.slice A' (pre.length + 1) c', set_heapG HBB.out, ?_, hvb2, fun j => Iff.rfl⟩
        rw [List.map_append, List.map_cons, List.map_nil, List.length_append]
        exact (but_set' w2 w.heap.size 0 (.slice A' (pre.length + 1) c') (· = w.heap.size) rfl).own hown2 (fun k hk e => hvb2 (by rw [hk, e]))
      have hstep : OwnStep O (fun j => j = w.heap.size ∨ (Value.slice A' (pre.length + 1) c').ownBlock = some j) W (w2.setCell ⟨w.heap.size, 0, none⟩ (.slice A' (pre.length + 1) c')) := by
        refine ⟨hbut, fun j hj => ⟨?_, (hout.lt j hj).2⟩⟩
        rcases hj with hj | hj
        · left; exact (hO j).2 (.inl hj)
        · rcases HBL.out with h | h
          · left; rw [hj] at h; exact (hO j).2 (.inr h.symm)
          · right; rw [hj] at h; simp at h; omega
      have hlow : ∀ j, O j → w.heap.size ≤ j := fun j hj => by
        rcases (hO j).1 hj with h | h
        · omega
        · exact (HVL.out j h).2
      have hbel : Below w.heap.size w (w2.setCell ⟨w.heap.size, 0, none⟩ (.slice A' (pre.length + 1) c')) := H3.out.trans (hbut.below (by omega) hlow)
    exact ⟨_, hstep, hout, hbel⟩
  case done =>
    rintro D ys O W hD hnD rfl ⟨⟨v, hv, hrow, hvb, hO⟩, h3⟩ hK
    have hc : W.cell? ⟨w.heap.size, 0, none⟩ = some v := cell_of_row _ _ 0 _ _ (0, 0) hv
    have hDl := (Array.getElem?_eq_some_iff.1 hK).1
    have hvD : v.ownBlock ≠ some D := fun h => hnD ((hO D).2 (.inr h))
    have hfin : w.heap.size + 1 ≤ W.heap.size := (Array.getElem?_eq_some_iff.1 hv).1
    gi_wp2
    refine ⟨by simp, .inl ⟨_, _, rfl, run_takeDeferred hK, ?_⟩⟩
    have ho := (but_put W D (.deferred none)).own hrow (fun k hk h => hvD (by rw [hk, h]))
    exact ⟨_, results_tmp rfl _ _ _, v, rfl, ho, h3.trans ((but_put W D (.deferred none)).below (by omega) (fun j h => by omega))⟩
  case stop =>
    rintro D c pre O W hD hnD hpre h hK
    exact h.elim
end Go.Proofs.YtkehehfphccpbaaGreatDoor
end
section
namespace Go.Proofs.YtkehehfphccpbaaGreatDoor
set_option maxRecDepth 40000
open Go.RowKit Go.Shelf
set_option maxHeartbeats 1000000 in
theorem b_of (A : Option Addr) (cp : Nat) (xs : List Int) (w : World) (hr : Rh w w.heap.size A xs) (hl : xs.length ≤ 9223372036854775807) (hx : ∀ y ∈ xs, 0 ≤ y ∧ y ≤ 65535) :
    Calls Tryz.prog 74 #[.slice A xs.length cp] w fun e w' => ∃ p s h us, e = .returned (.pointer (some ⟨p, 0, none⟩)) ∧ Bm w' p s h us ∧ OfL (sl us) xs ∧ w.heap.size ≤ p ∧ w.heap.size ≤ s ∧ w.heap.size ≤ h ∧ Below w.heap.size w w' := by
  have hnew := fun W => Lib.hid (b_new W)
  have hrH := Lib.hid hr
  have hxH := Lib.hid hx
  clear hr hx
  go_enter Tryz.func74, Tryz.ntmps74
  go_wp2_with (go_at_call 35; (with_reducible refine (hnew _).out.mono ?_); rintro e w1 ⟨p, s, h, rfl, hbm, hb1, hp, hs, hh⟩; have HM := Lib.hid hbm; have HB1 := Lib.hid hb1; clear hbm hb1)
  have h0 : Hid (OfL (sl (List.replicate 1024 0)) []) := ⟨sl_up _, by rw [sl_zeroB]; simp⟩
  obtain ⟨z0, hz0⟩ : ∃ z, List.replicate 1024 0 = z := ⟨_, rfl⟩
  rw [hz0] at HM h0
  clear hz0
  go_loopw [9] (fun i wr => ∃ (k : Nat) (us : List Nat), k ≤ xs.length ∧ i = .int .i64 (k : Int) ∧ Hid (Bm wr p s h us) ∧ Hid (OfL (sl us) (xs.take k)) ∧ Hid (Below w.heap.size w wr)) (fun i _ => xs.length - (intOf i).toNat)
  case atStart => exact ⟨0, z0, by omega, rfl, HM.out, by rw [List.take_zero]; exact h0.out, HB1.out⟩
  case round =>
    obtain ⟨k, us, hk, rfl, hB, hO, hW⟩ := hrel
    by_cases hlt : k < xs.length
    · have hT2 : decide (k < xs.length) = true := decide_eq_true hlt
      have hT3 : decide ((k : Int) < (xs.length : Int)) = true := decide_eq_true (by omega)
      obtain ⟨b, off, rfl, hbl, hc⟩ := (hrH.out.below hW.out (Nat.le_refl _)).at hlt
      have hv := hxH.out xs[k] (List.getElem_mem hlt)
      have hs := Lib.hid (take_snocH hlt)
      generalize xs[k] = y at *
      obtain ⟨v, rfl⟩ : ∃ v : Nat, y = (v : Int) := ⟨y.toNat, by omega⟩
      have hadd := Lib.hid (b_add hB.out v (by omega))
      go_wp2_with (go_at_call 36; (with_reducible refine hadd.out.mono ?_); rintro e w2 ⟨m, rfl, hst⟩
                   have HL := Lib.hid (hW.out.trans (bstep_below hst (B := w.heap.size) hW.out.size hh))
                   obtain ⟨us2, hc2, hm2, hg2⟩ := hst
                   have HO : Hid (OfL (sl us2) (xs.take (k + 1))) := ⟨sl_up _, fun y => by
                     rw [hc2.2.1 y, hs.out]
                     by_cases e : y = (v : Int)
                     · rw [if_pos (by omega)]; simp [e]
                     · rw [if_neg (by omega), hO.out.2 y]; simp [e]⟩
                   have HM2 := Lib.hid hm2
                   clear hc2 hm2 hg2)
      go_roundw
      case rel => exact ⟨k + 1, us2, by omega, by go_num, HM2.out, HO.out, HL.out⟩
      case measure => simp [intOf]; omega
    · have hT2 : decide (k < xs.length) = false := decide_eq_false hlt
      have hT3 : decide ((k : Int) < (xs.length : Int)) = false := decide_eq_false (by omega)
      have hO3 : Hid (OfL (sl us) xs) := by have := hO.out; rw [take_allH hlt] at this; exact this
      go_wp2
      go_ret
      exact ⟨p, s, h, us, rfl, hB.out, hO3.out, hp, hs, hh, hW.out⟩
end Go.Proofs.YtkehehfphccpbaaGreatDoor
end
