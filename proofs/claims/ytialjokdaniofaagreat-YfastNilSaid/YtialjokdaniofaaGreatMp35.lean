/- What the law's own function 'all' collects of an y-fast trie: the first keys; the text walked. A nil y-fast trie; a new one of any limit; the texts walked. The law YfastNil; the text walked. -/
import Derived.Maps.AppendAt
import Derived.Maps.OwnIn
import Derived.Test.YtialjokdaniofaaGreatMp34
section
namespace Go.Proofs.YtialjokdaniofaaGreat
set_option maxRecDepth 20000
open Go.RowKit Go.Shelf
theorem wide_fnY (f : Nat) : Fence.wide.fn f := trivial
attribute [local go_sem] Oper.semAt_some
attribute [local simp] wide_fnY
theorem yf_all_any (w : World) (p : Option Addr) : Calls Tryz.prog 44 #[.pointer p] w fun e w' => e = .returned (.func (.func 76) #[] #[.pointer (some ⟨w.heap.size, 0, none⟩)]) ∧ w' = w.alloc (.cells #[.pointer p] 26) := by
  go_enter Tryz.func44, Tryz.ntmps44
  go_wp2
  go_ret
  exact ⟨rfl, rfl⟩
theorem cell_oneB (w : World) (v : Value) (T : TypeId) : ∀ j u, [v][j]? = some u → (w.alloc (.cells #[v] T)).cell? (Addr.add ⟨w.heap.size, 0, none⟩ j) = some u := by
  intro j u hu
  match j, hu with
  | 0, hu => simp at hu; subst hu; simp [Addr.add]
theorem alloc_top (w : World) (o : Obj) {n : Nat} (h : n = w.heap.size) : (w.alloc o).heap[n]? = some o := by
  subst h
  exact K.alloc_top w o
theorem but_set' (w : World) (h k : Nat) (u : Value) (S : Nat → Prop) (hS : S h) : ButS w (w.setCell ⟨h, k, none⟩ u) S := ButS.of_chg (chg_set w h k u S hS)
/-- The list that is collected: its box at b, its row. -/
def Outs (b : Nat) (es : List Nat) (O : Nat → Prop) (W : World) : Prop :=
  ∃ v, W.heap[b]? = some (.cells #[v] 47 (0, 0)) ∧ W.ownsRow b 22 1 v es.length (wv es) ∧ v.ownBlock ≠ some b ∧ ∀ j, O j ↔ (j = b ∨ v.ownBlock = some j)
theorem own_ltG {W : World} {base : Nat} {e : TypeId} {size n : Nat} {v : Value} {xs : List Value} (h : W.ownsRow base e size v n xs) {j : Nat} (hj : v.ownBlock = some j) : j < W.heap.size ∧ base ≤ j := by
  rcases h.2 with ⟨rfl, _⟩ | ⟨g, cap, cur, rfl, hb, hg, _⟩
  · simp [Value.ownBlock] at hj
  · simp [Value.ownBlock] at hj
    subst hj
    exact ⟨(Array.getElem?_eq_some_iff.1 hg).1, hb⟩
theorem Outs.but {b : Nat} {es : List Nat} {O R : Nat → Prop} {W W' : World} (h : Outs b es O W) (hw : ButS W W' R) (hR : ∀ j, R j → ¬ O j) : Outs b es O W' := by
  obtain ⟨v, h1, h2, h3, h4⟩ := h
  refine ⟨v, (hw.block b (Array.getElem?_eq_some_iff.1 h1).1 (fun hr => hR b hr ((h4 b).2 (.inl rfl)))).trans h1, hw.own h2 (fun k hk hr => hR k hr ((h4 k).2 (.inr hk))), h3, h4⟩
theorem Outs.lt {b : Nat} {es : List Nat} {O : Nat → Prop} {W : World} (h : Outs b es O W) : ∀ j, O j → b ≤ j ∧ j < W.heap.size := by
  obtain ⟨v, h1, h2, h3, h4⟩ := h
  intro j hj
  rcases (h4 j).1 hj with rfl | hj
  · exact ⟨Nat.le_refl _, (Array.getElem?_eq_some_iff.1 h1).1⟩
  · exact ⟨(own_ltG h2 hj).2, (own_ltG h2 hj).1⟩
theorem eq_testG (a m : Nat) : ((a : Int) + 1 == (m : Int)) = decide (a + 1 = m) := by
  rw [Bool.eq_iff_iff]; simp; omega
theorem far_blockG {W w2 : World} {o : Obj} {row : Option Nat} (hg : (W.alloc o).grownBy w2 row) {b : Nat} (hb : b < W.heap.size) (hne : some b ≠ row) : w2.heap[b]? = W.heap[b]? :=
  (hg.block b (by simp; omega) hne).trans (Below.heap_alloc _ _ _ hb)
theorem far_cellG {W w2 : World} {o : Obj} {row : Option Nat} (hg : (W.alloc o).grownBy w2 row) {b : Nat} (off : Nat) (hb : b < W.heap.size) (hne : some b ≠ row) : w2.cell? ⟨b, off, none⟩ = W.cell? ⟨b, off, none⟩ := by
  have := far_blockG hg hb hne
  simp [World.cell?, this]
theorem own_baseG {w : World} {base base' : Nat} {e : TypeId} {size n : Nat} {v : Value} {xs : List Value} (h : w.ownsRow base e size v n xs) (hb : base' ≤ base) : w.ownsRow base' e size v n xs := by
  refine ⟨h.1, ?_⟩
  rcases h.2 with h | ⟨g, cap, cur, hv, hb', rest⟩
  · exact .inl h
  · exact .inr ⟨g, cap, cur, hv, by omega, rest⟩
theorem set_heapG {w : World} {b : Nat} {v u : Value} {T : TypeId} (h : w.heap[b]? = some (.cells #[v] T (0, 0))) : (w.setCell ⟨b, 0, none⟩ u).heap[b]? = some (.cells #[u] T (0, 0)) := by
  simp [World.setCell, Array.getElem?_modify, h]
/-- What 'all' answers. -/
def AllQ (w : World) (es : List Nat) (e : Ending) (w' : World) : Prop :=
  ∃ v, e = .returned v ∧ KX w' v es ∧ Below w.heap.size w w'
set_option maxRecDepth 100000 in
set_option maxHeartbeats 4000000 in
theorem all_law (w : World) (p : Option Addr) (xs : List Nat) (m : Nat) (hm : 0 < m) (hm2 : m ≤ 1000000) (hl : xs.length ≤ 100000000)
    (hseq : ∀ Bn W, Below w.heap.size w W → w.heap.size + 1 ≤ W.heap.size → Bn < W.heap.size → W.cell? ⟨Bn, 0, none⟩ = some (.pointer p) →
      SeqW Fence.wide 8 Tryz.prog 76 #[.pointer (some ⟨Bn, 0, none⟩)] (fun y : Nat => #[Value.int .u64 ((y : Nat) : Int)]) (fun j => j < w.heap.size + 1) (fun ys => ys = xs) (fun pre => pre <+: xs) (fun pre => pre <+: xs) W) :
    Calls Tryz.prog 20 #[.pointer p, .int .i64 (m : Int)] w (AllQ w (xs.take m)) := by
  refine (callsIn_wide (n := 9)).1 ?_
  obtain ⟨i0, hi, hz0, hz1, hz2⟩ := info_parts u64_info
  refine callsIn_of_wp_marks Tryz.func20 rfl trivial ?_ rfl
  simp only [Tryz.ntmps20, List.size_toArray, List.length_cons, List.length_nil, Nat.reduceAdd, Nat.reduceSub, Array.replicate_succ, Array.replicate_zero, List.push_toArray, List.append_toArray, List.nil_append, List.cons_append]
  gi_wp2_with (gi_at_call 44; refine (callsIn_wide.2 (yf_all_any _ p)).mono ?_; rintro e w' ⟨rfl, rfl⟩)
  have b1 : Below w.heap.size w (w.alloc (.cells #[.int .i64 (m : Int)] 3)) := (Below.refl _ w).alloc (Nat.le_refl _) _
  have hcm : (w.alloc (.cells #[.int .i64 (m : Int)] 3)).cell? ⟨w.heap.size, 0, none⟩ = some (.int .i64 (m : Int)) := by simp
  have hs1 : (w.alloc (.cells #[.int .i64 (m : Int)] 3)).heap.size = w.heap.size + 1 := by simp
  generalize hw1 : w.alloc (.cells #[.int .i64 (m : Int)] 3) = w1 at *
  have hs2 : (w1.alloc (.cells #[.slice none 0 0] 47)).heap.size = w.heap.size + 2 := by simp; omega
  have hs3 : ((w1.alloc (.cells #[.slice none 0 0] 47)).alloc (.cells #[.pointer p] 26)).heap.size = w.heap.size + 3 := by simp; omega
  have hout : (w1.alloc (.cells #[.slice none 0 0] 47)).heap[w.heap.size + 1]? = some (.cells #[.slice none 0 0] 47 (0, 0)) := alloc_top _ _ hs1.symm
  have hout2 : ((w1.alloc (.cells #[.slice none 0 0] 47)).alloc (.cells #[.pointer p] 26)).heap[w.heap.size + 1]? = some (.cells #[.slice none 0 0] 47 (0, 0)) :=
    (Below.heap_alloc _ _ _ (by omega)).trans hout
  have hbp : ((w1.alloc (.cells #[.slice none 0 0] 47)).alloc (.cells #[.pointer p] 26)).cell? ⟨w.heap.size + 1 + 1, 0, none⟩ = some (.pointer p) :=
    cell_of_row _ _ 0 _ _ (0, 0) (alloc_top _ _ (by omega))
  have hb0 : Below (w.heap.size + 1) w1 ((w1.alloc (.cells #[.slice none 0 0] 47)).alloc (.cells #[.pointer p] 26)) :=
    (((Below.refl _ w1).alloc (by omega) _).alloc (by omega) _)
  generalize hW0 : (w1.alloc (.cells #[.slice none 0 0] 47)).alloc (.cells #[.pointer p] 26) = W0 at *
  have hO0 : Outs (w.heap.size + 1) [] (fun j => j = w.heap.size + 1) W0 := ⟨_, hout2, World.ownsRow_nil _ _ _ _, by simp [Value.ownBlock], fun j => by simp [Value.ownBlock]⟩
  have hbw0 : Below w.heap.size w W0 := b1.trans (hb0.mono (by omega))
  have hsq := hseq (w.heap.size + 1 + 1) W0 hbw0 (by omega) (by omega) hbp
  clear hout hout2 hs2 hW0 hseq
  refine wpIn_rangeW rfl (by decide) (gf := 76) (lb := #[.pointer (some ⟨w.heap.size + 1 + 1, 0, none⟩)]) rfl trivial (enters_of Tryz.func76 (by kernel_rfl) rfl)
    hsq (fun j hj => by have hj : j < w.heap.size + 1 := hj; omega) (Below.refl _ _) (fun _ => rfl)
    (fun pre O W => Outs (w.heap.size + 1) pre O W ∧ pre.length < m ∧ Below (w.heap.size + 1) w1 W)
    (fun c pre O W => c = .exit 0 ∧ Outs (w.heap.size + 1) pre O W ∧ pre.length = m ∧ Below (w.heap.size + 1) w1 W)
    (fun s a1 O W => a1 = { tmps := #[.pointer p, .int .i64 (m : Int), undef, .pointer (some ⟨w.heap.size, 0, none⟩), .slice none 0 0, .pointer (some ⟨w.heap.size + 1, 0, none⟩), .int .u64 ((s.2 : Nat) : Int), .pointer p, .func (.func 76) #[] #[.pointer (some ⟨w.heap.size + 1 + 1, 0, none⟩)], .int .u64 ((s.2 : Nat) : Int), undef, undef, undef, undef, undef, undef, undef, undef, undef], defers := [] }
      ∧ Outs (w.heap.size + 1) s.1 O W ∧ s.1.length < m ∧ Below (w.heap.size + 1) w1 W)
    ?hI ?hIx ?hA ?hlow (fun j => j = w.heap.size + 1) (fun j hj => by omega) ⟨hO0, hm, hb0⟩ ?assign ?body ?done ?stop
  case hI =>
    rintro pre O W W' R ⟨h1, h2, h3⟩ hw hR
    exact ⟨h1.but hw (fun j hj => (hR j hj).1), h2, h3.trans (hw.below (by have := h3.size; omega) (fun j hj => by have := (hR j hj).2; omega))⟩
  case hIx =>
    rintro c pre O W W' R ⟨h0, h1, h2, h3⟩ hw hR
    exact ⟨h0, h1.but hw (fun j hj => (hR j hj).1), h2, h3.trans (hw.below (by have := h3.size; omega) (fun j hj => by have := (hR j hj).2; omega))⟩
  case hA =>
    rintro a' s O W W' R ⟨e1, h1, h2, h3⟩ hw hR
    exact ⟨e1, h1.but hw (fun j hj ho => (hR j hj).1 ho), h2, h3.trans (hw.below (by have := h3.size; omega) (fun j hj => by have := (hR j hj).2; omega))⟩
  case hlow =>
    rintro pre O W ⟨h1, _⟩ j hj hz
    have := (h1.lt j hj).1
    have hz : j < w.heap.size + 1 := hz
    omega
  case assign =>
    rintro L pre x O W ⟨h1, h2, h3⟩ _
    gi_wp2
    exact ⟨O, ⟨ButS.refl _ _, fun j hj => ⟨.inl hj, (h1.lt j hj).2⟩⟩, by first | trivial | rfl, h1, h2, h3⟩
  case body =>
    rintro L pre x O a1 W ⟨rfl, ⟨v, hv, hrow, hvb, hO⟩, h2, h3⟩
    have hc : W.cell? ⟨w.heap.size + 1, 0, none⟩ = some v := cell_of_row _ _ 0 _ _ (0, 0) hv
    have hmc : W.cell? ⟨w.heap.size, 0, none⟩ = some (.int .i64 (m : Int)) := (h3.cell (p := ⟨w.heap.size, 0, none⟩) (by show w.heap.size < w.heap.size + 1; omega)).trans hcm
    have hvl : ∀ j, v.ownBlock = some j → j < W.heap.size ∧ w.heap.size + 1 ≤ j := fun j hj => own_ltG hrow hj
    have hsz := h3.size
    have h2 : pre.length < m := h2
    have hbl : w.heap.size + 1 < W.heap.size := (Array.getElem?_eq_some_iff.1 hv).1
    have HV := Lib.hid hv
    have HR := Lib.hid hrow
    have HVB := Lib.hid hvb
    have HVL := Lib.hid hvl
    have H3 := Lib.hid h3
    have eqb := eq_testG pre.length m
    clear hv hrow hvb hvl h3
    gi_wp2_with (gi_at_builtin; refine wpListIn_append_own_at _ rfl _ _ 47 rfl (w.heap.size + 1) 22 i0 _ 1 8 Tryz.underlying47 hi hz0 hz1 hz2 rfl (by decide) v pre.length (wv pre) rfl (HR.out.alloc _) ⟨W.heap.size, 0, none⟩ 1 1 [.int .u64 ((x : Nat) : Int)] rfl rfl (cell_oneB W _ _) (by intro u hu; simp at hu; subst hu; rfl) (by unfold maxLen; omega) (by omega) (by simp; omega) ?_; intro v' w2 hown' hgrow _ hblk; obtain ⟨A', c', rfl⟩ := K.own_form hown'; have hbB := (far_blockG hgrow hbl (fun e => HVB.out e.symm)).trans HV.out; have hcb : w2.cell? ⟨w.heap.size + 1, 0, none⟩ = some v := cell_of_row _ _ 0 _ _ (0, 0) hbB; have hfb : w2.frozen? ⟨w.heap.size + 1, 0, none⟩ = false := (by simp [World.frozen?, hbB]); have hmb : w2.cell? ⟨w.heap.size, 0, none⟩ = some (.int .i64 (m : Int)) := (far_cellG hgrow 0 (by omega) (fun e => by have := (HVL.out _ e.symm).2; omega)).trans hmc; have HBB := Lib.hid hbB; have HOW := Lib.hid hown'; have HGR := Lib.hid hgrow; have HBL := Lib.hid hblk; clear hbB hown' hgrow hblk)
    all_goals
      have hown2 : w2.ownsRow (w.heap.size + 1) 22 1 (.slice A' (pre.length + 1) c') (pre.length + 1) (wv pre ++ [.int .u64 ((x : Nat) : Int)]) := HOW.out
      have hvb2 : (Value.slice A' (pre.length + 1) c').ownBlock ≠ some (w.heap.size + 1) := by
        intro e
        rcases HBL.out with h | h
        · rw [e] at h; exact HVB.out h.symm
        · rw [e] at h; simp at h; omega
      have hbut : ButS W (w2.setCell ⟨w.heap.size + 1, 0, none⟩ (.slice A' (pre.length + 1) c')) O := by
        refine ((but_alloc' W _ O).trans (ButS.of_grown HGR.out (fun j e => (hO j).2 (.inr e)))).trans (but_set' w2 _ 0 _ O ((hO _).2 (.inl rfl)))
      have hout : Outs (w.heap.size + 1) (pre ++ [x]) (fun j => j = w.heap.size + 1 ∨ (Value.slice A' (pre.length + 1) c').ownBlock = some j) (w2.setCell ⟨w.heap.size + 1, 0, none⟩ (.slice A' (pre.length + 1) c')) := by
        refine ⟨.slice A' (pre.length + 1) c', set_heapG HBB.out, ?_, hvb2, fun j => Iff.rfl⟩
        rw [show wv (pre ++ [x]) = wv pre ++ [.int .u64 ((x : Nat) : Int)] by simp [wv], List.length_append]
        exact (but_set' w2 (w.heap.size + 1) 0 (.slice A' (pre.length + 1) c') (· = w.heap.size + 1) rfl).own hown2 (fun k hk e => hvb2 (by rw [hk, e]))
      have hstep : OwnStep O (fun j => j = w.heap.size + 1 ∨ (Value.slice A' (pre.length + 1) c').ownBlock = some j) W (w2.setCell ⟨w.heap.size + 1, 0, none⟩ (.slice A' (pre.length + 1) c')) := by
        refine ⟨hbut, fun j hj => ⟨?_, (hout.lt j hj).2⟩⟩
        rcases hj with hj | hj
        · left; exact (hO j).2 (.inl hj)
        · rcases HBL.out with h | h
          · left; rw [hj] at h; exact (hO j).2 (.inr h.symm)
          · right; rw [hj] at h; simp at h; omega
      have hlow : ∀ j, O j → w.heap.size + 1 ≤ j := fun j hj => by
        rcases (hO j).1 hj with h | h
        · omega
        · exact (HVL.out j h).2
      have hbel : Below (w.heap.size + 1) w1 (w2.setCell ⟨w.heap.size + 1, 0, none⟩ (.slice A' (pre.length + 1) c')) := H3.out.trans (hbut.below (by omega) hlow)
    · have hpm : pre.length + 1 = m := by assumption
      rw [hpm] at hstep hout hbel
      exact ⟨_, hstep, rfl, hout, by simp; omega, hbel⟩
    · exact ⟨_, hstep, hout, by simp at *; omega, hbel⟩
  case done =>
    rintro D ys O W hD hnD rfl ⟨⟨v, hv, hrow, hvb, hO⟩, h2, h3⟩ hK
    have hc : W.cell? ⟨w.heap.size + 1, 0, none⟩ = some v := cell_of_row _ _ 0 _ _ (0, 0) hv
    have e : ys.take m = ys := List.take_of_length_le (by omega)
    have hDl := (Array.getElem?_eq_some_iff.1 hK).1
    have hvD : v.ownBlock ≠ some D := fun h => hnD ((hO D).2 (.inr h))
    have hfin : w.heap.size + 1 ≤ W.heap.size := by have := h3.size; omega
    gi_wp2
    refine ⟨by simp, .inl ⟨_, _, rfl, run_takeDeferred hK, ?_⟩⟩
    have hr' := own_baseG ((but_put W D (.deferred none)).own hrow (fun k hk h => hvD (by rw [hk, h]))) (base' := 0) (by omega)
    exact ⟨_, results_tmp rfl _ _ _, v, rfl, by rw [e]; exact hr', (b1.trans (h3.mono (by omega))).trans ((but_put W D (.deferred none)).below (by omega) (fun j h => by omega))⟩
  case stop =>
    rintro D c pre O W hD hnD hpre ⟨rfl, ⟨v, hv, hrow, hvb, hO⟩, h2, h3⟩ hK
    have hc : W.cell? ⟨w.heap.size + 1, 0, none⟩ = some v := cell_of_row _ _ 0 _ _ (0, 0) hv
    have e : xs.take m = pre := by
      rw [← h2]
      exact (List.prefix_iff_eq_take.1 hpre).symm
    have hDl := (Array.getElem?_eq_some_iff.1 hK).1
    have hvD : v.ownBlock ≠ some D := fun h => hnD ((hO D).2 (.inr h))
    have hfin : w.heap.size + 1 ≤ W.heap.size := by have := h3.size; omega
    gi_wp2
    refine ⟨by simp, .inl ⟨_, _, rfl, run_takeDeferred hK, ?_⟩⟩
    have hr' := own_baseG ((but_put W D (.deferred none)).own hrow (fun k hk h => hvD (by rw [hk, h]))) (base' := 0) (by omega)
    exact ⟨_, results_tmp rfl _ _ _, v, rfl, by rw [e]; exact hr', (b1.trans (h3.mono (by omega))).trans ((but_put W D (.deferred none)).below (by omega) (fun j h => by omega))⟩
end Go.Proofs.YtialjokdaniofaaGreat
end
section
namespace Go.Proofs.YtialjokdaniofaaGreat
set_option maxRecDepth 20000
open Go.RowKit Go.Shelf
attribute [local go_sem] Oper.semAt_some
attribute [local simp] wide_fnY
theorem xf_new_no (w : World) (sd n : Int) (hn : ¬ (0 ≤ n ∧ n ≤ 1048576)) : Calls Tryz.prog 35 #[.int .u64 sd, .int .i64 n] w fun e w' => e = .returned (.tuple #[.pointer none, .int .i64 1]) ∧ w = w' := by
  letI : Gh := ⟨0, 0⟩
  have hc := Lib.hid (c_new_no w n hn)
  clear hn
  go_enter Tryz.func35, Tryz.ntmps35
  go_wp2_with (go_at_call 66; (with_reducible refine hc.out.mono ?_); rintro e w1 ⟨rfl, rfl⟩)
  go_ret2
  exact ⟨rfl, rfl⟩
set_option maxHeartbeats 1000000 in
theorem xf_new_any (w : World) (sd n : Nat) (hn : n ≤ 1048576) : Calls Tryz.prog 35 #[.int .u64 (sd : Int), .int .i64 (n : Int)] w fun e w' => ∃ Xb, e = .returned (.tuple #[.pointer (some ⟨Xb, 0, none⟩), .int .i64 0]) ∧ Below w.heap.size w w' := by
  letI : Gh := ⟨0, 0⟩
  have hc := Lib.hid (c_new w n hn ⟨rfl, rfl⟩)
  clear hn
  go_enter Tryz.func35, Tryz.ntmps35
  go_wp2_with (first
    | (go_at_call 66; (with_reducible refine hc.out.mono ?_); rintro e w1 ⟨C, Q, M, rfl, hch, hmx, a1, a2, a3, hb1⟩
       have hd : CW w1.drew C Q M n none 0 none 0 [] [] [] := hch.chg ((chg_refl w1 (fun _ => False)).drewN 1) (fun _ _ h => h)
       have HS1 := Lib.hid hd.cb.c0
       have HD := Lib.hid hd
       have HB1 : Hid (Below w.heap.size w w1.drew) := Lib.hid hb1.drew
       have HN := Lib.hid (Hs.tab_new_nil w1.drew sd)
       clear hch hmx a1 a2 a3 hb1 hd))
  go_region_held3 (fun Y => Y.cell? ⟨C, 0, none⟩ = some (.pointer (some ⟨M, 0, none⟩))) (first | (with_reducible exact HS1.out) | (with_reducible exact HS2.out) | (with_reducible exact HS3.out _) | go_keep)
    ((go_at_call 37; (with_reducible refine HN.out.mono ?_); rintro e w2 ⟨Pt, Qt, Mt, rfl, ht, hb2, p1, p2, p3⟩
      have hs2 : w2.cell? ⟨C, 0, none⟩ = some (.pointer (some ⟨M, 0, none⟩)) := (HD.out.chg (K.Chg.of_below (O := fun _ => False) hb2) (fun _ _ h => h)).cb.c0
      have HS2 := Lib.hid hs2
      have HS3 := Lib.hid (fun o => cell_moreY hs2 o)
      have HB2 := Lib.hid hb2
      clear ht hb2 p1 p2 p3 hs2))
  all_goals
    go_wp2
    go_ret2
    have hz1 := HB1.out.size
    exact ⟨_, rfl, HB1.out.trans ((HB2.out.alloc HB2.out.size _).mono hz1)⟩
theorem y_new_no (w : World) (sd n : Int) (hn : ¬ (0 ≤ n ∧ n ≤ 1048576)) : Calls Tryz.prog 9 #[.int .u64 sd, .int .i64 n] w fun e w' => e = .returned (.tuple #[.pointer none, .int .i64 1]) ∧ w = w' := by
  have hc := Lib.hid (xf_new_no w sd n hn)
  clear hn
  go_enter Tryz.func9, Tryz.ntmps9
  go_wp2_with (go_at_call 35; (with_reducible refine hc.out.mono ?_); rintro e w1 ⟨rfl, rfl⟩)
  go_ret2
  exact ⟨rfl, rfl⟩
set_option maxHeartbeats 1000000 in
theorem y_new_any (w : World) (sd n : Nat) (hn : n ≤ 1048576) : Calls Tryz.prog 9 #[.int .u64 (sd : Int), .int .i64 (n : Int)] w fun e w' => ∃ P, e = .returned (.tuple #[.pointer (some ⟨P, 0, none⟩), .int .i64 0]) ∧ Below w.heap.size w w' := by
  have HX := Lib.hid (xf_new_any w sd n hn)
  have HQ := fun W => Lib.hid (Yp.q_new W n hn)
  clear hn
  go_enter Tryz.func9, Tryz.ntmps9
  go_wp2_with (first
    | (go_at_call 35; (with_reducible refine HX.out.mono ?_); rintro e w1 ⟨Xb, rfl, hb1⟩
       have HB1 := Lib.hid hb1
       clear hb1)
    | (go_at_call 36; (with_reducible refine (HQ w1).out.mono ?_); rintro e w2 ⟨Q, M, rfl, hq, hm, q1, q2, hb2⟩
       have hqd : Yp.Qo w2.drew Q M n none 0 none 0 [] [] := hq.chg ((chg_refl w2 (fun _ => False)).drewN 1) (fun _ _ h => h)
       have HS1 := Lib.hid hqd.c0
       have HQD := Lib.hid hqd
       have HB2 : Hid (Below w1.heap.size w1 w2.drew) := Lib.hid hb2.drew
       have HN := Lib.hid (Hs.tab_new_nil w2.drew sd)
       clear hq hm hqd q1 q2 hb2))
  go_region_held3 (fun Y => Y.cell? ⟨Q, 0, none⟩ = some (.pointer (some ⟨M, 0, none⟩))) (first | (with_reducible exact HS1.out) | (with_reducible exact HS2.out) | (with_reducible exact HS3.out _) | go_keep)
    ((go_at_call 37; (with_reducible refine HN.out.mono ?_); rintro e w3 ⟨Pt, Qt, Mt, rfl, ht, hb3, p1, p2, p3⟩
      have hs2 : w3.cell? ⟨Q, 0, none⟩ = some (.pointer (some ⟨M, 0, none⟩)) := (HQD.out.chg (K.Chg.of_below (O := fun _ => False) hb3) (fun _ _ h => h)).c0
      have HS2 := Lib.hid hs2
      have HS3 := Lib.hid (fun o => cell_moreY hs2 o)
      have HB3 := Lib.hid hb3
      clear ht hb3 p1 p2 p3 hs2))
  all_goals
    go_wp2
    go_ret2
    have hz1 := HB1.out.size
    have hz2 := HB2.out.size
    exact ⟨_, rfl, HB1.out.trans ((HB2.out.trans ((HB3.out.alloc HB3.out.size _).mono hz2)).mono hz1)⟩
theorem yf_next_nil (w : World) (k : Nat) : Calls Tryz.prog 30 #[.pointer none, .int .u64 (k : Int)] w fun e w' => e = .returned (.tuple #[.int .u64 0, .bool false]) ∧ w' = w := by
  have hn := Lib.hid (nil_near w k (.func (.func 59) #[] #[]) (.func (.func 60) #[] #[]))
  go_enter Tryz.func30, Tryz.ntmps30
  go_wp2_with (go_at_call 58; (with_reducible refine hn.out.mono ?_); rintro e w1 ⟨rfl, rfl⟩)
  go_ret2
  exact ⟨rfl, rfl⟩
theorem yf_prev_nil (w : World) (k : Nat) : Calls Tryz.prog 31 #[.pointer none, .int .u64 (k : Int)] w fun e w' => e = .returned (.tuple #[.int .u64 0, .bool false]) ∧ w' = w := by
  have hn := Lib.hid (nil_near w k (.func (.func 61) #[] #[]) (.func (.func 62) #[] #[]))
  go_enter Tryz.func31, Tryz.ntmps31
  go_wp2_with (go_at_call 58; (with_reducible refine hn.out.mono ?_); rintro e w1 ⟨rfl, rfl⟩)
  go_ret2
  exact ⟨rfl, rfl⟩
theorem yf_min_nil (w : World) : Calls Tryz.prog 28 #[.pointer none] w fun e w' => e = .returned (.tuple #[.int .u64 0, .bool false]) ∧ w' = w := by
  have hn : Hid (Calls Tryz.prog 30 #[.pointer none, .int .u64 0] w fun e w' => e = .returned (.tuple #[.int .u64 0, .bool false]) ∧ w' = w) := Lib.hid (yf_next_nil w 0)
  go_enter Tryz.func28, Tryz.ntmps28
  go_wp2_with (go_at_call 30; (with_reducible refine hn.out.mono ?_); rintro e w1 ⟨rfl, rfl⟩)
  go_ret2
  exact ⟨rfl, rfl⟩
theorem yf_max_nil (w : World) : Calls Tryz.prog 29 #[.pointer none] w fun e w' => e = .returned (.tuple #[.int .u64 0, .bool false]) ∧ w' = w := by
  have hn : Hid (Calls Tryz.prog 31 #[.pointer none, .int .u64 18446744073709551615] w fun e w' => e = .returned (.tuple #[.int .u64 0, .bool false]) ∧ w' = w) := Lib.hid (yf_prev_nil w 18446744073709551615)
  go_enter Tryz.func29, Tryz.ntmps29
  go_wp2_with (go_at_call 31; (with_reducible refine hn.out.mono ?_); rintro e w1 ⟨rfl, rfl⟩)
  go_ret2
  exact ⟨rfl, rfl⟩
set_option maxRecDepth 100000 in
theorem yf_all_seq_nil (W0 : World) (Z : Nat → Prop) (n Bn : Nat) (hBn : Bn < W0.heap.size) (hc : W0.cell? ⟨Bn, 0, none⟩ = some (.pointer none)) :
    SeqW Fence.wide n Tryz.prog 76 #[.pointer (some ⟨Bn, 0, none⟩)] (fun x : Nat => #[Value.int .u64 ((x : Nat) : Int)]) Z (fun ys => ys = []) (fun pre => pre <+: []) (fun pre => pre <+: []) W0 := by
  intro l J Jx W hW hJ hJx hY h0
  have hBl : Bn < W.heap.size := Nat.lt_of_lt_of_le hBn hW.size
  have hBc := (hW.cell (p := ⟨Bn, 0, none⟩) hBn).trans hc
  have hyb : Below W.heap.size W (W.alloc (.cells #[.func (.yield l) #[] #[]] 58)) := (Below.refl _ W).alloc (Nat.le_refl _) _
  have x0 := (hyb.cell (p := ⟨Bn, 0, none⟩) hBl).trans hBc
  have HJ := Lib.hid (hJ _ _ (fun _ => False) _ _ h0 (ButS.of_below hyb (Nat.le_refl _)) (fun j hj => hj.elim))
  clear hY hJ hJx h0 hBc hc hyb
  refine callsIn_wide.2 ((callsIn_wide (n := 9)).1 ?_)
  refine callsIn_of_wp Tryz.func76 rfl trivial ?_ rfl
  simp only [Tryz.ntmps76, List.size_toArray, List.length_cons, List.length_nil, Nat.reduceAdd, Nat.reduceSub, Array.replicate_succ, Array.replicate_zero, List.push_toArray, List.append_toArray, List.nil_append, List.cons_append]
  gi_wp2
  refine bodyPost_ret (results_none rfl _ _ _) rfl ?_
  exact ⟨⟨_, rfl⟩, .inl ⟨_, _, rfl, HJ.out⟩⟩
theorem law_all_nil (w : World) : Calls Tryz.prog 20 #[.pointer none, .int .i64 9] w fun e w' => (∃ A c, e = .returned (.slice A 0 c)) ∧ Below w.heap.size w w' := by
  refine (all_law w none [] 9 (by decide) (by decide) (by decide) (fun Bn W _ _ hBn hc => yf_all_seq_nil W _ 8 Bn hBn hc)).mono ?_
  rintro e w' ⟨v, rfl, hk, hb⟩
  rcases hk.form with ⟨rfl, _⟩ | ⟨g, c, rfl, _⟩
  · exact ⟨⟨none, 0, rfl⟩, hb⟩
  · exact ⟨⟨_, c, rfl⟩, hb⟩
end Go.Proofs.YtialjokdaniofaaGreat
end
section
namespace Go.Proofs.YtialjokdaniofaaGreat
set_option maxRecDepth 20000
open Go.RowKit
set_option maxHeartbeats 2000000 in
theorem law_yfast_nil (w : World) (sd k : Nat) (lim : Int) :
    Calls Tryz.prog 5 #[.int .u64 (sd : Int), .int .u64 (k : Int), .int .i64 lim] w fun e w' => e = .returned (.bool true) ∧ Below w.heap.size w w' := by
  have haw := Lib.hid (law_awakeY w)
  by_cases hl : 0 ≤ lim ∧ lim ≤ 1048576
  · obtain ⟨n, rfl⟩ : ∃ n : Nat, lim = (n : Int) := ⟨lim.toNat, by omega⟩
    have hnew := Lib.hid (fun W => y_new_any W sd n (by omega))
    have d0 : decide (0 ≤ (n : Int)) = true := decide_eq_true hl.1
    have d1 : decide ((n : Int) ≤ 1048576) = true := decide_eq_true hl.2
    clear hl
    go_enter Tryz.func5, Tryz.ntmps5
    go_wp2_with (first
      | (go_at_call 8; (with_reducible refine haw.out.mono ?_); rintro e w1 ⟨rfl, h1⟩; have H1 := Lib.hid h1; clear h1)
      | (go_at_call 9; (with_reducible refine (hnew.out w1).mono ?_); rintro e w2 ⟨P, rfl, h2⟩; have H2 := Lib.hid (H1.out.trans (h2.mono H1.out.size)); clear h2)
      | (go_at_call 30; (with_reducible refine (yf_next_nil _ k).mono ?_); rintro e w' ⟨rfl, rfl⟩)
      | (go_at_call 31; (with_reducible refine (yf_prev_nil _ k).mono ?_); rintro e w' ⟨rfl, rfl⟩)
      | (go_at_call 28; (with_reducible refine (yf_min_nil _).mono ?_); rintro e w' ⟨rfl, rfl⟩)
      | (go_at_call 29; (with_reducible refine (yf_max_nil _).mono ?_); rintro e w' ⟨rfl, rfl⟩)
      | (go_at_call 32; (with_reducible refine (nil_Clear _).mono ?_); rintro e w' ⟨rfl, rfl⟩)
      | (go_at_call 33; (with_reducible refine (nil_Len _).mono ?_); rintro e w' ⟨rfl, rfl⟩)
      | (go_at_call 12; (with_reducible refine (nil_Used _).mono ?_); rintro e w' ⟨rfl, rfl⟩)
      | (go_at_call 21; (with_reducible refine (nil_Limit _).mono ?_); rintro e w' ⟨rfl, rfl⟩)
      | (go_at_call 24; (with_reducible refine (nil_Insert _ k).mono ?_); rintro e w' ⟨rfl, rfl⟩)
      | (go_at_call 26; (with_reducible refine (nil_Delete _ k).mono ?_); rintro e w' ⟨rfl, rfl⟩)
      | (go_at_call 27; (with_reducible refine (nil_Has _ k).mono ?_); rintro e w' ⟨rfl, rfl⟩)
      | (go_at_call 20; (with_reducible refine (law_all_nil _).mono ?_); rintro e wc ⟨⟨A, c, rfl⟩, hh⟩; have Hc := Lib.hid (H2.out.trans (hh.mono H2.out.size)); clear hh))
    go_ret
    exact ⟨rfl, Hc.out⟩
  · by_cases h0 : 0 ≤ lim
    · have d0 : decide (0 ≤ lim) = true := decide_eq_true h0
      have d1 : decide (lim ≤ 1048576) = false := decide_eq_false (fun h => hl ⟨h0, h⟩)
      have HN := Lib.hid hl
      clear hl h0
      go_enter Tryz.func5, Tryz.ntmps5
      go_wp2_with (first
        | (go_at_call 8; (with_reducible refine haw.out.mono ?_); rintro e w1 ⟨rfl, h1⟩; have H1 := Lib.hid h1; clear h1)
        | (go_at_call 9; (with_reducible refine (y_new_no w1 (sd : Int) lim HN.out).mono ?_); rintro e w' ⟨rfl, rfl⟩)
        | (go_at_call 30; (with_reducible refine (yf_next_nil _ k).mono ?_); rintro e w' ⟨rfl, rfl⟩)
        | (go_at_call 31; (with_reducible refine (yf_prev_nil _ k).mono ?_); rintro e w' ⟨rfl, rfl⟩)
        | (go_at_call 28; (with_reducible refine (yf_min_nil _).mono ?_); rintro e w' ⟨rfl, rfl⟩)
        | (go_at_call 29; (with_reducible refine (yf_max_nil _).mono ?_); rintro e w' ⟨rfl, rfl⟩)
        | (go_at_call 32; (with_reducible refine (nil_Clear _).mono ?_); rintro e w' ⟨rfl, rfl⟩)
        | (go_at_call 33; (with_reducible refine (nil_Len _).mono ?_); rintro e w' ⟨rfl, rfl⟩)
        | (go_at_call 12; (with_reducible refine (nil_Used _).mono ?_); rintro e w' ⟨rfl, rfl⟩)
        | (go_at_call 21; (with_reducible refine (nil_Limit _).mono ?_); rintro e w' ⟨rfl, rfl⟩)
        | (go_at_call 24; (with_reducible refine (nil_Insert _ k).mono ?_); rintro e w' ⟨rfl, rfl⟩)
        | (go_at_call 26; (with_reducible refine (nil_Delete _ k).mono ?_); rintro e w' ⟨rfl, rfl⟩)
        | (go_at_call 27; (with_reducible refine (nil_Has _ k).mono ?_); rintro e w' ⟨rfl, rfl⟩)
        | (go_at_call 20; (with_reducible refine (law_all_nil _).mono ?_); rintro e wc ⟨⟨A, c, rfl⟩, hh⟩; have Hc := Lib.hid (H1.out.trans (hh.mono H1.out.size)); clear hh))
      go_ret
      exact ⟨rfl, Hc.out⟩
    · have d0 : decide (0 ≤ lim) = false := decide_eq_false h0
      have HN := Lib.hid hl
      clear hl h0
      go_enter Tryz.func5, Tryz.ntmps5
      go_wp2_with (first
        | (go_at_call 8; (with_reducible refine haw.out.mono ?_); rintro e w1 ⟨rfl, h1⟩; have H1 := Lib.hid h1; clear h1)
        | (go_at_call 9; (with_reducible refine (y_new_no w1 (sd : Int) lim HN.out).mono ?_); rintro e w' ⟨rfl, rfl⟩)
        | (go_at_call 30; (with_reducible refine (yf_next_nil _ k).mono ?_); rintro e w' ⟨rfl, rfl⟩)
        | (go_at_call 31; (with_reducible refine (yf_prev_nil _ k).mono ?_); rintro e w' ⟨rfl, rfl⟩)
        | (go_at_call 28; (with_reducible refine (yf_min_nil _).mono ?_); rintro e w' ⟨rfl, rfl⟩)
        | (go_at_call 29; (with_reducible refine (yf_max_nil _).mono ?_); rintro e w' ⟨rfl, rfl⟩)
        | (go_at_call 32; (with_reducible refine (nil_Clear _).mono ?_); rintro e w' ⟨rfl, rfl⟩)
        | (go_at_call 33; (with_reducible refine (nil_Len _).mono ?_); rintro e w' ⟨rfl, rfl⟩)
        | (go_at_call 12; (with_reducible refine (nil_Used _).mono ?_); rintro e w' ⟨rfl, rfl⟩)
        | (go_at_call 21; (with_reducible refine (nil_Limit _).mono ?_); rintro e w' ⟨rfl, rfl⟩)
        | (go_at_call 24; (with_reducible refine (nil_Insert _ k).mono ?_); rintro e w' ⟨rfl, rfl⟩)
        | (go_at_call 26; (with_reducible refine (nil_Delete _ k).mono ?_); rintro e w' ⟨rfl, rfl⟩)
        | (go_at_call 27; (with_reducible refine (nil_Has _ k).mono ?_); rintro e w' ⟨rfl, rfl⟩)
        | (go_at_call 20; (with_reducible refine (law_all_nil _).mono ?_); rintro e wc ⟨⟨A, c, rfl⟩, hh⟩; have Hc := Lib.hid (H1.out.trans (hh.mono H1.out.size)); clear hh))
      go_ret
      exact ⟨rfl, Hc.out⟩
end Go.Proofs.YtialjokdaniofaaGreat
end
