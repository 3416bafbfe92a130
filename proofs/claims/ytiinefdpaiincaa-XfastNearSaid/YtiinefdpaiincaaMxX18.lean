/- What the law's own function 'all' collects of an x-fast trie: the first keys; the text walked. -/
import Derived.Maps.AppendAt
import Derived.Maps.OwnIn
import Derived.Test.YtiinefdpaiincaaMxX17
namespace Go.Proofs.Ytiinefdpaiincaa
open Go.RowKit Go.Shelf
attribute [local go_sem] Oper.semAt_some
attribute [local simp] wide_fn
theorem xf_all_any (w : World) (p : Option Addr) : Calls Try.prog 43 #[.pointer p] w fun e w' => e = .returned (.func (.func 62) #[] #[.pointer (some ⟨w.heap.size, 0, none⟩)]) ∧ w' = w.alloc (.cells #[.pointer p] 26) := by
  go_enter Try.func43, Try.ntmps43
  go_wp2
  go_ret
  exact ⟨rfl, rfl⟩
theorem cell_oneB (w : World) (v : Value) (T : TypeId) : ∀ j u, [v][j]? = some u → (w.alloc (.cells #[v] T)).cell? (Addr.add ⟨w.heap.size, 0, none⟩ j) = some u := by
  intro j u hu
  match j, hu with
  | 0, hu => simp at hu; subst hu; simp [Addr.add]
theorem alloc_top (w : World) (o : Obj) {n : Nat} (h : n = w.heap.size) : (w.alloc o).heap[n]? = some o := by
  subst h
  exact K.alloc_top w o
theorem but_alloc2 (w : World) (o : Obj) (S : Nat → Prop) : ButS w (w.alloc o) S := but_alloc' w o S
theorem but_set' (w : World) (h k : Nat) (u : Value) (S : Nat → Prop) (hS : S h) : ButS w (w.setCell ⟨h, k, none⟩ u) S := ButS.of_chg (chg_set w h k u S hS)
/-- The list that is collected: its box at b, its row. -/
def Outs (b : Nat) (es : List Nat) (O : Nat → Prop) (W : World) : Prop :=
  ∃ v, W.heap[b]? = some (.cells #[v] 30 (0, 0)) ∧ W.ownsRow b 22 1 v es.length (wv es) ∧ v.ownBlock ≠ some b ∧ ∀ j, O j ↔ (j = b ∨ v.ownBlock = some j)
theorem own_ltG {W : World} {base : Nat} {e : TypeId} {size n : Nat} {v : Value} {xs : List Value} (h : W.ownsRow base e size v n xs) {j : Nat} (hj : v.ownBlock = some j) : j < W.heap.size ∧ base ≤ j := by
  rcases h.2 with ⟨rfl, _⟩ | ⟨g, cap, cur, rfl, hb, hg, _⟩
  · simp [Value.ownBlock] at hj
  · simp [Value.ownBlock] at hj
    subst hj
    exact ⟨(Array.getElem?_eq_some_iff.1 hg).1, hb⟩
theorem Outs.but {b : Nat} {es : List Nat} {O R : Nat → Prop} {W W' : World} (h : Outs b es O W) (hw : ButS W W' R) (hR : ∀ j, R j → ¬ O j) : Outs b es O W' := by
  obtain ⟨v, h1, h2, h3, h4⟩ := h
  refine ⟨v, (hw.block b (Array.getElem?_eq_some_iff.1 h1).1 (fun hr => hR b hr ((h4 b).2 (.inl rfl)))).trans h1, hw.own h2 (fun k hk hr => hR k hr ((h4 k).2 (.inr hk))), h3, h4⟩
theorem Outs.lt {b : Nat} {es : List Nat} {O : Nat → Prop} {W : World} (h : Outs b es O W) : ∀ j, O j → b ≤ j ∧ j < W.heap.size := by
  obtain ⟨v, h1, h2, h3, h4⟩ := h
  intro j hj
  rcases (h4 j).1 hj with rfl | hj
  · exact ⟨Nat.le_refl _, (Array.getElem?_eq_some_iff.1 h1).1⟩
  · exact ⟨(own_ltG h2 hj).2, (own_ltG h2 hj).1⟩
theorem eq_testG (a m : Nat) : ((a : Int) + 1 == (m : Int)) = decide (a + 1 = m) := by
  rw [Bool.eq_iff_iff]; simp; omega
theorem far_blockG {W w2 : World} {o : Obj} {row : Option Nat} (hg : (W.alloc o).grownBy w2 row) {b : Nat} (hb : b < W.heap.size) (hne : some b ≠ row) : w2.heap[b]? = W.heap[b]? :=
  (hg.block b (by simp; omega) hne).trans (Below.heap_alloc _ _ _ hb)
theorem far_cellG {W w2 : World} {o : Obj} {row : Option Nat} (hg : (W.alloc o).grownBy w2 row) {b : Nat} (off : Nat) (hb : b < W.heap.size) (hne : some b ≠ row) : w2.cell? ⟨b, off, none⟩ = W.cell? ⟨b, off, none⟩ := by
  have := far_blockG hg hb hne
  simp [World.cell?, this]
theorem own_baseG {w : World} {base base' : Nat} {e : TypeId} {size n : Nat} {v : Value} {xs : List Value} (h : w.ownsRow base e size v n xs) (hb : base' ≤ base) : w.ownsRow base' e size v n xs := by
  refine ⟨h.1, ?_⟩
  rcases h.2 with h | ⟨g, cap, cur, hv, hb', rest⟩
  · exact .inl h
  · exact .inr ⟨g, cap, cur, hv, by omega, rest⟩
theorem set_heapG {w : World} {b : Nat} {v u : Value} {T : TypeId} (h : w.heap[b]? = some (.cells #[v] T (0, 0))) : (w.setCell ⟨b, 0, none⟩ u).heap[b]? = some (.cells #[u] T (0, 0)) := by
  simp [World.setCell, Array.getElem?_modify, h]
/-- What 'all' answers. -/
def AllQ (w : World) (es : List Nat) (e : Ending) (w' : World) : Prop :=
  ∃ v, e = .returned v ∧ KX w' v es ∧ Below w.heap.size w w'
set_option maxRecDepth 100000 in
set_option maxHeartbeats 4000000 in
theorem all_law (w : World) (p : Option Addr) (xs : List Nat) (m : Nat) (hm : 0 < m) (hm2 : m ≤ 1000000) (hl : xs.length ≤ 100000000)
    (hseq : ∀ Bn W, Below w.heap.size w W → w.heap.size + 1 ≤ W.heap.size → Bn < W.heap.size → W.cell? ⟨Bn, 0, none⟩ = some (.pointer p) →
      SeqW Fence.wide 8 Try.prog 62 #[.pointer (some ⟨Bn, 0, none⟩)] (fun y : Nat => #[Value.int .u64 ((y : Nat) : Int)]) (fun j => j < w.heap.size + 1) (fun ys => ys = xs) (fun pre => pre <+: xs) (fun pre => pre <+: xs) W) :
    Calls Try.prog 17 #[.pointer p, .int .i64 (m : Int)] w (AllQ w (xs.take m)) := by
  refine (callsIn_wide (n := 9)).1 ?_
  obtain ⟨i0, hi, hz0, hz1, hz2⟩ := info_parts u64_info
  refine callsIn_of_wp_marks Try.func17 rfl trivial ?_ rfl
  simp only [Try.ntmps17, List.size_toArray, List.length_cons, List.length_nil, Nat.reduceAdd, Nat.reduceSub, Array.replicate_succ, Array.replicate_zero, List.push_toArray, List.append_toArray, List.nil_append, List.cons_append]
  gi_wp2_with (gi_at_call 43; refine (callsIn_wide.2 (xf_all_any _ p)).mono ?_; rintro e w' ⟨rfl, rfl⟩)
  have b1 : Below w.heap.size w (w.alloc (.cells #[.int .i64 (m : Int)] 3)) := (Below.refl _ w).alloc (Nat.le_refl _) _
  have hcm : (w.alloc (.cells #[.int .i64 (m : Int)] 3)).cell? ⟨w.heap.size, 0, none⟩ = some (.int .i64 (m : Int)) := by simp
  have hs1 : (w.alloc (.cells #[.int .i64 (m : Int)] 3)).heap.size = w.heap.size + 1 := by simp
  generalize hw1 : w.alloc (.cells #[.int .i64 (m : Int)] 3) = w1 at *
  have hs2 : (w1.alloc (.cells #[.slice none 0 0] 30)).heap.size = w.heap.size + 2 := by simp; omega
  have hs3 : ((w1.alloc (.cells #[.slice none 0 0] 30)).alloc (.cells #[.pointer p] 26)).heap.size = w.heap.size + 3 := by simp; omega
  have hout : (w1.alloc (.cells #[.slice none 0 0] 30)).heap[w.heap.size + 1]? = some (.cells #[.slice none 0 0] 30 (0, 0)) := alloc_top _ _ hs1.symm
  have hout2 : ((w1.alloc (.cells #[.slice none 0 0] 30)).alloc (.cells #[.pointer p] 26)).heap[w.heap.size + 1]? = some (.cells #[.slice none 0 0] 30 (0, 0)) :=
    (Below.heap_alloc _ _ _ (by omega)).trans hout
  have hbp : ((w1.alloc (.cells #[.slice none 0 0] 30)).alloc (.cells #[.pointer p] 26)).cell? ⟨w.heap.size + 1 + 1, 0, none⟩ = some (.pointer p) :=
    cell_of_row _ _ 0 _ _ (0, 0) (alloc_top _ _ (by omega))
  have hb0 : Below (w.heap.size + 1) w1 ((w1.alloc (.cells #[.slice none 0 0] 30)).alloc (.cells #[.pointer p] 26)) :=
    (((Below.refl _ w1).alloc (by omega) _).alloc (by omega) _)
  generalize hW0 : (w1.alloc (.cells #[.slice none 0 0] 30)).alloc (.cells #[.pointer p] 26) = W0 at *
  have hO0 : Outs (w.heap.size + 1) [] (fun j => j = w.heap.size + 1) W0 := ⟨_, hout2, World.ownsRow_nil _ _ _ _, by simp [Value.ownBlock], fun j => by simp [Value.ownBlock]⟩
  have hbw0 : Below w.heap.size w W0 := b1.trans (hb0.mono (by omega))
  have hsq := hseq (w.heap.size + 1 + 1) W0 hbw0 (by omega) (by omega) hbp
  clear hout hout2 hs2 hW0 hseq
  refine wpIn_rangeW rfl (by decide) (gf := 62) (lb := #[.pointer (some ⟨w.heap.size + 1 + 1, 0, none⟩)]) rfl trivial (enters_of Try.func62 (by kernel_rfl) rfl)
    hsq (fun j hj => by have hj : j < w.heap.size + 1 := hj; omega) (Below.refl _ _) (fun _ => rfl)
    (fun pre O W => Outs (w.heap.size + 1) pre O W ∧ pre.length < m ∧ Below (w.heap.size + 1) w1 W)
    (fun c pre O W => c = .exit 0 ∧ Outs (w.heap.size + 1) pre O W ∧ pre.length = m ∧ Below (w.heap.size + 1) w1 W)
    (fun s a1 O W => a1 = { tmps := #[.pointer p, .int .i64 (m : Int), undef, .pointer (some ⟨w.heap.size, 0, none⟩), .slice none 0 0, .pointer (some ⟨w.heap.size + 1, 0, none⟩), .int .u64 ((s.2 : Nat) : Int), .pointer p, .func (.func 62) #[] #[.pointer (some ⟨w.heap.size + 1 + 1, 0, none⟩)], .int .u64 ((s.2 : Nat) : Int), undef, undef, undef, undef, undef, undef, undef, undef, undef], defers := [] }
      ∧ Outs (w.heap.size + 1) s.1 O W ∧ s.1.length < m ∧ Below (w.heap.size + 1) w1 W)
    ?hI ?hIx ?hA ?hlow (fun j => j = w.heap.size + 1) (fun j hj => by omega) ⟨hO0, hm, hb0⟩ ?assign ?body ?done ?stop
  case hI =>
    rintro pre O W W' R ⟨h1, h2, h3⟩ hw hR
    exact ⟨h1.but hw (fun j hj => (hR j hj).1), h2, h3.trans (hw.below (by have := h3.size; omega) (fun j hj => by have := (hR j hj).2; omega))⟩
  case hIx =>
    rintro c pre O W W' R ⟨h0, h1, h2, h3⟩ hw hR
    exact ⟨h0, h1.but hw (fun j hj => (hR j hj).1), h2, h3.trans (hw.below (by have := h3.size; omega) (fun j hj => by have := (hR j hj).2; omega))⟩
  case hA =>
    rintro a' s O W W' R ⟨e1, h1, h2, h3⟩ hw hR
    exact ⟨e1, h1.but hw (fun j hj ho => (hR j hj).1 ho), h2, h3.trans (hw.below (by have := h3.size; omega) (fun j hj => by have := (hR j hj).2; omega))⟩
  case hlow =>
    rintro pre O W ⟨h1, _⟩ j hj hz
    have := (h1.lt j hj).1
    have hz : j < w.heap.size + 1 := hz
    omega
  case assign =>
    rintro L pre x O W ⟨h1, h2, h3⟩ _
    gi_wp2
    exact ⟨O, ⟨ButS.refl _ _, fun j hj => ⟨.inl hj, (h1.lt j hj).2⟩⟩, by first | trivial | rfl, h1, h2, h3⟩
  case body =>
    rintro L pre x O a1 W ⟨rfl, ⟨v, hv, hrow, hvb, hO⟩, h2, h3⟩
    have hc : W.cell? ⟨w.heap.size + 1, 0, none⟩ = some v := cell_of_row _ _ 0 _ _ (0, 0) hv
    have hmc : W.cell? ⟨w.heap.size, 0, none⟩ = some (.int .i64 (m : Int)) := (h3.cell (p := ⟨w.heap.size, 0, none⟩) (by show w.heap.size < w.heap.size + 1; omega)).trans hcm
    have hvl : ∀ j, v.ownBlock = some j → j < W.heap.size ∧ w.heap.size + 1 ≤ j := fun j hj => own_ltG hrow hj
    have hsz := h3.size
    have h2 : pre.length < m := h2
    have hbl : w.heap.size + 1 < W.heap.size := (Array.getElem?_eq_some_iff.1 hv).1
    have HV := Lib.hid hv
    have HR := Lib.hid hrow
    have HVB := Lib.hid hvb
    have HVL := Lib.hid hvl
    have H3 := Lib.hid h3
    have eqb := eq_testG pre.length m
    clear hv hrow hvb hvl h3
    gi_wp2_with (gi_at_builtin; refine wpListIn_append_own_at _ rfl _ _ 30 rfl (w.heap.size + 1) 22 i0 _ 1 8 Try.underlying30 hi hz0 hz1 hz2 rfl (by decide) v pre.length (wv pre) rfl (HR.out.alloc _) ⟨W.heap.size, 0, none⟩ 1 1 [.int .u64 ((x : Nat) : Int)] rfl rfl (cell_oneB W _ _) (by intro u hu; simp at hu; subst hu; rfl) (by unfold maxLen; omega) (by omega) (by simp; omega) ?_; intro v' w2 hown' hgrow _ hblk; obtain ⟨A', c', rfl⟩ := K.own_form hown'; have hbB := (far_blockG hgrow hbl (fun e => HVB.out e.symm)).trans HV.out; have hcb : w2.cell? ⟨w.heap.size + 1, 0, none⟩ = some v := cell_of_row _ _ 0 _ _ (0, 0) hbB; have hfb : w2.frozen? ⟨w.heap.size + 1, 0, none⟩ = false := (by simp [World.frozen?, hbB]); have hmb : w2.cell? ⟨w.heap.size, 0, none⟩ = some (.int .i64 (m : Int)) := (far_cellG hgrow 0 (by omega) (fun e => by have := (HVL.out _ e.symm).2; omega)).trans hmc; have HBB := Lib.hid hbB; have HOW := Lib.hid hown'; have HGR := Lib.hid hgrow; have HBL := Lib.hid hblk; clear hbB hown' hgrow hblk)
    all_goals
      have hown2 : w2.ownsRow (w.heap.size + 1) 22 1 (.slice A' (pre.length + 1) c') (pre.length + 1) (wv pre ++ [.int .u64 ((x : Nat) : Int)]) := HOW.out
      have hvb2 : (Value.slice A' (pre.length + 1) c').ownBlock ≠ some (w.heap.size + 1) := by
        intro e
        rcases HBL.out with h | h
        · rw [e] at h; exact HVB.out h.symm
        · rw [e] at h; simp at h; omega
      have hbut : ButS W (w2.setCell ⟨w.heap.size + 1, 0, none⟩ (.slice A' (pre.length + 1) c')) O := by
        refine ((but_alloc' W _ O).trans (ButS.of_grown HGR.out (fun j e => (hO j).2 (.inr e)))).trans (but_set' w2 _ 0 _ O ((hO _).2 (.inl rfl)))
      have hout : Outs (w.heap.size + 1) (pre ++ [x]) (fun j => j = w.heap.size + 1 ∨ (Value.slice A' (pre.length + 1) c').ownBlock = some j) (w2.setCell ⟨w.heap.size + 1, 0, none⟩ (.slice A' (pre.length + 1) c')) := by
        refine ⟨.slice A' (pre.length + 1) c', set_heapG HBB.out, ?_, hvb2, fun j => Iff.rfl⟩
        rw [show wv (pre ++ [x]) = wv pre ++ [.int .u64 ((x : Nat) : Int)] by simp [wv], List.length_append]
        exact (but_set' w2 (w.heap.size + 1) 0 (.slice A' (pre.length + 1) c') (· = w.heap.size + 1) rfl).own hown2 (fun k hk e => hvb2 (by rw [hk, e]))
      have hstep : OwnStep O (fun j => j = w.heap.size + 1 ∨ (Value.slice A' (pre.length + 1) c').ownBlock = some j) W (w2.setCell ⟨w.heap.size + 1, 0, none⟩ (.slice A' (pre.length + 1) c')) := by
        refine ⟨hbut, fun j hj => ⟨?_, (hout.lt j hj).2⟩⟩
        rcases hj with hj | hj
        · left; exact (hO j).2 (.inl hj)
        · rcases HBL.out with h | h
          · left; rw [hj] at h; exact (hO j).2 (.inr h.symm)
          · right; rw [hj] at h; simp at h; omega
      have hlow : ∀ j, O j → w.heap.size + 1 ≤ j := fun j hj => by
        rcases (hO j).1 hj with h | h
        · omega
        · exact (HVL.out j h).2
      have hbel : Below (w.heap.size + 1) w1 (w2.setCell ⟨w.heap.size + 1, 0, none⟩ (.slice A' (pre.length + 1) c')) := H3.out.trans (hbut.below (by omega) hlow)
    · have hpm : pre.length + 1 = m := by assumption
      rw [hpm] at hstep hout hbel
      exact ⟨_, hstep, rfl, hout, by simp; omega, hbel⟩
    · exact ⟨_, hstep, hout, by simp at *; omega, hbel⟩
  case done =>
    rintro D ys O W hD hnD rfl ⟨⟨v, hv, hrow, hvb, hO⟩, h2, h3⟩ hK
    have hc : W.cell? ⟨w.heap.size + 1, 0, none⟩ = some v := cell_of_row _ _ 0 _ _ (0, 0) hv
    have e : ys.take m = ys := List.take_of_length_le (by omega)
    have hDl := (Array.getElem?_eq_some_iff.1 hK).1
    have hvD : v.ownBlock ≠ some D := fun h => hnD ((hO D).2 (.inr h))
    have hfin : w.heap.size + 1 ≤ W.heap.size := by have := h3.size; omega
    gi_wp2
    refine ⟨by simp, .inl ⟨_, _, rfl, run_takeDeferred hK, ?_⟩⟩
    have hr' := own_baseG ((but_put W D (.deferred none)).own hrow (fun k hk h => hvD (by rw [hk, h]))) (base' := 0) (by omega)
    exact ⟨_, results_tmp rfl _ _ _, v, rfl, by rw [e]; exact hr', (b1.trans (h3.mono (by omega))).trans ((but_put W D (.deferred none)).below (by omega) (fun j h => by omega))⟩
  case stop =>
    rintro D c pre O W hD hnD hpre ⟨rfl, ⟨v, hv, hrow, hvb, hO⟩, h2, h3⟩ hK
    have hc : W.cell? ⟨w.heap.size + 1, 0, none⟩ = some v := cell_of_row _ _ 0 _ _ (0, 0) hv
    have e : xs.take m = pre := by
      rw [← h2]
      exact (List.prefix_iff_eq_take.1 hpre).symm
    have hDl := (Array.getElem?_eq_some_iff.1 hK).1
    have hvD : v.ownBlock ≠ some D := fun h => hnD ((hO D).2 (.inr h))
    have hfin : w.heap.size + 1 ≤ W.heap.size := by have := h3.size; omega
    gi_wp2
    refine ⟨by simp, .inl ⟨_, _, rfl, run_takeDeferred hK, ?_⟩⟩
    have hr' := own_baseG ((but_put W D (.deferred none)).own hrow (fun k hk h => hvD (by rw [hk, h]))) (base' := 0) (by omega)
    exact ⟨_, results_tmp rfl _ _ _, v, rfl, by rw [e]; exact hr', (b1.trans (h3.mono (by omega))).trans ((but_put W D (.deferred none)).below (by omega) (fun j h => by omega))⟩
end Go.Proofs.Ytiinefdpaiincaa
