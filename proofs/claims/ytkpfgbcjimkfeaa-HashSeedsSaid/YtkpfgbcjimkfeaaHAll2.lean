
/- What the law's own function 'all' collects of a table. -/
import Derived.Test.YtkpfgbcjimkfeaaHAll
import Derived.Maps.OwnIn
namespace Go.Proofs.Ytkpfgbcjimkfeaa
open Go.RowKit Go.Shelf
attribute [local go_sem] Oper.semAt_some
/-- The cells of the document's entries. -/
def xv (es : List (H.Key × Nat)) : List Value := es.flatMap fun x => [Value.int .u8 (x.1.1 : Int), Value.int .u64 (x.1.2 : Int), Value.int .u64 (x.2 : Int)]
theorem xv_snoc (es : List (H.Key × Nat)) (x : H.Key × Nat) : xv (es ++ [x]) = xv es ++ [Value.int .u8 (x.1.1 : Int), Value.int .u64 (x.1.2 : Int), Value.int .u64 (x.2 : Int)] := by simp [xv]
def ekv (e : H.En) : H.Key × Nat := (e.k, e.v)
theorem ref_info : (Try.prog.info? 53).map (fun i => (i.zero, i.size, i.bytes)) = some (some (.agg #[.int .u8 0, .int .u64 0, .int .u64 0]), 3, 24) := by kernel_rfl
theorem info_parts3 {o : Option TypeInfo} {z : Option Value} {s b : Nat} (h : o.map (fun i => (i.zero, i.size, i.bytes)) = some (z, s, b)) : ∃ i, o = some i ∧ i.zero = z ∧ i.size = s ∧ i.bytes = b := by
  cases o with
  | none => simp at h
  | some i => simp at h; exact ⟨i, rfl, h.1, h.2.1, h.2.2⟩
/-- The list that is collected: its box at b, its row. -/
def Outs (b : Nat) (es : List (H.Key × Nat)) (O : Nat → Prop) (W : World) : Prop :=
  ∃ v, W.heap[b]? = some (.cells #[v] 29 (0, 0)) ∧ W.ownsRow b 53 3 v es.length (xv es) ∧ v.ownBlock ≠ some b ∧ ∀ j, O j ↔ (j = b ∨ v.ownBlock = some j)
theorem own_lt {W : World} {base : Nat} {e : TypeId} {size n : Nat} {v : Value} {xs : List Value} (h : W.ownsRow base e size v n xs) {j : Nat} (hj : v.ownBlock = some j) : j < W.heap.size ∧ base ≤ j := by
  rcases h.2 with ⟨rfl, _⟩ | ⟨g, cap, cur, rfl, hb, hg, _⟩
  · simp [Value.ownBlock] at hj
  · simp [Value.ownBlock] at hj
    subst hj
    exact ⟨(Array.getElem?_eq_some_iff.1 hg).1, hb⟩
theorem Outs.but {b : Nat} {es : List (H.Key × Nat)} {O R : Nat → Prop} {W W' : World} (h : Outs b es O W) (hw : ButS W W' R) (hR : ∀ j, R j → ¬ O j) : Outs b es O W' := by
  obtain ⟨v, h1, h2, h3, h4⟩ := h
  refine ⟨v, (hw.block b (Array.getElem?_eq_some_iff.1 h1).1 (fun hr => hR b hr ((h4 b).2 (.inl rfl)))).trans h1, hw.own h2 (fun k hk hr => hR k hr ((h4 k).2 (.inr hk))), h3, h4⟩
theorem Outs.lt {b : Nat} {es : List (H.Key × Nat)} {O : Nat → Prop} {W : World} (h : Outs b es O W) : ∀ j, O j → b ≤ j ∧ j < W.heap.size := by
  obtain ⟨v, h1, h2, h3, h4⟩ := h
  intro j hj
  rcases (h4 j).1 hj with rfl | hj
  · exact ⟨Nat.le_refl _, (Array.getElem?_eq_some_iff.1 h1).1⟩
  · exact ⟨(own_lt h2 hj).2, (own_lt h2 hj).1⟩
theorem eq_testH (a m : Nat) : ((a : Int) + 1 == (m : Int)) = decide (a + 1 = m) := by
  rw [Bool.eq_iff_iff]; simp; omega
theorem news3 (W : World) (a b c : Value) (T : TypeId) : ∀ j u, [a, b, c][j]? = some u → (W.alloc (.cells #[a, b, c] T)).cell? ((⟨W.heap.size, 0, none⟩ : Addr).add j) = some u := by
  intro j u hu
  rw [add_off]
  have h := cell_of_row (W.alloc (.cells #[a, b, c] T)) W.heap.size j _ _ (0, 0) (alloc_topI W (.cells #[a, b, c] T))
  rw [h]
  match j, hu with
  | 0, hu => simpa using hu
  | 1, hu => simpa using hu
  | 2, hu => simpa using hu
theorem far_block {W w2 : World} {o : Obj} {row : Option Nat} (hg : (W.alloc o).grownBy w2 row) {b : Nat} (hb : b < W.heap.size) (hne : some b ≠ row) : w2.heap[b]? = W.heap[b]? :=
  (hg.block b (by simp; omega) hne).trans (Below.heap_alloc _ _ _ hb)
theorem far_cell {W w2 : World} {o : Obj} {row : Option Nat} (hg : (W.alloc o).grownBy w2 row) {b : Nat} (off : Nat) (hb : b < W.heap.size) (hne : some b ≠ row) : w2.cell? ⟨b, off, none⟩ = W.cell? ⟨b, off, none⟩ := by
  have := far_block hg hb hne
  simp [World.cell?, this]
theorem own_baseI {w : World} {base base' : Nat} {e : TypeId} {size n : Nat} {v : Value} {xs : List Value} (h : w.ownsRow base e size v n xs) (hb : base' ≤ base) : w.ownsRow base' e size v n xs := by
  refine ⟨h.1, ?_⟩
  rcases h.2 with h | ⟨g, cap, cur, hv, hb', rest⟩
  · exact .inl h
  · exact .inr ⟨g, cap, cur, hv, by omega, rest⟩
def AllP (w : World) (es : List (H.Key × Nat)) (e : Ending) (w' : World) : Prop :=
  ∃ v, e = .returned v ∧ w'.ownsRow w.heap.size 53 3 v es.length (xv es) ∧ Below w.heap.size w w'
set_option maxRecDepth 100000 in
set_option maxHeartbeats 2000000 in
theorem all_law (w : World) (p : Option Addr) (l : List H.En) (m : Nat) (hm : 0 < m) (hm2 : m ≤ 1000000) (hl : l.length ≤ 1000000) (hris : ∀ W, Below w.heap.size w W → Calls Try.prog 28 #[.pointer p] W (RisP W l)) :
    Calls Try.prog 12 #[.pointer p, .int .i64 (m : Int)] w (AllP w ((l.map ekv).take m)) := by
  refine (callsIn_wide (n := 5)).1 ?_
  obtain ⟨i0, hi, hz0, hz1, hz2⟩ := info_parts3 ref_info
  refine callsIn_of_wp_marks Try.func12 rfl trivial ?_ rfl
  simp only [Try.ntmps12, List.size_toArray, List.length_cons, List.length_nil, Nat.reduceAdd, Nat.reduceSub, Array.replicate_succ, Array.replicate_zero, List.push_toArray, List.append_toArray, List.nil_append, List.cons_append]
  gi_wp2_with (refine ⟨trivial, ?_⟩; gi_at_call 20; refine (callsIn_wide.2 (all_any _ p)).mono ?_; rintro e w' ⟨rfl, rfl⟩)
  have b1 : Below w.heap.size w (w.alloc (.cells #[.int .i64 (m : Int)] 3)) := (Below.refl _ w).alloc (Nat.le_refl _) _
  have hcm : (w.alloc (.cells #[.int .i64 (m : Int)] 3)).cell? ⟨w.heap.size, 0, none⟩ = some (.int .i64 (m : Int)) := by simp
  have hs1 : (w.alloc (.cells #[.int .i64 (m : Int)] 3)).heap.size = w.heap.size + 1 := by simp
  generalize hw1 : w.alloc (.cells #[.int .i64 (m : Int)] 3) = w1 at *
  have hs2 : (w1.alloc (.cells #[.slice none 0 0] 29)).heap.size = w.heap.size + 2 := by simp; omega
  have hs3 : ((w1.alloc (.cells #[.slice none 0 0] 29)).alloc (.cells #[.pointer p] 27)).heap.size = w.heap.size + 3 := by simp; omega
  have hout : (w1.alloc (.cells #[.slice none 0 0] 29)).heap[w.heap.size + 1]? = some (.cells #[.slice none 0 0] 29 (0, 0)) := by
    have := alloc_topI w1 (.cells #[.slice none 0 0] 29)
    rw [hs1] at this
    exact this
  have hout2 : ((w1.alloc (.cells #[.slice none 0 0] 29)).alloc (.cells #[.pointer p] 27)).heap[w.heap.size + 1]? = some (.cells #[.slice none 0 0] 29 (0, 0)) :=
    (Below.heap_alloc _ _ _ (by omega)).trans hout
  have hbp : ((w1.alloc (.cells #[.slice none 0 0] 29)).alloc (.cells #[.pointer p] 27)).cell? ⟨w.heap.size + 1 + 1, 0, none⟩ = some (.pointer p) := by
    have := alloc_topI (w1.alloc (.cells #[.slice none 0 0] 29)) (.cells #[.pointer p] 27)
    rw [hs2] at this
    exact cell_of_row _ _ 0 _ _ (0, 0) this
  have hb0 : Below (w.heap.size + 1) w1 ((w1.alloc (.cells #[.slice none 0 0] 29)).alloc (.cells #[.pointer p] 27)) :=
    (((Below.refl _ w1).alloc (by omega) _).alloc (by omega) _)
  generalize hW0 : (w1.alloc (.cells #[.slice none 0 0] 29)).alloc (.cells #[.pointer p] 27) = W0 at *
  have hO0 : Outs (w.heap.size + 1) [] (fun j => j = w.heap.size + 1) W0 := ⟨_, hout2, World.ownsRow_nil _ _ _ _, by simp [Value.ownBlock], fun j => by simp [Value.ownBlock]⟩
  have hbw0 : Below w.heap.size w W0 := b1.trans (hb0.mono (by omega))
  clear hout hout2 hs2 hW0
  refine wpIn_rangeO rfl (by decide) (gf := 27) (lb := #[.pointer (some ⟨w.heap.size + 1 + 1, 0, none⟩)]) rfl trivial (enters_of Try.func27 (by kernel_rfl) rfl)
    (n₀ := w.heap.size + 1) (all_stops (5 - 1) (by decide) (w.heap.size + 1 + 1) (w.heap.size + 1) p l hl W0 (by omega) hbp (fun W hW => hris W (hbw0.trans (hW.mono (by omega))))) (by omega) (Below.refl _ _) (fun _ => rfl)
    (fun pre O W => Outs (w.heap.size + 1) (pre.map ekv) O W ∧ pre.length < m ∧ Below (w.heap.size + 1) w1 W)
    (fun c pre O W => c = .exit 0 ∧ Outs (w.heap.size + 1) (pre.map ekv) O W ∧ pre.length = m ∧ Below (w.heap.size + 1) w1 W)
    (fun s a1 O W => ∃ kb O', a1 = { tmps := #[.pointer p, .int .i64 (m : Int), undef, .pointer (some ⟨w.heap.size, 0, none⟩), .slice none 0 0, .pointer (some ⟨w.heap.size + 1, 0, none⟩), .pointer (some ⟨kb, 0, none⟩), .int .u64 (s.2.v : Int), .pointer p, .func (.func 27) #[] #[.pointer (some ⟨w.heap.size + 1 + 1, 0, none⟩)], .agg #[.int .u8 (s.2.l : Int), .int .u64 (s.2.p : Int)], .int .u64 (s.2.v : Int), undef, undef, undef, undef, undef, undef, undef, undef, undef, undef, undef, undef, undef, undef], defers := [] }
      ∧ KB W kb s.2.k ∧ (Outs (w.heap.size + 1) (s.1.map ekv) O' W ∧ s.1.length < m ∧ Below (w.heap.size + 1) w1 W) ∧ (∀ j, O j ↔ (O' j ∨ j = kb)) ∧ w.heap.size + 1 < kb)
    ?hI ?hIx ?hA ?hlow (fun j => j = w.heap.size + 1) (fun j hj => by omega) ⟨hO0, hm, hb0⟩ ?assign ?body ?done ?stop
  case hI =>
    rintro pre O W W' R ⟨h1, h2, h3⟩ hw hR
    exact ⟨h1.but hw (fun j hj => (hR j hj).1), h2, h3.trans (hw.below (by have := h3.size; omega) (fun j hj => by have := (hR j hj).2; omega))⟩
  case hIx =>
    rintro c pre O W W' R ⟨h0, h1, h2, h3⟩ hw hR
    exact ⟨h0, h1.but hw (fun j hj => (hR j hj).1), h2, h3.trans (hw.below (by have := h3.size; omega) (fun j hj => by have := (hR j hj).2; omega))⟩
  case hA =>
    rintro a' s O W W' R ⟨kb, O', e1, hk, ⟨h1, h2, h3⟩, h4, h5⟩ hw hR
    refine ⟨kb, O', e1, hk.but hw (fun h => (hR kb h).1 ((h4 kb).2 (.inr rfl))), ⟨h1.but hw (fun j hj ho => (hR j hj).1 ((h4 j).2 (.inl ho))), h2, h3.trans (hw.below (by have := h3.size; omega) (fun j hj => by have := (hR j hj).2; omega))⟩, h4, h5⟩
  case hlow =>
    rintro pre O W ⟨h1, _⟩ j hj
    exact (h1.lt j hj).1
  case assign =>
    rintro L pre x O W ⟨h1, h2, h3⟩ _
    have hsz := h3.size
    dsimp only [encE]
    gi_wp2
    have hbk := but_alloc' W (.cells #[.int .u8 (x.l : Int), .int .u64 (x.p : Int)] 44) (fun _ => False)
    refine ⟨fun j => O j ∨ j = W.heap.size, ⟨hbk.mono (fun _ _ h => h.elim), fun j hj => ?_⟩, W.heap.size, O, rfl, alloc_topI _ _, ⟨h1.but hbk (fun _ h => h.elim), h2, h3.trans (hbk.below (by omega) (fun _ h => h.elim))⟩, fun j => Iff.rfl, ?_⟩
    · rcases hj with hj | hj
      · exact ⟨.inl hj, by have := (h1.lt j hj).2; simp; omega⟩
      · exact ⟨.inr (by omega), by simp; omega⟩
    · have := (h1.lt (w.heap.size + 1) (by obtain ⟨v, _, _, _, h4⟩ := h1; exact (h4 _).2 (.inl rfl))).2
      omega
  case body =>
    rintro L pre x O a1 W ⟨kb, O', rfl, hk, ⟨⟨v, hv, hrow, hvb, hO'⟩, h2, h3⟩, hO, hkb⟩
    have hc : W.cell? ⟨w.heap.size + 1, 0, none⟩ = some v := cell_of_row _ _ 0 _ _ (0, 0) hv
    have kc0 := hk.c0
    have kc1 := hk.c1
    have hmc : W.cell? ⟨w.heap.size, 0, none⟩ = some (.int .i64 (m : Int)) := (h3.cell (p := ⟨w.heap.size, 0, none⟩) (by show w.heap.size < w.heap.size + 1; omega)).trans hcm
    have hvl : ∀ j, v.ownBlock = some j → j < W.heap.size ∧ w.heap.size + 1 ≤ j := fun j hj => own_lt hrow hj
    have hsz := h3.size
    have h2 : pre.length < m := h2
    have hbl : w.heap.size + 1 < W.heap.size := (Array.getElem?_eq_some_iff.1 hv).1
    have hlen : (pre.map ekv).length = pre.length := by rw [List.length_map]
    rw [hlen] at hrow
    have HV := Lib.hid hv
    have HR := Lib.hid hrow
    have HVB := Lib.hid hvb
    have HVL := Lib.hid hvl
    have H3 := Lib.hid h3
    have eqb := eq_testH pre.length m
    clear hv hrow hvb hvl h3 hlen hk
    gi_wp2_with (gi_at_builtin; refine wpListIn_append_own_at _ rfl _ _ 29 rfl (w.heap.size + 1) 53 i0 _ 3 24 Try.underlying29 hi hz0 hz1 hz2 rfl (by decide) v pre.length (xv (pre.map ekv)) rfl (HR.out.alloc _) ⟨W.heap.size, 0, none⟩ 1 1 [.int .u8 (x.l : Int), .int .u64 (x.p : Int), .int .u64 (x.v : Int)] rfl rfl (news3 W _ _ _ _) (by intro u hu; simp at hu; rcases hu with rfl | rfl | rfl <;> rfl) (by unfold maxLen; omega) (by omega) (by simp; omega) ?_; intro v' w2 hown' hgrow _ hblk; obtain ⟨A', c', rfl⟩ := own_form hown'; have hbB := (far_block hgrow hbl (fun e => HVB.out e.symm)).trans HV.out; have hcb : w2.cell? ⟨w.heap.size + 1, 0, none⟩ = some v := cell_of_row _ _ 0 _ _ (0, 0) hbB; have hfb : w2.frozen? ⟨w.heap.size + 1, 0, none⟩ = false := (by simp [World.frozen?, hbB]); have hmb : w2.cell? ⟨w.heap.size, 0, none⟩ = some (.int .i64 (m : Int)) := (far_cell hgrow 0 (by omega) (fun e => by have := (HVL.out _ e.symm).2; omega)).trans hmc; have HBB := Lib.hid hbB; have HOW := Lib.hid hown'; have HGR := Lib.hid hgrow; have HBL := Lib.hid hblk; clear hbB hown' hgrow hblk)
    all_goals
      have hown2 : w2.ownsRow (w.heap.size + 1) 53 3 (.slice A' (pre.length + 1) c') (pre.length + 1) (xv (pre.map ekv) ++ [.int .u8 (x.l : Int), .int .u64 (x.p : Int), .int .u64 (x.v : Int)]) := HOW.out
      have hvb2 : (Value.slice A' (pre.length + 1) c').ownBlock ≠ some (w.heap.size + 1) := by
        intro e
        rcases HBL.out with h | h
        · rw [e] at h; exact HVB.out h.symm
        · rw [e] at h; simp at h; omega
      have hbut : ButS W (w2.setCell ⟨w.heap.size + 1, 0, none⟩ (.slice A' (pre.length + 1) c')) O := by
        refine ((but_alloc' W _ O).trans (ButS.of_grown HGR.out (fun j e => (hO j).2 (.inl ((hO' j).2 (.inr e)))))).trans (but_set' w2 _ 0 _ O ((hO _).2 (.inl ((hO' _).2 (.inl rfl)))))
      have hout : Outs (w.heap.size + 1) ((pre ++ [x]).map ekv) (fun j => j = w.heap.size + 1 ∨ (Value.slice A' (pre.length + 1) c').ownBlock = some j) (w2.setCell ⟨w.heap.size + 1, 0, none⟩ (.slice A' (pre.length + 1) c')) := by
        refine ⟨.slice A' (pre.length + 1) c', ?_, ?_, hvb2, fun j => Iff.rfl⟩
        · have := set_heap HBB.out 0 (.slice A' (pre.length + 1) c')
          simpa using this
        · rw [List.map_append, List.map_cons, List.map_nil, xv_snoc, List.length_append, List.length_map]
          exact (but_set' w2 (w.heap.size + 1) 0 (.slice A' (pre.length + 1) c') (· = w.heap.size + 1) rfl).own hown2 (fun k hk e => hvb2 (by rw [hk, e]))
      have hstep : OwnStep O (fun j => j = w.heap.size + 1 ∨ (Value.slice A' (pre.length + 1) c').ownBlock = some j) W (w2.setCell ⟨w.heap.size + 1, 0, none⟩ (.slice A' (pre.length + 1) c')) := by
        refine ⟨hbut, fun j hj => ⟨?_, (hout.lt j hj).2⟩⟩
        rcases hj with hj | hj
        · left; exact (hO j).2 (.inl ((hO' j).2 (.inl hj)))
        · rcases HBL.out with h | h
          · left; rw [hj] at h; exact (hO j).2 (.inl ((hO' j).2 (.inr h.symm)))
          · right; rw [hj] at h; simp at h; omega
      have hlow : ∀ j, O j → w.heap.size + 1 ≤ j := fun j hj => by
        rcases (hO j).1 hj with h | h
        · rcases (hO' j).1 h with h | h
          · omega
          · exact (HVL.out j h).2
        · omega
      have hbel : Below (w.heap.size + 1) w1 (w2.setCell ⟨w.heap.size + 1, 0, none⟩ (.slice A' (pre.length + 1) c')) := H3.out.trans (hbut.below (by omega) hlow)
    · have hpm : pre.length + 1 = m := by assumption
      rw [hpm] at hstep hout hbel
      exact ⟨_, hstep, rfl, hout, by simp; omega, hbel⟩
    · exact ⟨_, hstep, hout, by simp at *; omega, hbel⟩
  case done =>
    rintro D ys O W hD hnD rfl ⟨⟨v, hv, hrow, hvb, hO⟩, h2, h3⟩ hK
    have hc : W.cell? ⟨w.heap.size + 1, 0, none⟩ = some v := cell_of_row _ _ 0 _ _ (0, 0) hv
    have e : (ys.map ekv).take m = ys.map ekv := List.take_of_length_le (by rw [List.length_map]; omega)
    have hDl := (Array.getElem?_eq_some_iff.1 hK).1
    have hvD : v.ownBlock ≠ some D := fun h => hnD ((hO D).2 (.inr h))
    have hfin : w.heap.size + 1 ≤ W.heap.size := by have := h3.size; omega
    gi_wp2
    refine ⟨by simp, .inl ⟨_, _, rfl, run_takeDeferred hK, ?_⟩⟩
    refine ⟨_, results_tmp rfl _ _ _, v, rfl, ?_, ?_⟩
    · rw [e]
      exact own_baseI ((but_put W D (.deferred none)).own hrow (fun k hk h => hvD (by rw [hk, h]))) (by omega)
    · exact (b1.trans (h3.mono (by omega))).trans ((but_put W D (.deferred none)).below (by omega) (fun j h => by omega))
  case stop =>
    rintro D c pre O W hD hnD hpre ⟨rfl, ⟨v, hv, hrow, hvb, hO⟩, h2, h3⟩ hK
    have hc : W.cell? ⟨w.heap.size + 1, 0, none⟩ = some v := cell_of_row _ _ 0 _ _ (0, 0) hv
    have e : (l.map ekv).take m = pre.map ekv := by
      rw [← h2, ← List.map_take]
      exact congrArg _ (List.prefix_iff_eq_take.1 hpre).symm
    have hDl := (Array.getElem?_eq_some_iff.1 hK).1
    have hvD : v.ownBlock ≠ some D := fun h => hnD ((hO D).2 (.inr h))
    have hfin : w.heap.size + 1 ≤ W.heap.size := by have := h3.size; omega
    gi_wp2
    refine ⟨by simp, .inl ⟨_, _, rfl, run_takeDeferred hK, ?_⟩⟩
    refine ⟨_, results_tmp rfl _ _ _, v, rfl, ?_, ?_⟩
    · rw [e]
      exact own_baseI ((but_put W D (.deferred none)).own hrow (fun k hk h => hvD (by rw [hk, h]))) (by omega)
    · exact (b1.trans (h3.mono (by omega))).trans ((but_put W D (.deferred none)).below (by omega) (fun j h => by omega))
end Go.Proofs.Ytkpfgbcjimkfeaa
