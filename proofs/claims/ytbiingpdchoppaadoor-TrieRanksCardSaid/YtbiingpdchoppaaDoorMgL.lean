/- A region that draws its order, and whose last operations write what the others read: the loads are taken first, as long as the writers wait for them. More of a region whose last operations write what the others read: a writer comes up, and then S is asked no more. A node with a key more, with one less; the texts walked. A node with a key more, whatever it has already; the text walked. slices.Delete over an own row of ints: one element less; a node with a digit less; the texts walked. -/
import Derived.Deep.RegionHeld3
import Derived.Lib.RowBridge
import Derived.Test.YtbiingpdchoppaaDoorMgK
section
namespace Go.Proofs.YtbiingpdchoppaaDoor
section
variable {P : Program} {ops : Array Oper} {Q : Exit → Act → World → Prop} {md : Region.Mode} {S : World → Prop} {N : List Nat}
/-- One of N has come up. -/
def anyOf (N : List Nat) (listed : Array Bool) : Bool := N.any fun j => listed.getD j false
theorem anyOf_set {i : Nat} {listed : Array Bool} (h : N.contains i = false) : anyOf N (listed.setIfInBounds i true) = anyOf N listed := by
  unfold anyOf
  rw [Bool.eq_iff_iff, List.any_eq_true, List.any_eq_true]
  refine exists_congr fun k => and_congr_right fun hk => ?_
  have hne : i ≠ k := fun e => by
    subst e
    rw [List.contains_iff_mem.2 hk] at h; cases h
  rw [getD_set_ne false hne]
theorem anyOf_in {i : Nat} {listed : Array Bool} (h : N.contains i = true) (hi : i < listed.size) : anyOf N (listed.setIfInBounds i true) = true := by
  unfold anyOf
  rw [List.any_eq_true]
  exact ⟨i, List.contains_iff_mem.1 h, by simp [hi]⟩
/-- Whatever order is picked from here on; S holds behind every operation that is carried out, till one of N comes up. -/
def wpAnyM (P : Program) (md : Region.Mode) (ops : Array Oper) (Q : Exit → Act → World → Prop) (S : World → Prop) (N : List Nat) : Nat → Array Bool → Act → World → Prop
  | 0, listed, a, w => Region.ready md ops listed = [] ∧ Q .normal a w
  | fuel + 1, listed, a, w =>
    (Region.ready md ops listed = [] → Q .normal a w) ∧
    ∀ i ∈ Region.ready md ops listed, wpOp P ops Q i (fun a' w' => (anyOf N (listed.setIfInBounds i true) = true ∨ S w') ∧ wpAnyM P md ops Q S N fuel (listed.setIfInBounds i true) a' w') a w
theorem wpAny_of_late : ∀ (fuel : Nat) (listed : Array Bool) (a : Act) (w : World), wpAnyM P md ops Q S N fuel listed a w → wpAny P md ops Q fuel listed a w
  | 0, _, _, _, h => h
  | fuel + 1, _, _, _, h => ⟨h.1, fun i hi => wpOp_mono (fun a' w' h' => wpAny_of_late fuel _ a' w' h'.2) (h.2 i hi)⟩
theorem ready_lt {i : Nat} {listed : Array Bool} (h : i ∈ Region.ready md ops listed) : i < listed.size := by
  have h0 := (mem_ready.1 h).1
  rcases Nat.lt_or_ge i listed.size with h' | h'
  · exact h'
  · simp [Array.getElem?_eq_none h'] at h0
/-- What is ready waits for nobody who is not listed. -/
theorem ready_nowait {i j : Nat} {oj : Oper} {listed : Array Bool} (hi : i ∈ Region.ready md ops listed) (hj : j ∈ Region.ready md ops listed) (hoj : ops[j]? = some oj) :
    ∀ e ∈ oj.after, Region.binds md e = true → e.on ≠ i := fun e he hb heq => by
  obtain ⟨_, oj', hoj', hall⟩ := mem_ready.1 hj
  rw [hoj] at hoj'
  obtain rfl : oj = oj' := Option.some.inj hoj'
  have h1 := hall e he hb
  have h0 := (mem_ready.1 hi).1
  rw [heq] at h1
  have hlt := ready_lt hi
  simp [hlt] at h0 h1
  rw [h0] at h1; cases h1
/-- Every operation of N waits for i. -/
def lateWait (md : Region.Mode) (ops : Array Oper) (N : List Nat) (i : Nat) : Bool :=
  N.all fun j => match ops[j]? with
    | some oj => oj.after.any (fun e => Region.binds md e && e.on == i)
    | none => true
theorem lateWait_spec {i j : Nat} {listed : Array Bool} (h : lateWait md ops N i = true) (hi : i ∈ Region.ready md ops listed) (hj : j ∈ Region.ready md ops listed) : N.contains j = false := by
  rw [Bool.eq_false_iff]
  intro hc
  have h1 := List.all_eq_true.1 h j (List.contains_iff_mem.1 hc)
  obtain ⟨_, oj, hoj, hall⟩ := mem_ready.1 hj
  rw [hoj] at h1
  obtain ⟨e, he, hb⟩ := Array.any_eq_true'.1 h1
  rw [Bool.and_eq_true, beq_iff_eq] at hb
  exact ready_nowait hi hj hoj e he hb.1 hb.2
theorem wpAnyM_first {S0 : World → Prop} {J : Array Bool → World → Prop} {i : Nat} {oi : Oper} {v : Value} (hi : ops[i]? = some oi) (hsel : ∀ (j : Nat) (o : Oper) cs b, ops[j]? = some o → o.op ≠ .select cs b)
    (hQ : ∀ c a w, Q (.panic c) (a.put oi.dst v) w → Q (.panic c) a w) (hNi : N.contains i = false)
    (hJ0 : ∀ listed w, J listed w → S0 w) (hJ1 : ∀ listed w, J listed w → (anyOf N listed = true ∨ S w))
    (hJ2 : ∀ listed j w w', i ∈ Region.ready md ops listed → j ∈ Region.ready md ops listed → J listed w → (anyOf N (listed.setIfInBounds j true) = true ∨ S w') → J (listed.setIfInBounds j true) w') :
    ∀ (fuel : Nat) (listed : Array Bool) (a : Act) (w : World),
      (∀ j oj, ops[j]? = some oj → j ≠ i → listed.getD j true = false → (∀ e ∈ oj.after, Region.binds md e = true → e.on ≠ i) → oi.apart ops oj = true) →
      i ∈ Region.ready md ops listed → YieldsIf P ops S0 oi v a → J listed w →
      wpAnyM P md ops Q S N fuel (listed.setIfInBounds i true) (a.put oi.dst v) w → wpAnyM P md ops Q S N (fuel + 1) listed a w := by
  intro fuel
  induction fuel with
  | zero =>
    intro listed a w _ hr hy hS H
    refine ⟨fun h => (by rw [h] at hr; cases hr), fun j hj => ?_⟩
    by_cases hji : j = i
    · subst hji; exact hy.wpOp hi (hJ0 _ _ hS) ⟨by rw [anyOf_set hNi]; exact hJ1 _ _ hS, H⟩
    · have := ready_mono hj hji
      rw [H.1] at this
      cases this
  | succ fuel ih =>
    intro listed a w hfree hr hy hS H
    refine ⟨fun h => (by rw [h] at hr; cases hr), fun j hj => ?_⟩
    by_cases hji : j = i
    · subst hji; exact hy.wpOp hi (hJ0 _ _ hS) ⟨by rw [anyOf_set hNi]; exact hJ1 _ _ hS, H⟩
    · have h1 := H.2 j (ready_mono hj hji)
      obtain ⟨hjun, oj, hoj, hall⟩ := mem_ready.1 hj
      have hnot := ready_nowait hr hj hoj
      have h2 := wpOp_putIf hoj (hfree j oj hoj hji hjun hnot) (fun cs b => hsel i oi cs b hi) (fun cs b => hsel j oj cs b hoj) hQ hy h1
      have hfree' : ∀ k ok, ops[k]? = some ok → k ≠ i → (listed.setIfInBounds j true).getD k true = false →
          (∀ e ∈ ok.after, Region.binds md e = true → e.on ≠ i) → oi.apart ops ok = true := fun k ok hk hki hun hno => by
        refine hfree k ok hk hki ?_ hno
        by_cases hjk : j = k
        · subst hjk; exact hjun
        · rw [getD_set_ne true hjk] at hun; exact hun
      refine wpOp_mono (fun a' w' h3 => ?_) h2
      have h4 : anyOf N (listed.setIfInBounds j true) = true ∨ S w' := by
        have := h3.2.1
        rw [Array.setIfInBounds_comm _ _ (Ne.symm hji), anyOf_set hNi] at this
        exact this
      have hJ' := hJ2 listed j w w' hr hj hS h4
      refine ⟨h4, ih (listed.setIfInBounds j true) a' w' hfree' (ready_mono hr (Ne.symm hji)) h3.1 hJ' ?_⟩
      rw [Array.setIfInBounds_comm _ _ hji]
      exact h3.2.2
/-- A load is taken first: the operations of N wait for it, and none has come up. -/
theorem wpAnyM_take {i : Nat} {oi : Oper} {v : Value} {fuel : Nat} {listed : Array Bool} {a : Act} {w : World} (hi : ops[i]? = some oi)
    (hs : Region.noSelect ops = true) (hf : Region.free md ops listed i = true) (hr : (Region.ready md ops listed).contains i = true) (hl : lateWait md ops N i = true) (hn : anyOf N listed = false) (hNi : N.contains i = false)
    (hQ : ∀ c a w, Q (.panic c) (a.put oi.dst v) w → Q (.panic c) a w) (hS : S w) (hy : YieldsIf P ops S oi v a)
    (h : wpAnyM P md ops Q S N fuel (listed.setIfInBounds i true) (a.put oi.dst v) w) : wpAnyM P md ops Q S N (fuel + 1) listed a w :=
  wpAnyM_first (S0 := S) (J := fun l w => anyOf N l = false ∧ S w) hi (Region.noSelect_spec hs) hQ hNi (fun _ _ h => h.2) (fun _ _ h => .inr h.2)
    (fun l j w w' hir hjr hJ hj => by
      have hc := lateWait_spec hl hir hjr
      have h0 : anyOf N (l.setIfInBounds j true) = false := by rw [anyOf_set hc]; exact hJ.1
      refine ⟨h0, hj.resolve_left (by rw [h0]; simp)⟩) fuel listed a w (Region.free_spec hi hf) (by simpa using hr) hy ⟨hn, hS⟩ h
/-- What yields in every world is taken first, whoever waits for it. -/
theorem wpAnyM_pure {i : Nat} {oi : Oper} {v : Value} {fuel : Nat} {listed : Array Bool} {a : Act} {w : World} (hi : ops[i]? = some oi)
    (hs : Region.noSelect ops = true) (hf : Region.free md ops listed i = true) (hr : (Region.ready md ops listed).contains i = true) (hNi : N.contains i = false)
    (hQ : ∀ c a w, Q (.panic c) (a.put oi.dst v) w → Q (.panic c) a w) (hS : S w) (hy : Yields P ops oi v a)
    (h : wpAnyM P md ops Q S N fuel (listed.setIfInBounds i true) (a.put oi.dst v) w) : wpAnyM P md ops Q S N (fuel + 1) listed a w :=
  wpAnyM_first (S0 := fun _ => True) (J := fun l w => anyOf N l = true ∨ S w) hi (Region.noSelect_spec hs) hQ hNi (fun _ _ _ => trivial) (fun _ _ h => h)
    (fun l j w w' _ _ _ hj => hj) fuel listed a w (Region.free_spec hi hf) (by simpa using hr) hy.yieldsIf (.inr hS) h
/-- Once only operations of N are left, S is asked no more. -/
theorem wpAnyM_any : ∀ (fuel : Nat) (listed : Array Bool) (a : Act) (w : World), (∀ j ∈ Region.ready md ops listed, N.contains j = true) → ((List.range ops.size).all (fun j => listed.getD j true || N.contains j) = true) →
    wpAny P md ops Q fuel listed a w → wpAnyM P md ops Q S N fuel listed a w
  | 0, _, _, _, _, _, h => h
  | fuel + 1, listed, a, w, hr, hN, h => by
    refine ⟨h.1, fun i hi => wpOp_mono (fun a' w' h' => ⟨.inl (anyOf_in (hr i hi) (ready_lt hi)), wpAnyM_any fuel _ a' w' (fun j hj => ?_) ?_ h'⟩) (h.2 i hi)⟩
    · obtain ⟨hjun, oj, hoj, _⟩ := mem_ready.1 hj
      have h1 := List.all_eq_true.1 hN j (List.mem_range.2 (Array.getElem?_eq_some_iff.1 hoj).1)
      have hne : i ≠ j := fun e => by
        subst e
        have hlt := ready_lt hi
        simp [hlt] at hjun
      rw [getD_set_ne true hne] at hjun
      rw [hjun] at h1
      simpa using h1
    · rw [List.all_eq_true] at hN ⊢
      intro k hk
      have h1 := hN k hk
      by_cases hik : i = k
      · subst hik
        simp only [Bool.or_eq_true]
        exact .inr (hr i hi)
      · rw [getD_set_ne true hik]; exact h1
theorem wpAnyM_drop {fuel : Nat} {listed : Array Bool} {a : Act} {w : World} (hN : (List.range ops.size).all (fun j => listed.getD j true || N.contains j) = true) (h : wpAny P md ops Q fuel listed a w) : wpAnyM P md ops Q S N fuel listed a w :=
  wpAnyM_any fuel listed a w (fun j hj => by
    obtain ⟨hjun, oj, hoj, _⟩ := mem_ready.1 hj
    have h1 := List.all_eq_true.1 hN j (List.mem_range.2 (Array.getElem?_eq_some_iff.1 hoj).1)
    rw [hjun] at h1
    simpa using h1) hN h
/-- Each of the operations 'rs' comes up next. -/
def AllReadyM (P : Program) (md : Region.Mode) (ops : Array Oper) (Q : Exit → Act → World → Prop) (S : World → Prop) (N : List Nat) (fuel : Nat) (listed : Array Bool) (a : Act) (w : World) (rs : List Nat) : Prop :=
  ∀ i ∈ rs, wpOp P ops Q i (fun a' w' => (anyOf N (listed.setIfInBounds i true) = true ∨ S w') ∧ wpAnyM P md ops Q S N fuel (listed.setIfInBounds i true) a' w') a w
theorem AllReadyM.nil {fuel : Nat} {listed : Array Bool} {a : Act} {w : World} : AllReadyM P md ops Q S N fuel listed a w [] := fun _ h => by cases h
theorem AllReadyM.cons {fuel : Nat} {listed : Array Bool} {a : Act} {w : World} {i : Nat} {o : Oper} {rs : List Nat} (ho : ops[i]? = some o)
    (h : ∀ K' : Act → World → Prop, Shut (∀ a w, S w → (S w → wpAnyM P md ops Q S N fuel (listed.setIfInBounds i true) a w) → K' a w) → if Region.wanted o (yielded ops a.tmps) = true then Oper.wp P o a w K' Q else K' (a.put o.dst undef) w)
    (hs : AllReadyM P md ops Q S N fuel listed a w rs) : AllReadyM P md ops Q S N fuel listed a w (i :: rs) := fun j hj => by
  rcases List.mem_cons.1 hj with rfl | hj
  · exact wpOp_step ho (fun K' hK => h K' (fun a w hS hW => hK a w ⟨.inr hS, hW hS⟩))
  · exact hs j hj
theorem wpAnyM_ready {rs : List Nat} {fuel : Nat} {listed : Array Bool} {a : Act} {w : World} (hr : Region.ready md ops listed = rs) (hne : rs ≠ [])
    (h : AllReadyM P md ops Q S N fuel listed a w rs) : wpAnyM P md ops Q S N (fuel + 1) listed a w :=
  ⟨fun h0 => absurd (hr ▸ h0) hne, hr ▸ h⟩
/-- The operation as it is written. -/
def At (ops : Array Oper) (i : Nat) (o : Oper) : Prop := (ops.toList.drop i).head? = some o
theorem At.out {i : Nat} {o : Oper} (h : At ops i o) : ops[i]? = some o := by
  unfold At at h
  rw [List.head?_drop, Array.getElem?_toList] at h
  exact h
theorem late_take {i : Nat} {oi : Oper} {v : Value} {fuel : Nat} {listed : Array Bool} {a : Act} {w : World} (hi : At ops i oi)
    (hs : Region.noSelect ops = true) (hf : Region.free md ops listed i = true) (hr : (Region.ready md ops listed).contains i = true) (hl : lateWait md ops N i = true) (hn : anyOf N listed = false) (hNi : N.contains i = false)
    (hQ : ∀ c a w, Q (.panic c) (a.put oi.dst v) w → Q (.panic c) a w) (hS : S w) (hwa : Region.wanted oi (yielded ops a.tmps) = true) (hy : ∀ w, S w → (execOp a.eval oi).run P w = .ok (.value v) w)
    (h : wpAnyM P md ops Q S N fuel (listed.setIfInBounds i true) (a.put oi.dst v) w) : wpAnyM P md ops Q S N (fuel + 1) listed a w :=
  wpAnyM_take hi.out hs hf hr hl hn hNi hQ hS (.inl ⟨hwa, hy⟩) h
theorem late_pure {i : Nat} {oi : Oper} {v : Value} {fuel : Nat} {listed : Array Bool} {a : Act} {w : World} (hi : At ops i oi)
    (hs : Region.noSelect ops = true) (hf : Region.free md ops listed i = true) (hr : (Region.ready md ops listed).contains i = true) (hNi : N.contains i = false)
    (hQ : ∀ c a w, Q (.panic c) (a.put oi.dst v) w → Q (.panic c) a w) (hS : S w) (hwa : Region.wanted oi (yielded ops a.tmps) = true) (hy : ∀ w, (execOp a.eval oi).run P w = .ok (.value v) w)
    (h : wpAnyM P md ops Q S N fuel (listed.setIfInBounds i true) (a.put oi.dst v) w) : wpAnyM P md ops Q S N (fuel + 1) listed a w :=
  wpAnyM_pure hi.out hs hf hr hNi hQ hS (.inl ⟨hwa, hy⟩) h
theorem late_tail {i : Nat} {oi : Oper} {v : Value} {fuel : Nat} {listed : Array Bool} {a : Act} {w : World} (hi : At ops i oi)
    (hs : Region.noSelect ops = true) (hf : Region.free md ops listed i = true) (hr : (Region.ready md ops listed).contains i = true)
    (hQ : ∀ c a w, Q (.panic c) (a.put oi.dst v) w → Q (.panic c) a w) (hwa : Region.wanted oi (yielded ops a.tmps) = true) (hy : ∀ w, (execOp a.eval oi).run P w = .ok (.value v) w)
    (h : wpAny P md ops Q fuel (listed.setIfInBounds i true) (a.put oi.dst v) w) : wpAny P md ops Q (fuel + 1) listed a w :=
  wpAny_take hi.out hs hf hr hQ (.inl ⟨hwa, hy⟩) h
theorem wp_region_late {id : Nat} {a : Act} {w : World} (hm : P.follows .mixedOrders = true) (hS : S w.drew)
    (h : S w.drew → wpAnyM P .any ops Q S N ops.size (Array.replicate ops.size false) a w.drew) : (Code.region id ops true).wp P Q a w :=
  wp_region_any hm (wpAny_of_late _ _ _ _ (h hS))
end
end Go.Proofs.YtbiingpdchoppaaDoor
end
section
namespace Go.Proofs.YtbiingpdchoppaaDoor
section
variable {P : Program} {ops : Array Oper} {Q : Exit → Act → World → Prop} {md : Region.Mode} {S : World → Prop} {N : List Nat}
theorem anyOf_more {i : Nat} {listed : Array Bool} (h : anyOf N listed = true) : anyOf N (listed.setIfInBounds i true) = true := by
  unfold anyOf at *
  rw [List.any_eq_true] at *
  obtain ⟨k, hk, e⟩ := h
  refine ⟨k, hk, ?_⟩
  by_cases hik : i = k
  · subst hik
    have hlt : i < listed.size := by
      rcases Nat.lt_or_ge i listed.size with h' | h'
      · exact h'
      · rw [Array.getD_eq_getD_getElem?, Array.getElem?_eq_none h'] at e; cases e
    simp [hlt]
  · rw [getD_set_ne false hik]; exact e
/-- Once one of N has come up, S is asked no more. -/
theorem wpAnyM_of_any : ∀ (fuel : Nat) (listed : Array Bool) (a : Act) (w : World), anyOf N listed = true → wpAny P md ops Q fuel listed a w → wpAnyM P md ops Q S N fuel listed a w
  | 0, _, _, _, _, h => h
  | fuel + 1, listed, a, w, hN, h => ⟨h.1, fun i hi => wpOp_mono (fun a' w' h' => ⟨.inl (anyOf_more hN), wpAnyM_of_any fuel _ a' w' (anyOf_more hN) h'⟩) (h.2 i hi)⟩
/-- A writer comes up. -/
theorem AllReadyM.consN {fuel : Nat} {listed : Array Bool} {a : Act} {w : World} {i : Nat} {o : Oper} {rs : List Nat} (ho : ops[i]? = some o) (hN : anyOf N (listed.setIfInBounds i true) = true)
    (h : ∀ K' : Act → World → Prop, Shut (∀ a w, wpAny P md ops Q fuel (listed.setIfInBounds i true) a w → K' a w) → if Region.wanted o (yielded ops a.tmps) = true then Oper.wp P o a w K' Q else K' (a.put o.dst undef) w)
    (hs : AllReadyM P md ops Q S N fuel listed a w rs) : AllReadyM P md ops Q S N fuel listed a w (i :: rs) := fun j hj => by
  rcases List.mem_cons.1 hj with rfl | hj
  · exact wpOp_step ho (fun K' hK => h K' (fun a w hW => hK a w ⟨.inl hN, wpAnyM_of_any _ _ _ _ hN hW⟩))
  · exact hs j hj
end
end Go.Proofs.YtbiingpdchoppaaDoor
end
section
namespace Go.Proofs.YtbiingpdchoppaaDoor
set_option maxRecDepth 40000
open Go.RowKit
theorem heap_alloc' (w : World) (o : Obj) : (w.alloc o).heap = w.heap.push o := rfl
theorem heap_drewN' (w : World) (n : Nat) : (w.drewN n).heap = w.heap := by simp
/-- What a changed node is. -/
def NdP (w : World) (A : Option Addr) (W ks le gr : Nat) (zs : List Nat) (e : Ending) (w' : World) : Prop :=
  ∃ A' c', e = .returned (ndv W A' zs.length c' ks le gr) ∧ w'.ownsRow 0 3 1 (.slice A' zs.length c') zs.length (iw zs) ∧ K.Chg w w' (fun j => A.map (·.block) = some j) ∧ ∀ j, A'.map (·.block) = some j → A.map (·.block) = some j ∨ w.heap.size ≤ j
/-- The world behind a node's box, its result's, and the box of what is put in. -/
abbrev wIns (w : World) (W : Nat) (A : Option Addr) (n c ks le gr pc : Nat) : World := ((w.alloc (ndo W A n c ks le gr)).alloc ndzo).alloc (.cells #[.int .i64 (pc : Int)] 3)
def InsB (w : World) (W : Nat) (A : Option Addr) (n c ks le gr : Nat) (zs : List Nat) (V : World) (e : Ending) (w3 : World) : Prop :=
  ∃ A3 c3, e = .returned (.slice A3 zs.length c3) ∧ Hid (w3.ownsRow 0 3 1 (.slice A3 zs.length c3) zs.length (iw zs)) ∧ w3.heap[w.heap.size]? = some (ndo W A n c ks le gr) ∧ w3.heap[w.heap.size + 1]? = some ndzo ∧ Hid (K.Chg V w3 (fun j => A.map (·.block) = some j)) ∧ Hid (w.heap.size + 3 ≤ w3.heap.size ∧ ∀ j, A3.map (·.block) = some j → A.map (·.block) = some j ∨ w.heap.size + 3 ≤ j)
theorem ins_boxed (w : World) (W : Nat) (A : Option Addr) (ch : List Nat) (c ks le gr pc : Nat) (hown : w.ownsRow 0 3 1 (.slice A ch.length c) ch.length (iw ch)) (r : Nat) (hr : r ≤ ch.length) (hcl : ch.length ≤ 64) (V : World) (hV : V.heap = (wIns w W A ch.length c ks le gr pc).heap) :
    Calls Tryd.prog 89 #[.slice A ch.length c, .int .i64 (r : Int), .slice (some ⟨w.heap.size + 2, 0, none⟩) 1 1] V (InsB w W A ch.length c ks le gr (ch.take r ++ pc :: ch.drop r) V) := by
  have HA : ∀ j, A.map (·.block) = some j → j < w.heap.size := fun j hj => (own_block_lt hown hj).1
  have HW1 : Below w.heap.size w (wIns w W A ch.length c ks le gr pc) := (((Below.refl _ w).alloc (Nat.le_refl _) _).alloc (by simp) _).alloc (by simp; omega) _
  have hsz : V.heap.size = w.heap.size + 3 := by rw [hV]; simp [wIns]
  have h1 : V.ownsRow 0 3 1 (.slice A ch.length c) ch.length (iw ch) := by
    have := (K.Chg.of_below (O := fun _ => False) HW1).own hown (fun _ _ h => h)
    unfold World.ownsRow at *
    rw [hV]
    exact this
  have h2 : V.heap[w.heap.size + 2]? = some (.cells #[.int .i64 (pc : Int)] 3 (0, 0)) := by
    rw [hV]
    have := K.alloc_top ((w.alloc (ndo W A ch.length c ks le gr)).alloc ndzo) (.cells #[.int .i64 (pc : Int)] 3)
    rw [show ((w.alloc (ndo W A ch.length c ks le gr)).alloc ndzo).heap.size = w.heap.size + 2 by simp] at this
    exact this
  have h3 : V.heap[w.heap.size]? = some (ndo W A ch.length c ks le gr) := by
    rw [hV]
    exact (Below.heap_alloc _ _ _ (by simp; omega)).trans ((Below.heap_alloc _ _ _ (by simp)).trans (K.alloc_top _ _))
  have h4 : V.heap[w.heap.size + 1]? = some ndzo := by
    rw [hV]
    refine (Below.heap_alloc _ _ _ (by simp)).trans ?_
    have := K.alloc_top (w.alloc (ndo W A ch.length c ks le gr)) ndzo
    rw [show (w.alloc (ndo W A ch.length c ks le gr)).heap.size = w.heap.size + 1 by simp] at this
    exact this
  refine (ins_int V A c ch h1 r hr hcl pc (w.heap.size + 2) h2 (fun e => by have := HA _ e; omega)).mono ?_
  rintro e w3 ⟨A3, c3, rfl, ho, hc, hb⟩
  refine ⟨A3, c3, rfl, ho, (hc.block _ (by omega) (fun e => by have := HA _ e; omega)).trans h3, (hc.block _ (by omega) (fun e => by have := HA _ e; omega)).trans h4, hc, ?_, fun j hj => ?_⟩
  · have := hc.size; omega
  · rcases hb j hj with h | h
    · exact .inl h
    · exact .inr (by omega)
theorem nd_fin {w V w3 X : World} {A A3 : Option Addr} {zs : List Nat} {c3 : Nat} {e : Ending} (W ks le gr : Nat) (he : e = .returned (ndv W A3 zs.length c3 ks le gr)) (hV : K.Chg w V (fun j => A.map (·.block) = some j)) (ho : w3.ownsRow 0 3 1 (.slice A3 zs.length c3) zs.length (iw zs))
    (hc : K.Chg V w3 (fun j => A.map (·.block) = some j)) (hb : w.heap.size + 3 ≤ w3.heap.size ∧ ∀ j, A3.map (·.block) = some j → A.map (·.block) = some j ∨ w.heap.size + 3 ≤ j) (hA : ∀ j, A.map (·.block) = some j → j < w.heap.size)
    (hx : K.Chg w3 X (fun j => j = w.heap.size ∨ j = w.heap.size + 1)) : NdP w A W ks le gr zs e X := by
  refine ⟨A3, c3, he, hx.own ho (fun b h1 h2 => ?_), (hV.same hc).trans hx (fun j h => .inr (by omega)), fun j h => ?_⟩
  · rcases hb.2 b (own_of_map h1) with h | h
    · have := hA b h; omega
    · omega
  · rcases hb.2 j h with h | h
    · exact .inl h
    · exact .inr (by omega)
set_option maxHeartbeats 4000000 in
theorem nd_with_ins (w : World) (W : Nat) (A : Option Addr) (ch : List Nat) (c ks le gr k l pc : Nat) (hW : W < 18446744073709551616) (hk : k < 18446744073709551616) (hl : l < 10) (hd : T.dig l k ∉ M.bl W) (hown : w.ownsRow 0 3 1 (.slice A ch.length c) ch.length (iw ch)) (hr : K.fi (M.bl W) (T.dig l k) ≤ ch.length) (hcl : ch.length ≤ 64) (hks : ks < 1000000000) :
    Calls Tryd.prog 72 #[ndv W A ch.length c ks le gr, .int .u64 (k : Int), .int .i64 (l : Int), .int .i64 (pc : Int)] w (NdP w A (W ||| M.one (T.dig l k)) (ks + 1) (min le k) (max gr k) (ch.take (K.fi (M.bl W) (T.dig l k)) ++ pc :: ch.drop (K.fi (M.bl W) (T.dig l k)))) := by
  have hdl := T.dig_lt l k
  have d1 : decide ((l : Int) < 10) = true := decide_eq_true (by omega)
  have d2 : decide (l < 10) = true := decide_eq_true hl
  have hget := fun V => Lib.hid (bit_get W hW ((T.dig l k : Nat) : Int) V)
  rw [T.has_bl W _ hdl, decide_eq_false hd] at hget
  have hdg := fun V => Lib.hid (t_digit V k l hk (by omega))
  have hrk := fun V => Lib.hid (bit_rank W hW ((T.dig l k : Nat) : Int) V)
  rw [T.rank_fi] at hrk
  have hset := fun V => Lib.hid (bit_set W hW ((T.dig l k : Nat) : Int) V)
  have q1 : IntKind.i64.wrap ((ks : Int) + 1) = (ks : Int) + 1 := IntWalk.i64_in _ (by omega)
  have HR := Lib.hid hr
  have HA : ∀ j, A.map (·.block) = some j → j < w.heap.size := fun j hj => (own_block_lt hown hj).1
  have hins := ins_boxed w W A ch c ks le gr pc hown (K.fi (M.bl W) (T.dig l k)) hr hcl
  clear hr hd hown
  have e1 : ((min le k : Nat) : Int) = min (le : Int) (k : Int) := by omega
  have e2 : ((max gr k : Nat) : Int) = max (gr : Int) (k : Int) := by omega
  obtain ⟨zs, hzs⟩ : ∃ zs, ch.take (K.fi (M.bl W) (T.dig l k)) ++ pc :: ch.drop (K.fi (M.bl W) (T.dig l k)) = zs := ⟨_, rfl⟩
  rw [hzs] at hins ⊢
  clear hzs
  generalize W ||| M.one (T.dig l k) = W2 at *
  generalize K.fi (M.bl W) (T.dig l k) = r at *
  generalize T.dig l k = d at *
  go_enter Tryd.func72, Tryd.ntmps72
  go_wp2_with (first
    | (go_at_call 64; (with_reducible refine (hdg _).out.mono ?_); rintro e w' ⟨rfl, rfl⟩)
    | (go_at_call 68; (with_reducible refine (hget _).out.mono ?_); rintro e w' ⟨rfl, rfl⟩))
  refine wp_region_late (S := fun X => X.cell? ⟨w.heap.size, 0, none⟩ = some (.int .u64 (W : Int)) ∧ X.cell? ⟨w.heap.size, 1, none⟩ = some (.slice A ch.length c)) (N := [8]) (by kernel_rfl) (by (try dsimp only); go_keep) (fun hHeld => ?_)
  refine late_pure (i := 0) (v := ?_) rfl (by kernel_rfl) (by kernel_rfl) (by kernel_rfl) (by kernel_rfl) (fun _ _ _ h => h) (by assumption) (by rfl) ?_ ?_
  rotate_left
  · intro w
    go_simp
    try (with_reducible rfl)
  try simp only [Act.put, List.setIfInBounds_toArray, List.set_cons_zero, List.set_cons_succ]
  refine late_take (i := 1) (v := ?_) rfl (by kernel_rfl) (by kernel_rfl) (by kernel_rfl) (by kernel_rfl) (by kernel_rfl) (by kernel_rfl) (fun _ _ _ h => h) (by assumption) (by rfl) ?_ ?_
  rotate_left
  · intro w hSw
    try dsimp only at hSw
    go_simp
    try (with_reducible rfl)
  try simp only [Act.put, List.setIfInBounds_toArray, List.set_cons_zero, List.set_cons_succ]
  refine late_pure (i := 2) (v := ?_) rfl (by kernel_rfl) (by kernel_rfl) (by kernel_rfl) (by kernel_rfl) (fun _ _ _ h => h) (by assumption) (by rfl) ?_ ?_
  rotate_left
  · intro w
    go_simp
    try (with_reducible rfl)
  try simp only [Act.put, List.setIfInBounds_toArray, List.set_cons_zero, List.set_cons_succ]
  refine late_pure (i := 4) (v := ?_) rfl (by kernel_rfl) (by kernel_rfl) (by kernel_rfl) (by kernel_rfl) (fun _ _ _ h => h) (by assumption) (by rfl) ?_ ?_
  rotate_left
  · intro w
    go_simp
    try (with_reducible rfl)
  try simp only [Act.put, List.setIfInBounds_toArray, List.set_cons_zero, List.set_cons_succ]
  refine late_pure (i := 6) (v := ?_) rfl (by kernel_rfl) (by kernel_rfl) (by kernel_rfl) (by kernel_rfl) (fun _ _ _ h => h) (by assumption) (by rfl) ?_ ?_
  rotate_left
  · intro w
    go_simp
    try (with_reducible rfl)
  try simp only [Act.put, List.setIfInBounds_toArray, List.set_cons_zero, List.set_cons_succ]
  refine wpAnyM_ready (rs := [3, 7]) (by kernel_rfl) (by simp) ?_
  refine AllReadyM.cons (At.out rfl) (fun K hK => ?_) ?_
  ·
    go_simp
    refine hK.out _ _ (by first | assumption | ((try dsimp only); go_keep)) (fun hHeld => ?_)
    clear hK K
    try simp only [Act.put, List.setIfInBounds_toArray, List.set_cons_zero, List.set_cons_succ]
    refine wpAnyM_ready (rs := [5, 7]) (by kernel_rfl) (by simp) ?_
    refine AllReadyM.cons (At.out rfl) (fun K hK => ?_) ?_
    ·
      go_simp
      (go_at_call 63; (with_reducible refine (hrk _).out.mono ?_); rintro e w' ⟨rfl, N, rfl⟩)
      refine hK.out _ _ (by first | assumption | ((try dsimp only); go_keep)) (fun hHeld => ?_)
      clear hK K
      try simp only [Act.put, List.setIfInBounds_toArray, List.set_cons_zero, List.set_cons_succ]
      refine wpAnyM_ready (rs := [7]) (by kernel_rfl) (by simp) ?_
      refine AllReadyM.cons (At.out rfl) (fun K hK => ?_) ?_
      ·
        go_simp
        refine hK.out _ _ (by first | assumption | ((try dsimp only); go_keep)) (fun hHeld => ?_)
        clear hK K
        try simp only [Act.put, List.setIfInBounds_toArray, List.set_cons_zero, List.set_cons_succ]
        refine wpAnyM_ready (rs := [8]) (by kernel_rfl) (by simp) ?_
        refine AllReadyM.consN (At.out rfl) (by rfl) (fun K hK => ?_) AllReadyM.nil
        ·
          go_simp
          (go_at_call 89; skip)
          (with_reducible refine (hins _ ?_).mono ?_)
          · first | (simp [wIns]; done) | (simp only [wIns, heap_alloc', heap_drewN']; done)
          rintro e w3 ⟨A3, c3, rfl, HO3, hr3, hz3, HC3, HB3⟩
          obtain ⟨y0, y1, y2, y3, y4⟩ := nd_cells hr3
          obtain ⟨z0, z1, z2, z3, z4⟩ := nd_cells hz3
          have f0 := frozen_of_row w3 _ 0 _ _ hr3
          have f1 := frozen_of_row w3 _ 1 _ _ hr3
          have f2 := frozen_of_row w3 _ 2 _ _ hr3
          have f3 := frozen_of_row w3 _ 3 _ _ hr3
          have f4 := frozen_of_row w3 _ 4 _ _ hr3
          have g0 := frozen_of_row w3 _ 0 _ _ hz3
          have g1 := frozen_of_row w3 _ 1 _ _ hz3
          have g2 := frozen_of_row w3 _ 2 _ _ hz3
          have g3 := frozen_of_row w3 _ 3 _ _ hz3
          have g4 := frozen_of_row w3 _ 4 _ _ hz3
          have HR3 := Lib.hid hr3
          have HZ3 := Lib.hid hz3
          clear hr3 hz3
          refine hK.out _ _ ?_
          clear hK K
          try simp only [Act.put, List.setIfInBounds_toArray, List.set_cons_zero, List.set_cons_succ]
          refine late_tail (i := 9) (v := ?_) rfl (by kernel_rfl) (by kernel_rfl) (by kernel_rfl) (fun _ _ _ h => h) (by rfl) ?_ ?_
          rotate_left
          · intro w
            go_simp
            try (with_reducible rfl)
          try simp only [Act.put, List.setIfInBounds_toArray, List.set_cons_zero, List.set_cons_succ]
          refine Go.wpAny_ready (rs := [10]) (by kernel_rfl) (by simp) ?_
          refine AllReady.cons (At.out rfl) (fun K hK => ?_) AllReady.nil
          go_simp
          refine hK _ _ ?_
          clear hK K
          try simp only [Act.put, List.setIfInBounds_toArray, List.set_cons_zero, List.set_cons_succ]
          refine wpAny_done (by kernel_rfl) ?_ _
          go_wp2_with (go_at_call 90; (with_reducible refine (hset _).out.mono ?_); rintro e w' ⟨rfl, rfl⟩)
          have hbx := chg_five w3 w.heap.size 1 0 2 3 4 (.slice A3 zs.length c3) (.int .u64 (W2 : Int)) (.int .i64 ((ks : Int) + 1)) (.int .u64 (min (le : Int) (k : Int))) (.int .u64 (max (gr : Int) (k : Int))) (fun j => j = w.heap.size) rfl
          have hz5 := (hbx.block (w.heap.size + 1) (by have := HB3.out.1; omega) (by omega)).trans HZ3.out
          have hr := row_z5 hz5 (.int .u64 (W2 : Int)) (.slice A3 zs.length c3) (.int .i64 ((ks : Int) + 1)) (.int .u64 (min (le : Int) (k : Int))) (.int .u64 (max (gr : Int) (k : Int)))
          have hx := (hbx.mono (O' := fun j => j = w.heap.size ∨ j = w.heap.size + 1) (fun j h => .inl h)).same (chg_five _ (w.heap.size + 1) 0 1 2 3 4 (.int .u64 (W2 : Int)) (.slice A3 zs.length c3) (.int .i64 ((ks : Int) + 1)) (.int .u64 (min (le : Int) (k : Int))) (.int .u64 (max (gr : Int) (k : Int))) (fun j => j = w.heap.size ∨ j = w.heap.size + 1) (.inr rfl))
          refine bodyPost_ret (results_cell_row rfl _ _ (w.heap.size + 1) _ _ _ _ rfl hr Tryd.underlying72 (by kernel_rfl) (by kernel_rfl)) rfl ?_
          exact nd_fin W2 (ks + 1) (min le k) (max gr k) (by show _ = Ending.returned (Value.agg #[_, _, _, .int .u64 ((min le k : Nat) : Int), .int .u64 ((max gr k : Nat) : Int)]); rw [e1, e2]; rfl) (by repeat (first | exact chg_refl _ _ | refine K.Chg.drewN ?_ _ | refine K.Chg.drewN (n := 1) ?_ | refine K.Chg.same ?_ (chg_alloc _ _ _))) HO3.out HC3.out HB3.out HA hx
      exact AllReadyM.nil
    refine AllReadyM.cons (At.out rfl) (fun K hK => ?_) ?_
    ·
      go_simp
      refine hK.out _ _ (by first | assumption | ((try dsimp only); go_keep)) (fun hHeld => ?_)
      clear hK K
      try simp only [Act.put, List.setIfInBounds_toArray, List.set_cons_zero, List.set_cons_succ]
      refine wpAnyM_ready (rs := [5]) (by kernel_rfl) (by simp) ?_
      refine AllReadyM.cons (At.out rfl) (fun K hK => ?_) ?_
      ·
        go_simp
        (go_at_call 63; (with_reducible refine (hrk _).out.mono ?_); rintro e w' ⟨rfl, N, rfl⟩)
        refine hK.out _ _ (by first | assumption | ((try dsimp only); go_keep)) (fun hHeld => ?_)
        clear hK K
        try simp only [Act.put, List.setIfInBounds_toArray, List.set_cons_zero, List.set_cons_succ]
        refine wpAnyM_ready (rs := [8]) (by kernel_rfl) (by simp) ?_
        refine AllReadyM.consN (At.out rfl) (by rfl) (fun K hK => ?_) AllReadyM.nil
        ·
          go_simp
          (go_at_call 89; skip)
          (with_reducible refine (hins _ ?_).mono ?_)
          · first | (simp [wIns]; done) | (simp only [wIns, heap_alloc', heap_drewN']; done)
          rintro e w3 ⟨A3, c3, rfl, HO3, hr3, hz3, HC3, HB3⟩
          obtain ⟨y0, y1, y2, y3, y4⟩ := nd_cells hr3
          obtain ⟨z0, z1, z2, z3, z4⟩ := nd_cells hz3
          have f0 := frozen_of_row w3 _ 0 _ _ hr3
          have f1 := frozen_of_row w3 _ 1 _ _ hr3
          have f2 := frozen_of_row w3 _ 2 _ _ hr3
          have f3 := frozen_of_row w3 _ 3 _ _ hr3
          have f4 := frozen_of_row w3 _ 4 _ _ hr3
          have g0 := frozen_of_row w3 _ 0 _ _ hz3
          have g1 := frozen_of_row w3 _ 1 _ _ hz3
          have g2 := frozen_of_row w3 _ 2 _ _ hz3
          have g3 := frozen_of_row w3 _ 3 _ _ hz3
          have g4 := frozen_of_row w3 _ 4 _ _ hz3
          have HR3 := Lib.hid hr3
          have HZ3 := Lib.hid hz3
          clear hr3 hz3
          refine hK.out _ _ ?_
          clear hK K
          try simp only [Act.put, List.setIfInBounds_toArray, List.set_cons_zero, List.set_cons_succ]
          refine late_tail (i := 9) (v := ?_) rfl (by kernel_rfl) (by kernel_rfl) (by kernel_rfl) (fun _ _ _ h => h) (by rfl) ?_ ?_
          rotate_left
          · intro w
            go_simp
            try (with_reducible rfl)
          try simp only [Act.put, List.setIfInBounds_toArray, List.set_cons_zero, List.set_cons_succ]
          refine Go.wpAny_ready (rs := [10]) (by kernel_rfl) (by simp) ?_
          refine AllReady.cons (At.out rfl) (fun K hK => ?_) AllReady.nil
          go_simp
          refine hK _ _ ?_
          clear hK K
          try simp only [Act.put, List.setIfInBounds_toArray, List.set_cons_zero, List.set_cons_succ]
          refine wpAny_done (by kernel_rfl) ?_ _
          go_wp2_with (go_at_call 90; (with_reducible refine (hset _).out.mono ?_); rintro e w' ⟨rfl, rfl⟩)
          have hbx := chg_five w3 w.heap.size 1 0 2 3 4 (.slice A3 zs.length c3) (.int .u64 (W2 : Int)) (.int .i64 ((ks : Int) + 1)) (.int .u64 (min (le : Int) (k : Int))) (.int .u64 (max (gr : Int) (k : Int))) (fun j => j = w.heap.size) rfl
          have hz5 := (hbx.block (w.heap.size + 1) (by have := HB3.out.1; omega) (by omega)).trans HZ3.out
          have hr := row_z5 hz5 (.int .u64 (W2 : Int)) (.slice A3 zs.length c3) (.int .i64 ((ks : Int) + 1)) (.int .u64 (min (le : Int) (k : Int))) (.int .u64 (max (gr : Int) (k : Int)))
          have hx := (hbx.mono (O' := fun j => j = w.heap.size ∨ j = w.heap.size + 1) (fun j h => .inl h)).same (chg_five _ (w.heap.size + 1) 0 1 2 3 4 (.int .u64 (W2 : Int)) (.slice A3 zs.length c3) (.int .i64 ((ks : Int) + 1)) (.int .u64 (min (le : Int) (k : Int))) (.int .u64 (max (gr : Int) (k : Int))) (fun j => j = w.heap.size ∨ j = w.heap.size + 1) (.inr rfl))
          refine bodyPost_ret (results_cell_row rfl _ _ (w.heap.size + 1) _ _ _ _ rfl hr Tryd.underlying72 (by kernel_rfl) (by kernel_rfl)) rfl ?_
          exact nd_fin W2 (ks + 1) (min le k) (max gr k) (by show _ = Ending.returned (Value.agg #[_, _, _, .int .u64 ((min le k : Nat) : Int), .int .u64 ((max gr k : Nat) : Int)]); rw [e1, e2]; rfl) (by repeat (first | exact chg_refl _ _ | refine K.Chg.drewN ?_ _ | refine K.Chg.drewN (n := 1) ?_ | refine K.Chg.same ?_ (chg_alloc _ _ _))) HO3.out HC3.out HB3.out HA hx
      exact AllReadyM.nil
    exact AllReadyM.nil
  refine AllReadyM.cons (At.out rfl) (fun K hK => ?_) ?_
  ·
    go_simp
    refine hK.out _ _ (by first | assumption | ((try dsimp only); go_keep)) (fun hHeld => ?_)
    clear hK K
    try simp only [Act.put, List.setIfInBounds_toArray, List.set_cons_zero, List.set_cons_succ]
    refine wpAnyM_ready (rs := [3]) (by kernel_rfl) (by simp) ?_
    refine AllReadyM.cons (At.out rfl) (fun K hK => ?_) ?_
    ·
      go_simp
      refine hK.out _ _ (by first | assumption | ((try dsimp only); go_keep)) (fun hHeld => ?_)
      clear hK K
      try simp only [Act.put, List.setIfInBounds_toArray, List.set_cons_zero, List.set_cons_succ]
      refine wpAnyM_ready (rs := [5]) (by kernel_rfl) (by simp) ?_
      refine AllReadyM.cons (At.out rfl) (fun K hK => ?_) ?_
      ·
        go_simp
        (go_at_call 63; (with_reducible refine (hrk _).out.mono ?_); rintro e w' ⟨rfl, N, rfl⟩)
        refine hK.out _ _ (by first | assumption | ((try dsimp only); go_keep)) (fun hHeld => ?_)
        clear hK K
        try simp only [Act.put, List.setIfInBounds_toArray, List.set_cons_zero, List.set_cons_succ]
        refine wpAnyM_ready (rs := [8]) (by kernel_rfl) (by simp) ?_
        refine AllReadyM.consN (At.out rfl) (by rfl) (fun K hK => ?_) AllReadyM.nil
        ·
          go_simp
          (go_at_call 89; skip)
          (with_reducible refine (hins _ ?_).mono ?_)
          · first | (simp [wIns]; done) | (simp only [wIns, heap_alloc', heap_drewN']; done)
          rintro e w3 ⟨A3, c3, rfl, HO3, hr3, hz3, HC3, HB3⟩
          obtain ⟨y0, y1, y2, y3, y4⟩ := nd_cells hr3
          obtain ⟨z0, z1, z2, z3, z4⟩ := nd_cells hz3
          have f0 := frozen_of_row w3 _ 0 _ _ hr3
          have f1 := frozen_of_row w3 _ 1 _ _ hr3
          have f2 := frozen_of_row w3 _ 2 _ _ hr3
          have f3 := frozen_of_row w3 _ 3 _ _ hr3
          have f4 := frozen_of_row w3 _ 4 _ _ hr3
          have g0 := frozen_of_row w3 _ 0 _ _ hz3
          have g1 := frozen_of_row w3 _ 1 _ _ hz3
          have g2 := frozen_of_row w3 _ 2 _ _ hz3
          have g3 := frozen_of_row w3 _ 3 _ _ hz3
          have g4 := frozen_of_row w3 _ 4 _ _ hz3
          have HR3 := Lib.hid hr3
          have HZ3 := Lib.hid hz3
          clear hr3 hz3
          refine hK.out _ _ ?_
          clear hK K
          try simp only [Act.put, List.setIfInBounds_toArray, List.set_cons_zero, List.set_cons_succ]
          refine late_tail (i := 9) (v := ?_) rfl (by kernel_rfl) (by kernel_rfl) (by kernel_rfl) (fun _ _ _ h => h) (by rfl) ?_ ?_
          rotate_left
          · intro w
            go_simp
            try (with_reducible rfl)
          try simp only [Act.put, List.setIfInBounds_toArray, List.set_cons_zero, List.set_cons_succ]
          refine Go.wpAny_ready (rs := [10]) (by kernel_rfl) (by simp) ?_
          refine AllReady.cons (At.out rfl) (fun K hK => ?_) AllReady.nil
          go_simp
          refine hK _ _ ?_
          clear hK K
          try simp only [Act.put, List.setIfInBounds_toArray, List.set_cons_zero, List.set_cons_succ]
          refine wpAny_done (by kernel_rfl) ?_ _
          go_wp2_with (go_at_call 90; (with_reducible refine (hset _).out.mono ?_); rintro e w' ⟨rfl, rfl⟩)
          have hbx := chg_five w3 w.heap.size 1 0 2 3 4 (.slice A3 zs.length c3) (.int .u64 (W2 : Int)) (.int .i64 ((ks : Int) + 1)) (.int .u64 (min (le : Int) (k : Int))) (.int .u64 (max (gr : Int) (k : Int))) (fun j => j = w.heap.size) rfl
          have hz5 := (hbx.block (w.heap.size + 1) (by have := HB3.out.1; omega) (by omega)).trans HZ3.out
          have hr := row_z5 hz5 (.int .u64 (W2 : Int)) (.slice A3 zs.length c3) (.int .i64 ((ks : Int) + 1)) (.int .u64 (min (le : Int) (k : Int))) (.int .u64 (max (gr : Int) (k : Int)))
          have hx := (hbx.mono (O' := fun j => j = w.heap.size ∨ j = w.heap.size + 1) (fun j h => .inl h)).same (chg_five _ (w.heap.size + 1) 0 1 2 3 4 (.int .u64 (W2 : Int)) (.slice A3 zs.length c3) (.int .i64 ((ks : Int) + 1)) (.int .u64 (min (le : Int) (k : Int))) (.int .u64 (max (gr : Int) (k : Int))) (fun j => j = w.heap.size ∨ j = w.heap.size + 1) (.inr rfl))
          refine bodyPost_ret (results_cell_row rfl _ _ (w.heap.size + 1) _ _ _ _ rfl hr Tryd.underlying72 (by kernel_rfl) (by kernel_rfl)) rfl ?_
          exact nd_fin W2 (ks + 1) (min le k) (max gr k) (by show _ = Ending.returned (Value.agg #[_, _, _, .int .u64 ((min le k : Nat) : Int), .int .u64 ((max gr k : Nat) : Int)]); rw [e1, e2]; rfl) (by repeat (first | exact chg_refl _ _ | refine K.Chg.drewN ?_ _ | refine K.Chg.drewN (n := 1) ?_ | refine K.Chg.same ?_ (chg_alloc _ _ _))) HO3.out HC3.out HB3.out HA hx
      exact AllReadyM.nil
    exact AllReadyM.nil
  exact AllReadyM.nil
end Go.Proofs.YtbiingpdchoppaaDoor
end
section
namespace Go.Proofs.YtbiingpdchoppaaDoor
set_option maxRecDepth 40000
open Go.RowKit
theorem top_two (w : World) (o o' : Obj) : ((w.alloc o).alloc o').heap[w.heap.size + 1]? = some o' := by
  have := K.alloc_top (w.alloc o) o'
  rw [show (w.alloc o).heap.size = w.heap.size + 1 by simp] at this
  exact this
set_option maxHeartbeats 4000000 in
theorem nd_with_keep (w : World) (W : Nat) (A : Option Addr) (ch : List Nat) (c ks le gr k l pc : Nat) (hW : W < 18446744073709551616) (hk : k < 18446744073709551616) (hl : l ≤ 10) (hd : ¬ (l < 10 ∧ T.dig l k ∉ M.bl W)) (hown : w.ownsRow 0 3 1 (.slice A ch.length c) ch.length (iw ch)) (hks : ks < 1000000000) :
    Calls Tryd.prog 72 #[ndv W A ch.length c ks le gr, .int .u64 (k : Int), .int .i64 (l : Int), .int .i64 (pc : Int)] w (NdP w A (W ||| M.one (T.dig l k)) (ks + 1) (min le k) (max gr k) ch) := by
  have hdl := T.dig_lt l k
  have hdg := fun V => Lib.hid (t_digit V k l hk hl)
  have hset := fun V => Lib.hid (bit_set W hW ((T.dig l k : Nat) : Int) V)
  have q1 : IntKind.i64.wrap ((ks : Int) + 1) = (ks : Int) + 1 := IntWalk.i64_in _ (by omega)
  have e1 : ((min le k : Nat) : Int) = min (le : Int) (k : Int) := by omega
  have e2 : ((max gr k : Nat) : Int) = max (gr : Int) (k : Int) := by omega
  have HOWN := Lib.hid hown
  have hfin : ∀ (e : Ending) (X : World), e = .returned (ndv (W ||| M.one (T.dig l k)) A ch.length c (ks + 1) (min le k) (max gr k)) → Below w.heap.size w X → NdP w A (W ||| M.one (T.dig l k)) (ks + 1) (min le k) (max gr k) ch e X := fun e X he hb =>
    ⟨A, c, he, (K.Chg.of_below (O := fun _ => False) hb).own HOWN.out (fun _ _ h => h), K.Chg.of_below hb, fun j hj => .inl hj⟩
  have HF := Lib.hid hfin
  clear hown hfin
  by_cases h10 : l < 10
  · have hdm : T.dig l k ∈ M.bl W := Classical.not_not.1 (fun h => hd ⟨h10, h⟩)
    have hget := fun V => Lib.hid (bit_get W hW ((T.dig l k : Nat) : Int) V)
    rw [T.has_bl W _ hdl, decide_eq_true hdm] at hget
    have d1 : decide ((l : Int) < 10) = true := decide_eq_true (by omega)
    have d2 : decide (l < 10) = true := decide_eq_true h10
    clear hd hdm
    generalize W ||| M.one (T.dig l k) = W2 at *
    generalize T.dig l k = d at *
    go_enter Tryd.func72, Tryd.ntmps72
    go_wp2_with (first
      | (go_at_call 64; (with_reducible refine (hdg _).out.mono ?_); rintro e w' ⟨rfl, rfl⟩)
      | (go_at_call 68; (with_reducible refine (hget _).out.mono ?_); rintro e w' ⟨rfl, rfl⟩)
      | (go_at_call 90; (with_reducible refine (hset _).out.mono ?_); rintro e w' ⟨rfl, rfl⟩))
    refine bodyPost_ret (results_cell_row rfl _ _ (w.heap.size + 1) _ _ _ _ rfl (top_two w _ _) Tryd.underlying72 (by kernel_rfl) (by kernel_rfl)) rfl ?_
    exact HF.out _ _ (by show _ = Ending.returned (Value.agg #[_, _, _, .int .u64 ((min le k : Nat) : Int), .int .u64 ((max gr k : Nat) : Int)]); rw [e1, e2]; rfl) (((Below.refl _ w).alloc (Nat.le_refl _) _).alloc (by simp) _)
  · have h10' : l = 10 := by omega
    subst h10'
    clear hd
    generalize W ||| M.one (T.dig 10 k) = W2 at *
    generalize T.dig 10 k = d at *
    have hdg : ∀ V, Hid (Calls Tryd.prog 64 #[.int .u64 (k : Int), .int .i64 10] V fun e w' => e = .returned (.int .i64 (d : Int)) ∧ V = w') := hdg
    show Calls _ _ #[_, _, .int .i64 10, _] _ _
    go_enter Tryd.func72, Tryd.ntmps72
    go_wp2_with (first
      | (go_at_call 64; (with_reducible refine (hdg _).out.mono ?_); rintro e w' ⟨rfl, rfl⟩)
      | (go_at_call 90; (with_reducible refine (hset _).out.mono ?_); rintro e w' ⟨rfl, rfl⟩))
    refine bodyPost_ret (results_cell_row rfl _ _ (w.heap.size + 1) _ _ _ _ rfl (top_two w _ _) Tryd.underlying72 (by kernel_rfl) (by kernel_rfl)) rfl ?_
    exact HF.out _ _ (by show _ = Ending.returned (Value.agg #[_, _, _, .int .u64 ((min le k : Nat) : Int), .int .u64 ((max gr k : Nat) : Int)]); rw [e1, e2]; rfl) (((Below.refl _ w).alloc (Nat.le_refl _) _).alloc (by simp) _)
theorem nd_with (w : World) (W : Nat) (A : Option Addr) (ch : List Nat) (c ks le gr k l pc : Nat) (hW : W < 18446744073709551616) (hk : k < 18446744073709551616) (hl : l ≤ 10) (hown : w.ownsRow 0 3 1 (.slice A ch.length c) ch.length (iw ch)) (hr : l < 10 → T.dig l k ∉ M.bl W → K.fi (M.bl W) (T.dig l k) ≤ ch.length) (hcl : ch.length ≤ 64) (hks : ks < 1000000000) :
    Calls Tryd.prog 72 #[ndv W A ch.length c ks le gr, .int .u64 (k : Int), .int .i64 (l : Int), .int .i64 (pc : Int)] w (NdP w A (W ||| M.one (T.dig l k)) (ks + 1) (min le k) (max gr k) (if l < 10 ∧ T.dig l k ∉ M.bl W then ch.take (K.fi (M.bl W) (T.dig l k)) ++ pc :: ch.drop (K.fi (M.bl W) (T.dig l k)) else ch)) := by
  by_cases h : l < 10 ∧ T.dig l k ∉ M.bl W
  · rw [if_pos h]
    exact nd_with_ins w W A ch c ks le gr k l pc hW hk h.1 h.2 hown (hr h.1 h.2) hcl hks
  · rw [if_neg h]
    exact nd_with_keep w W A ch c ks le gr k l pc hW hk hl h hown hks
/-- A new node, of one key. -/
theorem nd_fresh (w : World) (k l pc : Nat) (hk : k < 18446744073709551616) (hl : l ≤ 10) :
    Calls Tryd.prog 72 #[.agg #[.int .u64 0, .slice none 0 0, .int .i64 0, .int .u64 (k : Int), .int .u64 (k : Int)], .int .u64 (k : Int), .int .i64 (l : Int), .int .i64 (pc : Int)] w (NdP w none (0 ||| M.one (T.dig l k)) (0 + 1) (min k k) (max k k) (if l < 10 then [pc] else [])) := by
  have h := nd_with w 0 none [] 0 0 k k k l pc (by decide) hk hl (World.ownsRow_nil _ _ _ _) (fun _ _ => by simp [K.fi, M.bl_zero]) (by simp) (by omega)
  have e : (if l < 10 ∧ T.dig l k ∉ M.bl 0 then ([] : List Nat).take (K.fi (M.bl 0) (T.dig l k)) ++ pc :: ([] : List Nat).drop (K.fi (M.bl 0) (T.dig l k)) else []) = if l < 10 then [pc] else [] := by
    rw [M.bl_zero]
    by_cases h : l < 10 <;> simp [h]
  rw [e] at h
  exact h
end Go.Proofs.YtbiingpdchoppaaDoor
end
section
namespace Go.Proofs.YtbiingpdchoppaaDoor
set_option maxRecDepth 40000
open Go.RowKit
set_option maxHeartbeats 1000000 in
theorem del_int (w : World) (A : Option Addr) (c : Nat) (ch : List Nat) (h : w.ownsRow 0 3 1 (.slice A ch.length c) ch.length (iw ch)) (i : Nat) (hi : i < ch.length) (hl : ch.length ≤ 64) (j : Int) (hj : j = (i : Int) + 1) :
    Calls Tryd.prog 92 #[.slice A ch.length c, .int .i64 (i : Int), .int .i64 j] w (InsP w A (ch.take i ++ ch.drop (i + 1))) := by
  have hzl : (ch.take i ++ ch.drop (i + 1)).length = ch.length - 1 := by simp; omega
  obtain ⟨i0, hi0, hz0, hz1, hz2⟩ := info_parts int_info
  have hj' : j = ((i + 1 : Nat) : Int) := by omega
  subst hj'
  unfold InsP
  rw [hzl]
  rcases h.2 with ⟨he, h0⟩ | ⟨b, cap, cur, he, _, hrow, hnc, hcm, hcs, hct⟩
  · omega
  · cases he
    have hce : ∀ q, q < ch.length → cur[q]? = (iw ch)[q]? := by
      intro q hq
      rw [← hct, List.getElem?_take, if_pos (by omega), Array.getElem?_toList]
    have hH : Sort.Holds (fun x : Nat => Value.int .i64 (x : Int)) w b 0 ch.toArray := by
      intro q hq
      have hq' : q < ch.length := by simpa using hq
      refine ⟨?_, frozen_of_row w b _ _ _ hrow⟩
      rw [Nat.zero_add, cell_of_row w b q _ _ (0, 0) hrow, hce q hq', iw_at, List.getElem?_eq_getElem hq']
      simp [hq']
    have hc := AnyE.slices_Delete Tryd.delH (fun x : Nat => Value.int .i64 (x : Int)) (fun _ => rfl) 0 Tryd.zeroValue3 i0 hi0 (by first | exact hz0 | exact hz1 | exact hz2) b 0 c i (i + 1) ch.toArray w hH (by simp; omega) (by unfold maxLen at hcm; omega) (by omega) (by simp; omega)
    have hc' : Calls Tryd.prog 92 #[.slice (some ⟨b, 0, none⟩) ch.toArray.size c, .int .i64 (i : Int), .int .i64 ((i + 1 : Nat) : Int)] w _ := hc
    rw [show ch.toArray.size = ch.length by simp] at hc'
    refine hc'.mono ?_
    rintro e w' ⟨rfl, q, rfl⟩
    have hys : (ch.take i ++ ch.drop (i + 1) ++ List.replicate (i + 1 - i) 0).length = ch.toArray.size := by simp; omega
    rw [show ch.toArray.toList = ch by simp, Lib.putRow_eq_setCells _ w b 0 ch.toArray _ q hH hys]
    obtain ⟨cur1, r1, s1, a1, b1, c1⟩ := row_setCells b 3 ((ch.take i ++ ch.drop (i + 1) ++ List.replicate (i + 1 - i) 0).map (fun x : Nat => Value.int .i64 (x : Int))) 0 (w.drewN q) cur (by rw [heap_drewN']; exact hrow) (by simp; omega)
    refine ⟨some ⟨b, 0, none⟩, c, by rw [show ch.length - (i + 1 - i) = ch.length - 1 by omega], own_of_row r1 (by omega) (by omega) hcm (by simpa using hzl) (fun p hp => ?_), ((chg_refl w _).drewN q).same (chg_setCells b (fun j => some b = some j) rfl _ _ _), fun j hj => .inl hj⟩
    have := b1 p (by simp; omega)
    rw [Nat.zero_add] at this
    rw [this, iw_at, List.getElem?_map, List.getElem?_append_left (by omega)]
theorem nd_fin2 {w V w3 X : World} {A A3 : Option Addr} {zs : List Nat} {c3 : Nat} {e : Ending} (W ks le gr : Nat) (he : e = .returned (ndv W A3 zs.length c3 ks le gr)) (hV : K.Chg w V (fun j => A.map (·.block) = some j)) (ho : w3.ownsRow 0 3 1 (.slice A3 zs.length c3) zs.length (iw zs))
    (hc : K.Chg V w3 (fun j => A.map (·.block) = some j)) (hb : w.heap.size + 2 ≤ w3.heap.size ∧ ∀ j, A3.map (·.block) = some j → A.map (·.block) = some j ∨ w.heap.size + 2 ≤ j) (hA : ∀ j, A.map (·.block) = some j → j < w.heap.size)
    (hx : K.Chg w3 X (fun j => j = w.heap.size ∨ j = w.heap.size + 1)) : NdP w A W ks le gr zs e X := by
  refine ⟨A3, c3, he, hx.own ho (fun b h1 h2 => ?_), (hV.same hc).trans hx (fun j h => .inr (by omega)), fun j h => ?_⟩
  · rcases hb.2 b (own_of_map h1) with h | h
    · have := hA b h; omega
    · omega
  · rcases hb.2 j h with h | h
    · exact .inl h
    · exact .inr (by omega)
theorem chg_box7 (w : World) (n : Nat) (u v a b c d e : Value) : K.Chg w (((((((w.setCell ⟨n, 1, none⟩ u).setCell ⟨n, 0, none⟩ v).setCell ⟨n + 1, 0, none⟩ a).setCell ⟨n + 1, 1, none⟩ b).setCell ⟨n + 1, 2, none⟩ c).setCell ⟨n + 1, 3, none⟩ d).setCell ⟨n + 1, 4, none⟩ e) (fun j => j = n ∨ j = n + 1) :=
  ((chg_set w n 1 u _ (.inl rfl)).same (chg_set _ n 0 v _ (.inl rfl))).same (chg_five _ (n + 1) 0 1 2 3 4 a b c d e _ (.inr rfl))
theorem chg_box6 (w : World) (n : Nat) (v a b c d e : Value) : K.Chg w ((((((w.setCell ⟨n, 0, none⟩ v).setCell ⟨n + 1, 0, none⟩ a).setCell ⟨n + 1, 1, none⟩ b).setCell ⟨n + 1, 2, none⟩ c).setCell ⟨n + 1, 3, none⟩ d).setCell ⟨n + 1, 4, none⟩ e) (fun j => j = n ∨ j = n + 1) :=
  (chg_set w n 0 v _ (.inl rfl)).same (chg_five _ (n + 1) 0 1 2 3 4 a b c d e _ (.inr rfl))
set_option maxHeartbeats 4000000 in
theorem nd_without_del (w : World) (W : Nat) (A : Option Addr) (ch : List Nat) (c ks le gr d : Nat) (hW : W < 18446744073709551616) (hown : w.ownsRow 0 3 1 (.slice A ch.length c) ch.length (iw ch)) (hr : K.fi (M.bl W) d < ch.length) (hcl : ch.length ≤ 64) :
    Calls Tryd.prog 75 #[ndv W A ch.length c ks le gr, .int .i64 (d : Int)] w (NdP w A (W &&& (18446744073709551615 - M.one (d : Int))) ks le gr (ch.take (K.fi (M.bl W) d) ++ ch.drop (K.fi (M.bl W) d + 1))) := by
  have hrk := fun V => Lib.hid (bit_rank W hW (d : Int) V)
  rw [T.rank_fi] at hrk
  have hcr := fun V => Lib.hid (bit_clear W hW (d : Int) V)
  have d1 : decide ((K.fi (M.bl W) d : Int) < (ch.length : Int)) = true := decide_eq_true (by omega)
  have d2 : decide (K.fi (M.bl W) d < ch.length) = true := decide_eq_true hr
  have q1 : IntKind.i64.wrap ((K.fi (M.bl W) d : Int) + 1) = (K.fi (M.bl W) d : Int) + 1 := IntWalk.i64_in _ (by omega)
  have HA : ∀ j, A.map (·.block) = some j → j < w.heap.size := fun j hj => (own_block_lt hown hj).1
  have hV0 : Below w.heap.size w ((w.alloc (ndo W A ch.length c ks le gr)).alloc ndzo) := ((Below.refl _ w).alloc (Nat.le_refl _) _).alloc (by simp) _
  have HV := Lib.hid hV0
  have hs2 : ((w.alloc (ndo W A ch.length c ks le gr)).alloc ndzo).heap.size = w.heap.size + 2 := by simp
  have HS2 := Lib.hid hs2
  have hdel := fun (V : World) (hb : Below w.heap.size w V) => Lib.hid (del_int V A c ch ((K.Chg.of_below (O := fun _ => False) hb).own hown (fun _ _ h => h)) (K.fi (M.bl W) d) hr hcl ((K.fi (M.bl W) d : Int) + 1) rfl)
  have HR0 : Hid (((w.alloc (ndo W A ch.length c ks le gr)).alloc ndzo).heap[w.heap.size]? = some (ndo W A ch.length c ks le gr)) := Lib.hid ((Below.heap_alloc _ _ _ (by simp)).trans (K.alloc_top _ _))
  have HR1 : Hid (((w.alloc (ndo W A ch.length c ks le gr)).alloc ndzo).heap[w.heap.size + 1]? = some ndzo) := Lib.hid (top_two w _ _)
  have HAH := Lib.hid HA
  clear hr hown hV0 hs2 HA
  obtain ⟨zs, hzs⟩ : ∃ zs, ch.take (K.fi (M.bl W) d) ++ ch.drop (K.fi (M.bl W) d + 1) = zs := ⟨_, rfl⟩
  rw [hzs] at hdel ⊢
  clear hzs
  generalize W &&& (18446744073709551615 - M.one (d : Int)) = W2 at *
  generalize K.fi (M.bl W) d = r at *
  generalize ch.length = n at *
  go_enter Tryd.func75, Tryd.ntmps75
  go_wp2_with (first
    | (go_at_call 63; (with_reducible refine (hrk _).out.mono ?_); rintro e V ⟨rfl, N, hV⟩
       have yv : V.heap[w.heap.size]? = some (ndo W A n c ks le gr) := (by rw [hV, heap_drewN']; exact HR0.out)
       have zv : V.heap[w.heap.size + 1]? = some ndzo := (by rw [hV, heap_drewN']; exact HR1.out)
       have HBV : Hid (Below w.heap.size w V) := Lib.hid (by rw [hV]; exact below_drewN HV.out N)
       have hsV : Hid (V.heap.size = w.heap.size + 2) := Lib.hid (by rw [hV, heap_drewN']; exact HS2.out)
       clear hV
       obtain ⟨p0, p1, p2, p3, p4⟩ := nd_cells yv
       obtain ⟨p5, p6, p7, p8, p9⟩ := nd_cells zv
       have e0 := frozen_of_row V _ 0 _ _ yv
       have e1 := frozen_of_row V _ 1 _ _ yv
       have e2 := frozen_of_row V _ 2 _ _ yv
       have e3 := frozen_of_row V _ 3 _ _ yv
       have e4 := frozen_of_row V _ 4 _ _ yv
       have f0 := frozen_of_row V _ 0 _ _ zv
       have f1 := frozen_of_row V _ 1 _ _ zv
       have f2 := frozen_of_row V _ 2 _ _ zv
       have f3 := frozen_of_row V _ 3 _ _ zv
       have f4 := frozen_of_row V _ 4 _ _ zv
       have YV := Lib.hid yv
       have ZV := Lib.hid zv
       clear yv zv)
    | (go_at_call 92; (with_reducible refine (hdel V HBV.out).out.mono ?_); rintro e w3 ⟨A3, c3, rfl, ho, hc, hb⟩
       have HO := Lib.hid ho
       have HC := Lib.hid hc
       have HB := Lib.hid hb
       have y := (hc.block w.heap.size (by (rw [hsV.out]; omega)) (fun e => by have := HAH.out _ e; omega)).trans YV.out
       have z := (hc.block (w.heap.size + 1) (by (rw [hsV.out]; omega)) (fun e => by have := HAH.out _ e; omega)).trans ZV.out
       obtain ⟨y0, y1, y2, y3, y4⟩ := nd_cells y
       obtain ⟨y5, y6, y7, y8, y9⟩ := nd_cells z
       have e0 := frozen_of_row w3 _ 0 _ _ y
       have e1 := frozen_of_row w3 _ 1 _ _ y
       have e2 := frozen_of_row w3 _ 2 _ _ y
       have e3 := frozen_of_row w3 _ 3 _ _ y
       have e4 := frozen_of_row w3 _ 4 _ _ y
       have f0 := frozen_of_row w3 _ 0 _ _ z
       have f1 := frozen_of_row w3 _ 1 _ _ z
       have f2 := frozen_of_row w3 _ 2 _ _ z
       have f3 := frozen_of_row w3 _ 3 _ _ z
       have f4 := frozen_of_row w3 _ 4 _ _ z
       have ZZ := Lib.hid z
       clear ho hc hb y z)
    | (go_at_call 93; (with_reducible refine (hcr _).out.mono ?_); rintro e w' ⟨rfl, rfl⟩))
  have hz : ((w3.setCell ⟨w.heap.size, 1, none⟩ (.slice A3 zs.length c3)).setCell ⟨w.heap.size, 0, none⟩ (.int .u64 (W2 : Int))).heap[w.heap.size + 1]? = some ndzo :=
    ((((chg_set w3 w.heap.size 1 _ (· = w.heap.size) rfl).same (chg_set _ w.heap.size 0 _ (· = w.heap.size) rfl)).block _ (row_lt ZZ.out) (by omega)).trans ZZ.out)
  refine bodyPost_ret (results_cell_row rfl _ _ (w.heap.size + 1) _ _ _ _ rfl (row_z5 hz _ _ _ _ _) Tryd.underlying72 (by kernel_rfl) (by kernel_rfl)) rfl ?_
  exact nd_fin2 W2 ks le gr rfl (K.Chg.of_below HBV.out) HO.out HC.out ⟨by have := HC.out.size; rw [hsV.out] at this; exact this, fun j hj => by have := HB.out j hj; rwa [hsV.out] at this⟩ HAH.out (chg_box7 w3 w.heap.size _ _ _ _ _ _ _)
set_option maxHeartbeats 4000000 in
theorem nd_without_keep (w : World) (W : Nat) (A : Option Addr) (ch : List Nat) (c ks le gr d : Nat) (hW : W < 18446744073709551616) (hown : w.ownsRow 0 3 1 (.slice A ch.length c) ch.length (iw ch)) (hr : ¬ K.fi (M.bl W) d < ch.length) :
    Calls Tryd.prog 75 #[ndv W A ch.length c ks le gr, .int .i64 (d : Int)] w (NdP w A (W &&& (18446744073709551615 - M.one (d : Int))) ks le gr ch) := by
  have hrk := fun V => Lib.hid (bit_rank W hW (d : Int) V)
  rw [T.rank_fi] at hrk
  have hcr := fun V => Lib.hid (bit_clear W hW (d : Int) V)
  have d1 : decide ((K.fi (M.bl W) d : Int) < (ch.length : Int)) = false := decide_eq_false (by omega)
  have d2 : decide (K.fi (M.bl W) d < ch.length) = false := decide_eq_false hr
  have HV : Hid (Below w.heap.size w ((w.alloc (ndo W A ch.length c ks le gr)).alloc ndzo)) := Lib.hid (((Below.refl _ w).alloc (Nat.le_refl _) _).alloc (by simp) _)
  have HS2 : Hid (((w.alloc (ndo W A ch.length c ks le gr)).alloc ndzo).heap.size = w.heap.size + 2) := Lib.hid (by simp)
  have HR0 : Hid (((w.alloc (ndo W A ch.length c ks le gr)).alloc ndzo).heap[w.heap.size]? = some (ndo W A ch.length c ks le gr)) := Lib.hid ((Below.heap_alloc _ _ _ (by simp)).trans (K.alloc_top _ _))
  have HR1 : Hid (((w.alloc (ndo W A ch.length c ks le gr)).alloc ndzo).heap[w.heap.size + 1]? = some ndzo) := Lib.hid (top_two w _ _)
  have HOWN := Lib.hid hown
  have HA : Hid (∀ j, A.map (·.block) = some j → j < w.heap.size) := Lib.hid (fun j hj => (own_block_lt hown hj).1)
  clear hr hown
  generalize W &&& (18446744073709551615 - M.one (d : Int)) = W2 at *
  generalize K.fi (M.bl W) d = r at *
  obtain ⟨n, hn⟩ : ∃ n, ch.length = n := ⟨_, rfl⟩
  have HN := Lib.hid hn
  rw [hn] at d1 d2 HV HS2 HR0 HR1 ⊢
  clear hn
  go_enter Tryd.func75, Tryd.ntmps75
  go_wp2_with (first
    | (go_at_call 63; (with_reducible refine (hrk _).out.mono ?_); rintro e V ⟨rfl, N, hV⟩
       have yv : V.heap[w.heap.size]? = some (ndo W A n c ks le gr) := (by rw [hV, heap_drewN']; exact HR0.out)
       have zv : V.heap[w.heap.size + 1]? = some ndzo := (by rw [hV, heap_drewN']; exact HR1.out)
       have HBV : Hid (Below w.heap.size w V) := Lib.hid (by rw [hV]; exact below_drewN HV.out N)
       have hsV : Hid (V.heap.size = w.heap.size + 2) := Lib.hid (by rw [hV, heap_drewN']; exact HS2.out)
       clear hV
       obtain ⟨p0, p1, p2, p3, p4⟩ := nd_cells yv
       obtain ⟨p5, p6, p7, p8, p9⟩ := nd_cells zv
       have e0 := frozen_of_row V _ 0 _ _ yv
       have e1 := frozen_of_row V _ 1 _ _ yv
       have e2 := frozen_of_row V _ 2 _ _ yv
       have e3 := frozen_of_row V _ 3 _ _ yv
       have e4 := frozen_of_row V _ 4 _ _ yv
       have f0 := frozen_of_row V _ 0 _ _ zv
       have f1 := frozen_of_row V _ 1 _ _ zv
       have f2 := frozen_of_row V _ 2 _ _ zv
       have f3 := frozen_of_row V _ 3 _ _ zv
       have f4 := frozen_of_row V _ 4 _ _ zv
       have YV := Lib.hid yv
       have ZV := Lib.hid zv
       clear yv zv)
    | (go_at_call 93; (with_reducible refine (hcr _).out.mono ?_); rintro e w' ⟨rfl, rfl⟩))
  have hz : (V.setCell ⟨w.heap.size, 0, none⟩ (.int .u64 (W2 : Int))).heap[w.heap.size + 1]? = some ndzo :=
    (((chg_set V w.heap.size 0 _ (· = w.heap.size) rfl).block _ (row_lt ZV.out) (by omega)).trans ZV.out)
  refine bodyPost_ret (results_cell_row rfl _ _ (w.heap.size + 1) _ _ _ _ rfl (row_z5 hz _ _ _ _ _) Tryd.underlying72 (by kernel_rfl) (by kernel_rfl)) rfl ?_
  rw [← HN.out]
  have ho := (K.Chg.of_below (O := fun _ => False) HBV.out).own HOWN.out (fun _ _ h => h)
  exact nd_fin2 W2 ks le gr rfl (K.Chg.of_below HBV.out) ho (chg_refl V _) ⟨by rw [hsV.out]; exact Nat.le_refl _, fun j hj => .inl hj⟩ HA.out (chg_box6 V w.heap.size _ _ _ _ _ _)
/-- A node with a digit less. -/
theorem nd_without (w : World) (W : Nat) (A : Option Addr) (ch : List Nat) (c ks le gr d : Nat) (hW : W < 18446744073709551616) (hown : w.ownsRow 0 3 1 (.slice A ch.length c) ch.length (iw ch)) (hcl : ch.length ≤ 64) :
    Calls Tryd.prog 75 #[ndv W A ch.length c ks le gr, .int .i64 (d : Int)] w (NdP w A (W &&& (18446744073709551615 - M.one (d : Int))) ks le gr (if K.fi (M.bl W) d < ch.length then ch.take (K.fi (M.bl W) d) ++ ch.drop (K.fi (M.bl W) d + 1) else ch)) := by
  split
  · rename_i h
    exact nd_without_del w W A ch c ks le gr d hW hown h hcl
  · rename_i h
    exact nd_without_keep w W A ch c ks le gr d hW hown h
end Go.Proofs.YtbiingpdchoppaaDoor
end
