
/- A region that draws its order, and whose last operations write what the others read: the loads are taken first, as long as the writers wait for them. -/
import Derived.Deep.RegionHeld3
namespace Go.Proofs.YtndielncleohlaaDoor
section
variable {P : Program} {ops : Array Oper} {Q : Exit → Act → World → Prop} {md : Region.Mode} {S : World → Prop} {N : List Nat}
/-- One of N has come up. -/
def anyOf (N : List Nat) (listed : Array Bool) : Bool := N.any fun j => listed.getD j false
theorem anyOf_set {i : Nat} {listed : Array Bool} (h : N.contains i = false) : anyOf N (listed.setIfInBounds i true) = anyOf N listed := by
  unfold anyOf
  rw [Bool.eq_iff_iff, List.any_eq_true, List.any_eq_true]
  refine exists_congr fun k => and_congr_right fun hk => ?_
  have hne : i ≠ k := fun e => by
    subst e
    rw [List.contains_iff_mem.2 hk] at h; cases h
  rw [getD_set_ne false hne]
theorem anyOf_in {i : Nat} {listed : Array Bool} (h : N.contains i = true) (hi : i < listed.size) : anyOf N (listed.setIfInBounds i true) = true := by
  unfold anyOf
  rw [List.any_eq_true]
  exact ⟨i, List.contains_iff_mem.1 h, by simp [hi]⟩
/-- Whatever order is picked from here on; S holds behind every operation that is carried out, till one of N comes up. -/
def wpAnyM (P : Program) (md : Region.Mode) (ops : Array Oper) (Q : Exit → Act → World → Prop) (S : World → Prop) (N : List Nat) : Nat → Array Bool → Act → World → Prop
  | 0, listed, a, w => Region.ready md ops listed = [] ∧ Q .normal a w
  | fuel + 1, listed, a, w =>
    (Region.ready md ops listed = [] → Q .normal a w) ∧
    ∀ i ∈ Region.ready md ops listed, wpOp P ops Q i (fun a' w' => (anyOf N (listed.setIfInBounds i true) = true ∨ S w') ∧ wpAnyM P md ops Q S N fuel (listed.setIfInBounds i true) a' w') a w
theorem wpAny_of_late : ∀ (fuel : Nat) (listed : Array Bool) (a : Act) (w : World), wpAnyM P md ops Q S N fuel listed a w → wpAny P md ops Q fuel listed a w
  | 0, _, _, _, h => h
  | fuel + 1, _, _, _, h => ⟨h.1, fun i hi => wpOp_mono (fun a' w' h' => wpAny_of_late fuel _ a' w' h'.2) (h.2 i hi)⟩
theorem ready_lt {i : Nat} {listed : Array Bool} (h : i ∈ Region.ready md ops listed) : i < listed.size := by
  have h0 := (mem_ready.1 h).1
  rcases Nat.lt_or_ge i listed.size with h' | h'
  · exact h'
  · simp [Array.getElem?_eq_none h'] at h0
/-- What is ready waits for nobody who is not listed. -/
theorem ready_nowait {i j : Nat} {oj : Oper} {listed : Array Bool} (hi : i ∈ Region.ready md ops listed) (hj : j ∈ Region.ready md ops listed) (hoj : ops[j]? = some oj) :
    ∀ e ∈ oj.after, Region.binds md e = true → e.on ≠ i := fun e he hb heq => by
  obtain ⟨_, oj', hoj', hall⟩ := mem_ready.1 hj
  rw [hoj] at hoj'
  obtain rfl : oj = oj' := Option.some.inj hoj'
  have h1 := hall e he hb
  have h0 := (mem_ready.1 hi).1
  rw [heq] at h1
  have hlt := ready_lt hi
  simp [hlt] at h0 h1
  rw [h0] at h1; cases h1
/-- Every operation of N waits for i. -/
def lateWait (md : Region.Mode) (ops : Array Oper) (N : List Nat) (i : Nat) : Bool :=
  N.all fun j => match ops[j]? with
    | some oj => oj.after.any (fun e => Region.binds md e && e.on == i)
    | none => true
theorem lateWait_spec {i j : Nat} {listed : Array Bool} (h : lateWait md ops N i = true) (hi : i ∈ Region.ready md ops listed) (hj : j ∈ Region.ready md ops listed) : N.contains j = false := by
  rw [Bool.eq_false_iff]
  intro hc
  have h1 := List.all_eq_true.1 h j (List.contains_iff_mem.1 hc)
  obtain ⟨_, oj, hoj, hall⟩ := mem_ready.1 hj
  rw [hoj] at h1
  obtain ⟨e, he, hb⟩ := Array.any_eq_true'.1 h1
  rw [Bool.and_eq_true, beq_iff_eq] at hb
  exact ready_nowait hi hj hoj e he hb.1 hb.2
theorem wpAnyM_first {S0 : World → Prop} {J : Array Bool → World → Prop} {i : Nat} {oi : Oper} {v : Value} (hi : ops[i]? = some oi) (hsel : ∀ (j : Nat) (o : Oper) cs b, ops[j]? = some o → o.op ≠ .select cs b)
    (hQ : ∀ c a w, Q (.panic c) (a.put oi.dst v) w → Q (.panic c) a w) (hNi : N.contains i = false)
    (hJ0 : ∀ listed w, J listed w → S0 w) (hJ1 : ∀ listed w, J listed w → (anyOf N listed = true ∨ S w))
    (hJ2 : ∀ listed j w w', i ∈ Region.ready md ops listed → j ∈ Region.ready md ops listed → J listed w → (anyOf N (listed.setIfInBounds j true) = true ∨ S w') → J (listed.setIfInBounds j true) w') :
    ∀ (fuel : Nat) (listed : Array Bool) (a : Act) (w : World),
      (∀ j oj, ops[j]? = some oj → j ≠ i → listed.getD j true = false → (∀ e ∈ oj.after, Region.binds md e = true → e.on ≠ i) → oi.apart ops oj = true) →
      i ∈ Region.ready md ops listed → YieldsIf P ops S0 oi v a → J listed w →
      wpAnyM P md ops Q S N fuel (listed.setIfInBounds i true) (a.put oi.dst v) w → wpAnyM P md ops Q S N (fuel + 1) listed a w := by
  intro fuel
  induction fuel with
  | zero =>
    intro listed a w _ hr hy hS H
    refine ⟨fun h => (by rw [h] at hr; cases hr), fun j hj => ?_⟩
    by_cases hji : j = i
    · subst hji; exact hy.wpOp hi (hJ0 _ _ hS) ⟨by rw [anyOf_set hNi]; exact hJ1 _ _ hS, H⟩
    · have := ready_mono hj hji
      rw [H.1] at this
      cases this
  | succ fuel ih =>
    intro listed a w hfree hr hy hS H
    refine ⟨fun h => (by rw [h] at hr; cases hr), fun j hj => ?_⟩
    by_cases hji : j = i
    · subst hji; exact hy.wpOp hi (hJ0 _ _ hS) ⟨by rw [anyOf_set hNi]; exact hJ1 _ _ hS, H⟩
    · have h1 := H.2 j (ready_mono hj hji)
      obtain ⟨hjun, oj, hoj, hall⟩ := mem_ready.1 hj
      have hnot := ready_nowait hr hj hoj
      have h2 := wpOp_putIf hoj (hfree j oj hoj hji hjun hnot) (fun cs b => hsel i oi cs b hi) (fun cs b => hsel j oj cs b hoj) hQ hy h1
      have hfree' : ∀ k ok, ops[k]? = some ok → k ≠ i → (listed.setIfInBounds j true).getD k true = false →
          (∀ e ∈ ok.after, Region.binds md e = true → e.on ≠ i) → oi.apart ops ok = true := fun k ok hk hki hun hno => by
        refine hfree k ok hk hki ?_ hno
        by_cases hjk : j = k
        · subst hjk; exact hjun
        · rw [getD_set_ne true hjk] at hun; exact hun
      refine wpOp_mono (fun a' w' h3 => ?_) h2
      have h4 : anyOf N (listed.setIfInBounds j true) = true ∨ S w' := by
        have := h3.2.1
        rw [Array.setIfInBounds_comm _ _ (Ne.symm hji), anyOf_set hNi] at this
        exact this
      have hJ' := hJ2 listed j w w' hr hj hS h4
      refine ⟨h4, ih (listed.setIfInBounds j true) a' w' hfree' (ready_mono hr (Ne.symm hji)) h3.1 hJ' ?_⟩
      rw [Array.setIfInBounds_comm _ _ hji]
      exact h3.2.2
/-- A load is taken first: the operations of N wait for it, and none has come up. -/
theorem wpAnyM_take {i : Nat} {oi : Oper} {v : Value} {fuel : Nat} {listed : Array Bool} {a : Act} {w : World} (hi : ops[i]? = some oi)
    (hs : Region.noSelect ops = true) (hf : Region.free md ops listed i = true) (hr : (Region.ready md ops listed).contains i = true) (hl : lateWait md ops N i = true) (hn : anyOf N listed = false) (hNi : N.contains i = false)
    (hQ : ∀ c a w, Q (.panic c) (a.put oi.dst v) w → Q (.panic c) a w) (hS : S w) (hy : YieldsIf P ops S oi v a)
    (h : wpAnyM P md ops Q S N fuel (listed.setIfInBounds i true) (a.put oi.dst v) w) : wpAnyM P md ops Q S N (fuel + 1) listed a w :=
  wpAnyM_first (S0 := S) (J := fun l w => anyOf N l = false ∧ S w) hi (Region.noSelect_spec hs) hQ hNi (fun _ _ h => h.2) (fun _ _ h => .inr h.2)
    (fun l j w w' hir hjr hJ hj => by
      have hc := lateWait_spec hl hir hjr
      have h0 : anyOf N (l.setIfInBounds j true) = false := by rw [anyOf_set hc]; exact hJ.1
      refine ⟨h0, hj.resolve_left (by rw [h0]; simp)⟩) fuel listed a w (Region.free_spec hi hf) (by simpa using hr) hy ⟨hn, hS⟩ h
/-- What yields in every world is taken first, whoever waits for it. -/
theorem wpAnyM_pure {i : Nat} {oi : Oper} {v : Value} {fuel : Nat} {listed : Array Bool} {a : Act} {w : World} (hi : ops[i]? = some oi)
    (hs : Region.noSelect ops = true) (hf : Region.free md ops listed i = true) (hr : (Region.ready md ops listed).contains i = true) (hNi : N.contains i = false)
    (hQ : ∀ c a w, Q (.panic c) (a.put oi.dst v) w → Q (.panic c) a w) (hS : S w) (hy : Yields P ops oi v a)
    (h : wpAnyM P md ops Q S N fuel (listed.setIfInBounds i true) (a.put oi.dst v) w) : wpAnyM P md ops Q S N (fuel + 1) listed a w :=
  wpAnyM_first (S0 := fun _ => True) (J := fun l w => anyOf N l = true ∨ S w) hi (Region.noSelect_spec hs) hQ hNi (fun _ _ _ => trivial) (fun _ _ h => h)
    (fun l j w w' _ _ _ hj => hj) fuel listed a w (Region.free_spec hi hf) (by simpa using hr) hy.yieldsIf (.inr hS) h
/-- Once only operations of N are left, S is asked no more. -/
theorem wpAnyM_any : ∀ (fuel : Nat) (listed : Array Bool) (a : Act) (w : World), (∀ j ∈ Region.ready md ops listed, N.contains j = true) → ((List.range ops.size).all (fun j => listed.getD j true || N.contains j) = true) →
    wpAny P md ops Q fuel listed a w → wpAnyM P md ops Q S N fuel listed a w
  | 0, _, _, _, _, _, h => h
  | fuel + 1, listed, a, w, hr, hN, h => by
    refine ⟨h.1, fun i hi => wpOp_mono (fun a' w' h' => ⟨.inl (anyOf_in (hr i hi) (ready_lt hi)), wpAnyM_any fuel _ a' w' (fun j hj => ?_) ?_ h'⟩) (h.2 i hi)⟩
    · obtain ⟨hjun, oj, hoj, _⟩ := mem_ready.1 hj
      have h1 := List.all_eq_true.1 hN j (List.mem_range.2 (Array.getElem?_eq_some_iff.1 hoj).1)
      have hne : i ≠ j := fun e => by
        subst e
        have hlt := ready_lt hi
        simp [hlt] at hjun
      rw [getD_set_ne true hne] at hjun
      rw [hjun] at h1
      simpa using h1
    · rw [List.all_eq_true] at hN ⊢
      intro k hk
      have h1 := hN k hk
      by_cases hik : i = k
      · subst hik
        simp only [Bool.or_eq_true]
        exact .inr (hr i hi)
      · rw [getD_set_ne true hik]; exact h1
theorem wpAnyM_drop {fuel : Nat} {listed : Array Bool} {a : Act} {w : World} (hN : (List.range ops.size).all (fun j => listed.getD j true || N.contains j) = true) (h : wpAny P md ops Q fuel listed a w) : wpAnyM P md ops Q S N fuel listed a w :=
  wpAnyM_any fuel listed a w (fun j hj => by
    obtain ⟨hjun, oj, hoj, _⟩ := mem_ready.1 hj
    have h1 := List.all_eq_true.1 hN j (List.mem_range.2 (Array.getElem?_eq_some_iff.1 hoj).1)
    rw [hjun] at h1
    simpa using h1) hN h
/-- Each of the operations 'rs' comes up next. -/
def AllReadyM (P : Program) (md : Region.Mode) (ops : Array Oper) (Q : Exit → Act → World → Prop) (S : World → Prop) (N : List Nat) (fuel : Nat) (listed : Array Bool) (a : Act) (w : World) (rs : List Nat) : Prop :=
  ∀ i ∈ rs, wpOp P ops Q i (fun a' w' => (anyOf N (listed.setIfInBounds i true) = true ∨ S w') ∧ wpAnyM P md ops Q S N fuel (listed.setIfInBounds i true) a' w') a w
theorem AllReadyM.nil {fuel : Nat} {listed : Array Bool} {a : Act} {w : World} : AllReadyM P md ops Q S N fuel listed a w [] := fun _ h => by cases h
theorem AllReadyM.cons {fuel : Nat} {listed : Array Bool} {a : Act} {w : World} {i : Nat} {o : Oper} {rs : List Nat} (ho : ops[i]? = some o)
    (h : ∀ K' : Act → World → Prop, Shut (∀ a w, S w → (S w → wpAnyM P md ops Q S N fuel (listed.setIfInBounds i true) a w) → K' a w) → if Region.wanted o (yielded ops a.tmps) = true then Oper.wp P o a w K' Q else K' (a.put o.dst undef) w)
    (hs : AllReadyM P md ops Q S N fuel listed a w rs) : AllReadyM P md ops Q S N fuel listed a w (i :: rs) := fun j hj => by
  rcases List.mem_cons.1 hj with rfl | hj
  · exact wpOp_step ho (fun K' hK => h K' (fun a w hS hW => hK a w ⟨.inr hS, hW hS⟩))
  · exact hs j hj
theorem wpAnyM_ready {rs : List Nat} {fuel : Nat} {listed : Array Bool} {a : Act} {w : World} (hr : Region.ready md ops listed = rs) (hne : rs ≠ [])
    (h : AllReadyM P md ops Q S N fuel listed a w rs) : wpAnyM P md ops Q S N (fuel + 1) listed a w :=
  ⟨fun h0 => absurd (hr ▸ h0) hne, hr ▸ h⟩
/-- The operation as it is written. -/
def At (ops : Array Oper) (i : Nat) (o : Oper) : Prop := (ops.toList.drop i).head? = some o
theorem At.out {i : Nat} {o : Oper} (h : At ops i o) : ops[i]? = some o := by
  unfold At at h
  rw [List.head?_drop, Array.getElem?_toList] at h
  exact h
theorem late_take {i : Nat} {oi : Oper} {v : Value} {fuel : Nat} {listed : Array Bool} {a : Act} {w : World} (hi : At ops i oi)
    (hs : Region.noSelect ops = true) (hf : Region.free md ops listed i = true) (hr : (Region.ready md ops listed).contains i = true) (hl : lateWait md ops N i = true) (hn : anyOf N listed = false) (hNi : N.contains i = false)
    (hQ : ∀ c a w, Q (.panic c) (a.put oi.dst v) w → Q (.panic c) a w) (hS : S w) (hwa : Region.wanted oi (yielded ops a.tmps) = true) (hy : ∀ w, S w → (execOp a.eval oi).run P w = .ok (.value v) w)
    (h : wpAnyM P md ops Q S N fuel (listed.setIfInBounds i true) (a.put oi.dst v) w) : wpAnyM P md ops Q S N (fuel + 1) listed a w :=
  wpAnyM_take hi.out hs hf hr hl hn hNi hQ hS (.inl ⟨hwa, hy⟩) h
theorem late_pure {i : Nat} {oi : Oper} {v : Value} {fuel : Nat} {listed : Array Bool} {a : Act} {w : World} (hi : At ops i oi)
    (hs : Region.noSelect ops = true) (hf : Region.free md ops listed i = true) (hr : (Region.ready md ops listed).contains i = true) (hNi : N.contains i = false)
    (hQ : ∀ c a w, Q (.panic c) (a.put oi.dst v) w → Q (.panic c) a w) (hS : S w) (hwa : Region.wanted oi (yielded ops a.tmps) = true) (hy : ∀ w, (execOp a.eval oi).run P w = .ok (.value v) w)
    (h : wpAnyM P md ops Q S N fuel (listed.setIfInBounds i true) (a.put oi.dst v) w) : wpAnyM P md ops Q S N (fuel + 1) listed a w :=
  wpAnyM_pure hi.out hs hf hr hNi hQ hS (.inl ⟨hwa, hy⟩) h
theorem late_tail {i : Nat} {oi : Oper} {v : Value} {fuel : Nat} {listed : Array Bool} {a : Act} {w : World} (hi : At ops i oi)
    (hs : Region.noSelect ops = true) (hf : Region.free md ops listed i = true) (hr : (Region.ready md ops listed).contains i = true)
    (hQ : ∀ c a w, Q (.panic c) (a.put oi.dst v) w → Q (.panic c) a w) (hwa : Region.wanted oi (yielded ops a.tmps) = true) (hy : ∀ w, (execOp a.eval oi).run P w = .ok (.value v) w)
    (h : wpAny P md ops Q fuel (listed.setIfInBounds i true) (a.put oi.dst v) w) : wpAny P md ops Q (fuel + 1) listed a w :=
  wpAny_take hi.out hs hf hr hQ (.inl ⟨hwa, hy⟩) h
theorem wp_region_late {id : Nat} {a : Act} {w : World} (hm : P.follows .mixedOrders = true) (hS : S w.drew)
    (h : S w.drew → wpAnyM P .any ops Q S N ops.size (Array.replicate ops.size false) a w.drew) : (Code.region id ops true).wp P Q a w :=
  wp_region_any hm (wpAny_of_late _ _ _ _ (h hS))
end
end Go.Proofs.YtndielncleohlaaDoor
