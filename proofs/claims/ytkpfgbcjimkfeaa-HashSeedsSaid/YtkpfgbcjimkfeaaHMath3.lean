
/- The document's list stays rising; which keys are in it. -/
import Derived.Test.YtkpfgbcjimkfeaaHDo2
import Derived.Test.YtkpfgbcjimkfeaaHRise
namespace Go.Proofs.Ytkpfgbcjimkfeaa
open Go.RowKit
theorem kltb_iff (a b : H.Key) : kltb a b = true ↔ klt a b := by
  unfold kltb klt
  simp
theorem klt_irr (a : H.Key) : ¬ klt a a := by unfold klt; omega
theorem klt_trans {a b c : H.Key} (h : klt a b) (h' : klt b c) : klt a c := by unfold klt at *; omega
theorem klt_tri {a b : H.Key} (h : ¬ klt a b) (hne : a ≠ b) : klt b a := by
  unfold klt at *
  have : ¬ (a.1 = b.1 ∧ a.2 = b.2) := fun e => hne (Prod.ext e.1 e.2)
  omega
theorem fo_at {es : List (H.Key × Nat)} {k : H.Key} (h : fo es k = true) : ∃ h' : fi es k < es.length, es[fi es k].1 = k := by
  have h' := fo_lt h
  refine ⟨h', ?_⟩
  unfold fo at h
  simpa [h'] using h
theorem fo_ne {es : List (H.Key × Nat)} {k : H.Key} (h : fo es k = false) (h' : fi es k < es.length) : es[fi es k].1 ≠ k := by
  unfold fo at h
  simpa [h'] using h
theorem ris_at {es : List (H.Key × Nat)} (hr : Ris es) {i j : Nat} (hi : i < j) (hj : j < es.length) : klt es[i].1 es[j].1 := (List.pairwise_iff_getElem.1 hr) i j (by omega) hj hi
theorem low_lt {es : List (H.Key × Nat)} {k : H.Key} : ∀ x ∈ es.take (fi es k), klt x.1 k := by
  intro x hx
  obtain ⟨i, hi, rfl⟩ := List.getElem_of_mem hx
  rw [List.length_take] at hi
  obtain ⟨h1, h2⟩ := fi_lt (es := es) (k := k) (j := i) (by omega)
  rw [List.getElem_take]
  exact (kltb_iff _ _).1 h2
theorem high_gt {es : List (H.Key × Nat)} {k : H.Key} (hr : Ris es) : ∀ x ∈ es.drop (if fo es k then fi es k + 1 else fi es k), klt k x.1 := by
  by_cases hG : fo es k = true
  · rw [if_pos hG]
    intro x hx
    obtain ⟨i, hi, rfl⟩ := List.getElem_of_mem hx
    rw [List.length_drop] at hi
    rw [List.getElem_drop]
    obtain ⟨h1, h2⟩ := fo_at hG
    have h3 := ris_at hr (i := fi es k) (j := fi es k + 1 + i) (by omega) (by omega)
    rwa [h2] at h3
  · rw [if_neg hG]
    rw [Bool.not_eq_true] at hG
    intro x hx
    obtain ⟨i, hi, rfl⟩ := List.getElem_of_mem hx
    rw [List.length_drop] at hi
    rw [List.getElem_drop]
    have h1 : fi es k < es.length := by omega
    have h2 : klt k es[fi es k].1 := klt_tri (fun h => by have := fi_at h1; rw [(kltb_iff _ _).2 h] at this; cases this) (fo_ne hG h1)
    rcases Nat.eq_zero_or_pos i with h0 | h0
    · subst h0; simpa using h2
    · exact klt_trans h2 (ris_at hr (i := fi es k) (j := fi es k + i) (by omega) (by omega))
theorem ris_put {es : List (H.Key × Nat)} (hr : Ris es) (k : H.Key) (x : Nat) : Ris (hput es k x) := by
  unfold hput
  refine List.pairwise_append.2 ⟨hr.sublist (List.take_sublist _ _), List.pairwise_cons.2 ⟨fun y hy => high_gt hr y hy, hr.sublist (List.drop_sublist _ _)⟩, fun a ha b hb => ?_⟩
  have h1 := low_lt a ha
  rcases List.mem_cons.1 hb with rfl | hb
  · exact h1
  · exact klt_trans h1 (high_gt hr b hb)
theorem drop_sub (es : List (H.Key × Nat)) (i : Nat) : (es.take i ++ es.drop (i + 1)).Sublist es := by
  have h1 : (es.drop (i + 1)).Sublist (es.drop i) := by
    have : es.drop (i + 1) = (es.drop i).drop 1 := by rw [List.drop_drop]
    rw [this]
    exact List.drop_sublist _ _
  have h := (List.Sublist.refl (es.take i)).append h1
  rwa [List.take_append_drop] at h
theorem ris_drop {es : List (H.Key × Nat)} (hr : Ris es) (k : H.Key) : Ris (hdrop es k) := by
  unfold hdrop
  split
  · exact hr.sublist (drop_sub _ _)
  · exact hr
theorem fo_no {es : List (H.Key × Nat)} (hr : Ris es) {k : H.Key} (h : fo es k = false) : ∀ x ∈ es, x.1 ≠ k := by
  intro x hx
  have hx2 : x ∈ es.take (fi es k) ++ es.drop (fi es k) := by rwa [List.take_append_drop]
  rcases List.mem_append.1 hx2 with h1 | h1
  · intro e
    have := low_lt x h1
    rw [e] at this
    exact klt_irr _ this
  · intro e
    have := high_gt (k := k) hr x (by rw [h]; simpa using h1)
    rw [e] at this
    exact klt_irr _ this
/-- The key that is there, with its value, and the others. -/
theorem fo_split {es : List (H.Key × Nat)} {k : H.Key} (h : fo es k = true) : ∃ v0, es[fi es k]? = some (k, v0) ∧ es = es.take (fi es k) ++ (k, v0) :: es.drop (fi es k + 1) := by
  obtain ⟨h1, h2⟩ := fo_at h
  refine ⟨es[fi es k].2, ?_, ?_⟩
  · rw [List.getElem?_eq_getElem h1]
    exact congrArg some (Prod.ext h2 rfl)
  · have e : es[fi es k] = (k, es[fi es k].2) := Prod.ext h2 rfl
    rw [← e, ← List.drop_eq_getElem_cons h1, List.take_append_drop]
theorem hput_len (es : List (H.Key × Nat)) (k : H.Key) (x : Nat) : (hput es k x).length ≤ es.length + 1 := by
  unfold hput
  have := fi_le es k
  rw [List.length_append, List.length_cons, List.length_take, List.length_drop, Nat.min_eq_left this]
  split <;> omega
theorem hdrop_len (es : List (H.Key × Nat)) (k : H.Key) : (hdrop es k).length ≤ es.length := by
  unfold hdrop
  split
  · exact (drop_sub es _).length_le
  · exact Nat.le_refl _
theorem hdo_len (es : List (H.Key × Nat)) (d : Nat) (k : H.Key) (x : Nat) : (hdo es d k x).length ≤ es.length + 1 := by
  unfold hdo
  split
  · omega
  · split
    · have := hdrop_len es k; omega
    · exact hput_len es k x
theorem hdo_ris {es : List (H.Key × Nat)} (hr : Ris es) (d : Nat) (k : H.Key) (x : Nat) : Ris (hdo es d k x) := by
  unfold hdo
  split
  · exact hr
  · split
    · exact ris_drop hr k
    · exact ris_put hr k x
/-- The behaviour of the table's calls, told by the list. -/
theorem get_fact {es : List (H.Key × Nat)} (hr : Ris es) (k : H.Key) : (fo es k = true ∧ (k, hget es k) ∈ es) ∨ (fo es k = false ∧ hget es k = 0 ∧ ∀ x ∈ es, x.1 ≠ k) := by
  cases h : fo es k with
  | true =>
    obtain ⟨v0, h1, h2⟩ := fo_split h
    refine .inl ⟨rfl, ?_⟩
    have e : hget es k = v0 := by unfold hget; rw [h, h1]; rfl
    rw [e]
    exact List.mem_of_getElem? h1
  | false => exact .inr ⟨rfl, by unfold hget; rw [h]; rfl, fo_no hr h⟩
theorem put_yes_perm {es : List (H.Key × Nat)} {k : H.Key} (x : Nat) (h : fo es k = true) : ∃ v0 r, es.Perm ((k, v0) :: r) ∧ ((k, x) :: r).Perm (hput es k x) ∧ r = hdrop es k := by
  obtain ⟨v0, h1, h2⟩ := fo_split h
  refine ⟨v0, es.take (fi es k) ++ es.drop (fi es k + 1), ?_, ?_, ?_⟩
  · refine (List.Perm.of_eq h2).trans ?_
    exact List.perm_middle
  · unfold hput
    rw [h]
    exact List.perm_middle.symm
  · unfold hdrop
    rw [h]
    rfl
theorem put_no_perm {es : List (H.Key × Nat)} {k : H.Key} (x : Nat) (h : fo es k = false) : ((k, x) :: es).Perm (hput es k x) := by
  unfold hput
  rw [h]
  have h1 : ((k, x) :: (es.take (fi es k) ++ es.drop (fi es k))).Perm (es.take (fi es k) ++ (k, x) :: es.drop (fi es k)) := List.perm_middle.symm
  rwa [List.take_append_drop] at h1
end Go.Proofs.Ytkpfgbcjimkfeaa
