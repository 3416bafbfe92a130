
/- More of a region whose last operations write what the others read: a writer comes up, and then S is asked no more. -/
import Derived.Test.YtndielncleohlaaDoorLate
namespace Go.Proofs.YtndielncleohlaaDoor
section
variable {P : Program} {ops : Array Oper} {Q : Exit → Act → World → Prop} {md : Region.Mode} {S : World → Prop} {N : List Nat}
theorem anyOf_more {i : Nat} {listed : Array Bool} (h : anyOf N listed = true) : anyOf N (listed.setIfInBounds i true) = true := by
  unfold anyOf at *
  rw [List.any_eq_true] at *
  obtain ⟨k, hk, e⟩ := h
  refine ⟨k, hk, ?_⟩
  by_cases hik : i = k
  · subst hik
    have hlt : i < listed.size := by
      rcases Nat.lt_or_ge i listed.size with h' | h'
      · exact h'
      · rw [Array.getD_eq_getD_getElem?, Array.getElem?_eq_none h'] at e; cases e
    simp [hlt]
  · rw [getD_set_ne false hik]; exact e
/-- Once one of N has come up, S is asked no more. -/
theorem wpAnyM_of_any : ∀ (fuel : Nat) (listed : Array Bool) (a : Act) (w : World), anyOf N listed = true → wpAny P md ops Q fuel listed a w → wpAnyM P md ops Q S N fuel listed a w
  | 0, _, _, _, _, h => h
  | fuel + 1, listed, a, w, hN, h => ⟨h.1, fun i hi => wpOp_mono (fun a' w' h' => ⟨.inl (anyOf_more hN), wpAnyM_of_any fuel _ a' w' (anyOf_more hN) h'⟩) (h.2 i hi)⟩
/-- A writer comes up. -/
theorem AllReadyM.consN {fuel : Nat} {listed : Array Bool} {a : Act} {w : World} {i : Nat} {o : Oper} {rs : List Nat} (ho : ops[i]? = some o) (hN : anyOf N (listed.setIfInBounds i true) = true)
    (h : ∀ K' : Act → World → Prop, Shut (∀ a w, wpAny P md ops Q fuel (listed.setIfInBounds i true) a w → K' a w) → if Region.wanted o (yielded ops a.tmps) = true then Oper.wp P o a w K' Q else K' (a.put o.dst undef) w)
    (hs : AllReadyM P md ops Q S N fuel listed a w rs) : AllReadyM P md ops Q S N fuel listed a w (i :: rs) := fun j hj => by
  rcases List.mem_cons.1 hj with rfl | hj
  · exact wpOp_step ho (fun K' hK => h K' (fun a w hW => hK a w ⟨.inl hN, wpAnyM_of_any _ _ _ _ hN hW⟩))
  · exact hs j hj
end
end Go.Proofs.YtndielncleohlaaDoor
