/- Links as a rising list of keys: where a key lies, and what the plain list answers. -/
import Derived.Test.YtiinefdpaiincaaMxX10
namespace Go.Proofs.Ytiinefdpaiincaa
open Go.RowKit
namespace X
section
variable {L : LL} {xs : List Nat} {k : Nat}
theorem rises_up (hL : L.map (·.2) = xs) (hu : K.Up xs) : Rises L := by
  subst hL
  exact List.pairwise_map.1 hu
theorem take_map (hL : L.map (·.2) = xs) (i : Nat) : (L.take i).map (·.2) = xs.take i := by rw [← hL, List.map_take]
theorem drop_map (hL : L.map (·.2) = xs) (i : Nat) : (L.drop i).map (·.2) = xs.drop i := by rw [← hL, List.map_drop]
theorem len_map (hL : L.map (·.2) = xs) : L.length = xs.length := by rw [← hL, List.length_map]
/-- A key that isn't there parts the links. -/
theorem part_no (hL : L.map (·.2) = xs) (hu : K.Up xs) (hf : K.fo xs k = false) :
    ∃ L1 L2 : LL, L = L1 ++ L2 ∧ (∀ x ∈ L1, x.2 < k) ∧ (∀ x ∈ L2, k < x.2) ∧ L1.length = K.fi xs k ∧ (∀ n, (L1 ++ (n, k) :: L2).map (·.2) = K.add xs k) := by
  refine ⟨L.take (K.fi xs k), L.drop (K.fi xs k), (List.take_append_drop _ _).symm, fun x hx => ?_, fun x hx => ?_, ?_, fun n => ?_⟩
  · exact K.take_lt (xs := xs) k _ (by rw [← take_map hL]; exact List.mem_map_of_mem hx)
  · exact K.drop_ne hu hf _ (by rw [← drop_map hL]; exact List.mem_map_of_mem hx)
  · rw [List.length_take, len_map hL]
    have := K.fi_le xs k
    omega
  · rw [List.map_append, List.map_cons, take_map hL, drop_map hL]
    unfold K.add
    rw [hf]
    rfl
theorem nx_no {L1 L2 : LL} (hL : (L1 ++ L2).map (·.2) = xs) (hl : L1.length = K.fi xs k) : (L2 = [] ∧ K.nx xs k = 0 ∧ K.nxb xs k = false) ∨ ∃ n q L, L2 = (n, q) :: L ∧ K.nx xs k = q ∧ K.nxb xs k = true := by
  have hlen := len_map hL
  rw [List.length_append] at hlen
  unfold K.nx K.nxb
  cases L2 with
  | nil =>
    have h1 : K.fi xs k = xs.length := by rw [List.length_nil] at hlen; omega
    exact .inl ⟨rfl, by rw [h1, List.getElem?_eq_none (Nat.le_refl _)]; rfl, decide_eq_false (by omega)⟩
  | cons x L =>
    rw [List.length_cons] at hlen
    refine .inr ⟨x.1, x.2, L, rfl, ?_, decide_eq_true (by omega)⟩
    rw [← hl, ← hL, List.map_append, List.getElem?_append_right (by rw [List.length_map]; exact Nat.le_refl _), List.length_map, Nat.sub_self]
    rfl
theorem pv_no {L1 L2 : LL} (hL : (L1 ++ L2).map (·.2) = xs) (hf : K.fo xs k = false) (hl : L1.length = K.fi xs k) : (L1 = [] ∧ K.pv xs k = 0 ∧ K.pvb xs k = false) ∨ ∃ n q L, L1 = L ++ [(n, q)] ∧ K.pv xs k = q ∧ K.pvb xs k = true := by
  unfold K.pv K.pvb
  rw [hf]
  rcases List.eq_nil_or_concat L1 with rfl | ⟨L, x, rfl⟩
  · rw [← hl]
    exact .inl ⟨rfl, rfl, rfl⟩
  · rw [List.concat_eq_append] at *
    rw [List.length_append, List.length_singleton] at hl
    have h0 : ¬ K.fi xs k = 0 := by omega
    refine .inr ⟨x.1, x.2, L, rfl, ?_, ?_⟩
    · rw [if_neg (by decide), if_neg h0, ← hl, Nat.add_sub_cancel, ← hL, List.map_append, List.map_append, List.append_assoc, List.getElem?_append_right (by rw [List.length_map]; exact Nat.le_refl _), List.length_map, Nat.sub_self]
      rfl
    · rw [decide_eq_false h0]; rfl
/-- A key that is there. -/
theorem part_yes (hL : L.map (·.2) = xs) (hu : K.Up xs) (hf : K.fo xs k = true) :
    ∃ (n : Nat) (L1 L2 : LL), L = L1 ++ (n, k) :: L2 ∧ (L1 ++ L2).map (·.2) = K.drop xs k ∧ K.add (K.drop xs k) k = xs ∧ K.nx xs k = k ∧ K.nxb xs k = true ∧ K.pv xs k = k ∧ K.pvb xs k = true ∧ k ∉ K.drop xs k := by
  obtain ⟨h1, h2⟩ := K.fo_lt hf
  have hl := len_map hL
  have hi : K.fi xs k < L.length := by omega
  have e : L[K.fi xs k].2 = k := by
    have h3 : (L.map (·.2))[K.fi xs k]'(by rw [List.length_map]; exact hi) = k := by simp only [hL]; exact h2
    rwa [List.getElem_map] at h3
  have hd : L.drop (K.fi xs k) = L[K.fi xs k] :: L.drop (K.fi xs k + 1) := List.drop_eq_getElem_cons hi
  have hnd : k ∉ K.drop xs k := fun h => ((K.drop_mem hu k k).1 h).1 rfl
  refine ⟨L[K.fi xs k].1, L.take (K.fi xs k), L.drop (K.fi xs k + 1), ?_, ?_, ?_, ?_, ?_, ?_, ?_, hnd⟩
  · have e2 : (L[K.fi xs k].1, k) = L[K.fi xs k] := Prod.ext rfl e.symm
    rw [e2, ← hd, List.take_append_drop]
  · rw [List.map_append, take_map hL, drop_map hL]
    unfold K.drop
    rw [if_pos hf]
  · have hu2 := K.add_up (K.drop_up hu k) k
    refine List.Perm.eq_of_pairwise (le := (· < ·)) (fun a b _ _ h1 h2 => by omega) hu2 hu ?_
    refine (List.perm_ext_iff_of_nodup (hu2.imp (fun h => Nat.ne_of_lt h)) (hu.imp (fun h => Nat.ne_of_lt h))).2 fun x => ?_
    rw [K.add_mem (K.drop_up hu k), K.drop_mem hu]
    constructor
    · rintro (rfl | h)
      · exact (K.fo_mem hu _).1 hf
      · exact h.2
    · intro h
      by_cases e : x = k
      · exact .inl e
      · exact .inr ⟨e, h⟩
  · unfold K.nx
    rw [List.getElem?_eq_getElem h1, h2]
    rfl
  · exact decide_eq_true h1
  · unfold K.pv
    rw [if_pos hf]
  · unfold K.pvb
    rw [hf]
    rfl
theorem fo_sc (hL : L.map (·.2) = xs) (hu : K.Up xs) (k : Nat) : K.fo xs k = true ↔ sc L k = 65 := by
  rw [K.fo_mem hu, sc_all, ← hL, List.mem_map]
theorem fo_sg (hL : L.map (·.2) = xs) (hu : K.Up xs) (k : Nat) : decide (sg L 64 (pf 64 k) ≠ []) = K.fo xs k := by
  have h := fo_sc hL hu k
  have hle := sc_le L k
  cases hf : K.fo xs k
  · refine decide_eq_false fun h2 => ?_
    have : ¬ sc L k = 65 := fun e => by rw [h.2 e] at hf; cases hf
    exact h2 (sc_no (by omega) (Nat.le_refl _))
  · exact decide_eq_true (sc_yes (by have := h.1 hf; omega))
/-- The one link with all of a key's bits. -/
theorem sg_whole {L1 L2 : LL} {n : Nat} (hr : Rises (L1 ++ (n, k) :: L2)) : sg (L1 ++ (n, k) :: L2) 64 (pf 64 k) = [(n, k)] := by
  have h0 := (List.pairwise_append.1 hr)
  have e1 : sg L1 64 (pf 64 k) = [] := List.eq_nil_iff_forall_not_mem.2 fun x hx => by
    obtain ⟨a, b⟩ := mem_sg.1 hx
    rw [pf_all, pf_all] at b
    have := h0.2.2 x a (n, k) (by simp)
    omega
  have e2 : sg L2 64 (pf 64 k) = [] := List.eq_nil_iff_forall_not_mem.2 fun x hx => by
    obtain ⟨a, b⟩ := mem_sg.1 hx
    rw [pf_all, pf_all] at b
    have := (List.pairwise_cons.1 h0.2.1).1 x a
    simp only at this
    omega
  rw [sg_with, e1, e2]
  rfl
theorem nx_zero (hL : L.map (·.2) = xs) : (L = [] ∧ K.nx xs 0 = 0 ∧ K.nxb xs 0 = false) ∨ ∃ n q L2, L = (n, q) :: L2 ∧ K.nx xs 0 = q ∧ K.nxb xs 0 = true := by
  refine nx_no (L1 := []) hL ?_
  refine (Nat.eq_zero_of_not_pos fun h => ?_).symm
  obtain ⟨_, h2⟩ := K.fi_lt h
  omega
theorem pv_top (hL : L.map (·.2) = xs) (hu : K.Up xs) (hx : ∀ x ∈ xs, x < 18446744073709551616) : (L = [] ∧ K.pv xs 18446744073709551615 = 0 ∧ K.pvb xs 18446744073709551615 = false) ∨ ∃ n q L2, L = L2 ++ [(n, q)] ∧ K.pv xs 18446744073709551615 = q ∧ K.pvb xs 18446744073709551615 = true := by
  cases hf : K.fo xs 18446744073709551615
  · obtain ⟨L1, L2, rfl, h1, h2, h3, _⟩ := part_no hL hu hf
    have e : L2 = [] := List.eq_nil_iff_forall_not_mem.2 fun x hxx => by
      have a := h2 x hxx
      have b := hx x.2 (by rw [← hL]; exact List.mem_map_of_mem (List.mem_append_right _ hxx))
      omega
    subst e
    rw [List.append_nil]
    exact pv_no hL hf h3
  · obtain ⟨n, L1, L2, rfl, h1, h2, h3, h4, h5, h6, h7⟩ := part_yes hL hu hf
    have e : L2 = [] := List.eq_nil_iff_forall_not_mem.2 fun x hxx => by
      have a := (List.pairwise_cons.1 (List.pairwise_append.1 (rises_up hL hu)).2.1).1 x hxx
      have b := hx x.2 (by rw [← hL]; exact List.mem_map_of_mem (by simp [hxx]))
      simp only at a
      omega
    subst e
    exact .inr ⟨n, _, L1, rfl, h5, h6⟩
end
end X
end Go.Proofs.Ytiinefdpaiincaa
