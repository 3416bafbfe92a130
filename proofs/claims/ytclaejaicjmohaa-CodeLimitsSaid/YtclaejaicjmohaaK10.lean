
/- Plain facts of rising lists of keys. -/
import Derived.Test.YtclaejaicjmohaaK5
namespace Go.Proofs.Ytclaejaicjmohaa
set_option maxRecDepth 4000
open Go.RowKit
namespace K
def Up (xs : List Nat) : Prop := xs.Pairwise (· < ·)
theorem up_tail {x : Nat} {xs : List Nat} (h : Up (x :: xs)) : Up xs := (List.pairwise_cons.1 h).2
theorem up_lt {xs : List Nat} (h : Up xs) {i j : Nat} (hij : i < j) (hj : j < xs.length) : xs[i]'(by omega) < xs[j] := (List.pairwise_iff_getElem.1 h) i j (by omega) hj hij
theorem fo_mem {xs : List Nat} (h : Up xs) (k : Nat) : fo xs k = true ↔ k ∈ xs := by
  constructor
  · intro h1
    obtain ⟨h2, h3⟩ := fo_lt h1
    rw [← h3]
    exact List.getElem_mem h2
  · intro hm
    obtain ⟨i, hi, rfl⟩ := List.getElem_of_mem hm
    have h1 : fi xs xs[i] = i := by
      rcases Nat.lt_trichotomy (fi xs xs[i]) i with h1 | h1 | h1
      · have h2 := fi_at (xs := xs) (k := xs[i]) (by omega)
        have h3 := up_lt h h1 hi
        omega
      · exact h1
      · obtain ⟨_, h3⟩ := fi_lt h1
        omega
    unfold fo
    rw [h1, List.getElem?_eq_getElem hi]
    simp
theorem take_lt {xs : List Nat} (k : Nat) : ∀ x ∈ xs.take (fi xs k), x < k := by
  intro x hx
  obtain ⟨j, hj, rfl⟩ := List.getElem_of_mem hx
  rw [List.length_take] at hj
  rw [List.getElem_take]
  exact (fi_lt (k := k) (by omega)).2
theorem drop_le {xs : List Nat} (h : Up xs) (k : Nat) : ∀ x ∈ xs.drop (fi xs k), k ≤ x := by
  intro x hx
  obtain ⟨j, hj, rfl⟩ := List.getElem_of_mem hx
  rw [List.length_drop] at hj
  rw [List.getElem_drop]
  have h1 := fi_at (xs := xs) (k := k) (by omega)
  rcases Nat.eq_zero_or_pos j with rfl | hp
  · simpa using h1
  · exact Nat.le_of_lt (Nat.lt_of_le_of_lt h1 (up_lt h (i := fi xs k) (j := fi xs k + j) (by omega) (by omega)))
theorem drop_ne {xs : List Nat} (h : Up xs) {k : Nat} (hf : fo xs k = false) : ∀ x ∈ xs.drop (fi xs k), k < x := by
  intro x hx
  have h1 := drop_le h k x hx
  have h2 : x ∈ xs := List.mem_of_mem_drop hx
  have h3 : x ≠ k := by
    rintro rfl
    rw [(fo_mem h x).2 h2] at hf
    cases hf
  omega
theorem add_up {xs : List Nat} (h : Up xs) (k : Nat) : Up (add xs k) := by
  unfold add
  split
  · exact h
  · rename_i hf
    have hf : fo xs k = false := by simpa using hf
    refine List.pairwise_append.2 ⟨h.sublist (List.take_sublist _ _), List.pairwise_cons.2 ⟨drop_ne h hf, h.sublist (List.drop_sublist _ _)⟩, fun a ha b hb => ?_⟩
    have h1 := take_lt k a ha
    rcases List.mem_cons.1 hb with rfl | hb
    · exact h1
    · exact Nat.lt_trans h1 (drop_ne h hf b hb)
theorem add_mem {xs : List Nat} (h : Up xs) (k x : Nat) : x ∈ add xs k ↔ x = k ∨ x ∈ xs := by
  unfold add
  split
  · rename_i hf
    have := (fo_mem h k).1 hf
    constructor
    · exact .inr
    · rintro (rfl | h1)
      · exact this
      · exact h1
  · have e : x ∈ xs ↔ x ∈ xs.take (fi xs k) ∨ x ∈ xs.drop (fi xs k) := by rw [← List.mem_append, List.take_append_drop]
    rw [List.mem_append, List.mem_cons, e]
    constructor
    · rintro (h | h | h)
      · exact .inr (.inl h)
      · exact .inl h
      · exact .inr (.inr h)
    · rintro (h | h | h)
      · exact .inr (.inl h)
      · exact .inl h
      · exact .inr (.inr h)
theorem drop_up {xs : List Nat} (h : Up xs) (k : Nat) : Up (drop xs k) := by
  unfold drop
  split
  · refine h.sublist ?_
    have := (List.Sublist.refl (xs.take (fi xs k))).append (List.drop_sublist_drop_left xs (Nat.le_succ (fi xs k)))
    rwa [List.take_append_drop] at this
  · exact h
theorem drop_mem {xs : List Nat} (h : Up xs) (k x : Nat) : x ∈ drop xs k ↔ x ≠ k ∧ x ∈ xs := by
  unfold drop
  split
  · rename_i hf
    obtain ⟨h1, h2⟩ := fo_lt hf
    have e : xs = xs.take (fi xs k) ++ k :: xs.drop (fi xs k + 1) := by
      have := List.take_append_drop (fi xs k) xs
      rw [List.drop_eq_getElem_cons h1, h2] at this
      exact this.symm
    have hu : Up (xs.take (fi xs k) ++ k :: xs.drop (fi xs k + 1)) := e ▸ h
    obtain ⟨_, hu2, hu3⟩ := List.pairwise_append.1 hu
    have hu4 := (List.pairwise_cons.1 hu2).1
    have e2 : x ∈ xs ↔ x ∈ xs.take (fi xs k) ∨ x = k ∨ x ∈ xs.drop (fi xs k + 1) := by
      constructor
      · intro hx; rw [e] at hx; simpa using hx
      · intro hx; rw [e]; simpa using hx
    rw [List.mem_append, e2]
    constructor
    · rintro (h5 | h5)
      · exact ⟨Nat.ne_of_lt (hu3 x h5 k (by simp)), .inl h5⟩
      · exact ⟨(Nat.ne_of_lt (hu4 x h5)).symm, .inr (.inr h5)⟩
    · rintro ⟨h5, h6 | h6 | h6⟩
      · exact .inl h6
      · exact absurd h6 h5
      · exact .inr h6
  · rename_i hf
    constructor
    · intro hx
      refine ⟨?_, hx⟩
      rintro rfl
      exact hf ((fo_mem h x).2 hx)
    · exact fun h => h.2
end K
end Go.Proofs.Ytclaejaicjmohaa
