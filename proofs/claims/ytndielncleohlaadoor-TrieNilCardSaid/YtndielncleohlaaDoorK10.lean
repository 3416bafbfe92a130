
/- What the document's Do answers (stepstoneref11), whatever is asked; and plain facts of rising lists. -/
import Derived.Test.YtndielncleohlaaDoorK8
import Derived.Test.YtndielncleohlaaDoorK9
namespace Go.Proofs.YtndielncleohlaaDoor
set_option maxRecDepth 4000
open Go.RowKit
namespace K
/-- The list behind a call; the error, the key and the yes it answers. -/
def doL (xs : List Nat) (d k : Nat) : List Nat := if d % 9 ≤ 1 then add xs k else if d % 9 = 2 then drop xs k else if d % 9 = 8 then [] else xs
def doE (xs : List Nat) (d k : Nat) : Nat := if d % 9 ≤ 1 then (if fo xs k then 4 else 0) else if d % 9 = 2 then (if fo xs k then 0 else 3) else 0
def doK (xs : List Nat) (d k : Nat) : Nat := if d % 9 = 4 then nx xs k else if d % 9 = 5 then pv xs k else if d % 9 = 6 then nx xs 0 else if d % 9 = 7 then pv xs 18446744073709551615 else 0
def doY (xs : List Nat) (d k : Nat) : Bool := if d % 9 = 3 then fo xs k else if d % 9 = 4 then nxb xs k else if d % 9 = 5 then pvb xs k else if d % 9 = 6 then nxb xs 0 else if d % 9 = 7 then pvb xs 18446744073709551615 else false
end K
theorem k_do (w : World) (v : Value) (xs : List Nat) (h : KX w v xs) (hl : xs.length ≤ 1000000) (d k : Nat) (hd : d < 256) :
    Calls Tryd.prog 11 #[v, kactv d k] w (KDo w v (K.doL xs d k) (K.doE xs d k) (K.doK xs d k) (K.doY xs d k)) := by
  have h9 : d % 9 < 9 := Nat.mod_lt _ (by decide)
  have hl2 : xs.length ≤ 4611686018427387904 := by omega
  unfold K.doL K.doE K.doK K.doY
  rcases (by omega : d % 9 = 0 ∨ d % 9 = 1 ∨ d % 9 = 2 ∨ d % 9 = 3 ∨ d % 9 = 4 ∨ d % 9 = 5 ∨ d % 9 = 6 ∨ d % 9 = 7 ∨ d % 9 = 8) with e | e | e | e | e | e | e | e | e <;> rw [e]
  · cases hG : K.fo xs k
    · simpa using k_do_add0 w v xs h hl d k hd e hG
    · have e2 : K.add xs k = xs := by unfold K.add; rw [if_pos hG]
      rw [e2]
      simpa using k_do_add_exists0 w v xs h hl2 d k hd e hG
  · cases hG : K.fo xs k
    · simpa using k_do_add1 w v xs h hl d k hd e hG
    · have e2 : K.add xs k = xs := by unfold K.add; rw [if_pos hG]
      rw [e2]
      simpa using k_do_add_exists1 w v xs h hl2 d k hd e hG
  · cases hG : K.fo xs k
    · have e2 : K.drop xs k = xs := by unfold K.drop; rw [hG]; rfl
      rw [e2]
      simpa using k_do_drop_none w v xs h hl2 d k hd e hG
    · simpa using k_do_drop w v xs h hl d k hd e hG
  · simpa using k_do_has w v xs h hl2 d k hd e
  · simpa using k_do_next w v xs h hl2 d k hd e
  · simpa using k_do_prev w v xs h hl2 d k hd e
  · simpa using k_do_min w v xs h hl2 d k hd e
  · simpa using k_do_max w v xs h hl2 d k hd e
  · simpa using k_do_clear w v xs h hl2 d k hd e
namespace K
/-- The list rises. -/
def Up (xs : List Nat) : Prop := xs.Pairwise (· < ·)
theorem up_tail {x : Nat} {xs : List Nat} (h : Up (x :: xs)) : Up xs := (List.pairwise_cons.1 h).2
theorem up_lt {xs : List Nat} (h : Up xs) {i j : Nat} (hij : i < j) (hj : j < xs.length) : xs[i]'(by omega) < xs[j] := (List.pairwise_iff_getElem.1 h) i j (by omega) hj hij
theorem fo_mem {xs : List Nat} (h : Up xs) (k : Nat) : fo xs k = true ↔ k ∈ xs := by
  constructor
  · intro h1
    obtain ⟨h2, h3⟩ := fo_lt h1
    rw [← h3]
    exact List.getElem_mem h2
  · intro hm
    obtain ⟨i, hi, rfl⟩ := List.getElem_of_mem hm
    have h1 : fi xs xs[i] = i := by
      rcases Nat.lt_trichotomy (fi xs xs[i]) i with h1 | h1 | h1
      · have h2 := fi_at (xs := xs) (k := xs[i]) (by omega)
        have h3 := up_lt h h1 hi
        omega
      · exact h1
      · obtain ⟨_, h3⟩ := fi_lt h1
        omega
    unfold fo
    rw [h1, List.getElem?_eq_getElem hi]
    simp
theorem take_lt {xs : List Nat} (k : Nat) : ∀ x ∈ xs.take (fi xs k), x < k := by
  intro x hx
  obtain ⟨j, hj, rfl⟩ := List.getElem_of_mem hx
  rw [List.length_take] at hj
  rw [List.getElem_take]
  exact (fi_lt (k := k) (by omega)).2
theorem drop_le {xs : List Nat} (h : Up xs) (k : Nat) : ∀ x ∈ xs.drop (fi xs k), k ≤ x := by
  intro x hx
  obtain ⟨j, hj, rfl⟩ := List.getElem_of_mem hx
  rw [List.length_drop] at hj
  rw [List.getElem_drop]
  have h1 := fi_at (xs := xs) (k := k) (by omega)
  rcases Nat.eq_zero_or_pos j with rfl | hp
  · simpa using h1
  · exact Nat.le_of_lt (Nat.lt_of_le_of_lt h1 (up_lt h (i := fi xs k) (j := fi xs k + j) (by omega) (by omega)))
theorem drop_ne {xs : List Nat} (h : Up xs) {k : Nat} (hf : fo xs k = false) : ∀ x ∈ xs.drop (fi xs k), k < x := by
  intro x hx
  have h1 := drop_le h k x hx
  have h2 : x ∈ xs := List.mem_of_mem_drop hx
  have h3 : x ≠ k := by
    rintro rfl
    rw [(fo_mem h x).2 h2] at hf
    cases hf
  omega
theorem add_up {xs : List Nat} (h : Up xs) (k : Nat) : Up (add xs k) := by
  unfold add
  split
  · exact h
  · rename_i hf
    have hf : fo xs k = false := by simpa using hf
    refine List.pairwise_append.2 ⟨h.sublist (List.take_sublist _ _), List.pairwise_cons.2 ⟨drop_ne h hf, h.sublist (List.drop_sublist _ _)⟩, fun a ha b hb => ?_⟩
    have h1 := take_lt k a ha
    rcases List.mem_cons.1 hb with rfl | hb
    · exact h1
    · exact Nat.lt_trans h1 (drop_ne h hf b hb)
theorem add_mem {xs : List Nat} (h : Up xs) (k x : Nat) : x ∈ add xs k ↔ x = k ∨ x ∈ xs := by
  unfold add
  split
  · rename_i hf
    have := (fo_mem h k).1 hf
    constructor
    · exact .inr
    · rintro (rfl | h1)
      · exact this
      · exact h1
  · have e : x ∈ xs ↔ x ∈ xs.take (fi xs k) ∨ x ∈ xs.drop (fi xs k) := by rw [← List.mem_append, List.take_append_drop]
    rw [List.mem_append, List.mem_cons, e]
    constructor
    · rintro (h | h | h)
      · exact .inr (.inl h)
      · exact .inl h
      · exact .inr (.inr h)
    · rintro (h | h | h)
      · exact .inr (.inl h)
      · exact .inl h
      · exact .inr (.inr h)
theorem drop_up {xs : List Nat} (h : Up xs) (k : Nat) : Up (drop xs k) := by
  unfold drop
  split
  · refine h.sublist ?_
    have := (List.Sublist.refl (xs.take (fi xs k))).append (List.drop_sublist_drop_left xs (Nat.le_succ (fi xs k)))
    rwa [List.take_append_drop] at this
  · exact h
theorem drop_mem {xs : List Nat} (h : Up xs) (k x : Nat) : x ∈ drop xs k ↔ x ≠ k ∧ x ∈ xs := by
  unfold drop
  split
  · rename_i hf
    obtain ⟨h1, h2⟩ := fo_lt hf
    have e : xs = xs.take (fi xs k) ++ k :: xs.drop (fi xs k + 1) := by
      have := List.take_append_drop (fi xs k) xs
      rw [List.drop_eq_getElem_cons h1, h2] at this
      exact this.symm
    have hu : Up (xs.take (fi xs k) ++ k :: xs.drop (fi xs k + 1)) := e ▸ h
    obtain ⟨_, hu2, hu3⟩ := List.pairwise_append.1 hu
    have hu4 := (List.pairwise_cons.1 hu2).1
    have e2 : x ∈ xs ↔ x ∈ xs.take (fi xs k) ∨ x = k ∨ x ∈ xs.drop (fi xs k + 1) := by
      constructor
      · intro hx; rw [e] at hx; simpa using hx
      · intro hx; rw [e]; simpa using hx
    rw [List.mem_append, e2]
    constructor
    · rintro (h5 | h5)
      · exact ⟨Nat.ne_of_lt (hu3 x h5 k (by simp)), .inl h5⟩
      · exact ⟨(Nat.ne_of_lt (hu4 x h5)).symm, .inr (.inr h5)⟩
    · rintro ⟨h5, h6 | h6 | h6⟩
      · exact .inl h6
      · exact absurd h6 h5
      · exact .inr h6
  · rename_i hf
    constructor
    · intro hx
      refine ⟨?_, hx⟩
      rintro rfl
      exact hf ((fo_mem h x).2 hx)
    · exact fun h => h.2
end K
end Go.Proofs.YtndielncleohlaaDoor
