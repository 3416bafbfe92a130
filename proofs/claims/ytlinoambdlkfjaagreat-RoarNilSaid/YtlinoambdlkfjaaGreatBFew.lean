
/- The document's Few, Same and Of on lists of 16-bit numbers; the text walked. -/
import Derived.Test.YtlinoambdlkfjaaGreatBList
namespace Go.Proofs.YtlinoambdlkfjaaGreat
set_option maxRecDepth 40000
open Go.RowKit
theorem retB {a b : Bool} (h : a = b) : Ending.returned (.bool a) = .returned (.bool b) := by rw [h]
theorem take_snocH {xs : List Int} {k : Nat} (h : k < xs.length) : xs.take (k + 1) = xs.take k ++ [xs[k]] := by
  rw [List.take_succ_eq_append_getElem h]
theorem take_allH {xs : List Int} {k : Nat} (h : ¬ k < xs.length) : xs.take k = xs := List.take_of_length_le (by omega)
theorem same_noH {xs ys : List Int} {k : Nat} (h : ∃ a b, xs[k]? = some a ∧ ys[k]? = some b ∧ a ≠ b) : decide (xs = ys) = false := by
  rw [decide_eq_false_iff_not]
  rintro rfl
  obtain ⟨a, b, h1, h2, h3⟩ := h
  rw [h1] at h2
  exact h3 (by simpa using h2)

/-- Those of xs, and no others. -/
def OfL (l xs : List Int) : Prop := l.Pairwise (· < ·) ∧ ∀ y, y ∈ l ↔ y ∈ xs
theorem OfL.same {a b xs : List Int} (h : OfL a xs) (k : OfL b xs) : a = b := M.sorted_ext h.1 k.1 fun y => (h.2 y).trans (k.2 y).symm
end Go.Proofs.YtlinoambdlkfjaaGreat
