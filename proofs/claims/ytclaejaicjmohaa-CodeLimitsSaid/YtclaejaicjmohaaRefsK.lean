
/- Whether two slices of words are alike. -/
import Derived.Test.YtclaejaicjmohaaRefs3B
import Derived.Deep.QuietTactic
import Derived.BigQuiet
namespace Go.Proofs.Ytclaejaicjmohaa
open Go.RowKit
theorem same_noN {xs ys : List Nat} {k : Nat} (h : ∃ a b, xs[k]? = some a ∧ ys[k]? = some b ∧ a ≠ b) : decide (xs = ys) = false := by
  rw [decide_eq_false_iff_not]
  rintro rfl
  obtain ⟨a, b, h1, h2, h3⟩ := h
  rw [h1] at h2
  exact h3 (by simpa using h2)

end Go.Proofs.Ytclaejaicjmohaa
