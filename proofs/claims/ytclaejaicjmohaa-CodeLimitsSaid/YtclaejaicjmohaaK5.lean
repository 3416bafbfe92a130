
/- The document's lists of keys (stepstoneref11): a list made of keys; the text walked. -/
import Derived.Test.YtclaejaicjmohaaK4
namespace Go.Proofs.Ytclaejaicjmohaa
set_option maxRecDepth 4000
open Go.RowKit
namespace K
def off (xs : List Nat) : List Nat := xs.foldl add []
theorem add_len (xs : List Nat) (k : Nat) : (add xs k).length ≤ xs.length + 1 := by
  unfold add
  split
  · omega
  · rw [List.length_append, List.length_cons, List.length_take, List.length_drop]
    have := fi_le xs k
    omega
theorem off_snoc (xs : List Nat) (k : Nat) (h : k < xs.length) : off (xs.take (k + 1)) = add (off (xs.take k)) xs[k] := by
  unfold off
  rw [List.take_succ_eq_append_getElem h, List.foldl_append]
  rfl
theorem off_len (xs : List Nat) : ∀ k, (off (xs.take k)).length ≤ k
  | 0 => by simp [off]
  | k + 1 => by
    rcases Nat.lt_or_ge k xs.length with h | h
    · rw [off_snoc xs k h]
      have := add_len (off (xs.take k)) xs[k]
      have := off_len xs k
      omega
    · rw [List.take_of_length_le (by omega), ← List.take_of_length_le h]
      have := off_len xs k
      omega
end K
end Go.Proofs.Ytclaejaicjmohaa
