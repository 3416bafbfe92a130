
/- What a trie and an x-fast trie use (stepstoneref11); the texts walked. -/
import Derived.Test.YtclaejaicjmohaaK11
namespace Go.Proofs.Ytclaejaicjmohaa
set_option maxRecDepth 4000
open Go.RowKit
namespace K
/-- What a trie uses: how many unlike beginnings of 0 bits, and of 4, 10, .. 58. -/
def trs (xs : List Nat) : Nat → Nat
  | 0 => kinds xs 0
  | j + 1 => trs xs j + kinds xs (4 + 6 * j)
def trie (xs : List Nat) : Nat := trs xs 10
theorem trs_le (xs : List Nat) : ∀ j, trs xs j ≤ (j + 1) * xs.length
  | 0 => by simpa [trs] using kinds_le xs 0
  | j + 1 => by
    have h1 := trs_le xs j
    have h2 := kinds_le xs (4 + 6 * j)
    show trs xs j + kinds xs (4 + 6 * j) ≤ (j + 1 + 1) * xs.length
    rw [Nat.add_mul (j + 1)]
    omega
/-- What an x-fast trie uses. -/
def xfs (xs : List Nat) : Nat → Nat
  | 0 => xs.length
  | j + 1 => xfs xs j + kinds xs j
def xfast (xs : List Nat) : Nat := xfs xs 65
theorem xfs_le (xs : List Nat) : ∀ j, xfs xs j ≤ (j + 1) * xs.length
  | 0 => by simp [xfs]
  | j + 1 => by
    have h1 := xfs_le xs j
    have h2 := kinds_le xs j
    show xfs xs j + kinds xs j ≤ (j + 1 + 1) * xs.length
    rw [Nat.add_mul (j + 1)]
    omega
end K
end Go.Proofs.Ytclaejaicjmohaa
