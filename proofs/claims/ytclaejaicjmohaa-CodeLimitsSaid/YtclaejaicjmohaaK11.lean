
/- How many unlike beginnings keys have (stepstoneref11), what a trie and an x-fast trie use; the texts walked. -/
import Derived.Test.YtclaejaicjmohaaK5
namespace Go.Proofs.Ytclaejaicjmohaa
set_option maxRecDepth 4000
open Go.RowKit
namespace K
def kc (xs : List Nat) (b j : Nat) : Bool := decide (j = 0) || (decide (0 < b) && !decide ((xs[j]?).getD 0 / 2 ^ (64 - b) = (xs[j - 1]?).getD 0 / 2 ^ (64 - b)))
def kd (xs : List Nat) (b : Nat) : Nat → Nat
  | 0 => 0
  | j + 1 => kd xs b j + if kc xs b j then 1 else 0
/-- How many unlike beginnings of b bits. -/
def kinds (xs : List Nat) (b : Nat) : Nat := kd xs b xs.length
theorem kd_le (xs : List Nat) (b : Nat) : ∀ j, kd xs b j ≤ j
  | 0 => Nat.le_refl _
  | j + 1 => by
    have := kd_le xs b j
    unfold kd
    split <;> omega
theorem kinds_le (xs : List Nat) (b : Nat) : kinds xs b ≤ xs.length := kd_le _ _ _
theorem div_ne (a a' b : Nat) : ((a : Int) / 2 ^ (64 - b) != (a' : Int) / 2 ^ (64 - b)) = !decide (a / 2 ^ (64 - b) = a' / 2 ^ (64 - b)) := by
  have e : ∀ x : Nat, (x : Int) / 2 ^ (64 - b) = ((x / 2 ^ (64 - b) : Nat) : Int) := fun x => by
    rw [Int.natCast_ediv]
    simp
  rw [e, e]
  generalize a / 2 ^ (64 - b) = p
  generalize a' / 2 ^ (64 - b) = q
  by_cases h : p = q
  · subst h; simp
  · rw [decide_eq_false h]
    have h2 : ((p : Int) == (q : Int)) = false := by rw [Bool.eq_false_iff]; intro e; rw [beq_iff_eq] at e; omega
    rw [bne, h2]
end K
end Go.Proofs.Ytclaejaicjmohaa
