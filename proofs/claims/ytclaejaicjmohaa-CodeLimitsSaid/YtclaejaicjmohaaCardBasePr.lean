
/- What the cards of package code's laws use besides: a number of 16 bits that came in. -/
import Derived.Test.YtclaejaicjmohaaCardBasePq
namespace Go.Proofs.Ytclaejaicjmohaa
open Go.ChangeShapes Go.WideShapes Go.ChangeAt Go.RowKit
theorem u16_nat {n : Int} (h : (Lit.int .u16 n).wf = true) : ∃ m : Nat, n = m ∧ m < 65536 := by
  simp [Lit.wf, IntKind.min, IntKind.max, IntKind.signed, IntKind.bits] at h
  exact ⟨n.toNat, by omega, by omega⟩
end Go.Proofs.Ytclaejaicjmohaa
