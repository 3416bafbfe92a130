/-
  No cell of these rows narrows 'for every input' (looked for: loops, veiled, ifaces, maps, wideKeys, modest, calm, conditions, laid).
  DERIVED. THE GIVEN ROWS OF THIS SEAT. 5 by the template 'for every input the law returns true; each argument reads behind the call as it read before'; 0 by the template 'total and deterministic' (their statements: YtfccgefpchgdlaaTotals.lean).
  GIVEN WITH THE SEED: the statements are not yours to turn. If you find one false, say at which input.
  Laid BY PROGRAM, IN A SANDBOX (cutbox-rows.mjs): the forced cells as the released guide's own fill.sh prints them over the translation 5b968c31c3bba047… (all of the seat's roots in one cut). By AI agents, Wed Nov 11 2026. No macro, syntax, notation, axiom, sorry.
-/
import Derived.Test.YtfccgefpchgdlaaChecked
import GoSem.Claim
import GoSem.ClaimJoined
import GoSem.ClaimMapViews
import Derived.JoinedTies
import Derived.KernelRfl
namespace Go.Proofs.Ytfccgefpchgdlaa
/- THE CELL 'sum', in the pinned program and in every row, IS THE sha256 OF THE DUMP (.gsa) THAT YtfccgefpchgdlaaProg.lean LOADS. Nothing in Lean hashes anything: it is a label: what it is worth is what the hold of that sum in a sandbox is worth. -/
noncomputable def Try.pinned : Pinned := { name := "ytfccgefpchgdlaa", sum := "5b968c31c3bba04708d6c4dd9441c3025062bfc22997d0ed6cab08819ac681f9", checked := Try.checked }
namespace Rows
def none {H : Type} : Left H := { results := [], args := [] }

/-- 'stepstonelaw06.ArrayMakes': WHATEVER THE INPUT: true; the input reads as it did. -/
def arrayMakesSpec : ChangeSpec := { name := "arrayMakes", fn := fun _ => fun
  | [d] => { results := [.lit (.bool true)], args := [d] }
  | _ => none }
def arrayMakesRow : OpenClaim := { program := "ytfccgefpchgdlaa", sum := "5b968c31c3bba04708d6c4dd9441c3025062bfc22997d0ed6cab08819ac681f9", func := "stepstone/stepstonelaw06.ArrayMakes", spec := "arrayMakes", unfollowed := true, recurses := true, apart := false }
def ArrayMakesSaid : Prop := arrayMakesRow.holds Try.pinned (OpenSpec.ofChange arrayMakesSpec)

/-- ITS FALSE NEIGHBOUR: 'it returns false'. Refute it at one input. -/
def arrayMakesWrong : ChangeSpec := { name := "arrayMakes", fn := fun _ => fun
  | [d] => { results := [.lit (.bool false)], args := [d] }
  | _ => none }
def ArrayMakesWrongFalsely : Prop := arrayMakesRow.holds Try.pinned (OpenSpec.ofChange arrayMakesWrong)

/-- 'stepstonelaw06.ArrayAsks': WHATEVER THE INPUT: true; the input reads as it did. -/
def arrayAsksSpec : ChangeSpec := { name := "arrayAsks", fn := fun _ => fun
  | [d1, d2, d3] => { results := [.lit (.bool true)], args := [d1, d2, d3] }
  | _ => none }
def arrayAsksRow : OpenClaim := { program := "ytfccgefpchgdlaa", sum := "5b968c31c3bba04708d6c4dd9441c3025062bfc22997d0ed6cab08819ac681f9", func := "stepstone/stepstonelaw06.ArrayAsks", spec := "arrayAsks", unfollowed := true, recurses := true, apart := false }
def ArrayAsksSaid : Prop := arrayAsksRow.holds Try.pinned (OpenSpec.ofChange arrayAsksSpec)

/-- ITS FALSE NEIGHBOUR: 'it returns false'. Refute it at one input. -/
def arrayAsksWrong : ChangeSpec := { name := "arrayAsks", fn := fun _ => fun
  | [d1, d2, d3] => { results := [.lit (.bool false)], args := [d1, d2, d3] }
  | _ => none }
def ArrayAsksWrongFalsely : Prop := arrayAsksRow.holds Try.pinned (OpenSpec.ofChange arrayAsksWrong)

/-- 'stepstonelaw06.ArrayChanges': WHATEVER THE INPUT: true; the input reads as it did. -/
def arrayChangesSpec : ChangeSpec := { name := "arrayChanges", fn := fun _ => fun
  | [d1, d2, d3, d4] => { results := [.lit (.bool true)], args := [d1, d2, d3, d4] }
  | _ => none }
def arrayChangesRow : OpenClaim := { program := "ytfccgefpchgdlaa", sum := "5b968c31c3bba04708d6c4dd9441c3025062bfc22997d0ed6cab08819ac681f9", func := "stepstone/stepstonelaw06.ArrayChanges", spec := "arrayChanges", unfollowed := true, recurses := true, apart := false }
def ArrayChangesSaid : Prop := arrayChangesRow.holds Try.pinned (OpenSpec.ofChange arrayChangesSpec)

/-- ITS FALSE NEIGHBOUR: 'it returns false'. Refute it at one input. -/
def arrayChangesWrong : ChangeSpec := { name := "arrayChanges", fn := fun _ => fun
  | [d1, d2, d3, d4] => { results := [.lit (.bool false)], args := [d1, d2, d3, d4] }
  | _ => none }
def ArrayChangesWrongFalsely : Prop := arrayChangesRow.holds Try.pinned (OpenSpec.ofChange arrayChangesWrong)

/-- 'stepstonelaw06.ArrayJoins': WHATEVER THE INPUT: true; the input reads as it did. -/
def arrayJoinsSpec : ChangeSpec := { name := "arrayJoins", fn := fun _ => fun
  | [d1, d2, d3, d4] => { results := [.lit (.bool true)], args := [d1, d2, d3, d4] }
  | _ => none }
def arrayJoinsRow : OpenClaim := { program := "ytfccgefpchgdlaa", sum := "5b968c31c3bba04708d6c4dd9441c3025062bfc22997d0ed6cab08819ac681f9", func := "stepstone/stepstonelaw06.ArrayJoins", spec := "arrayJoins", unfollowed := true, recurses := true, apart := false }
def ArrayJoinsSaid : Prop := arrayJoinsRow.holds Try.pinned (OpenSpec.ofChange arrayJoinsSpec)

/-- ITS FALSE NEIGHBOUR: 'it returns false'. Refute it at one input. -/
def arrayJoinsWrong : ChangeSpec := { name := "arrayJoins", fn := fun _ => fun
  | [d1, d2, d3, d4] => { results := [.lit (.bool false)], args := [d1, d2, d3, d4] }
  | _ => none }
def ArrayJoinsWrongFalsely : Prop := arrayJoinsRow.holds Try.pinned (OpenSpec.ofChange arrayJoinsWrong)

/-- 'stepstonelaw06.ArrayInverse': WHATEVER THE INPUT: true; the input reads as it did. -/
def arrayInverseSpec : ChangeSpec := { name := "arrayInverse", fn := fun _ => fun
  | [d1, d2] => { results := [.lit (.bool true)], args := [d1, d2] }
  | _ => none }
def arrayInverseRow : OpenClaim := { program := "ytfccgefpchgdlaa", sum := "5b968c31c3bba04708d6c4dd9441c3025062bfc22997d0ed6cab08819ac681f9", func := "stepstone/stepstonelaw06.ArrayInverse", spec := "arrayInverse", unfollowed := true, recurses := true, apart := false }
def ArrayInverseSaid : Prop := arrayInverseRow.holds Try.pinned (OpenSpec.ofChange arrayInverseSpec)

/-- ITS FALSE NEIGHBOUR: 'it returns false'. Refute it at one input. -/
def arrayInverseWrong : ChangeSpec := { name := "arrayInverse", fn := fun _ => fun
  | [d1, d2] => { results := [.lit (.bool false)], args := [d1, d2] }
  | _ => none }
def ArrayInverseWrongFalsely : Prop := arrayInverseRow.holds Try.pinned (OpenSpec.ofChange arrayInverseWrong)

/- THE SECOND FORM. 'bulk': how many values and letters a reading holds, each counted each time it is reached (what is shared counts as often as it is met; a slice's spare places count too). A statement '..UptoSaid' is the law's where the arguments, and the package variables that the reading takes, are together of bulk at most 1048576: NARROWER than '..Said'. Prove '..Said' where nothing that the law and all that it calls make is longer than what came in: it says more and counts as full. Else prove '..UptoSaid'. A law counts once. -/
mutual
def uptoBulk {H : Type} : DataW H → Nat
  | .lit (.string bytes) => bytes.length + 1
  | .lit _ => 1
  | .nil => 1
  | .ptr d => uptoBulk d + 1
  | .slice elems spare => uptoBulkAll elems + uptoBulkAll spare + 1
  | .agg parts => uptoBulkAll parts + 1
  | .iface _ d => uptoBulk d + 1
  | .map entries => uptoBulkEntries entries + 1
  | .held _ => 1
def uptoBulkAll {H : Type} : List (DataW H) → Nat
  | [] => 0
  | d :: r => uptoBulk d + uptoBulkAll r
def uptoBulkEntries {H : Type} : List (Lit × DataW H) → Nat
  | [] => 0
  | x :: r => uptoBulkEntry x + uptoBulkEntries r
def uptoBulkEntry {H : Type} : Lit × DataW H → Nat
  | (.string bytes, d) => bytes.length + uptoBulk d + 1
  | (_, d) => uptoBulk d + 1
 end
def uptoSmall : (H : Type) → List (DataW H) → Bool := fun _ ds => decide (uptoBulkAll ds ≤ 1048576)
def OpenSpec.upto (s : _root_.Go.ChangeSpec) : _root_.Go.OpenSpec := { _root_.Go.OpenSpec.ofChange s with cond := some uptoSmall }

/-- 'stepstonelaw06.ArrayMakes', WHERE WHAT IT READS IS OF BULK AT MOST 1048576: true; the input reads as it did. -/
def arrayMakesUptoRow : OpenClaim := { program := "ytfccgefpchgdlaa", sum := "5b968c31c3bba04708d6c4dd9441c3025062bfc22997d0ed6cab08819ac681f9", func := "stepstone/stepstonelaw06.ArrayMakes", spec := "arrayMakes", unfollowed := true, recurses := true, apart := false, narrowed := true }
def ArrayMakesUptoSaid : Prop := arrayMakesUptoRow.holds Try.pinned (OpenSpec.upto arrayMakesSpec)

/-- 'stepstonelaw06.ArrayAsks', WHERE WHAT IT READS IS OF BULK AT MOST 1048576: true; the input reads as it did. -/
def arrayAsksUptoRow : OpenClaim := { program := "ytfccgefpchgdlaa", sum := "5b968c31c3bba04708d6c4dd9441c3025062bfc22997d0ed6cab08819ac681f9", func := "stepstone/stepstonelaw06.ArrayAsks", spec := "arrayAsks", unfollowed := true, recurses := true, apart := false, narrowed := true }
def ArrayAsksUptoSaid : Prop := arrayAsksUptoRow.holds Try.pinned (OpenSpec.upto arrayAsksSpec)

/-- 'stepstonelaw06.ArrayChanges', WHERE WHAT IT READS IS OF BULK AT MOST 1048576: true; the input reads as it did. -/
def arrayChangesUptoRow : OpenClaim := { program := "ytfccgefpchgdlaa", sum := "5b968c31c3bba04708d6c4dd9441c3025062bfc22997d0ed6cab08819ac681f9", func := "stepstone/stepstonelaw06.ArrayChanges", spec := "arrayChanges", unfollowed := true, recurses := true, apart := false, narrowed := true }
def ArrayChangesUptoSaid : Prop := arrayChangesUptoRow.holds Try.pinned (OpenSpec.upto arrayChangesSpec)

/-- 'stepstonelaw06.ArrayJoins', WHERE WHAT IT READS IS OF BULK AT MOST 1048576: true; the input reads as it did. -/
def arrayJoinsUptoRow : OpenClaim := { program := "ytfccgefpchgdlaa", sum := "5b968c31c3bba04708d6c4dd9441c3025062bfc22997d0ed6cab08819ac681f9", func := "stepstone/stepstonelaw06.ArrayJoins", spec := "arrayJoins", unfollowed := true, recurses := true, apart := false, narrowed := true }
def ArrayJoinsUptoSaid : Prop := arrayJoinsUptoRow.holds Try.pinned (OpenSpec.upto arrayJoinsSpec)

/-- 'stepstonelaw06.ArrayInverse', WHERE WHAT IT READS IS OF BULK AT MOST 1048576: true; the input reads as it did. -/
def arrayInverseUptoRow : OpenClaim := { program := "ytfccgefpchgdlaa", sum := "5b968c31c3bba04708d6c4dd9441c3025062bfc22997d0ed6cab08819ac681f9", func := "stepstone/stepstonelaw06.ArrayInverse", spec := "arrayInverse", unfollowed := true, recurses := true, apart := false, narrowed := true }
def ArrayInverseUptoSaid : Prop := arrayInverseUptoRow.holds Try.pinned (OpenSpec.upto arrayInverseSpec)

end Rows
end Go.Proofs.Ytfccgefpchgdlaa
