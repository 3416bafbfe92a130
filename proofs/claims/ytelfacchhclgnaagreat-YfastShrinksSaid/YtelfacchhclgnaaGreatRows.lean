/-
  No cell of these rows narrows 'for every input' (looked for: loops, veiled, ifaces, maps, wideKeys, modest, calm, conditions, laid).
  DERIVED. THE GIVEN ROWS OF THIS SEAT. 5 by the template 'for every input the law returns true; each argument reads behind the call as it read before'; 0 by the template 'total and deterministic' (their statements: YtelfacchhclgnaaGreatTotals.lean).
  GIVEN WITH THE SEED: the statements are not yours to turn. If you find one false, say at which input.
  Laid BY PROGRAM, IN A SANDBOX (cutbox-rows.mjs): the forced cells as the released guide's own fill.sh prints them over the translation aa9933469aac01af… (all of the seat's roots in one cut). By AI agents, Wed Nov 11 2026. No macro, syntax, notation, axiom, sorry.
-/
import Derived.Test.YtelfacchhclgnaaGreatChecked
import GoSem.Claim
import GoSem.ClaimJoined
import GoSem.ClaimMapViews
import Derived.JoinedTies
import Derived.KernelRfl
namespace Go.Proofs.YtelfacchhclgnaaGreat
/- THE CELL 'sum', in the pinned program and in every row, IS THE sha256 OF THE DUMP (.gsa) THAT YtelfacchhclgnaaGreatProg.lean LOADS. Nothing in Lean hashes anything: it is a label: what it is worth is what the hold of that sum in a sandbox is worth. -/
noncomputable def Tryz.pinned : Pinned := { name := "ytelfacchhclgnaagreat", sum := "aa9933469aac01afe699a0f1ce3227e1a12efde0fdbca220d48d3e17038992b6", checked := Tryz.checked }
namespace Rows
def none {H : Type} : Left H := { results := [], args := [] }

/-- 'stepstonelaw16.YfastPlays': WHATEVER THE INPUT: true; the input reads as it did. -/
def yfastPlaysSpec : ChangeSpec := { name := "yfastPlays", fn := fun _ => fun
  | [d1, d2, d3, d4, d5, d6, d7] => { results := [.lit (.bool true)], args := [d1, d2, d3, d4, d5, d6, d7] }
  | _ => none }
def yfastPlaysRow : OpenClaim := { program := "ytelfacchhclgnaagreat", sum := "aa9933469aac01afe699a0f1ce3227e1a12efde0fdbca220d48d3e17038992b6", func := "stepstone/stepstonelaw16.YfastPlays", spec := "yfastPlays", unfollowed := true, recurses := true, apart := false }
def YfastPlaysSaid : Prop := yfastPlaysRow.holds Tryz.pinned (OpenSpec.ofChange yfastPlaysSpec)

/-- ITS FALSE NEIGHBOUR: 'it returns false'. Refute it at one input. -/
def yfastPlaysWrong : ChangeSpec := { name := "yfastPlays", fn := fun _ => fun
  | [d1, d2, d3, d4, d5, d6, d7] => { results := [.lit (.bool false)], args := [d1, d2, d3, d4, d5, d6, d7] }
  | _ => none }
def YfastPlaysWrongFalsely : Prop := yfastPlaysRow.holds Tryz.pinned (OpenSpec.ofChange yfastPlaysWrong)

/-- 'stepstonelaw16.YfastEmpties': WHATEVER THE INPUT: true; the input reads as it did. -/
def yfastEmptiesSpec : ChangeSpec := { name := "yfastEmpties", fn := fun _ => fun
  | [d1, d2, d3] => { results := [.lit (.bool true)], args := [d1, d2, d3] }
  | _ => none }
def yfastEmptiesRow : OpenClaim := { program := "ytelfacchhclgnaagreat", sum := "aa9933469aac01afe699a0f1ce3227e1a12efde0fdbca220d48d3e17038992b6", func := "stepstone/stepstonelaw16.YfastEmpties", spec := "yfastEmpties", unfollowed := true, recurses := true, apart := false }
def YfastEmptiesSaid : Prop := yfastEmptiesRow.holds Tryz.pinned (OpenSpec.ofChange yfastEmptiesSpec)

/-- ITS FALSE NEIGHBOUR: 'it returns false'. Refute it at one input. -/
def yfastEmptiesWrong : ChangeSpec := { name := "yfastEmpties", fn := fun _ => fun
  | [d1, d2, d3] => { results := [.lit (.bool false)], args := [d1, d2, d3] }
  | _ => none }
def YfastEmptiesWrongFalsely : Prop := yfastEmptiesRow.holds Tryz.pinned (OpenSpec.ofChange yfastEmptiesWrong)

/-- 'stepstonelaw16.YfastNil': WHATEVER THE INPUT: true; the input reads as it did. -/
def yfastNilSpec : ChangeSpec := { name := "yfastNil", fn := fun _ => fun
  | [d1, d2, d3] => { results := [.lit (.bool true)], args := [d1, d2, d3] }
  | _ => none }
def yfastNilRow : OpenClaim := { program := "ytelfacchhclgnaagreat", sum := "aa9933469aac01afe699a0f1ce3227e1a12efde0fdbca220d48d3e17038992b6", func := "stepstone/stepstonelaw16.YfastNil", spec := "yfastNil", unfollowed := true, recurses := true, apart := false }
def YfastNilSaid : Prop := yfastNilRow.holds Tryz.pinned (OpenSpec.ofChange yfastNilSpec)

/-- ITS FALSE NEIGHBOUR: 'it returns false'. Refute it at one input. -/
def yfastNilWrong : ChangeSpec := { name := "yfastNil", fn := fun _ => fun
  | [d1, d2, d3] => { results := [.lit (.bool false)], args := [d1, d2, d3] }
  | _ => none }
def YfastNilWrongFalsely : Prop := yfastNilRow.holds Tryz.pinned (OpenSpec.ofChange yfastNilWrong)

/-- 'stepstonelaw16.YfastShrinks': WHATEVER THE INPUT: true; the input reads as it did. -/
def yfastShrinksSpec : ChangeSpec := { name := "yfastShrinks", fn := fun _ => fun
  | [d1, d2, d3, d4] => { results := [.lit (.bool true)], args := [d1, d2, d3, d4] }
  | _ => none }
def yfastShrinksRow : OpenClaim := { program := "ytelfacchhclgnaagreat", sum := "aa9933469aac01afe699a0f1ce3227e1a12efde0fdbca220d48d3e17038992b6", func := "stepstone/stepstonelaw16.YfastShrinks", spec := "yfastShrinks", unfollowed := true, recurses := true, apart := false }
def YfastShrinksSaid : Prop := yfastShrinksRow.holds Tryz.pinned (OpenSpec.ofChange yfastShrinksSpec)

/-- ITS FALSE NEIGHBOUR: 'it returns false'. Refute it at one input. -/
def yfastShrinksWrong : ChangeSpec := { name := "yfastShrinks", fn := fun _ => fun
  | [d1, d2, d3, d4] => { results := [.lit (.bool false)], args := [d1, d2, d3, d4] }
  | _ => none }
def YfastShrinksWrongFalsely : Prop := yfastShrinksRow.holds Tryz.pinned (OpenSpec.ofChange yfastShrinksWrong)

/-- 'stepstonelaw16.YfastSplits': WHATEVER THE INPUT: true; the input reads as it did. -/
def yfastSplitsSpec : ChangeSpec := { name := "yfastSplits", fn := fun _ => fun
  | [d1, d2, d3, d4] => { results := [.lit (.bool true)], args := [d1, d2, d3, d4] }
  | _ => none }
def yfastSplitsRow : OpenClaim := { program := "ytelfacchhclgnaagreat", sum := "aa9933469aac01afe699a0f1ce3227e1a12efde0fdbca220d48d3e17038992b6", func := "stepstone/stepstonelaw16.YfastSplits", spec := "yfastSplits", unfollowed := true, recurses := true, apart := false }
def YfastSplitsSaid : Prop := yfastSplitsRow.holds Tryz.pinned (OpenSpec.ofChange yfastSplitsSpec)

/-- ITS FALSE NEIGHBOUR: 'it returns false'. Refute it at one input. -/
def yfastSplitsWrong : ChangeSpec := { name := "yfastSplits", fn := fun _ => fun
  | [d1, d2, d3, d4] => { results := [.lit (.bool false)], args := [d1, d2, d3, d4] }
  | _ => none }
def YfastSplitsWrongFalsely : Prop := yfastSplitsRow.holds Tryz.pinned (OpenSpec.ofChange yfastSplitsWrong)

/- THE SECOND FORM. 'bulk': how many values and letters a reading holds, each counted each time it is reached (what is shared counts as often as it is met; a slice's spare places count too). A statement '..UptoSaid' is the law's where the arguments, and the package variables that the reading takes, are together of bulk at most 1048576: NARROWER than '..Said'. Prove '..Said' where nothing that the law and all that it calls make is longer than what came in: it says more and counts as full. Else prove '..UptoSaid'. A law counts once. -/
mutual
def uptoBulk {H : Type} : DataW H → Nat
  | .lit (.string bytes) => bytes.length + 1
  | .lit _ => 1
  | .nil => 1
  | .ptr d => uptoBulk d + 1
  | .slice elems spare => uptoBulkAll elems + uptoBulkAll spare + 1
  | .agg parts => uptoBulkAll parts + 1
  | .iface _ d => uptoBulk d + 1
  | .map entries => uptoBulkEntries entries + 1
  | .held _ => 1
def uptoBulkAll {H : Type} : List (DataW H) → Nat
  | [] => 0
  | d :: r => uptoBulk d + uptoBulkAll r
def uptoBulkEntries {H : Type} : List (Lit × DataW H) → Nat
  | [] => 0
  | x :: r => uptoBulkEntry x + uptoBulkEntries r
def uptoBulkEntry {H : Type} : Lit × DataW H → Nat
  | (.string bytes, d) => bytes.length + uptoBulk d + 1
  | (_, d) => uptoBulk d + 1
 end
def uptoSmall : (H : Type) → List (DataW H) → Bool := fun _ ds => decide (uptoBulkAll ds ≤ 1048576)
def OpenSpec.upto (s : _root_.Go.ChangeSpec) : _root_.Go.OpenSpec := { _root_.Go.OpenSpec.ofChange s with cond := some uptoSmall }

/-- 'stepstonelaw16.YfastPlays', WHERE WHAT IT READS IS OF BULK AT MOST 1048576: true; the input reads as it did. -/
def yfastPlaysUptoRow : OpenClaim := { program := "ytelfacchhclgnaagreat", sum := "aa9933469aac01afe699a0f1ce3227e1a12efde0fdbca220d48d3e17038992b6", func := "stepstone/stepstonelaw16.YfastPlays", spec := "yfastPlays", unfollowed := true, recurses := true, apart := false, narrowed := true }
def YfastPlaysUptoSaid : Prop := yfastPlaysUptoRow.holds Tryz.pinned (OpenSpec.upto yfastPlaysSpec)

/-- 'stepstonelaw16.YfastEmpties', WHERE WHAT IT READS IS OF BULK AT MOST 1048576: true; the input reads as it did. -/
def yfastEmptiesUptoRow : OpenClaim := { program := "ytelfacchhclgnaagreat", sum := "aa9933469aac01afe699a0f1ce3227e1a12efde0fdbca220d48d3e17038992b6", func := "stepstone/stepstonelaw16.YfastEmpties", spec := "yfastEmpties", unfollowed := true, recurses := true, apart := false, narrowed := true }
def YfastEmptiesUptoSaid : Prop := yfastEmptiesUptoRow.holds Tryz.pinned (OpenSpec.upto yfastEmptiesSpec)

/-- 'stepstonelaw16.YfastNil', WHERE WHAT IT READS IS OF BULK AT MOST 1048576: true; the input reads as it did. -/
def yfastNilUptoRow : OpenClaim := { program := "ytelfacchhclgnaagreat", sum := "aa9933469aac01afe699a0f1ce3227e1a12efde0fdbca220d48d3e17038992b6", func := "stepstone/stepstonelaw16.YfastNil", spec := "yfastNil", unfollowed := true, recurses := true, apart := false, narrowed := true }
def YfastNilUptoSaid : Prop := yfastNilUptoRow.holds Tryz.pinned (OpenSpec.upto yfastNilSpec)

/-- 'stepstonelaw16.YfastShrinks', WHERE WHAT IT READS IS OF BULK AT MOST 1048576: true; the input reads as it did. -/
def yfastShrinksUptoRow : OpenClaim := { program := "ytelfacchhclgnaagreat", sum := "aa9933469aac01afe699a0f1ce3227e1a12efde0fdbca220d48d3e17038992b6", func := "stepstone/stepstonelaw16.YfastShrinks", spec := "yfastShrinks", unfollowed := true, recurses := true, apart := false, narrowed := true }
def YfastShrinksUptoSaid : Prop := yfastShrinksUptoRow.holds Tryz.pinned (OpenSpec.upto yfastShrinksSpec)

/-- 'stepstonelaw16.YfastSplits', WHERE WHAT IT READS IS OF BULK AT MOST 1048576: true; the input reads as it did. -/
def yfastSplitsUptoRow : OpenClaim := { program := "ytelfacchhclgnaagreat", sum := "aa9933469aac01afe699a0f1ce3227e1a12efde0fdbca220d48d3e17038992b6", func := "stepstone/stepstonelaw16.YfastSplits", spec := "yfastSplits", unfollowed := true, recurses := true, apart := false, narrowed := true }
def YfastSplitsUptoSaid : Prop := yfastSplitsUptoRow.holds Tryz.pinned (OpenSpec.upto yfastSplitsSpec)

end Rows
end Go.Proofs.YtelfacchhclgnaaGreat
