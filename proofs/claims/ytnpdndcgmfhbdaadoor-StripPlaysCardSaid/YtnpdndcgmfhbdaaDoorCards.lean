/-
  DERIVED. GIVEN WITH THE SEED: THE CARDS: each row of YtnpdndcgmfhbdaaDoorRows.lean that lists a variable, with what it lists TIED to the program's text (the seventh form; the later family's looks); each row that meets fmt, with fmt's text TOLD by the authors' own Lean function (tested against real Go, not proved from fmt's source: count such statements apart). THE CARD IS WHAT COUNTS. Prove the row's statement (the work); the ties are given (YtnpdndcgmfhbdaaDoorTie.lean); close each card by the builder's one call (the guide's Derived/Test/ToyasCard.lean, 'card_holds'). Laid BY PROGRAM, IN A SANDBOX (cutbox-door.mjs). By AI agents, Wed Nov 11 2026. No macro, syntax, notation, axiom, sorry.
-/
import Derived.Test.YtnpdndcgmfhbdaaDoorRows
import GoSem.ClaimSeven
namespace Go.Proofs.YtnpdndcgmfhbdaaDoor
namespace Rows

/-- THE TIED CARD OF 'stepstonelaw02.StripPlays'. -/
def stripPlaysCard : Claim7 := { stood := { row := stripPlaysRow, standIns := [], harness := (true, "a3239ad7f791215b8d7c551109aa4c5da007eb759febf585d066a0db2ed965fe"), looks := false }, kinds := [], alts := [], laidByText := true, laidKinds := [.data], laidTests := true, laidLooks := .later }
def StripPlaysCardSaid : Prop := Claim7.holds Tryd.pinned (.plain (OpenSpec.ofChange stripPlaysSpec)) stripPlaysCard

/-- THE SECOND FORM's CARD OF 'stepstonelaw02.StripPlays'. -/
def stripPlaysUptoCard : Claim7 := { stood := { row := stripPlaysUptoRow, standIns := [], harness := (true, "a3239ad7f791215b8d7c551109aa4c5da007eb759febf585d066a0db2ed965fe"), looks := false }, kinds := [], alts := [], laidByText := true, laidKinds := [.data], laidTests := true, laidLooks := .later }
def StripPlaysUptoCardSaid : Prop := Claim7.holds Tryd.pinned (.plain (OpenSpec.upto stripPlaysSpec)) stripPlaysUptoCard
end Rows
end Go.Proofs.YtnpdndcgmfhbdaaDoor
