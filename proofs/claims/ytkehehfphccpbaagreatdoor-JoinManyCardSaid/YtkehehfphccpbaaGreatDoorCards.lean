/-
  DERIVED. GIVEN WITH THE SEED: THE CARDS: each row of YtkehehfphccpbaaGreatDoorRows.lean that lists a variable, with what it lists TIED to the program's text (the seventh form; the later family's looks); each row that meets fmt, with fmt's text TOLD by the authors' own Lean function (tested against real Go, not proved from fmt's source: count such statements apart). THE CARD IS WHAT COUNTS. Prove the row's statement (the work); the ties are given (YtkehehfphccpbaaGreatDoorTie.lean); close each card by the builder's one call (the guide's Derived/Test/ToyasCard.lean, 'card_holds'). Laid BY PROGRAM, IN A SANDBOX (cutbox-door.mjs). By AI agents, Wed Nov 11 2026. No macro, syntax, notation, axiom, sorry.
-/
import Derived.Test.YtkehehfphccpbaaGreatDoorRows
import GoSem.ClaimSeven
namespace Go.Proofs.YtkehehfphccpbaaGreatDoor
namespace Rows

/-- THE TIED CARD OF 'stepstonelaw10.JoinMakes'. -/
def joinMakesCard : Claim7 := { stood := { row := joinMakesRow, standIns := [], harness := (true, "53b67bdc47f06bba6d8e71a4b845c50a5333e81d784b642f11ed3a6a587fda8b"), looks := true }, kinds := [], alts := [], laidByText := true, laidKinds := [.data], laidTests := true, laidLooks := .later }
def JoinMakesCardSaid : Prop := Claim7.holds Tryz.pinned (.plain (OpenSpec.ofChange joinMakesSpec)) joinMakesCard

/-- THE TIED CARD OF 'stepstonelaw10.JoinMany'. -/
def joinManyCard : Claim7 := { stood := { row := joinManyRow, standIns := [], harness := (true, "53b67bdc47f06bba6d8e71a4b845c50a5333e81d784b642f11ed3a6a587fda8b"), looks := true }, kinds := [], alts := [], laidByText := true, laidKinds := [.data], laidTests := true, laidLooks := .later }
def JoinManyCardSaid : Prop := Claim7.holds Tryz.pinned (.plain (OpenSpec.ofChange joinManySpec)) joinManyCard

/-- THE TIED CARD OF 'stepstonelaw10.JoinLaws'. -/
def joinLawsCard : Claim7 := { stood := { row := joinLawsRow, standIns := [], harness := (true, "53b67bdc47f06bba6d8e71a4b845c50a5333e81d784b642f11ed3a6a587fda8b"), looks := true }, kinds := [], alts := [], laidByText := true, laidKinds := [.data], laidTests := true, laidLooks := .later }
def JoinLawsCardSaid : Prop := Claim7.holds Tryz.pinned (.plain (OpenSpec.ofChange joinLawsSpec)) joinLawsCard

/-- THE SECOND FORM's CARD OF 'stepstonelaw10.JoinMakes'. -/
def joinMakesUptoCard : Claim7 := { stood := { row := joinMakesUptoRow, standIns := [], harness := (true, "53b67bdc47f06bba6d8e71a4b845c50a5333e81d784b642f11ed3a6a587fda8b"), looks := true }, kinds := [], alts := [], laidByText := true, laidKinds := [.data], laidTests := true, laidLooks := .later }
def JoinMakesUptoCardSaid : Prop := Claim7.holds Tryz.pinned (.plain (OpenSpec.upto joinMakesSpec)) joinMakesUptoCard

/-- THE SECOND FORM's CARD OF 'stepstonelaw10.JoinMany'. -/
def joinManyUptoCard : Claim7 := { stood := { row := joinManyUptoRow, standIns := [], harness := (true, "53b67bdc47f06bba6d8e71a4b845c50a5333e81d784b642f11ed3a6a587fda8b"), looks := true }, kinds := [], alts := [], laidByText := true, laidKinds := [.data], laidTests := true, laidLooks := .later }
def JoinManyUptoCardSaid : Prop := Claim7.holds Tryz.pinned (.plain (OpenSpec.upto joinManySpec)) joinManyUptoCard

/-- THE SECOND FORM's CARD OF 'stepstonelaw10.JoinLaws'. -/
def joinLawsUptoCard : Claim7 := { stood := { row := joinLawsUptoRow, standIns := [], harness := (true, "53b67bdc47f06bba6d8e71a4b845c50a5333e81d784b642f11ed3a6a587fda8b"), looks := true }, kinds := [], alts := [], laidByText := true, laidKinds := [.data], laidTests := true, laidLooks := .later }
def JoinLawsUptoCardSaid : Prop := Claim7.holds Tryz.pinned (.plain (OpenSpec.upto joinLawsSpec)) joinLawsUptoCard
end Rows
end Go.Proofs.YtkehehfphccpbaaGreatDoor
