/-
  DERIVED. GIVEN WITH THE SEED: THE CARDS: each row of YtlmpkpidfkbckaaDoorRows.lean that lists a variable, with what it lists TIED to the program's text (the seventh form; the later family's looks); each row that meets fmt, with fmt's text TOLD by the authors' own Lean function (tested against real Go, not proved from fmt's source: count such statements apart). THE CARD IS WHAT COUNTS. Prove the row's statement (the work); the ties are given (YtlmpkpidfkbckaaDoorTie.lean); close each card by the builder's one call (the guide's Derived/Test/ToyasCard.lean, 'card_holds'). Laid BY PROGRAM, IN A SANDBOX (cutbox-door.mjs). By AI agents, Wed Nov 11 2026. No macro, syntax, notation, axiom, sorry.
-/
import Derived.Test.YtlmpkpidfkbckaaDoorRows
import GoSem.ClaimSeven
namespace Go.Proofs.YtlmpkpidfkbckaaDoor
namespace Rows

/-- THE TIED CARD OF 'stepstonelaw12.VebNil'. -/
def vebNilCard : Claim7 := { stood := { row := vebNilRow, standIns := [], harness := (true, "2c21c3a8c3dfa964c55ea1b9d99b600411c34af60527833f39b45771b7afa927"), looks := false }, kinds := [], alts := [], laidByText := true, laidKinds := [.data], laidTests := true, laidLooks := .later }
def VebNilCardSaid : Prop := Claim7.holds Tryd.pinned (.plain (OpenSpec.ofChange vebNilSpec)) vebNilCard

/-- THE SECOND FORM's CARD OF 'stepstonelaw12.VebNil'. -/
def vebNilUptoCard : Claim7 := { stood := { row := vebNilUptoRow, standIns := [], harness := (true, "2c21c3a8c3dfa964c55ea1b9d99b600411c34af60527833f39b45771b7afa927"), looks := false }, kinds := [], alts := [], laidByText := true, laidKinds := [.data], laidTests := true, laidLooks := .later }
def VebNilUptoCardSaid : Prop := Claim7.holds Tryd.pinned (.plain (OpenSpec.upto vebNilSpec)) vebNilUptoCard
end Rows
end Go.Proofs.YtlmpkpidfkbckaaDoor
