/-
  DERIVED. GIVEN WITH THE SEED: THE CARDS: each row of YtbbnamdlfnonoaaDoorRows.lean that lists a variable, with what it lists TIED to the program's text (the seventh form; the later family's looks); each row that meets fmt, with fmt's text TOLD by the authors' own Lean function (tested against real Go, not proved from fmt's source: count such statements apart). THE CARD IS WHAT COUNTS. Prove the row's statement (the work); the ties are given (YtbbnamdlfnonoaaDoorTie.lean); close each card by the builder's one call (the guide's Derived/Test/ToyasCard.lean, 'card_holds'). Laid BY PROGRAM, IN A SANDBOX (cutbox-door.mjs). By AI agents, Wed Nov 11 2026. No macro, syntax, notation, axiom, sorry.
-/
import Derived.Test.YtbbnamdlfnonoaaDoorRows
import GoSem.ClaimSeven
namespace Go.Proofs.YtbbnamdlfnonoaaDoor
namespace Rows

/-- THE TIED CARD OF 'stepstonelaw07.BitmapPlays'. -/
def bitmapPlaysCard : Claim7 := { stood := { row := bitmapPlaysRow, standIns := [], harness := (true, "53783d6f8c62d30c2a7455291fe845aa9261019f29b1cc60d436e47d5f7d4bd9"), looks := false }, kinds := [], alts := [], laidByText := true, laidKinds := [.data], laidTests := true, laidLooks := .later }
def BitmapPlaysCardSaid : Prop := Claim7.holds Tryd.pinned (.plain (OpenSpec.ofChange bitmapPlaysSpec)) bitmapPlaysCard

/-- THE TIED CARD OF 'stepstonelaw07.BitmapAsks'. -/
def bitmapAsksCard : Claim7 := { stood := { row := bitmapAsksRow, standIns := [], harness := (true, "53783d6f8c62d30c2a7455291fe845aa9261019f29b1cc60d436e47d5f7d4bd9"), looks := false }, kinds := [], alts := [], laidByText := true, laidKinds := [.data], laidTests := true, laidLooks := .later }
def BitmapAsksCardSaid : Prop := Claim7.holds Tryd.pinned (.plain (OpenSpec.ofChange bitmapAsksSpec)) bitmapAsksCard

/-- THE TIED CARD OF 'stepstonelaw07.BitmapJoins'. -/
def bitmapJoinsCard : Claim7 := { stood := { row := bitmapJoinsRow, standIns := [], harness := (true, "53783d6f8c62d30c2a7455291fe845aa9261019f29b1cc60d436e47d5f7d4bd9"), looks := false }, kinds := [], alts := [], laidByText := true, laidKinds := [.data], laidTests := true, laidLooks := .later }
def BitmapJoinsCardSaid : Prop := Claim7.holds Tryd.pinned (.plain (OpenSpec.ofChange bitmapJoinsSpec)) bitmapJoinsCard

/-- THE TIED CARD OF 'stepstonelaw07.BitmapMakes'. -/
def bitmapMakesCard : Claim7 := { stood := { row := bitmapMakesRow, standIns := [], harness := (true, "53783d6f8c62d30c2a7455291fe845aa9261019f29b1cc60d436e47d5f7d4bd9"), looks := false }, kinds := [], alts := [], laidByText := true, laidKinds := [.data], laidTests := true, laidLooks := .later }
def BitmapMakesCardSaid : Prop := Claim7.holds Tryd.pinned (.plain (OpenSpec.ofChange bitmapMakesSpec)) bitmapMakesCard

/-- THE TIED CARD OF 'stepstonelaw07.BitmapInverse'. -/
def bitmapInverseCard : Claim7 := { stood := { row := bitmapInverseRow, standIns := [], harness := (true, "53783d6f8c62d30c2a7455291fe845aa9261019f29b1cc60d436e47d5f7d4bd9"), looks := false }, kinds := [], alts := [], laidByText := true, laidKinds := [.data], laidTests := true, laidLooks := .later }
def BitmapInverseCardSaid : Prop := Claim7.holds Tryd.pinned (.plain (OpenSpec.ofChange bitmapInverseSpec)) bitmapInverseCard

/-- THE SECOND FORM's CARD OF 'stepstonelaw07.BitmapPlays'. -/
def bitmapPlaysUptoCard : Claim7 := { stood := { row := bitmapPlaysUptoRow, standIns := [], harness := (true, "53783d6f8c62d30c2a7455291fe845aa9261019f29b1cc60d436e47d5f7d4bd9"), looks := false }, kinds := [], alts := [], laidByText := true, laidKinds := [.data], laidTests := true, laidLooks := .later }
def BitmapPlaysUptoCardSaid : Prop := Claim7.holds Tryd.pinned (.plain (OpenSpec.upto bitmapPlaysSpec)) bitmapPlaysUptoCard

/-- THE SECOND FORM's CARD OF 'stepstonelaw07.BitmapAsks'. -/
def bitmapAsksUptoCard : Claim7 := { stood := { row := bitmapAsksUptoRow, standIns := [], harness := (true, "53783d6f8c62d30c2a7455291fe845aa9261019f29b1cc60d436e47d5f7d4bd9"), looks := false }, kinds := [], alts := [], laidByText := true, laidKinds := [.data], laidTests := true, laidLooks := .later }
def BitmapAsksUptoCardSaid : Prop := Claim7.holds Tryd.pinned (.plain (OpenSpec.upto bitmapAsksSpec)) bitmapAsksUptoCard

/-- THE SECOND FORM's CARD OF 'stepstonelaw07.BitmapJoins'. -/
def bitmapJoinsUptoCard : Claim7 := { stood := { row := bitmapJoinsUptoRow, standIns := [], harness := (true, "53783d6f8c62d30c2a7455291fe845aa9261019f29b1cc60d436e47d5f7d4bd9"), looks := false }, kinds := [], alts := [], laidByText := true, laidKinds := [.data], laidTests := true, laidLooks := .later }
def BitmapJoinsUptoCardSaid : Prop := Claim7.holds Tryd.pinned (.plain (OpenSpec.upto bitmapJoinsSpec)) bitmapJoinsUptoCard

/-- THE SECOND FORM's CARD OF 'stepstonelaw07.BitmapMakes'. -/
def bitmapMakesUptoCard : Claim7 := { stood := { row := bitmapMakesUptoRow, standIns := [], harness := (true, "53783d6f8c62d30c2a7455291fe845aa9261019f29b1cc60d436e47d5f7d4bd9"), looks := false }, kinds := [], alts := [], laidByText := true, laidKinds := [.data], laidTests := true, laidLooks := .later }
def BitmapMakesUptoCardSaid : Prop := Claim7.holds Tryd.pinned (.plain (OpenSpec.upto bitmapMakesSpec)) bitmapMakesUptoCard

/-- THE SECOND FORM's CARD OF 'stepstonelaw07.BitmapInverse'. -/
def bitmapInverseUptoCard : Claim7 := { stood := { row := bitmapInverseUptoRow, standIns := [], harness := (true, "53783d6f8c62d30c2a7455291fe845aa9261019f29b1cc60d436e47d5f7d4bd9"), looks := false }, kinds := [], alts := [], laidByText := true, laidKinds := [.data], laidTests := true, laidLooks := .later }
def BitmapInverseUptoCardSaid : Prop := Claim7.holds Tryd.pinned (.plain (OpenSpec.upto bitmapInverseSpec)) bitmapInverseUptoCard
end Rows
end Go.Proofs.YtbbnamdlfnonoaaDoor
