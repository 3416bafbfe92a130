
/- Prev, the text walked. -/
import Derived.Test.YtnpdndcgmfhbdaaDoorObj6
namespace Go.Proofs.YtnpdndcgmfhbdaaDoor
open Go.RowKit
end Go.Proofs.YtnpdndcgmfhbdaaDoor
