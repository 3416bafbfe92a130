
/- The document's lists of keys (stepstoneref11): a list with a key, apart; the text walked. -/
import Derived.Test.YtihhkdcgnnfkkaaK3
namespace Go.Proofs.Ytihhkdcgnnfkkaa
set_option maxRecDepth 4000
open Go.RowKit
end Go.Proofs.Ytihhkdcgnnfkkaa
