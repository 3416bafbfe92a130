
/- All of a strip, as the law's own function 'all' takes it. -/
import Derived.Test.YtnpdndcgmfhbdaaDoorGStrip
import Derived.Maps.OwnIn
namespace Go.Proofs.YtnpdndcgmfhbdaaDoor
open Go.RowKit Go.Shelf
theorem strip_all_any (p : Option Addr) (w : World) :
    Calls Tryd.prog 21 #[.pointer p] w fun e w' => e = .returned (.func (.func 33) #[] #[.pointer (some ⟨w.heap.size, 0, none⟩)]) ∧ w' = w.alloc (.cells #[.pointer p] 24) := by
  go_enter Tryd.func21, Tryd.ntmps21
  go_wp2
  go_ret
  exact ⟨rfl, rfl⟩
end Go.Proofs.YtnpdndcgmfhbdaaDoor
