
/- A new row of given numbers. -/
import Derived.Test.YtlinoambdlkfjaaGreatBList
namespace Go.Proofs.YtlinoambdlkfjaaGreat
open Go.RowKit
theorem rh_new (w : World) (xs : List Int) : Rh (w.alloc (.cells (hv xs).toArray 50)) (w.heap.size + 1) (some ⟨w.heap.size, 0, none⟩) xs :=
  fun _ => ⟨w.heap.size, 0, rfl, by omega, fun k h => by
    rw [Nat.zero_add, World.cell?_alloc_new]
    simp [hv, h]⟩
end Go.Proofs.YtlinoambdlkfjaaGreat
