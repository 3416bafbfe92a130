
/- Equal, and whether strips are alike, the text walked. -/
import Derived.Test.YtbbnamdlfnonoaaDoorObjB
namespace Go.Proofs.YtbbnamdlfnonoaaDoor
open Go.RowKit
theorem St.rw_ {w : World} {s h : Nat} {ws : List Nat} (a : St w s h ws) : Rw w w.heap.size (some ⟨h, 0, none⟩) ws := fun _ =>
  ⟨h, 0, rfl, a.lt.2, fun k hk => by rw [Nat.zero_add]; exact a.cell k hk⟩
end Go.Proofs.YtbbnamdlfnonoaaDoor
