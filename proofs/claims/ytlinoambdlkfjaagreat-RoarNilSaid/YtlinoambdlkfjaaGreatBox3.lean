
/- What one is told through the interface: the forms. -/
import Derived.Test.YtlinoambdlkfjaaGreatBox2
import Derived.Test.YtlinoambdlkfjaaGreatArrU
namespace Go.Proofs.YtlinoambdlkfjaaGreat
set_option maxRecDepth 40000
open Go.RowKit
/-- Answers: a truth, a number, a number that there may be. -/
def AskB (w : World) (b : Bool) (e : Ending) (w' : World) : Prop := e = .returned (.bool b) ∧ Below w.heap.size w w'
def AskI (w : World) (i : Int) (e : Ending) (w' : World) : Prop := e = .returned (.int .i64 i) ∧ Below w.heap.size w w'
def AskP (w : World) (i : Int) (e : Ending) (w' : World) : Prop := ∃ (x : Int) (b : Bool), e = .returned (.tuple #[.int .u16 x, .bool b]) ∧ 0 ≤ x ∧ x ≤ 65535 ∧ (if b then x else -1) = i ∧ Below w.heap.size w w'
theorem rHas_mem {xs : List Int} {v : Int} : M.rHas xs v = true ↔ v ∈ xs := by
  unfold M.rHas; simp
end Go.Proofs.YtlinoambdlkfjaaGreat
