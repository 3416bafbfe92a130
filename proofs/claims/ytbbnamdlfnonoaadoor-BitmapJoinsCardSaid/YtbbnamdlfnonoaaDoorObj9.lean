
/- The closures of Fill and Wipe. -/
import Derived.Test.YtbbnamdlfnonoaaDoorObj8
namespace Go.Proofs.YtbbnamdlfnonoaaDoor
open Go.RowKit
theorem c_fill (w : World) (x m : Nat) (hx : x < 18446744073709551616) (hm : m < 18446744073709551616) :
    Calls Tryd.prog 76 #[.int .u64 (x : Int), .int .u64 (m : Int)] w fun e w' => e = .returned (.int .u64 ((x ||| m : Nat) : Int)) ∧ w = w' := by
  go_enter Tryd.func76, Tryd.ntmps76
  go_wp2
  go_ret
  exact ⟨ret_int (u64_or_nat x _ hx hm), rfl⟩
theorem c_wipe (w : World) (x m : Nat) (hx : x < 18446744073709551616) (hm : m < 18446744073709551616) :
    Calls Tryd.prog 77 #[.int .u64 (x : Int), .int .u64 (m : Int)] w fun e w' => e = .returned (.int .u64 ((x &&& (18446744073709551615 - m) : Nat) : Int)) ∧ w = w' := by
  go_enter Tryd.func77, Tryd.ntmps77
  go_wp2
  go_ret
  exact ⟨ret_int (u64_andNot_nat x _ hx hm), rfl⟩
end Go.Proofs.YtbbnamdlfnonoaaDoor
