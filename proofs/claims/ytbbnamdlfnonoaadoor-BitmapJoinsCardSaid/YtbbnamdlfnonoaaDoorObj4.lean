
/- Rank, Next, Prev. -/
import Derived.Test.YtbbnamdlfnonoaaDoorObj3
import Derived.LoopTactic
namespace Go.Proofs.YtbbnamdlfnonoaaDoor
open Go.RowKit
theorem s_rank_nil (w : World) (i : Int) : Calls Tryd.prog 51 #[.pointer none, .int .i64 i] w fun e w' => e = .returned (.int .i64 0) ∧ w = w' := by
  go_enter Tryd.func51, Tryd.ntmps51
  go_wp2_with (go_at_call 67; refine (s_bits_nil _).mono ?_; rintro e w' ⟨rfl, rfl⟩)
  go_loop [5, 6] (fun m a => m = .int .i64 0 ∧ a = .int .i64 0) (fun _ _ => 0)
  case atStart => exact ⟨rfl, rfl⟩
  case round =>
    obtain ⟨rfl, rfl⟩ := hrel
    have hT : ¬ 0 < min i 0 := by omega
    have hT2 : decide (0 < min i 0) = false := decide_eq_false hT
    go_wp2
    refine bodyPost_ret (results_tmp (t := 4) rfl _ _ _) rfl ?_
    exact ⟨rfl, rfl⟩
theorem s_next_nil (w : World) (i : Int) (hi : i ≤ 9223372036854775807) : Calls Tryd.prog 49 #[.pointer none, .int .i64 i] w fun e w' => e = .returned (.int .i64 (-1)) ∧ w = w' := by
  have q1 : 0 ≤ max i 0 / 64 := by omega
  have q2 : max i 0 / 64 * 64 ≤ 9223372036854775807 := by omega
  have q3 : IntKind.i64.wrap ((max i 0).tdiv 64) = max i 0 / 64 := IntWalk.i64_quo _ _ (by omega)
  have q4 : IntKind.i64.wrap (max i 0 / 64) = max i 0 / 64 := IntWalk.i64_in _ (by omega)
  have q5 : decide (max i 0 / 64 * 64 < 0) = false := decide_eq_false (by omega)
  have q6 : IntKind.i64.wrap (max i 0 / 64 * 64) = max i 0 / 64 * 64 := IntWalk.i64_in _ (by omega)
  generalize max i 0 / 64 = q at *
  go_enter Tryd.func49, Tryd.ntmps49
  go_wp2_with (go_at_call 67; refine (s_bits_nil _).mono ?_; rintro e w' ⟨rfl, rfl⟩)
  go_loop [5] (fun a => a = .int .i64 q) (fun _ => 0)
  case atStart => rfl
  case round =>
    obtain rfl := hrel
    go_wp2_with (go_at_call 67; refine (s_bits_nil _).mono ?_; rintro e w' ⟨rfl, rfl⟩)
    refine bodyPost_ret (results_tmp (t := 4) rfl _ _ _) rfl ?_
    exact ⟨rfl, rfl⟩
theorem s_prev_nil (w : World) (i : Int) : Calls Tryd.prog 50 #[.pointer none, .int .i64 i] w fun e w' => e = .returned (.int .i64 (-1)) ∧ w = w' := by
  go_enter Tryd.func50, Tryd.ntmps50
  go_wp2_with (go_at_call 67; refine (s_bits_nil _).mono ?_; rintro e w' ⟨rfl, rfl⟩)
  refine bodyPost_ret (results_tmp (t := 4) rfl _ _ _) rfl ?_
  exact ⟨rfl, rfl⟩
theorem s_count_nil (w : World) : Calls Tryd.prog 44 #[.pointer none] w fun e w' => e = .returned (.int .i64 0) ∧ w = w' := by
  go_enter Tryd.func44, Tryd.ntmps44
  go_wp2_with (first
    | (go_at_call 67; refine (s_bits_nil _).mono ?_; rintro e w' ⟨rfl, rfl⟩)
    | (go_at_call 51; refine (s_rank_nil _ _).mono ?_; rintro e w' ⟨rfl, rfl⟩))
  go_ret
  exact ⟨rfl, rfl⟩
theorem s_of_no (w : World) (a : Option Addr) (n c : Nat) (hn : 4096 < n) : Calls Tryd.prog 81 #[.slice a n c] w fun e w' => e = .returned (.tuple #[.pointer none, .int .i64 1]) ∧ w = w' := by
  go_enter Tryd.func81, Tryd.ntmps81
  go_wp2_with (go_at_call 62; refine (s_new_no _ _ (by omega)).mono ?_; rintro e w' ⟨rfl, rfl⟩)
  go_ret2
  exact ⟨rfl, rfl⟩
theorem s_change_nil (w : World) (i j : Int) (f : Value) (hi : i ≤ 9223372036854775807) : Calls Tryd.prog 75 #[.pointer none, .int .i64 i, .int .i64 j, f] w fun e w' => e = .returned (.int .i64 0) ∧ w = w' := by
  have q1 : 0 ≤ max i 0 / 64 := by omega
  have q2 : max i 0 / 64 * 64 ≤ 9223372036854775807 := by omega
  have q3 : IntKind.i64.wrap ((max i 0).tdiv 64) = max i 0 / 64 := IntWalk.i64_quo _ _ (by omega)
  have q4 : IntKind.i64.wrap (max i 0 / 64) = max i 0 / 64 := IntWalk.i64_in _ (by omega)
  have q6 : IntKind.i64.wrap (max i 0 / 64 * 64) = max i 0 / 64 * 64 := IntWalk.i64_in _ (by omega)
  have q5 : decide (max i 0 / 64 * 64 < min j 0) = false := decide_eq_false (by omega)
  generalize max i 0 / 64 = q at *
  go_enter Tryd.func75, Tryd.ntmps75
  go_wp2_with (go_at_call 67; refine (s_bits_nil _).mono ?_; rintro e w' ⟨rfl, rfl⟩)
  go_loop [9, 10] (fun m a => m = .int .i64 0 ∧ a = .int .i64 q) (fun _ _ => 0)
  case atStart => exact ⟨rfl, rfl⟩
  case round =>
    obtain ⟨rfl, rfl⟩ := hrel
    go_wp2
    refine bodyPost_ret (results_tmp (t := 8) rfl _ _ _) rfl ?_
    exact ⟨rfl, rfl⟩
theorem s_fill_nil (w : World) (i j : Int) (hi : i ≤ 9223372036854775807) : Calls Tryd.prog 53 #[.pointer none, .int .i64 i, .int .i64 j] w fun e w' => e = .returned (.int .i64 0) ∧ w = w' := by
  go_enter Tryd.func53, Tryd.ntmps53
  go_wp2_with (go_at_call 75; refine (s_change_nil _ _ _ _ hi).mono ?_; rintro e w' ⟨rfl, rfl⟩)
  go_ret
  exact ⟨rfl, rfl⟩
theorem s_wipe_nil (w : World) (i j : Int) (hi : i ≤ 9223372036854775807) : Calls Tryd.prog 54 #[.pointer none, .int .i64 i, .int .i64 j] w fun e w' => e = .returned (.int .i64 0) ∧ w = w' := by
  go_enter Tryd.func54, Tryd.ntmps54
  go_wp2_with (go_at_call 75; refine (s_change_nil _ _ _ _ hi).mono ?_; rintro e w' ⟨rfl, rfl⟩)
  go_ret
  exact ⟨rfl, rfl⟩
end Go.Proofs.YtbbnamdlfnonoaaDoor
