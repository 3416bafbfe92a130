
/- A nil bitmap's methods; the text walked. -/
import Derived.Test.YtbbnamdlfnonoaaDoorBJoinR
namespace Go.Proofs.YtbbnamdlfnonoaaDoor
open Go.RowKit Go.Shelf
theorem number_neg (w : World) : Calls Tryd.prog 48 #[.int .i64 (-1)] w fun e w' => e = .returned (.tuple #[.int .u16 0, .bool false]) ∧ w = w' := by
  have h := number_any w (-1) (by omega)
  unfold numV at h
  rwa [if_pos (by omega)] at h
theorem n_has (w : World) (v : Nat) (hv : v ≤ 65535) : Calls Tryd.prog 17 #[.pointer none, .int .u16 (v : Int)] w fun e w' => e = .returned (.bool false) ∧ w = w' := by
  have w1 := i64_small v hv
  go_enter Tryd.func17, Tryd.ntmps17
  go_wp2_with (first
    | (go_at_call 43; (with_reducible refine (kept_nil _).mono ?_); rintro e w' ⟨rfl, rfl⟩)
    | (go_at_call 47; (with_reducible refine (s_get_nil _ _).mono ?_); rintro e w' ⟨rfl, rfl⟩)
    | (go_at_call 48; (with_reducible refine (number_neg _).mono ?_); rintro e w' ⟨rfl, rfl⟩))
  go_ret
  exact ⟨rfl, rfl⟩
theorem n_add (w : World) (v : Nat) (hv : v ≤ 65535) : Calls Tryd.prog 29 #[.pointer none, .int .u16 (v : Int)] w fun e w' => e = .returned (.bool false) ∧ w = w' := by
  have w1 := i64_small v hv
  go_enter Tryd.func29, Tryd.ntmps29
  go_wp2_with (first
    | (go_at_call 43; (with_reducible refine (kept_nil _).mono ?_); rintro e w' ⟨rfl, rfl⟩)
    | (go_at_call 55; (with_reducible refine (s_set_nil _ _).mono ?_); rintro e w' ⟨rfl, rfl⟩)
    | (go_at_call 48; (with_reducible refine (number_neg _).mono ?_); rintro e w' ⟨rfl, rfl⟩))
  go_ret
  exact ⟨rfl, rfl⟩
theorem n_drop (w : World) (v : Nat) (hv : v ≤ 65535) : Calls Tryd.prog 30 #[.pointer none, .int .u16 (v : Int)] w fun e w' => e = .returned (.bool false) ∧ w = w' := by
  have w1 := i64_small v hv
  go_enter Tryd.func30, Tryd.ntmps30
  go_wp2_with (first
    | (go_at_call 43; (with_reducible refine (kept_nil _).mono ?_); rintro e w' ⟨rfl, rfl⟩)
    | (go_at_call 56; (with_reducible refine (s_clear_nil _ _).mono ?_); rintro e w' ⟨rfl, rfl⟩)
    | (go_at_call 48; (with_reducible refine (number_neg _).mono ?_); rintro e w' ⟨rfl, rfl⟩))
  go_ret
  exact ⟨rfl, rfl⟩
theorem n_fill (w : World) (v : Nat) (hv : v ≤ 65535) : Calls Tryd.prog 27 #[.pointer none, .int .u16 0, .int .u16 (v : Int)] w fun e w' => e = .returned (.int .i64 0) ∧ w = w' := by
  have w1 := i64_small v hv
  have w0 : IntKind.i64.wrap 0 = 0 := by decide
  have w3 : IntKind.i64.wrap ((v : Int) + 1) = (v : Int) + 1 := IntWalk.i64_in _ (by omega)
  go_enter Tryd.func27, Tryd.ntmps27
  go_wp2_with (first
    | (go_at_call 43; (with_reducible refine (kept_nil _).mono ?_); rintro e w' ⟨rfl, rfl⟩)
    | (go_at_call 53; (with_reducible refine (s_fill_nil _ _ _ (by omega)).mono ?_); rintro e w' ⟨rfl, rfl⟩)
    | (go_at_call 48; (with_reducible refine (number_neg _).mono ?_); rintro e w' ⟨rfl, rfl⟩))
  go_ret
  exact ⟨rfl, rfl⟩
theorem n_wipe (w : World) (v : Nat) (hv : v ≤ 65535) : Calls Tryd.prog 28 #[.pointer none, .int .u16 0, .int .u16 (v : Int)] w fun e w' => e = .returned (.int .i64 0) ∧ w = w' := by
  have w1 := i64_small v hv
  have w0 : IntKind.i64.wrap 0 = 0 := by decide
  have w3 : IntKind.i64.wrap ((v : Int) + 1) = (v : Int) + 1 := IntWalk.i64_in _ (by omega)
  go_enter Tryd.func28, Tryd.ntmps28
  go_wp2_with (first
    | (go_at_call 43; (with_reducible refine (kept_nil _).mono ?_); rintro e w' ⟨rfl, rfl⟩)
    | (go_at_call 54; (with_reducible refine (s_wipe_nil _ _ _ (by omega)).mono ?_); rintro e w' ⟨rfl, rfl⟩)
    | (go_at_call 48; (with_reducible refine (number_neg _).mono ?_); rintro e w' ⟨rfl, rfl⟩))
  go_ret
  exact ⟨rfl, rfl⟩
theorem n_len (w : World) : Calls Tryd.prog 13 #[.pointer none] w fun e w' => e = .returned (.int .i64 0) ∧ w = w' := by
  go_enter Tryd.func13, Tryd.ntmps13
  go_wp2_with (first
    | (go_at_call 43; (with_reducible refine (kept_nil _).mono ?_); rintro e w' ⟨rfl, rfl⟩)
    | (go_at_call 44; (with_reducible refine (s_count_nil _).mono ?_); rintro e w' ⟨rfl, rfl⟩)
    | (go_at_call 48; (with_reducible refine (number_neg _).mono ?_); rintro e w' ⟨rfl, rfl⟩))
  go_ret
  exact ⟨rfl, rfl⟩
theorem n_rank (w : World) (v : Nat) (hv : v ≤ 65535) : Calls Tryd.prog 23 #[.pointer none, .int .u16 (v : Int)] w fun e w' => e = .returned (.int .i64 0) ∧ w = w' := by
  have w1 := i64_small v hv
  go_enter Tryd.func23, Tryd.ntmps23
  go_wp2_with (first
    | (go_at_call 43; (with_reducible refine (kept_nil _).mono ?_); rintro e w' ⟨rfl, rfl⟩)
    | (go_at_call 51; (with_reducible refine (s_rank_nil _ _).mono ?_); rintro e w' ⟨rfl, rfl⟩)
    | (go_at_call 48; (with_reducible refine (number_neg _).mono ?_); rintro e w' ⟨rfl, rfl⟩))
  go_ret
  exact ⟨rfl, rfl⟩
theorem n_next (w : World) (v : Nat) (hv : v ≤ 65535) : Calls Tryd.prog 19 #[.pointer none, .int .u16 (v : Int)] w fun e w' => e = .returned (.tuple #[.int .u16 0, .bool false]) ∧ w = w' := by
  have w1 := i64_small v hv
  go_enter Tryd.func19, Tryd.ntmps19
  go_wp2_with (first
    | (go_at_call 43; (with_reducible refine (kept_nil _).mono ?_); rintro e w' ⟨rfl, rfl⟩)
    | (go_at_call 49; (with_reducible refine (s_next_nil _ _ (by omega)).mono ?_); rintro e w' ⟨rfl, rfl⟩)
    | (go_at_call 48; (with_reducible refine (number_neg _).mono ?_); rintro e w' ⟨rfl, rfl⟩))
  go_ret2
  exact ⟨rfl, rfl⟩
theorem n_prev (w : World) (v : Nat) (hv : v ≤ 65535) : Calls Tryd.prog 21 #[.pointer none, .int .u16 (v : Int)] w fun e w' => e = .returned (.tuple #[.int .u16 0, .bool false]) ∧ w = w' := by
  have w1 := i64_small v hv
  go_enter Tryd.func21, Tryd.ntmps21
  go_wp2_with (first
    | (go_at_call 43; (with_reducible refine (kept_nil _).mono ?_); rintro e w' ⟨rfl, rfl⟩)
    | (go_at_call 50; (with_reducible refine (s_prev_nil _ _).mono ?_); rintro e w' ⟨rfl, rfl⟩)
    | (go_at_call 48; (with_reducible refine (number_neg _).mono ?_); rintro e w' ⟨rfl, rfl⟩))
  go_ret2
  exact ⟨rfl, rfl⟩
theorem n_select (w : World) : Calls Tryd.prog 25 #[.pointer none, .int .i64 0] w fun e w' => e = .returned (.tuple #[.int .u16 0, .bool false]) ∧ w = w' := by
  go_enter Tryd.func25, Tryd.ntmps25
  go_wp2_with (first
    | (go_at_call 43; (with_reducible refine (kept_nil _).mono ?_); rintro e w' ⟨rfl, rfl⟩)
    | (go_at_call 52; (with_reducible refine (s_select_nil _ _).mono ?_); rintro e w' ⟨rfl, rfl⟩)
    | (go_at_call 48; (with_reducible refine (number_neg _).mono ?_); rintro e w' ⟨rfl, rfl⟩))
  go_ret2
  exact ⟨rfl, rfl⟩
theorem n_runs (w : World) : Calls Tryd.prog 14 #[.pointer none] w fun e w' => e = .returned (.int .i64 0) ∧ w = w' := by
  go_enter Tryd.func14, Tryd.ntmps14
  go_wp2_with (first
    | (go_at_call 43; (with_reducible refine (kept_nil _).mono ?_); rintro e w' ⟨rfl, rfl⟩)
    | (go_at_call 45; (with_reducible refine (s_words_nil _).mono ?_); rintro e w' ⟨rfl, rfl⟩))
  go_loop [3, 11] (fun m i => m = .int .i64 0 ∧ i = .int .i64 0) (fun _ _ => 0)
  case atStart => exact ⟨rfl, rfl⟩
  case round =>
    obtain ⟨rfl, rfl⟩ := hrel
    go_wp2
    go_ret
    exact ⟨rfl, rfl⟩
end Go.Proofs.YtbbnamdlfnonoaaDoor
