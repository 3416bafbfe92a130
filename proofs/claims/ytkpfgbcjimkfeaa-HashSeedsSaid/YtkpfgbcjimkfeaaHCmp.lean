
/- How two entries are held against one another: cmp.Compare, cmp.Or, the closure of rising; the texts walked. -/
import Derived.Test.YtkpfgbcjimkfeaaHTab5
import Derived.Test.YtkpfgbcjimkfeaaHSort
import Derived.StillTailTactics
import Derived.Lib.Small
namespace Go.Proofs.Ytkpfgbcjimkfeaa
open Go.RowKit
theorem nan_u8 (x : Int) (w : World) : Calls Try.prog 43 #[.int .u8 x] w fun e w' => e = .returned (.bool false) ∧ w = w' := by
  go_enter Try.func43, Try.ntmps43
  go_wp2
  go_ret
  exact ⟨ret_bool (by simp), rfl⟩
theorem nan_u64 (x : Int) (w : World) : Calls Try.prog 44 #[.int .u64 x] w fun e w' => e = .returned (.bool false) ∧ w = w' := by
  go_enter Try.func44, Try.ntmps44
  go_wp2
  go_ret
  exact ⟨ret_bool (by simp), rfl⟩
theorem cmp_u8 (x y : Int) (w : World) : Calls Try.prog 37 #[.int .u8 x, .int .u8 y] w fun e w' => e = .returned (.int .i64 (Lib.compareInt x y)) ∧ w = w' := by
  rcases Int.lt_trichotomy x y with h | h | h
  · have d1 : decide (x < y) = true := decide_eq_true h
    have hr := Lib.hid (show Lib.compareInt x y = -1 by unfold Lib.compareInt; rw [if_pos h])
    clear h
    go_enter Try.func37, Try.ntmps37
    go_wp2_with (go_at_call 43; (with_reducible refine (nan_u8 _ _).mono ?_); rintro e w' ⟨rfl, rfl⟩)
    refine bodyPost_ret (results_tmp (t := 4) rfl _ _ _) rfl ?_
    exact ⟨ret_int hr.out.symm, rfl⟩
  · subst h
    have d1 : decide (x < x) = false := decide_eq_false (by omega)
    have hr := Lib.hid (show Lib.compareInt x x = 0 by unfold Lib.compareInt; rw [if_neg (by omega), if_neg (by omega)])
    go_enter Try.func37, Try.ntmps37
    go_wp2_with (go_at_call 43; (with_reducible refine (nan_u8 _ _).mono ?_); rintro e w' ⟨rfl, rfl⟩)
    refine bodyPost_ret (results_tmp (t := 4) rfl _ _ _) rfl ?_
    exact ⟨ret_int hr.out.symm, rfl⟩
  · have d1 : decide (x < y) = false := decide_eq_false (by omega)
    have d2 : decide (y < x) = true := decide_eq_true h
    have hr := Lib.hid (show Lib.compareInt x y = 1 by unfold Lib.compareInt; rw [if_neg (by omega), if_pos h])
    clear h
    go_enter Try.func37, Try.ntmps37
    go_wp2_with (go_at_call 43; (with_reducible refine (nan_u8 _ _).mono ?_); rintro e w' ⟨rfl, rfl⟩)
    refine bodyPost_ret (results_tmp (t := 4) rfl _ _ _) rfl ?_
    exact ⟨ret_int hr.out.symm, rfl⟩
theorem cmp_u64 (x y : Int) (w : World) : Calls Try.prog 38 #[.int .u64 x, .int .u64 y] w fun e w' => e = .returned (.int .i64 (Lib.compareInt x y)) ∧ w = w' := by
  rcases Int.lt_trichotomy x y with h | h | h
  · have d1 : decide (x < y) = true := decide_eq_true h
    have hr := Lib.hid (show Lib.compareInt x y = -1 by unfold Lib.compareInt; rw [if_pos h])
    clear h
    go_enter Try.func38, Try.ntmps38
    go_wp2_with (go_at_call 44; (with_reducible refine (nan_u64 _ _).mono ?_); rintro e w' ⟨rfl, rfl⟩)
    refine bodyPost_ret (results_tmp (t := 4) rfl _ _ _) rfl ?_
    exact ⟨ret_int hr.out.symm, rfl⟩
  · subst h
    have d1 : decide (x < x) = false := decide_eq_false (by omega)
    have hr := Lib.hid (show Lib.compareInt x x = 0 by unfold Lib.compareInt; rw [if_neg (by omega), if_neg (by omega)])
    go_enter Try.func38, Try.ntmps38
    go_wp2_with (go_at_call 44; (with_reducible refine (nan_u64 _ _).mono ?_); rintro e w' ⟨rfl, rfl⟩)
    refine bodyPost_ret (results_tmp (t := 4) rfl _ _ _) rfl ?_
    exact ⟨ret_int hr.out.symm, rfl⟩
  · have d1 : decide (x < y) = false := decide_eq_false (by omega)
    have d2 : decide (y < x) = true := decide_eq_true h
    have hr := Lib.hid (show Lib.compareInt x y = 1 by unfold Lib.compareInt; rw [if_neg (by omega), if_pos h])
    clear h
    go_enter Try.func38, Try.ntmps38
    go_wp2_with (go_at_call 44; (with_reducible refine (nan_u64 _ _).mono ?_); rintro e w' ⟨rfl, rfl⟩)
    refine bodyPost_ret (results_tmp (t := 4) rfl _ _ _) rfl ?_
    exact ⟨ret_int hr.out.symm, rfl⟩
def orI (a b : Int) : Int := if a = 0 then b else a
theorem or_two (b : Nat) (x y : Int) (w : World) (h0 : w.cell? ⟨b, 0, none⟩ = some (.int .i64 x)) (h1 : w.cell? ⟨b, 1, none⟩ = some (.int .i64 y)) :
    Calls Try.prog 36 #[.slice (some ⟨b, 0, none⟩) 2 2] w fun e w' => e = .returned (.int .i64 (orI x y)) ∧ w = w' := by
  go_enter Try.func36, Try.ntmps36
  go_wp2
  go_loop [8] (fun u => ∃ k : Nat, u = .int .i64 (k : Int) ∧ k ≤ 2 ∧ (1 ≤ k → x = 0) ∧ (2 ≤ k → y = 0)) (fun u => 2 - (intOf u).toNat)
  case atStart => exact ⟨0, rfl, by omega, by omega, by omega⟩
  case round =>
    obtain ⟨k, rfl, hk, hx, hy⟩ := hrel
    match k, hk with
    | 0, _ =>
      clear hx hy
      by_cases hx0 : x = 0
      · subst hx0
        go_wp2
        go_round
        case rel => exact ⟨1, rfl, by omega, by simp, by omega⟩
        case measure => simp [intOf]
      · have d1 : (x == 0) = false := by simpa using hx0
        have d2 : (x != 0) = true := by simpa using hx0
        have hr := Lib.hid (show orI x y = x by unfold orI; rw [if_neg hx0])
        clear hx0
        go_wp2
        refine bodyPost_ret (results_tmp (t := 2) rfl _ _ _) rfl ?_
        exact ⟨ret_int hr.out.symm, rfl⟩
    | 1, _ =>
      have hx0 := hx (by omega)
      subst hx0
      clear hx hy
      by_cases hy0 : y = 0
      · subst hy0
        go_wp2
        go_round
        case rel => exact ⟨2, rfl, by omega, by simp, by simp⟩
        case measure => simp [intOf]
      · have d1 : (y == 0) = false := by simpa using hy0
        have d2 : (y != 0) = true := by simpa using hy0
        have hr := Lib.hid (show orI 0 y = y by unfold orI; rw [if_pos rfl])
        clear hy0
        go_wp2
        refine bodyPost_ret (results_tmp (t := 2) rfl _ _ _) rfl ?_
        exact ⟨ret_int hr.out.symm, rfl⟩
    | 2, _ =>
      have hx0 := hx (by omega)
      have hy0 := hy (by omega)
      subst hx0 hy0
      clear hx hy
      go_wp2
      refine bodyPost_ret (results_tmp (t := 2) rfl _ _ _) rfl ?_
      exact ⟨ret_int (by unfold orI; rfl), rfl⟩
end Go.Proofs.Ytkpfgbcjimkfeaa
