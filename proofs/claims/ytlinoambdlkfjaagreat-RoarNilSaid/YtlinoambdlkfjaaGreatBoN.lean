
/- A box of no numbers is made: array.Of, plain, Of and New; the text walked. -/
import Derived.Test.YtlinoambdlkfjaaGreatBox5
namespace Go.Proofs.YtlinoambdlkfjaaGreat
set_option maxRecDepth 40000
open Go.RowKit
set_option maxHeartbeats 4000000 in
theorem ins_zero (V : Option Addr) (c : Nat) (w : World) : Calls Tryz.prog 117 #[.slice V 0 c, .int .i64 0, .int .i64 0] w fun e w' => e = .returned (.tuple #[]) ∧ w = w' := by
  go_enter Tryz.func117, Tryz.ntmps117
  go_wp2
  go_loop [6] (fun vi => vi = .int .i64 1) (fun _ => 0)
  case atStart => rfl
  case round =>
    subst hrel
    go_wp2
    go_end0
    exact ⟨rfl, rfl⟩
set_option maxHeartbeats 4000000 in
set_option maxRecDepth 100000 in
theorem pdq_zero (V : Option Addr) (c : Nat) (l : Int) (w : World) : Calls Tryz.prog 107 #[.slice V 0 c, .int .i64 0, .int .i64 0, .int .i64 l] w fun e w' => e = .returned (.tuple #[]) ∧ w = w' := by
  go_enter Tryz.func107, Tryz.ntmps107
  go_wp2_with (fail)
  go_loop [1, 2] (fun v1 v2 => v1 = .int .i64 0 ∧ v2 = .int .i64 0) (fun _ _ => 0)
  case atStart => exact ⟨rfl, rfl⟩
  case round =>
    obtain ⟨rfl, rfl⟩ := hrel
    go_wp2_with (go_at_call 117; (with_reducible refine (ins_zero V c _).mono ?_); rintro e w' ⟨rfl, rfl⟩)
    refine bodyPost_ret (results_none rfl _ _ _) rfl ?_
    exact ⟨rfl, rfl⟩
set_option maxHeartbeats 4000000 in
theorem sort_zero (V : Option Addr) (c : Nat) (w : World) : Calls Tryz.prog 96 #[.slice V 0 c] w fun e w' => e = .returned (.tuple #[]) ∧ w = w' := by
  go_enter Tryz.func96, Tryz.ntmps96
  go_wp2_with (first
    | (go_at_call 108; (with_reducible refine (A.len_any _ _ (by omega) (by omega)).mono ?_); rintro e w' ⟨rfl, rfl⟩)
    | (go_at_call 107; (with_reducible refine (pdq_zero V c _ _).mono ?_); rintro e w' ⟨rfl, rfl⟩))
  go_end0
  exact ⟨rfl, rfl⟩
set_option maxHeartbeats 4000000 in
theorem comp_zero (V : Option Addr) (c : Nat) (w : World) : Calls Tryz.prog 97 #[.slice V 0 c] w fun e w' => e = .returned (.slice V 0 c) ∧ w = w' := by
  go_enter Tryz.func97, Tryz.ntmps97
  go_wp2
  go_ret
  exact ⟨rfl, rfl⟩
set_option maxHeartbeats 8000000 in
set_option maxRecDepth 100000 in
theorem of_none (w : World) : Calls Tryz.prog 81 #[.slice none 0 0] w fun e w' => ∃ U c, e = .returned (.slice U 0 c) ∧ Below w.heap.size w w' := by
  have HC : Hid (Calls Tryz.prog 72 #[.slice (some ⟨w.heap.size, 0, none⟩) 1 1] (w.alloc (.cells #[.slice none 0 0] 84)) fun e w' => ∃ U c, e = .returned (.slice U 0 c) ∧ Below w.heap.size w w') := Lib.hid (by
    refine (A.copy_any w w.heap.size 0 0 none [] rfl (Rh.nil _ _ _) (Nat.le_refl _) (by omega)).mono ?_
    rintro e w2 ⟨v, rfl, h1, h2⟩
    obtain ⟨rfl, _⟩ | ⟨g, c, rfl, _⟩ := A.own_two h1
    · exact ⟨none, 0, rfl, h2⟩
    · exact ⟨_, c, rfl, h2⟩)
  go_enter Tryz.func81, Tryz.ntmps81
  go_wp2_with (first
    | (go_at_call 72; (with_reducible refine HC.out.mono ?_); rintro e w2 ⟨U, c, rfl, h2⟩; replace h2 := Lib.hid h2)
    | (go_at_call 96; (with_reducible refine (sort_zero _ _ _).mono ?_); rintro e w' ⟨rfl, rfl⟩)
    | (go_at_call 97; (with_reducible refine (comp_zero _ _ _).mono ?_); rintro e w' ⟨rfl, rfl⟩))
  go_ret
  exact ⟨U, c, rfl, h2.out⟩
set_option maxHeartbeats 8000000 in
theorem plain_few (w : World) (U : Option Addr) (n c : Nat) (hc : n ≤ 4096) : Calls Tryz.prog 52 #[vA U n c] w fun e w' => e = .returned (vA U n c) ∧ Below w.heap.size w w' := by
  have hD := fun w => toA_Len U n c w
  have HK := fun W => Lib.hid (kind_a W U n c)
  have HL := fun W => Lib.hid (askA_Len W n c U (List.replicate n 0) (by simp))
  have hn : (((List.replicate n (0 : Int)).length : Nat) : Int) ≤ 4096 := by simp; omega
  unfold vA at *
  go_enter Tryz.func52, Tryz.ntmps52
  go_wp2_with (first
    | (go_at_call 156; (with_reducible refine (HL _).out.mono ?_); rintro e w1 ⟨rfl, hb⟩; replace hb := Lib.hid hb)
    | (go_at_call 73; (with_reducible refine (HK _).out.mono ?_); rintro e w' ⟨rfl, rfl⟩))
  go_ret
  exact ⟨rfl, hb.out⟩
end Go.Proofs.YtlinoambdlkfjaaGreat
