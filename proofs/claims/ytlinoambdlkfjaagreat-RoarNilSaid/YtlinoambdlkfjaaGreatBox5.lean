
/- A box of an array is asked. -/
import Derived.Test.YtlinoambdlkfjaaGreatBox4
namespace Go.Proofs.YtlinoambdlkfjaaGreat
set_option maxRecDepth 40000
open Go.RowKit
/-- What told answers of this pointer. -/
def ToldP (w : World) (P : Option Addr) (v : Value) : Prop := Calls Tryz.prog 45 #[.pointer P] w fun e w' => e = .returned v ∧ w = w'
theorem box_Has_A (w : World) (P : Option Addr) (U : Option Addr) (n c : Nat) (xs : List Int) (x : Nat) (ht : ToldP w P (vA U n c)) (hm : Calls Tryz.prog 155 #[.slice U n c, .int .u16 (x : Int)] w (AskB w (M.rHas xs (x : Int)))) : Calls Tryz.prog 32 #[.pointer P, .int .u16 (x : Int)] w (AskB w (M.rHas xs (x : Int))) := by
  have hT := Lib.hid ht
  have hM := Lib.hid hm
  have hD := fun w => toA_Has U n c w
  clear ht hm
  unfold ToldP vA at hT
  go_enter Tryz.func32, Tryz.ntmps32
  go_wp2_with (first
    | (go_at_call 45; (with_reducible refine hT.out.mono ?_); rintro e w' ⟨rfl, rfl⟩)
    | (go_at_call 155; (with_reducible refine hM.out.mono ?_); rintro e w' ⟨rfl, hb⟩))
  go_ret
  exact ⟨rfl, hb⟩
theorem box_Next_A (w : World) (P : Option Addr) (U : Option Addr) (n c : Nat) (xs : List Int) (x : Nat) (ht : ToldP w P (vA U n c)) (hm : Calls Tryz.prog 157 #[.slice U n c, .int .u16 (x : Int)] w (AskP w (M.rNext xs (x : Int)))) : Calls Tryz.prog 23 #[.pointer P, .int .u16 (x : Int)] w (AskP w (M.rNext xs (x : Int))) := by
  have hT := Lib.hid ht
  have hM := Lib.hid hm
  have hD := fun w => toA_Next U n c w
  clear ht hm
  unfold ToldP vA at hT
  go_enter Tryz.func23, Tryz.ntmps23
  go_wp2_with (first
    | (go_at_call 45; (with_reducible refine hT.out.mono ?_); rintro e w' ⟨rfl, rfl⟩)
    | (go_at_call 157; (with_reducible refine hM.out.mono ?_); rintro e w' ⟨y, b, rfl, h0, h1, h2, hb⟩))
  go_ret2
  exact ⟨y, b, rfl, h0, h1, h2, hb⟩
theorem box_Prev_A (w : World) (P : Option Addr) (U : Option Addr) (n c : Nat) (xs : List Int) (x : Nat) (ht : ToldP w P (vA U n c)) (hm : Calls Tryz.prog 158 #[.slice U n c, .int .u16 (x : Int)] w (AskP w (M.rPrev xs (x : Int)))) : Calls Tryz.prog 28 #[.pointer P, .int .u16 (x : Int)] w (AskP w (M.rPrev xs (x : Int))) := by
  have hT := Lib.hid ht
  have hM := Lib.hid hm
  have hD := fun w => toA_Prev U n c w
  clear ht hm
  unfold ToldP vA at hT
  go_enter Tryz.func28, Tryz.ntmps28
  go_wp2_with (first
    | (go_at_call 45; (with_reducible refine hT.out.mono ?_); rintro e w' ⟨rfl, rfl⟩)
    | (go_at_call 158; (with_reducible refine hM.out.mono ?_); rintro e w' ⟨y, b, rfl, h0, h1, h2, hb⟩))
  go_ret2
  exact ⟨y, b, rfl, h0, h1, h2, hb⟩
end Go.Proofs.YtlinoambdlkfjaaGreat
