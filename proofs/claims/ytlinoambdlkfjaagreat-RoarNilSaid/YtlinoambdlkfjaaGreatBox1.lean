
/- A box: what its one field holds, and to which function a method of that leads; told and kind walked. -/
import Derived.Test.YtlinoambdlkfjaaGreatBList
namespace Go.Proofs.YtlinoambdlkfjaaGreat
set_option maxRecDepth 40000
open Go.RowKit
/-- A box at block q whose field holds v. -/
structure Bx (w : World) (q : Nat) (v : Value) : Prop where
  row : w.heap[q]? = some (.cells #[v] 88 (0, 0))
theorem Bx.c0 {w : World} {q : Nat} {v : Value} (a : Bx w q v) : w.cell? ⟨q, 0, none⟩ = some v := cell_of_row w q 0 _ _ (0, 0) a.row
theorem Bx.lt {w : World} {q : Nat} {v : Value} (a : Bx w q v) : q < w.heap.size := (Array.getElem?_eq_some_iff.1 a.row).1
theorem Bx.below {w w' : World} {B q : Nat} {v : Value} (a : Bx w q v) (hb : Below B w w') (hq : q < B) : Bx w' q v := ⟨(hb.block q hq).trans a.row⟩
theorem Bx.all_below {w w' : World} {q : Nat} {v : Value} (a : Bx w q v) (hb : Below w.heap.size w w') : Bx w' q v := a.below hb a.lt
theorem Bx.drew {w : World} {q : Nat} {v : Value} (a : Bx w q v) (n : Nat) : Bx (w.drewN n) q v := ⟨a.row⟩
/-- The three kinds of what is kept. -/
def vA (A : Option Addr) (n c : Nat) : Value := .iface 85 (.slice A n c)
def vB (p : Nat) : Value := .iface 113 (.agg #[.pointer (some ⟨p, 0, none⟩)])
def vR (A : Option Addr) (n c : Nat) : Value := .iface 126 (.slice A n c)
theorem told_nil (w : World) : Calls Tryz.prog 45 #[.pointer none] w fun e w' => e = .returned (vA none 0 0) ∧ w = w' := by
  go_enter Tryz.func45, Tryz.ntmps45
  go_wp2
  go_ret
  exact ⟨rfl, rfl⟩
theorem told_any (w : World) (q : Nat) (v : Value) (a : Bx w q v) : Calls Tryz.prog 45 #[.pointer (some ⟨q, 0, none⟩)] w fun e w' => e = .returned v ∧ w = w' := by
  have c0 := a.c0
  go_enter Tryz.func45, Tryz.ntmps45
  go_wp2
  go_ret
  exact ⟨rfl, rfl⟩
/-! Which kind it is. -/
theorem isAA (w : World) (A : Option Addr) (n c : Nat) : (Instr.typeAssert (vA A n c) 75 85 true).run Tryz.prog w = .ok (.tuple #[.slice A n c, .bool true]) w := by kernel_rfl
theorem isAB (w : World) (A : Option Addr) (n c : Nat) : (Instr.typeAssert (vA A n c) 75 113 true).run Tryz.prog w = .ok (.tuple #[.agg #[.pointer none], .bool false]) w := by kernel_rfl
theorem isAR (w : World) (A : Option Addr) (n c : Nat) : (Instr.typeAssert (vA A n c) 75 126 true).run Tryz.prog w = .ok (.tuple #[.slice none 0 0, .bool false]) w := by kernel_rfl
theorem isBA (w : World) (p : Nat) : (Instr.typeAssert (vB p) 75 85 true).run Tryz.prog w = .ok (.tuple #[.slice none 0 0, .bool false]) w := by kernel_rfl
theorem isBB (w : World) (p : Nat) : (Instr.typeAssert (vB p) 75 113 true).run Tryz.prog w = .ok (.tuple #[.agg #[.pointer (some ⟨p, 0, none⟩)], .bool true]) w := by kernel_rfl
theorem isBR (w : World) (p : Nat) : (Instr.typeAssert (vB p) 75 126 true).run Tryz.prog w = .ok (.tuple #[.slice none 0 0, .bool false]) w := by kernel_rfl
theorem isRA (w : World) (A : Option Addr) (n c : Nat) : (Instr.typeAssert (vR A n c) 75 85 true).run Tryz.prog w = .ok (.tuple #[.slice none 0 0, .bool false]) w := by kernel_rfl
theorem isRB (w : World) (A : Option Addr) (n c : Nat) : (Instr.typeAssert (vR A n c) 75 113 true).run Tryz.prog w = .ok (.tuple #[.agg #[.pointer none], .bool false]) w := by kernel_rfl
theorem isRR (w : World) (A : Option Addr) (n c : Nat) : (Instr.typeAssert (vR A n c) 75 126 true).run Tryz.prog w = .ok (.tuple #[.slice A n c, .bool true]) w := by kernel_rfl
theorem kind_a (w : World) (A : Option Addr) (n c : Nat) : Calls Tryz.prog 73 #[vA A n c] w fun e w' => e = .returned (.int .i64 1) ∧ w = w' := by
  have hA := fun w => isAA w A n c
  unfold vA at *
  go_enter Tryz.func73, Tryz.ntmps73
  go_wp2
  go_ret
  exact ⟨rfl, rfl⟩
theorem kind_b (w : World) (p : Nat) : Calls Tryz.prog 73 #[vB p] w fun e w' => e = .returned (.int .i64 2) ∧ w = w' := by
  have hA := fun w => isBA w p
  have hB := fun w => isBB w p
  unfold vB at *
  go_enter Tryz.func73, Tryz.ntmps73
  go_wp2
  go_ret
  exact ⟨rfl, rfl⟩
theorem kind_r (w : World) (A : Option Addr) (n c : Nat) : Calls Tryz.prog 73 #[vR A n c] w fun e w' => e = .returned (.int .i64 3) ∧ w = w' := by
  have hA := fun w => isRA w A n c
  have hB := fun w => isRB w A n c
  have hR := fun w => isRR w A n c
  unfold vR at *
  go_enter Tryz.func73, Tryz.ntmps73
  go_wp2
  go_ret
  exact ⟨rfl, rfl⟩
end Go.Proofs.YtlinoambdlkfjaaGreat
