
/- The document's own sets of 16-bit numbers (stepstoneref06): a row of Bools; the text walked. -/
import Derived.Test.YtlinoambdlkfjaaGreatBMath
import Derived.Test.YtlinoambdlkfjaaGreatProg
import Derived.WalkKit
import Derived.OwnWalk
import Derived.Laws.OwnMore
import Derived.Laws.Rows
import Derived.Below
import Derived.LoopTactic
import Derived.Outline
import Derived.Lib.Hide
import Derived.IntWalk
import Derived.Deep.QuietTactic
import Derived.BigQuiet
import Derived.Lib.Strings
import Derived.Lib.Slices
import Derived.Lib.Small
import Derived.Lib.Walk
namespace Go.Proofs.YtlinoambdlkfjaaGreat
set_option maxRecDepth 40000
open Go.RowKit
abbrev bv (bs : List Bool) : List Value := bs.map Value.bool
/-- Block g is the row bs, of n = 65536 Bools. -/
structure Bs (w : World) (g n : Nat) (bs : List Bool) : Prop where
  row : w.heap[g]? = some (.cells (bv bs).toArray 4 (0, 0))
  len : bs.length = n
  top : n = 65536
section
variable {w w' : World} {g n : Nat} {bs cs : List Bool}
theorem Bs.cell (a : Bs w g n bs) (k : Nat) (hk : k < n) : w.cell? ⟨g, k, none⟩ = some (.bool (bs[k]'(by rw [a.len]; exact hk))) := by
  have hk2 : k < bs.length := by rw [a.len]; exact hk
  rw [cell_of_row w g k _ _ (0, 0) a.row]
  simp [hk2]
theorem Bs.frozen (a : Bs w g n bs) (k : Nat) : w.frozen? ⟨g, k, none⟩ = false := by
  have := a.row
  simp [World.frozen?, this]
theorem Bs.lt (a : Bs w g n bs) : g < w.heap.size := (Array.getElem?_eq_some_iff.1 a.row).1
theorem Bs.below {B : Nat} (a : Bs w g n bs) (hb : Below B w w') (hg : g < B) : Bs w' g n bs := ⟨(hb.block g hg).trans a.row, a.len, a.top⟩
theorem Bs.all_below (a : Bs w g n bs) (hb : Below w.heap.size w w') : Bs w' g n bs := a.below hb a.lt
theorem Bs.drew (a : Bs w g n bs) (k : Nat) : Bs (w.drewN k) g n bs := ⟨a.row, a.len, a.top⟩
theorem Bs.grown (a : Bs w g n bs) {r : Option Nat} (h : w.grownBy w' r) (hr : r ≠ some g) : Bs w' g n bs := ⟨(h.block g a.lt (fun e => hr e.symm)).trans a.row, a.len, a.top⟩
theorem Bs.store (a : Bs w g n bs) (k : Nat) (o : Bool) : Bs (w.setCell ⟨g, k, none⟩ (.bool o)) g n (bs.set k o) := by
  refine ⟨?_, by rw [List.length_set]; exact a.len, a.top⟩
  have := a.row
  simp [World.setCell, Array.getElem?_modify, this, bv, List.map_set]
theorem Bs.top_le (a : Bs w g n bs) : n ≤ 65536 := Nat.le_of_eq a.top
theorem Bs.top_ge (a : Bs w g n bs) : 65536 ≤ n := Nat.le_of_eq a.top.symm
theorem Bs.range (a : Bs w g n bs) {y : Int} (hy : y ∈ M.L bs) : 0 ≤ y ∧ y ≤ 65535 := by
  have h1 := M.L_lt hy
  have h2 := a.len
  have h3 := a.top
  omega
end
theorem set_grownB (w : World) (h k : Nat) (u : Value) : w.grownBy (w.setCell ⟨h, k, none⟩ u) (some h) :=
  ⟨rfl, rfl, rfl, by simp [World.setCell], fun j _ hj => by
    unfold World.setCell
    rw [Array.getElem?_modify]
    rw [if_neg (by intro e; exact hj (by rw [← e]))]⟩
theorem grownB_refl (w : World) (r : Option Nat) : w.grownBy w r := ⟨rfl, rfl, rfl, Nat.le_refl _, fun _ _ _ => rfl⟩
theorem grownB_trans {w w1 w2 : World} {r : Option Nat} (h : w.grownBy w1 r) (k : w1.grownBy w2 r) : w.grownBy w2 r :=
  ⟨k.os.trans h.os, k.tape.trans h.tape, k.output.trans h.output, Nat.le_trans h.size k.size, fun j hj hr => (k.block j (Nat.lt_of_lt_of_le hj h.size) hr).trans (h.block j hj hr)⟩
theorem rInt {k : IntKind} {a b : Int} (h : a = b) : Ending.returned (.int k a) = .returned (.int k b) := by rw [h]
theorem rk_le (bs : List Bool) (k : Nat) (h : k ≤ 65536) : (M.L (bs.take k)).length ≤ 65536 := Nat.le_trans (M.L_len_take bs k) h
/-- What a change of the row leaves. -/
def FStep (o : Bool) (w : World) (g n : Nat) (bs : List Bool) (f t : Int) (m : Nat) (w' : World) : Prop :=
  ∃ cs, M.Chg o (M.L bs) (M.L cs) f t m ∧ Bs w' g n cs ∧ w.grownBy w' (some g)
/-- All from f on below i are there (o), or not; as many were changed. -/
def FPart (o : Bool) (bs cs : List Bool) (f i c : Nat) : Prop :=
  cs.length = bs.length ∧ (∀ j, cs[j]? = if f ≤ j ∧ j < i ∧ j < bs.length then some o else bs[j]?) ∧ (if o then c + (M.L bs).length = (M.L cs).length else c + (M.L cs).length = (M.L bs).length)
theorem FPart.start (o : Bool) (bs : List Bool) (f : Nat) : FPart o bs bs f f 0 := ⟨rfl, fun j => by rw [if_neg (by omega)], by cases o <;> simp⟩
theorem FPart.old {o : Bool} {bs cs : List Bool} {f i c : Nat} (h : FPart o bs cs f i c) (hi : i < bs.length) : cs[i]? = some bs[i] := by
  rw [h.2.1 i, if_neg (by omega), List.getElem?_eq_getElem hi]
theorem FPart.step {o : Bool} {bs cs : List Bool} {f i c : Nat} (h : FPart o bs cs f i c) (hf : f ≤ i) (hi : i < bs.length) : FPart o bs (cs.set i o) f (i + 1) (c + if bs[i] != o then 1 else 0) := by
  have hic : i < cs.length := by rw [h.1]; exact hi
  refine ⟨by rw [List.length_set]; exact h.1, fun j => ?_, ?_⟩
  · rw [List.getElem?_set]
    by_cases e : i = j
    · subst e
      rw [if_pos rfl, if_pos hic, if_pos (by omega)]
    · rw [if_neg e, h.2.1 j]
      by_cases hq : f ≤ j ∧ j < i ∧ j < bs.length
      · rw [if_pos hq, if_pos (by omega)]
      · rw [if_neg hq, if_neg (by omega)]
  · have hl := M.L_len_set hic o
    have ho := h.old hi
    rw [List.getElem?_eq_getElem hic] at ho
    have ho : cs[i] = bs[i] := Option.some.inj ho
    rw [ho] at hl
    have h3 := h.2.2
    generalize bs[i] = b at *
    cases o <;> cases b <;> simp at hl h3 ⊢ <;> omega
theorem FPart.chg {o : Bool} {w : World} {g n : Nat} {bs cs : List Bool} (a : Bs w g n bs) {f t c : Nat} (ht : t ≤ 65535) {i : Nat} (h : FPart o bs cs f i c) (hi : i = t + 1 ∨ (t < f ∧ i = f)) : M.Chg o (M.L bs) (M.L cs) (f : Int) (t : Int) c := by
  refine ⟨M.L_up cs, fun y => ?_, h.2.2⟩
  have hl := a.len
  have ht9 := a.top
  rw [M.L_in, M.L_in, h.2.1]
  by_cases hr : (f : Int) ≤ y ∧ y ≤ (t : Int)
  · rw [if_pos hr, if_pos (by omega)]
    constructor
    · rintro ⟨_, h⟩; exact Option.some.inj h
    · intro e; exact ⟨by omega, by rw [e]⟩
  · rw [if_neg hr]
    by_cases h0 : 0 ≤ y
    · rw [if_neg (by omega)]
    · constructor
      · intro h; exact absurd h.1 h0
      · intro h; exact absurd h.1 h0
theorem b_ne (a b : Bool) : (a != b) = !(a == b) := rfl
theorem made_false (n : Nat) : madeCells #[Value.bool false] n = (bv (List.replicate n false)).toArray := by
  apply Array.toList_inj.1
  rw [toList_madeCells_one]
  simp [bv]
end Go.Proofs.YtlinoambdlkfjaaGreat
