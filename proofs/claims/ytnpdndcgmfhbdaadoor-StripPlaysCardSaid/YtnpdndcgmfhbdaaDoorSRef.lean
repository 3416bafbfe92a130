
/- The document's own strip: what Do answers, the text walked. -/
import Derived.Test.YtnpdndcgmfhbdaaDoorSLaws2
import Derived.LoopTactic
import Derived.Deep.QuietTactic
import Derived.BigQuiet
import Derived.Test.YtnpdndcgmfhbdaaDoorSSet
namespace Go.Proofs.YtnpdndcgmfhbdaaDoor
open Go.RowKit
theorem sorted_len' : ∀ {l : List Int} (lo hi : Int), l.Pairwise (· < ·) → (∀ y ∈ l, lo ≤ y ∧ y < hi) → (l.length : Int) ≤ max (hi - lo) 0
  | [], lo, hi, _, _ => by simp only [List.length_nil]; omega
  | a :: l, lo, hi, hs, hb => by
    rw [List.pairwise_cons] at hs
    have ha := hb a (List.mem_cons_self ..)
    have := sorted_len' (a + 1) hi hs.2 (fun y hy => ⟨by have := hs.1 y hy; omega, (hb y (List.mem_cons_of_mem _ hy)).2⟩)
    rw [List.length_cons]
    omega
theorem sorted_len (n : Nat) {l : List Int} (hs : l.Pairwise (· < ·)) (hb : ∀ y ∈ l, 0 ≤ y ∧ y < (n : Int)) : l.length ≤ n := by
  have := sorted_len' 0 n hs hb
  omega
/-- The document's strip in memory: block X its cells, the list behind it in a younger block. -/
def RS (w : World) (X W : Nat) (A : Option Addr) (c : Nat) (xs : List Int) : Prop :=
  w.heap[X]? = some (.cells #[.int .i64 (W : Int), .slice A xs.length c] 27 (0, 0)) ∧ Rd w w.heap.size A xs ∧ Fr (X + 1) A
theorem RS.c0 {w : World} {X W : Nat} {A : Option Addr} {c : Nat} {xs : List Int} (h : RS w X W A c xs) : w.cell? ⟨X, 0, none⟩ = some (.int .i64 (W : Int)) := cell_of_row w X 0 _ _ (0, 0) h.1
theorem RS.c1 {w : World} {X W : Nat} {A : Option Addr} {c : Nat} {xs : List Int} (h : RS w X W A c xs) : w.cell? ⟨X, 1, none⟩ = some (.slice A xs.length c) := cell_of_row w X 1 _ _ (0, 0) h.1
theorem RS.fr {w : World} {X W : Nat} {A : Option Addr} {c : Nat} {xs : List Int} (h : RS w X W A c xs) (k : Nat) : w.frozen? ⟨X, k, none⟩ = false := by
  have := h.1
  simp [World.frozen?, this]
theorem RS.lt {w : World} {X W : Nat} {A : Option Addr} {c : Nat} {xs : List Int} (h : RS w X W A c xs) : X < w.heap.size := (Array.getElem?_eq_some_iff.1 h.1).1
theorem RS.drew {w : World} {X W : Nat} {A : Option Addr} {c : Nat} {xs : List Int} (h : RS w X W A c xs) (n : Nat) : RS (w.drewN n) X W A c xs := h
/-- A younger list takes the place. -/
theorem RS.store {w w2 : World} {X W : Nat} {A A' : Option Addr} {c c' : Nat} {xs ys : List Int} (h : RS w X W A c xs) (hb : Below w.heap.size w w2) (hr : Rd w2 w2.heap.size A' ys) (hF : Fr w.heap.size A') :
    RS (w2.setCell ⟨X, 1, none⟩ (.slice A' ys.length c')) X W A' c' ys := by
  have hX := h.lt
  have h1 := (hb.block X hX).trans h.1
  have hF2 : Fr (X + 1) A' := fun ad e => by have := hF ad e; omega
  refine ⟨?_, ?_, hF2⟩
  · simp [World.setCell, Array.getElem?_modify, h1]
  · intro hne
    obtain ⟨b, off, rfl, hlt, hc⟩ := hr hne
    have := hF2 _ rfl
    refine ⟨b, off, rfl, by simpa [World.setCell] using hlt, fun k hk => ?_⟩
    rw [World.cell?_setCell_other _ _ _ _ (by intro e; have e2 := congrArg Addr.block e; have e3 : X + 1 ≤ b := this; simp at e2; omega)]
    exact hc k hk
theorem grown_store {w w1 w2 : World} {X : Nat} (g : w.grownBy w1 (some X)) (hb : Below w1.heap.size w1 w2) (u : Value) : w.grownBy (w2.setCell ⟨X, 1, none⟩ u) (some X) := by
  have g2 : w1.grownBy w2 none := ⟨hb.os, hb.tape, hb.output, hb.size, fun k hk _ => hb.block k hk⟩
  have g3 := set_grown w2 X 1 u
  refine ⟨g3.os.trans (g2.os.trans g.os), g3.tape.trans (g2.tape.trans g.tape), g3.output.trans (g2.output.trans g.output), Nat.le_trans g.size (Nat.le_trans g2.size g3.size), fun k hk hne => ?_⟩
  have h1 := g.size
  have h2 := g2.size
  exact (g3.block k (by omega) hne).trans ((g2.block k (by omega) (by simp)).trans (g.block k hk hne))
/-- The loop of Do has come to q: all from f on below it are in, or out. -/
def Upto (o : Bool) (xs zs : List Int) (f q : Int) : Prop :=
  zs.Pairwise (· < ·) ∧ ∀ y, y ∈ zs ↔ if f ≤ y ∧ y < q then o = true else y ∈ xs
theorem Upto.start {o : Bool} {xs : List Int} {f : Int} (h : xs.Pairwise (· < ·)) : Upto o xs xs f f := ⟨h, fun y => by rw [if_neg (by omega)]⟩
theorem Upto.add {xs zs : List Int} {f q : Int} (h : Upto true xs zs f q) (hq : f ≤ q) : Upto true xs (M.add zs q) f (q + 1) := by
  refine ⟨M.add_sorted h.1 q, fun y => ?_⟩
  rw [M.mem_add, h.2]
  by_cases hy : y = q
  · subst hy; rw [if_neg (show ¬ (f ≤ y ∧ y < y) by omega), if_pos (show f ≤ y ∧ y < y + 1 by omega)]; simp
  · by_cases hr : f ≤ y ∧ y < q
    · rw [if_pos hr, if_pos (by omega)]; simp
    · rw [if_neg hr, if_neg (by omega)]; simp [hy]
theorem Upto.drop {xs zs : List Int} {f q : Int} (h : Upto false xs zs f q) (hq : f ≤ q) : Upto false xs (M.drop zs q) f (q + 1) := by
  refine ⟨M.drop_sorted h.1 q, fun y => ?_⟩
  rw [M.mem_drop, h.2]
  by_cases hy : y = q
  · subst hy; rw [if_neg (show ¬ (f ≤ y ∧ y < y) by omega), if_pos (show f ≤ y ∧ y < y + 1 by omega)]; simp
  · by_cases hr : f ≤ y ∧ y < q
    · rw [if_pos hr, if_pos (by omega)]; simp
    · rw [if_neg hr, if_neg (by omega)]; simp [hy]
theorem Upto.has {o : Bool} {xs zs : List Int} {f q : Int} (h : Upto o xs zs f q) (hq : f ≤ q) (hh : M.rHas zs q = o) : Upto o xs zs f (q + 1) := by
  have hm : q ∈ zs ↔ o = true := by rw [← hh]; simp [M.rHas]
  refine ⟨h.1, fun y => ?_⟩
  by_cases hy : y = q
  · subst hy; rw [if_pos (by omega)]; exact hm
  · rw [h.2]
    by_cases hr : f ≤ y ∧ y < q
    · rw [if_pos hr, if_pos (by omega)]
    · rw [if_neg hr, if_neg (by omega)]
end Go.Proofs.YtnpdndcgmfhbdaaDoor
