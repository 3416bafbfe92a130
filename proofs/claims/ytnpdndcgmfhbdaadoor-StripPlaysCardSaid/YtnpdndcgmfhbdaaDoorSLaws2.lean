
/- The law of copies of strips: it returns true at every input. -/
import Derived.Test.YtnpdndcgmfhbdaaDoorSLaws
namespace Go.Proofs.YtnpdndcgmfhbdaaDoor
open Go.RowKit
/-- But for blocks g1 and g2 nothing has changed that was there. -/
def But2 (w w' : World) (g1 g2 : Nat) : Prop := (w'.os = w.os ∧ w'.tape = w.tape ∧ w'.output = w.output) ∧ w.heap.size ≤ w'.heap.size ∧ ∀ j, j < w.heap.size → j ≠ g1 → j ≠ g2 → w'.heap[j]? = w.heap[j]?
theorem But2.refl (w : World) (g1 g2 : Nat) : But2 w w g1 g2 := ⟨⟨rfl, rfl, rfl⟩, Nat.le_refl _, fun _ _ _ _ => rfl⟩
theorem But2.store1 {w w' : World} {g1 g2 : Nat} (h : But2 w w' g1 g2) (k : Nat) (v : Value) : But2 w (w'.setCell ⟨g1, k, none⟩ v) g1 g2 :=
  ⟨h.1, by simpa [World.setCell] using h.2.1, fun j hj h1 h2 => (Below.heap_setCell w' ⟨g1, k, none⟩ v j h1).trans (h.2.2 j hj h1 h2)⟩
theorem But2.store2 {w w' : World} {g1 g2 : Nat} (h : But2 w w' g1 g2) (k : Nat) (v : Value) : But2 w (w'.setCell ⟨g2, k, none⟩ v) g1 g2 :=
  ⟨h.1, by simpa [World.setCell] using h.2.1, fun j hj h1 h2 => (Below.heap_setCell w' ⟨g2, k, none⟩ v j h2).trans (h.2.2 j hj h1 h2)⟩
theorem But2.below {w w' : World} {g1 g2 B : Nat} (h : But2 w w' g1 g2) (hB : B ≤ w.heap.size) (h1 : B ≤ g1) (h2 : B ≤ g2) : Below B w w' :=
  ⟨h.1.1, h.1.2.1, h.1.2.2, h.2.1, fun k hk => h.2.2 k (by omega) (by omega) (by omega)⟩
theorem But2.st {w w' : World} {g1 g2 s h : Nat} {ws : List Nat} (b : But2 w w' g1 g2) (a : St w s h ws) (h1 : s ≠ g1) (h2 : s ≠ g2) (h3 : h ≠ g1) (h4 : h ≠ g2) : St w' s h ws :=
  ⟨(b.2.2 s a.lt.1 h1 h2).trans a.1, (b.2.2 h a.lt.2 h3 h4).trans a.2.1, a.2.2⟩
theorem s_set_any (w : World) (s h : Nat) (ws : List Nat) (a : St w s h ws) (i : Int) :
    Calls Tryd.prog 14 #[.pointer (some ⟨s, 0, none⟩), .int .i64 i] w fun e w' => ∃ b us, e = .returned (.bool b) ∧ St w' s h us ∧ w.grownBy w' (some h) := by
  by_cases hi : 0 ≤ i ∧ i < ((64 * ws.length : Nat) : Int)
  · obtain ⟨k, rfl⟩ : ∃ k : Nat, i = (k : Int) := ⟨i.toNat, by omega⟩
    cases hb : sbit ws k
    · refine (s_set_new w s h ws a k (by omega) hb).mono ?_
      rintro e w' ⟨rfl, h1, h2⟩
      exact ⟨_, _, rfl, h1, h2⟩
    · refine (s_set_old w s h ws a k (by omega) hb).mono ?_
      rintro e w' ⟨rfl, rfl⟩
      exact ⟨_, _, rfl, a, ⟨rfl, rfl, rfl, Nat.le_refl _, fun _ _ _ => rfl⟩⟩
  · refine (s_set_out w s h ws a i hi).mono ?_
    rintro e w' ⟨rfl, rfl⟩
    exact ⟨_, _, rfl, a, ⟨rfl, rfl, rfl, Nat.le_refl _, fun _ _ _ => rfl⟩⟩
theorem St.grown {w w' : World} {s h b : Nat} {ws : List Nat} (a : St w s h ws) (g : w.grownBy w' (some b)) (h1 : s ≠ b) (h2 : h ≠ b) : St w' s h ws :=
  ⟨(g.block s a.lt.1 (by intro e; cases e; exact h1 rfl)).trans a.1, (g.block h a.lt.2 (by intro e; cases e; exact h2 rfl)).trans a.2.1, a.2.2⟩
theorem rw_of_row {w : World} {h : Nat} {ws : List Nat} (hh : w.heap[h]? = some (.cells (wv ws).toArray 49 (0, 0))) : Rw w w.heap.size (some ⟨h, 0, none⟩) ws := fun _ =>
  ⟨h, 0, rfl, (Array.getElem?_eq_some_iff.1 hh).1, fun k hk => by
    rw [Nat.zero_add, cell_of_row w h k _ _ (0, 0) hh]
    simp [wv, hk]⟩
theorem own_of_row {w : World} {h base : Nat} {ws : List Nat} (hh : w.heap[h]? = some (.cells (wv ws).toArray 49 (0, 0))) (hb : base ≤ h) (hl : ws.length ≤ 4096) : w.ownsRow base 49 1 (.slice (some ⟨h, 0, none⟩) ws.length ws.length) ws.length (wv ws) :=
  ⟨by simp [wv], .inr ⟨h, ws.length, _, rfl, hb, hh, Nat.le_refl _, by unfold maxLen; omega, by simp [wv], by rw [List.toList_toArray, Nat.mul_one, List.take_of_length_le (by simp [wv])]⟩⟩
theorem same_same (A A' : Option Addr) (c c' : Nat) (xs : List Nat) (w : World) (B B' : Nat) (hr : Rw w B A xs) (hr' : Rw w B' A' xs) (hl : xs.length ≤ 4611686018427387904) :
    Calls Tryd.prog 6 #[.slice A xs.length c, .slice A' xs.length c'] w fun e w' => e = .returned (.bool true) ∧ ∃ n, w' = w.drewN n := by
  have := ref_samekeys A A' c c' xs xs w B B' hr hr' hl hl
  rwa [decide_eq_true (rfl : xs = xs)] at this
end Go.Proofs.YtnpdndcgmfhbdaaDoor
