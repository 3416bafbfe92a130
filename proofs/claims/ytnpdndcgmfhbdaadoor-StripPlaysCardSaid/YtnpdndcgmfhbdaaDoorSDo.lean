
/- The law's own function 'do' on a strip and the document's: both are changed alike. -/
import Derived.Test.YtnpdndcgmfhbdaaDoorSRef2
import Derived.Test.YtnpdndcgmfhbdaaDoorSSet
namespace Go.Proofs.YtnpdndcgmfhbdaaDoor
open Go.RowKit
theorem laid_same {o : Bool} {ws : List Nat} {k : Nat} (hb : sbit ws k = o) : Laid o ws ws (k : Int) ((k : Int) + 1) :=
  ⟨rfl, fun b _ => by
    by_cases e : b = k
    · subst e; rw [if_pos (by omega)]; exact hb
    · rw [if_neg (by omega)]⟩
theorem did_list {o : Bool} {ws us : List Nat} {ys : List Int} {f t T : Int} {n : Nat} (hL : Laid o ws us f t) (hD : Did o (sl ws) ys (max f 0) T n) (hT : T = max (max f 0) (min t (64 * (ws.length : Int)))) : ys = sl us := by
  refine M.sorted_ext hD.1.1 (sl_up us) fun y => ?_
  rw [hD.1.2 y]
  have hN : ((64 * ws.length : Nat) : Int) = 64 * (ws.length : Int) := by omega
  have hin : ∀ y ∈ sl ws, 0 ≤ y ∧ y < 64 * (ws.length : Int) := fun y hy => by have := sl_in.1 hy; omega
  cases o
  · rw [hL.mem_false, hN]
    by_cases hr : max f 0 ≤ y ∧ y < T
    · rw [if_pos hr]
      constructor
      · intro h; cases h
      · rintro ⟨_, h⟩; exact absurd ⟨by omega, by omega⟩ h
    · rw [if_neg hr]
      constructor
      · intro h; exact ⟨h, fun h2 => hr ⟨by omega, by omega⟩⟩
      · exact fun h => h.1
  · rw [hL.mem_true, hN]
    by_cases hr : max f 0 ≤ y ∧ y < T
    · rw [if_pos hr]
      constructor
      · intro _; right; exact ⟨by omega, by omega⟩
      · intro _; rfl
    · rw [if_neg hr]
      constructor
      · intro h; exact .inl h
      · rintro (h | h)
        · exact h
        · exact absurd ⟨by omega, by omega⟩ hr
/-- What 'do' leaves: a strip and a list that are alike. -/
def DoneP (w : World) (s h X W : Nat) (e : Ending) (w' : World) : Prop :=
  e = .returned (.bool true) ∧ ∃ us A' c', us.length = W ∧ St w' s h us ∧ RS w' X W A' c' (sl us) ∧ w.heap.size ≤ w'.heap.size ∧ ∀ B, B ≤ h → B ≤ X → B ≤ w.heap.size → Below B w w'
theorem RS.grown {w w' : World} {X W g : Nat} {A : Option Addr} {c : Nat} {xs : List Int} (h : RS w X W A c xs) (gr : w.grownBy w' (some g)) (hg : g < X) : RS w' X W A c xs := by
  refine ⟨(gr.block X h.lt (by intro e; cases e; omega)).trans h.1, ?_, h.2.2⟩
  intro hne
  obtain ⟨b, off, rfl, hlt, hc⟩ := h.2.1 hne
  have hb := h.2.2 _ rfl
  refine ⟨b, off, rfl, Nat.lt_of_lt_of_le hlt gr.size, fun k hk => ?_⟩
  rw [← hc k hk]
  have hb' : X + 1 ≤ b := hb
  exact World.cell?_of_block (gr.block b hlt (by intro e; cases e; omega))
end Go.Proofs.YtnpdndcgmfhbdaaDoor
