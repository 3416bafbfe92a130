
/- Rows that are written; a change of one number. -/
import Derived.Test.YtepnjolldbgglaaKbArrU
namespace Go.Proofs.Ytepnjolldbgglaa.Kb
open Go.RowKit Go.Shelf
/-- The first n cells of A's block (from B on, below E) are numbers, and may be written. -/
def Wr (W : World) (B E : Nat) (A : Option Addr) (n : Nat) : Prop :=
  n ≠ 0 → ∃ g cur, A = some ⟨g, 0, none⟩ ∧ B ≤ g ∧ g < E ∧ W.heap[g]? = some (.cells cur 23 (0, 0)) ∧ ∀ k, k < n → ∃ x, cur[k]? = some (.int .u64 x)
theorem Wr.of_own {W : World} {B : Nat} {v : Value} {xs : List Int} (h : W.ownsRow B 23 1 v xs.length (hv xs)) : ∃ A c, v = .slice A xs.length c ∧ Rh W W.heap.size A xs ∧ xs.length ≤ c ∧ Wr W B W.heap.size A xs.length := by
  obtain ⟨A, c, hv1, hr, hc⟩ := own_reads h
  refine ⟨A, c, hv1, hr, hc, fun hn => ?_⟩
  rcases h.2 with ⟨_, h0⟩ | ⟨g, cap, cur, h1, h2, h3, h4, h5, h6, h7⟩
  · exact absurd h0 hn
  · rw [hv1] at h1
    cases h1
    refine ⟨g, cur, rfl, h2, (Array.getElem?_eq_some_iff.1 h3).1, h3, fun k hk => ?_⟩
    have h8 : (cur.toList.take (xs.length * 1))[k]? = (hv xs)[k]? := by rw [h7]
    rw [Nat.mul_one, List.getElem?_take_of_lt hk] at h8
    have h9 : (hv xs)[k]? = some (.int .u64 xs[k]) := by simp [hk]
    rw [h9] at h8
    exact ⟨xs[k], by rw [← h8]; simp⟩
theorem Wr.below {W W' : World} {B E D n : Nat} {A : Option Addr} (h : Wr W B E A n) (hb : Below D W W') (hE : E ≤ D) : Wr W' B E A n := fun hn => by
  obtain ⟨g, cur, h1, h2, h3, h4, h5⟩ := h hn
  exact ⟨g, cur, h1, h2, h3, (hb.block g (by omega)).trans h4, h5⟩
theorem Wr.drew {W : World} {B E n : Nat} {A : Option Addr} (h : Wr W B E A n) (q : Nat) : Wr (W.drewN q) B E A n := h
theorem Wr.other {W : World} {B E n : Nat} {A : Option Addr} (h : Wr W B E A n) {g k : Nat} {u : Value} (hg : g < B ∨ E ≤ g) : Wr (W.setCell ⟨g, k, none⟩ u) B E A n := fun hn => by
  obtain ⟨g', cur, h1, h2, h3, h4, h5⟩ := h hn
  refine ⟨g', cur, h1, h2, h3, ?_, h5⟩
  unfold World.setCell
  rw [Array.getElem?_modify, if_neg (by show ¬ g = g'; omega)]
  exact h4
theorem Wr.at {W : World} {B E n : Nat} {A : Option Addr} (h : Wr W B E A n) {k : Nat} (hk : k < n) : ∃ g x, A = some ⟨g, 0, none⟩ ∧ B ≤ g ∧ g < E ∧ W.cell? ⟨g, k, none⟩ = some (.int .u64 x) ∧ W.frozen? ⟨g, k, none⟩ = false ∧
    ∀ y, Wr (W.setCell ⟨g, k, none⟩ (.int .u64 y)) B E A n := by
  obtain ⟨g, cur, h1, h2, h3, h4, h5⟩ := h (by omega)
  obtain ⟨x, hx⟩ := h5 k hk
  refine ⟨g, x, h1, h2, h3, ?_, ?_, fun y _ => ?_⟩
  · rw [cell_of_row W g k _ _ (0, 0) h4]; exact hx
  · simp [World.frozen?, h4]
  · refine ⟨g, cur.setIfInBounds k (.int .u64 y), h1, h2, h3, ?_, fun j hj => ?_⟩
    · simp [World.setCell, Array.getElem?_modify, h4]
    · rw [Array.getElem?_setIfInBounds]
      by_cases e : k = j
      · subst e
        have hl : k < cur.size := (Array.getElem?_eq_some_iff.1 hx).1
        rw [if_pos rfl, if_pos hl]
        exact ⟨y, rfl⟩
      · rw [if_neg e]
        exact h5 j hj
theorem Rh.other {W : World} {B : Nat} {A : Option Addr} {xs : List Int} (h : Rh W B A xs) {g k : Nat} {u : Value} (hg : B ≤ g) : Rh (W.setCell ⟨g, k, none⟩ u) B A xs := fun hne => by
  obtain ⟨b, off, h1, h2, h3⟩ := h hne
  refine ⟨b, off, h1, h2, fun j hj => ?_⟩
  rw [World.cell?_setCell_other (h := by simp <;> omega)]
  exact h3 j hj
end Go.Proofs.Ytepnjolldbgglaa.Kb
