
/- A strip's words read as a list of numbers. -/
import Derived.Test.YtbbnamdlfnonoaaDoorObj4
namespace Go.Proofs.YtbbnamdlfnonoaaDoor
open Go.RowKit
/-- The numbers of the set bits of all words, rising. -/
def sl (ws : List Nat) : List Int := ((List.range (64 * ws.length)).filter (sbit ws)).map fun i : Nat => (i : Int)
theorem sbit_old (ws : List Nat) (x i : Nat) (h : i < 64 * ws.length) : sbit (ws ++ [x]) i = sbit ws i := by
  unfold sbit
  rw [List.getElem?_append_left (by omega)]
theorem sbit_new (ws : List Nat) (x j : Nat) (h : j < 64) : sbit (ws ++ [x]) (64 * ws.length + j) = x.testBit j := by
  unfold sbit
  have e1 : (64 * ws.length + j) / 64 = ws.length := by omega
  have e2 : (64 * ws.length + j) % 64 = j := by omega
  rw [e1, e2]
  simp
theorem sl_snoc (ws : List Nat) (x : Nat) : sl (ws ++ [x]) = sl ws ++ (M.bz x).map (fun y => y + ((64 * ws.length : Nat) : Int)) := by
  unfold sl
  have e : 64 * (ws ++ [x]).length = 64 * ws.length + 64 := by simp; omega
  rw [e, List.range_add, List.filter_append, List.map_append]
  congr 1
  · congr 1
    apply List.filter_congr
    intro i hi
    exact sbit_old ws x i (List.mem_range.1 hi)
  · unfold M.bz M.bl
    rw [List.filter_map, List.map_map, List.map_map]
    have : (List.range 64).filter (sbit (ws ++ [x]) ∘ fun i => 64 * ws.length + i) = (List.range 64).filter fun i => x.testBit i := by
      apply List.filter_congr
      intro i hi
      exact sbit_new ws x i (List.mem_range.1 hi)
    rw [this]
    apply List.map_congr_left
    intro i _
    simp
    omega
theorem sl_in {ws : List Nat} {y : Int} : y ∈ sl ws ↔ 0 ≤ y ∧ y < (64 * ws.length : Nat) ∧ sbit ws y.toNat = true := by
  unfold sl
  simp only [List.mem_map, List.mem_filter, List.mem_range]
  constructor
  · rintro ⟨i, ⟨h1, h2⟩, rfl⟩
    exact ⟨by omega, by omega, by simpa using h2⟩
  · rintro ⟨h1, h2, h3⟩
    exact ⟨y.toNat, ⟨by omega, h3⟩, by omega⟩
theorem rank_shift (l : List Int) (d i : Int) : M.rRank (l.map fun y => y + d) i = M.rRank l (i - d) := by
  unfold M.rRank
  rw [List.filter_map, List.length_map]
  congr 1
  apply List.filter_congr
  intro y _
  simp
  omega
theorem rank_app (l m : List Int) (i : Int) : M.rRank (l ++ m) i = M.rRank l i + M.rRank m i := by
  unfold M.rRank; rw [List.filter_append, List.length_append]
theorem rank_snoc (ws : List Nat) (x : Nat) (i : Int) : M.rRank (sl (ws ++ [x])) i = M.rRank (sl ws) i + M.rRank (M.bz x) (i - ((64 * ws.length : Nat) : Int)) := by
  rw [sl_snoc, rank_app, rank_shift]
theorem rank_low {l : List Int} {i : Int} (h : ∀ y ∈ l, i ≤ y) : M.rRank l i = 0 := by
  unfold M.rRank
  rw [List.length_eq_zero_iff, List.filter_eq_nil_iff]
  intro y hy
  have := h y hy
  simp; omega
theorem rank_take (ws : List Nat) (k : Nat) (i : Int) (h : i ≤ (64 * k : Nat)) (hk : k ≤ ws.length) : M.rRank (sl (ws.take k)) i = M.rRank (sl ws) i := by
  obtain ⟨d, hd⟩ : ∃ d, ws.length = k + d := ⟨ws.length - k, by omega⟩
  suffices ∀ e, k + e ≤ ws.length → M.rRank (sl (ws.take (k + e))) i = M.rRank (sl (ws.take k)) i by
    have := this d (by omega)
    rw [← hd, List.take_length] at this
    exact this.symm
  intro e
  induction e with
  | zero => intro _; rfl
  | succ e ih =>
    intro he
    have hlt : k + e < ws.length := by omega
    have hl : (ws.take (k + e)).length = k + e := by rw [List.length_take]; omega
    rw [show k + (e + 1) = (k + e) + 1 from rfl, List.take_succ_eq_append_getElem hlt, rank_snoc, ih (by omega), rank_low (l := M.bz _), Nat.add_zero]
    intro y hy
    have := (M.mem_bz.1 hy).1
    rw [hl]; omega
theorem rank_le (ws : List Nat) (i : Int) : M.rRank (sl ws) i ≤ 64 * ws.length := by
  unfold M.rRank sl
  refine Nat.le_trans (List.length_filter_le _ _) ?_
  rw [List.length_map]
  refine Nat.le_trans (List.length_filter_le _ _) ?_
  rw [List.length_range]; omega
end Go.Proofs.YtbbnamdlfnonoaaDoor
