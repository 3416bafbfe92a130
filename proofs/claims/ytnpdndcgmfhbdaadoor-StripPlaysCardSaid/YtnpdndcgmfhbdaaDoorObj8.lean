
/- Select, the text walked. -/
import Derived.Test.YtnpdndcgmfhbdaaDoorObj7
namespace Go.Proofs.YtnpdndcgmfhbdaaDoor
open Go.RowKit
theorem sl_grows (ws us : List Nat) : sl ws <+: sl (ws ++ us) := by
  induction us generalizing ws with
  | nil => rw [List.append_nil]; exact List.prefix_refl _
  | cons u us ih =>
    rw [show ws ++ u :: us = (ws ++ [u]) ++ us by simp]
    refine List.IsPrefix.trans ?_ (ih (ws ++ [u]))
    rw [sl_snoc]
    exact List.prefix_append _ _
theorem sl_prefix (ws : List Nat) (j : Nat) : sl (ws.take j) <+: sl ws := by
  have := sl_grows (ws.take j) (ws.drop j)
  rwa [List.take_append_drop] at this
theorem bz_len (x : Nat) : (M.bz x).length = (M.bl x).length := by simp [M.bz]
theorem sel_hit {ws : List Nat} {j : Nat} (hj : j < ws.length) (k : Nat) (hk : k < (M.bl ws[j]).length) : M.rSel (sl ws) (((sl (ws.take j)).length + k : Nat) : Int) = (j : Int) * 64 + M.rSel (M.bz ws[j]) (k : Int) := by
  have hl : (ws.take j).length = j := by rw [List.length_take]; omega
  have hp := sl_prefix ws (j + 1)
  rw [List.take_succ_eq_append_getElem hj, sl_snoc, hl] at hp
  obtain ⟨t, ht⟩ := hp
  have hk2 : k < (M.bz ws[j]).length := by rw [bz_len]; exact hk
  unfold M.rSel
  rw [if_neg (by omega), if_neg (by omega), ← ht, Int.toNat_natCast, Int.toNat_natCast, List.append_assoc, List.getElem?_append_right (by omega), List.getElem?_append_left (by rw [List.length_map]; omega), List.getElem?_map, show (sl (ws.take j)).length + k - (sl (ws.take j)).length = k by omega, List.getElem?_eq_getElem hk2]
  simp
  omega
theorem sel_past (ws : List Nat) (k : Nat) : M.rSel (sl ws) (((sl ws).length + k : Nat) : Int) = -1 := by
  unfold M.rSel
  rw [if_neg (by omega), Int.toNat_natCast, List.getElem?_eq_none (by omega)]
  rfl
theorem sel_in {x k : Nat} (hk : k < (M.bl x).length) : 0 ≤ M.rSel (M.bz x) (k : Int) ∧ M.rSel (M.bz x) (k : Int) < 64 := by
  have hk2 : k < (M.bz x).length := by rw [bz_len]; exact hk
  have e : M.rSel (M.bz x) (k : Int) = (M.bz x)[k] := by
    unfold M.rSel
    rw [if_neg (by omega), Int.toNat_natCast, List.getElem?_eq_getElem hk2]
    rfl
  rw [e]
  have := M.mem_bz.1 (List.getElem_mem hk2)
  exact ⟨this.1, this.2.1⟩
theorem sl_len_snoc {ws : List Nat} {j : Nat} (hj : j < ws.length) : (sl (ws.take (j + 1))).length = (sl (ws.take j)).length + (M.bl ws[j]).length := by
  rw [List.take_succ_eq_append_getElem hj, sl_snoc, List.length_append, List.length_map, bz_len]
end Go.Proofs.YtnpdndcgmfhbdaaDoor
