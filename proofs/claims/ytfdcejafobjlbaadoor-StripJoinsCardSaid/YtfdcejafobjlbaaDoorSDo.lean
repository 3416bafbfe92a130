
/- The law's own function 'do' on a strip and the document's: both are changed alike. -/
import Derived.Test.YtfdcejafobjlbaaDoorSRef2
namespace Go.Proofs.YtfdcejafobjlbaaDoor
open Go.RowKit
theorem sset_len (ws : List Nat) (k : Nat) : (sset ws k).length = ws.length := by unfold sset; rw [List.length_set]
theorem sclr_len (ws : List Nat) (k : Nat) : (sclr ws k).length = ws.length := by unfold sclr; rw [List.length_set]
theorem one_bit (k j : Nat) (hk : k < 64) : (M.one (k : Int)).testBit j = decide (k = j) := by
  unfold M.one
  rw [if_pos (by omega)]
  simp only [Int.toNat_natCast]
  rw [Nat.testBit_two_pow]
theorem laid_set {ws : List Nat} {k : Nat} (hk : k < 64 * ws.length) : Laid true ws (sset ws k) (k : Int) ((k : Int) + 1) := by
  refine ⟨sset_len ws k, fun b hb => ?_⟩
  have hq : k / 64 < ws.length := by omega
  have hm : k % 64 < 64 := Nat.mod_lt _ (by decide)
  unfold sset
  rw [sbit_set _ hq]
  by_cases hb64 : b / 64 = k / 64
  · rw [if_pos hb64, Nat.testBit_or, one_bit _ _ hm]
    by_cases e : b = k
    · subst e; rw [if_pos (by omega)]; simp
    · rw [if_neg (by omega)]
      have : decide (k % 64 = b % 64) = false := decide_eq_false (by omega)
      rw [this, Bool.or_false]
      unfold sbit; rw [hb64]
  · rw [if_neg hb64, if_neg (by intro h; exact hb64 (by congr 1; omega))]
theorem laid_clr {ws : List Nat} {k : Nat} (hk : k < 64 * ws.length) : Laid false ws (sclr ws k) (k : Int) ((k : Int) + 1) := by
  refine ⟨sclr_len ws k, fun b hb => ?_⟩
  have hq : k / 64 < ws.length := by omega
  have hm : k % 64 < 64 := Nat.mod_lt _ (by decide)
  have hm2 : b % 64 < 64 := Nat.mod_lt _ (by decide)
  unfold sclr
  rw [sbit_set _ hq]
  by_cases hb64 : b / 64 = k / 64
  · rw [if_pos hb64, Nat.testBit_and, M.not_bit _ _ (M.one_lt _) hm2, one_bit _ _ hm]
    by_cases e : b = k
    · subst e; rw [if_pos (by omega)]; simp
    · rw [if_neg (by omega)]
      have : decide (k % 64 = b % 64) = false := decide_eq_false (by omega)
      rw [this, Bool.not_false, Bool.and_true]
      unfold sbit; rw [hb64]
  · rw [if_neg hb64, if_neg (by intro h; exact hb64 (by congr 1; omega))]
theorem laid_same {o : Bool} {ws : List Nat} {k : Nat} (hb : sbit ws k = o) : Laid o ws ws (k : Int) ((k : Int) + 1) :=
  ⟨rfl, fun b _ => by
    by_cases e : b = k
    · subst e; rw [if_pos (by omega)]; exact hb
    · rw [if_neg (by omega)]⟩
theorem did_list {o : Bool} {ws us : List Nat} {ys : List Int} {f t T : Int} {n : Nat} (hL : Laid o ws us f t) (hD : Did o (sl ws) ys (max f 0) T n) (hT : T = max (max f 0) (min t (64 * (ws.length : Int)))) : ys = sl us := by
  refine M.sorted_ext hD.1.1 (sl_up us) fun y => ?_
  rw [hD.1.2 y]
  have hN : ((64 * ws.length : Nat) : Int) = 64 * (ws.length : Int) := by omega
  have hin : ∀ y ∈ sl ws, 0 ≤ y ∧ y < 64 * (ws.length : Int) := fun y hy => by have := sl_in.1 hy; omega
  cases o
  · rw [hL.mem_false, hN]
    by_cases hr : max f 0 ≤ y ∧ y < T
    · rw [if_pos hr]
      constructor
      · intro h; cases h
      · rintro ⟨_, h⟩; exact absurd ⟨by omega, by omega⟩ h
    · rw [if_neg hr]
      constructor
      · intro h; exact ⟨h, fun h2 => hr ⟨by omega, by omega⟩⟩
      · exact fun h => h.1
  · rw [hL.mem_true, hN]
    by_cases hr : max f 0 ≤ y ∧ y < T
    · rw [if_pos hr]
      constructor
      · intro _; right; exact ⟨by omega, by omega⟩
      · intro _; rfl
    · rw [if_neg hr]
      constructor
      · intro h; exact .inl h
      · rintro (h | h)
        · exact h
        · exact absurd ⟨by omega, by omega⟩ hr
theorem sset_more {ws : List Nat} {k : Nat} (hk : k < 64 * ws.length) (hb : sbit ws k = false) : (sl (sset ws k)).length = (sl ws).length + 1 := by
  have e : sl (sset ws k) = M.add (sl ws) k := by
    refine M.sorted_ext (sl_up _) (M.add_sorted (sl_up _) _) fun y => ?_
    rw [(laid_set hk).mem_true, M.mem_add]
    constructor
    · rintro (h | h)
      · exact .inr h
      · left; omega
    · rintro (rfl | h)
      · right; omega
      · exact .inl h
  rw [e]
  refine add_len (sl_up _) ?_
  unfold M.rHas
  rw [List.any_eq_false]
  intro y hy he
  have := (sl_in.1 hy).2.2
  have e2 : y.toNat = k := by simp at he; omega
  rw [e2, hb] at this
  cases this
theorem sclr_less {ws : List Nat} {k : Nat} (hk : k < 64 * ws.length) (hb : sbit ws k = true) : (sl (sclr ws k)).length + 1 = (sl ws).length := by
  have e : sl (sclr ws k) = M.drop (sl ws) k := by
    refine M.sorted_ext (sl_up _) (M.drop_sorted (sl_up _) _) fun y => ?_
    rw [(laid_clr hk).mem_false, M.mem_drop]
    constructor
    · rintro ⟨h, h2⟩
      exact ⟨h, fun e => h2 (by omega)⟩
    · rintro ⟨h, h2⟩
      exact ⟨h, fun h3 => h2 (by omega)⟩
  rw [e]
  refine drop_len1 (sl_up _) ?_
  unfold M.rHas
  rw [List.any_eq_true]
  exact ⟨k, sl_in.2 ⟨by omega, by omega, by simpa using hb⟩, by simp⟩
/-- What 'do' leaves: a strip and a list that are alike. -/
def DoneP (w : World) (s h X W : Nat) (e : Ending) (w' : World) : Prop :=
  e = .returned (.bool true) ∧ ∃ us A' c', us.length = W ∧ St w' s h us ∧ RS w' X W A' c' (sl us) ∧ w.heap.size ≤ w'.heap.size ∧ ∀ B, B ≤ h → B ≤ X → B ≤ w.heap.size → Below B w w'
theorem RS.grown {w w' : World} {X W g : Nat} {A : Option Addr} {c : Nat} {xs : List Int} (h : RS w X W A c xs) (gr : w.grownBy w' (some g)) (hg : g < X) : RS w' X W A c xs := by
  refine ⟨(gr.block X h.lt (by intro e; cases e; omega)).trans h.1, ?_, h.2.2⟩
  intro hne
  obtain ⟨b, off, rfl, hlt, hc⟩ := h.2.1 hne
  have hb := h.2.2 _ rfl
  refine ⟨b, off, rfl, Nat.lt_of_lt_of_le hlt gr.size, fun k hk => ?_⟩
  rw [← hc k hk]
  have hb' : X + 1 ≤ b := hb
  exact World.cell?_of_block (gr.block b hlt (by intro e; cases e; omega))
end Go.Proofs.YtfdcejafobjlbaaDoor
