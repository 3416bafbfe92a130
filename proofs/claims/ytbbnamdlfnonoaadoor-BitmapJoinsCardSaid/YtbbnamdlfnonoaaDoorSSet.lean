
/- One bit set, one bit cleared: the list of a strip's bits. -/
import Derived.Test.YtbbnamdlfnonoaaDoorObjC
namespace Go.Proofs.YtbbnamdlfnonoaaDoor
open Go.RowKit
theorem grown_refl (w : World) (r : Option Nat) : w.grownBy w r := ⟨rfl, rfl, rfl, Nat.le_refl _, fun _ _ _ => rfl⟩
theorem add_len {zs : List Int} {q : Int} (hs : zs.Pairwise (· < ·)) (h : M.rHas zs q = false) : (M.add zs q).length = zs.length + 1 := by
  have hne : ∀ x ∈ zs, x ≠ q := by
    intro x hx e; subst e
    have : M.rHas zs x = true := by simp [M.rHas]; exact hx
    rw [this] at h; cases h
  clear h
  unfold M.add
  rw [List.length_append, List.length_cons]
  induction zs with
  | nil => rfl
  | cons a l ih =>
    have ih := ih (List.pairwise_cons.1 hs).2 (fun x hx => hne x (List.mem_cons_of_mem _ hx))
    have ha := hne a (List.mem_cons_self ..)
    rw [List.filter_cons, List.filter_cons, List.length_cons]
    by_cases h1 : a < q
    · have h2 : ¬ q < a := by omega
      simp only [h1, h2, decide_true, decide_false, if_true, Bool.false_eq_true, if_false, List.length_cons]; omega
    · have h2 : q < a := by omega
      simp only [h1, h2, decide_true, decide_false, if_true, Bool.false_eq_true, if_false, List.length_cons]; omega
theorem drop_len1 {zs : List Int} {q : Int} (hs : zs.Pairwise (· < ·)) (h : M.rHas zs q = true) : (M.drop zs q).length + 1 = zs.length := by
  have hm : q ∈ zs := by simpa [M.rHas] using h
  clear h
  induction zs with
  | nil => cases hm
  | cons a l ih =>
    rw [List.pairwise_cons] at hs
    by_cases ha : a = q
    · subst ha
      have e : M.drop (a :: l) a = l := by
        unfold M.drop
        rw [List.filter_cons_of_neg (by simp)]
        rw [List.filter_eq_self]
        intro x hx
        have := hs.1 x hx
        simp; omega
      rw [e]; rfl
    · have hm2 : q ∈ l := by rcases List.mem_cons.1 hm with h | h; exact absurd h.symm ha; exact h
      have := ih hs.2 hm2
      unfold M.drop at *
      rw [List.filter_cons_of_pos (by simpa using ha), List.length_cons, List.length_cons]
      omega
theorem sset_len (ws : List Nat) (k : Nat) : (sset ws k).length = ws.length := by unfold sset; rw [List.length_set]
theorem sclr_len (ws : List Nat) (k : Nat) : (sclr ws k).length = ws.length := by unfold sclr; rw [List.length_set]
theorem one_bit (k j : Nat) (hk : k < 64) : (M.one (k : Int)).testBit j = decide (k = j) := by
  unfold M.one
  rw [if_pos (by omega)]
  simp only [Int.toNat_natCast]
  rw [Nat.testBit_two_pow]
theorem laid_set {ws : List Nat} {k : Nat} (hk : k < 64 * ws.length) : Laid true ws (sset ws k) (k : Int) ((k : Int) + 1) := by
  refine ⟨sset_len ws k, fun b hb => ?_⟩
  have hq : k / 64 < ws.length := by omega
  have hm : k % 64 < 64 := Nat.mod_lt _ (by decide)
  unfold sset
  rw [sbit_set _ hq]
  by_cases hb64 : b / 64 = k / 64
  · rw [if_pos hb64, Nat.testBit_or, one_bit _ _ hm]
    by_cases e : b = k
    · subst e; rw [if_pos (by omega)]; simp
    · rw [if_neg (by omega)]
      have : decide (k % 64 = b % 64) = false := decide_eq_false (by omega)
      rw [this, Bool.or_false]
      unfold sbit; rw [hb64]
  · rw [if_neg hb64, if_neg (by intro h; exact hb64 (by congr 1; omega))]
theorem laid_clr {ws : List Nat} {k : Nat} (hk : k < 64 * ws.length) : Laid false ws (sclr ws k) (k : Int) ((k : Int) + 1) := by
  refine ⟨sclr_len ws k, fun b hb => ?_⟩
  have hq : k / 64 < ws.length := by omega
  have hm : k % 64 < 64 := Nat.mod_lt _ (by decide)
  have hm2 : b % 64 < 64 := Nat.mod_lt _ (by decide)
  unfold sclr
  rw [sbit_set _ hq]
  by_cases hb64 : b / 64 = k / 64
  · rw [if_pos hb64, Nat.testBit_and, M.not_bit _ _ (M.one_lt _) hm2, one_bit _ _ hm]
    by_cases e : b = k
    · subst e; rw [if_pos (by omega)]; simp
    · rw [if_neg (by omega)]
      have : decide (k % 64 = b % 64) = false := decide_eq_false (by omega)
      rw [this, Bool.not_false, Bool.and_true]
      unfold sbit; rw [hb64]
  · rw [if_neg hb64, if_neg (by intro h; exact hb64 (by congr 1; omega))]
theorem sset_more {ws : List Nat} {k : Nat} (hk : k < 64 * ws.length) (hb : sbit ws k = false) : (sl (sset ws k)).length = (sl ws).length + 1 := by
  have e : sl (sset ws k) = M.add (sl ws) k := by
    refine M.sorted_ext (sl_up _) (M.add_sorted (sl_up _) _) fun y => ?_
    rw [(laid_set hk).mem_true, M.mem_add]
    constructor
    · rintro (h | h)
      · exact .inr h
      · left; omega
    · rintro (rfl | h)
      · right; omega
      · exact .inl h
  rw [e]
  refine add_len (sl_up _) ?_
  unfold M.rHas
  rw [List.any_eq_false]
  intro y hy he
  have := (sl_in.1 hy).2.2
  have e2 : y.toNat = k := by simp at he; omega
  rw [e2, hb] at this
  cases this
theorem sclr_less {ws : List Nat} {k : Nat} (hk : k < 64 * ws.length) (hb : sbit ws k = true) : (sl (sclr ws k)).length + 1 = (sl ws).length := by
  have e : sl (sclr ws k) = M.drop (sl ws) k := by
    refine M.sorted_ext (sl_up _) (M.drop_sorted (sl_up _) _) fun y => ?_
    rw [(laid_clr hk).mem_false, M.mem_drop]
    constructor
    · rintro ⟨h, h2⟩
      exact ⟨h, fun e => h2 (by omega)⟩
    · rintro ⟨h, h2⟩
      exact ⟨h, fun h3 => h2 (by omega)⟩
  rw [e]
  refine drop_len1 (sl_up _) ?_
  unfold M.rHas
  rw [List.any_eq_true]
  exact ⟨k, sl_in.2 ⟨by omega, by omega, by simpa using hb⟩, by simp⟩
end Go.Proofs.YtbbnamdlfnonoaaDoor
