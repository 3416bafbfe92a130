
/- What one and what all of strips have, bit by bit; strips that have the same bits. -/
import Derived.Test.YtfdcejafobjlbaaDoorObjE
import Derived.Test.YtfdcejafobjlbaaDoorSLaws3
namespace Go.Proofs.YtfdcejafobjlbaaDoor
open Go.RowKit
/-- How many of them have bit i. -/
def cnt (i : Int) (sts : List (Nat × Nat × List Nat)) : Nat := (sts.filter fun x => M.rHas (sl x.2.2) i).length
theorem cnt_snoc (i : Int) (l : List (Nat × Nat × List Nat)) (x : Nat × Nat × List Nat) : cnt i (l ++ [x]) = cnt i l + if M.rHas (sl x.2.2) i then 1 else 0 := by
  unfold cnt
  rw [List.filter_append, List.length_append]
  cases h : M.rHas (sl x.2.2) i <;> simp [h]
theorem cnt_le (i : Int) (l : List (Nat × Nat × List Nat)) : cnt i l ≤ l.length := List.length_filter_le _ _
theorem has_sbit (ws : List Nat) (k : Nat) (hk : k < 64 * ws.length) : M.rHas (sl ws) (k : Int) = sbit ws k := by
  rw [Bool.eq_iff_iff]
  unfold M.rHas
  rw [List.any_eq_true]
  constructor
  · rintro ⟨y, hy, he⟩
    have h1 := (sl_in.1 hy).2.2
    have h2 : y.toNat = k := by simp at he; omega
    rwa [h2] at h1
  · intro hb
    exact ⟨(k : Int), sl_in.2 ⟨by omega, by omega, by simpa using hb⟩, by simp⟩
theorem cnt_col {sts : List (Nat × Nat × List Nat)} {n k : Nat} (hn : ∀ x ∈ sts, x.2.2.length = n) (hk : k < 64 * n) : M.has (k % 64) (col sts (k / 64)) = cnt (k : Int) sts := by
  unfold cnt col M.has
  rw [List.filter_map, List.length_map]
  congr 1
  apply List.filter_congr
  intro x hx
  rw [has_sbit x.2.2 k (by rw [hn x hx]; exact hk)]
  rfl
theorem word_at {us : List Nat} {n k r : Nat} (hl : us.length = n) (hk : k < 64 * n) (h : us[k / 64]? = some r) : M.rHas (sl us) (k : Int) = r.testBit (k % 64) := by
  rw [has_sbit us k (by rw [hl]; exact hk)]
  unfold sbit
  rw [h]; rfl
theorem or_at {us : List Nat} {sts : List (Nat × Nat × List Nat)} {n k : Nat} (hl : us.length = n) (hn : ∀ x ∈ sts, x.2.2.length = n) (hk : k < 64 * n) (h : ∀ a, a < n → us[a]? = some (M.orAll (col sts a))) : M.rHas (sl us) (k : Int) = decide (0 < cnt (k : Int) sts) := by
  rw [word_at hl hk (h (k / 64) (by omega)), M.or_has, cnt_col hn hk]
theorem and_at {us : List Nat} {sts : List (Nat × Nat × List Nat)} {n k : Nat} (hl : us.length = n) (hn : ∀ x ∈ sts, x.2.2.length = n) (hk : k < 64 * n) (h : ∀ a, a < n → us[a]? = some (M.andAll (col sts a))) : M.rHas (sl us) (k : Int) = decide (cnt (k : Int) sts = sts.length) := by
  rw [word_at hl hk (h (k / 64) (by omega)), M.and_has _ (Nat.mod_lt _ (by decide)), cnt_col hn hk]
  unfold col
  rw [List.length_map]
theorem sl_inj {us vs : List Nat} (hl : us.length = vs.length) (hu : ∀ x ∈ us, x < 18446744073709551616) (hv : ∀ x ∈ vs, x < 18446744073709551616) (h : sl us = sl vs) : us = vs := by
  have hb : ∀ k, k < 64 * us.length → sbit us k = sbit vs k := fun k hk => by
    rw [← has_sbit us k hk, ← has_sbit vs k (by rw [← hl]; exact hk), h]
  apply List.ext_getElem hl
  intro a h1 h2
  apply Nat.eq_of_testBit_eq
  intro j
  by_cases hj : j < 64
  · have := hb (64 * a + j) (by omega)
    unfold sbit at this
    have e1 : (64 * a + j) / 64 = a := by omega
    have e2 : (64 * a + j) % 64 = j := by omega
    rw [e1, e2, List.getElem?_eq_getElem h1, List.getElem?_eq_getElem h2] at this
    simpa using this
  · have hp : ∀ x : Nat, x < 18446744073709551616 → x.testBit j = false := fun x hx => Nat.testBit_lt_two_pow (Nat.lt_of_lt_of_le hx (Nat.pow_le_pow_right (n := 2) (by decide) (by omega : 64 ≤ j)))
    rw [hp _ (hu _ (List.getElem_mem h1)), hp _ (hv _ (List.getElem_mem h2))]
theorem same_sl {us vs : List Nat} (hl : us.length = vs.length) (hu : ∀ x ∈ us, x < 18446744073709551616) (hv : ∀ x ∈ vs, x < 18446744073709551616) : decide (sl us = sl vs) = decide (us = vs) := by
  rw [decide_eq_decide]
  exact ⟨sl_inj hl hu hv, fun h => by rw [h]⟩
/-- Three strips, the first 1 + m of them. -/
def tk (m : Nat) (a b c : Nat × Nat × List Nat) : List (Nat × Nat × List Nat) := [a, b, c].take (1 + m)
theorem tk_len {m : Nat} (hm : m < 3) (a b c : Nat × Nat × List Nat) : (tk m a b c).length = 1 + m := by unfold tk; rw [List.length_take]; simp; omega
theorem tk_in {m : Nat} {a b c x : Nat × Nat × List Nat} (h : x ∈ tk m a b c) : x = a ∨ x = b ∨ x = c := by
  have := List.mem_of_mem_take h
  simpa using this
theorem tk_at {m k : Nat} (hm : m < 3) (hk : k < 1 + m) (a b c : Nat × Nat × List Nat) : (k = 0 ∧ (tk m a b c)[k]? = some a) ∨ (k = 1 ∧ (tk m a b c)[k]? = some b) ∨ (k = 2 ∧ (tk m a b c)[k]? = some c) := by
  unfold tk
  rw [List.getElem?_take, if_pos hk]
  match k, (by omega : k < 3) with
  | 0, _ => exact .inl ⟨rfl, rfl⟩
  | 1, _ => exact .inr (.inl ⟨rfl, rfl⟩)
  | 2, _ => exact .inr (.inr ⟨rfl, rfl⟩)
end Go.Proofs.YtfdcejafobjlbaaDoor
