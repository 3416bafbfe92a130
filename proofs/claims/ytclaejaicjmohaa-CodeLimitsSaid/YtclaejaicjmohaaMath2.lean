
/- Plain facts for the laws of words: masks by counting, a word's rest, sets and clears undone. -/
import Derived.Test.YtclaejaicjmohaaMath
namespace Go.Proofs.Ytclaejaicjmohaa.M

theorem sel_zero (w : Nat) : rSel (bz w) 0 = low w := by
  unfold rSel low
  rw [if_neg (by omega), List.head?_eq_getElem?]
  rfl
theorem sel_last (w : Nat) : rSel (bz w) (((bz w).length : Int) - 1) = high w := by
  unfold rSel high
  by_cases h : bz w = []
  · simp [h]
  · have hpos : 0 < (bz w).length := List.length_pos_iff.2 h
    rw [if_neg (by omega), List.getLast?_eq_getElem?]
    congr 2
    omega
theorem bz_le (w : Nat) : (bz w).length ≤ 64 := by
  rw [bz_len]
  exact Nat.le_trans (List.length_filter_le _ _) (by simp)

theorem set_clear (x : Nat) (hx : x < 18446744073709551616) (i : Int) : (x ||| one i) &&& (18446744073709551615 - one i) = x &&& (18446744073709551615 - one i) := by
  apply Nat.eq_of_testBit_eq
  intro j
  by_cases hj : j < 64
  · rw [Nat.testBit_and, Nat.testBit_and, Nat.testBit_or, not_bit _ _ (one_lt i) hj]
    cases x.testBit j <;> cases (one i).testBit j <;> rfl
  · have h1 : x.testBit j = false := Nat.testBit_lt_two_pow (Nat.lt_of_lt_of_le hx (Nat.pow_le_pow_right (n := 2) (by decide) (Nat.le_of_not_lt hj)))
    have h2 : (one i).testBit j = false := Nat.testBit_lt_two_pow (Nat.lt_of_lt_of_le (one_lt i) (Nat.pow_le_pow_right (n := 2) (by decide) (Nat.le_of_not_lt hj)))
    rw [Nat.testBit_and, Nat.testBit_and, Nat.testBit_or, h1, h2]; rfl
theorem clear_set (x : Nat) (hx : x < 18446744073709551616) (i : Int) : (x &&& (18446744073709551615 - one i)) ||| one i = x ||| one i := by
  apply Nat.eq_of_testBit_eq
  intro j
  by_cases hj : j < 64
  · rw [Nat.testBit_or, Nat.testBit_and, Nat.testBit_or, not_bit _ _ (one_lt i) hj]
    cases x.testBit j <;> cases (one i).testBit j <;> rfl
  · have h1 : x.testBit j = false := Nat.testBit_lt_two_pow (Nat.lt_of_lt_of_le hx (Nat.pow_le_pow_right (n := 2) (by decide) (Nat.le_of_not_lt hj)))
    rw [Nat.testBit_or, Nat.testBit_and, Nat.testBit_or, h1]; rfl

/-- How many of the first k lie from f on below t. -/
def cntm (f t : Int) (k : Nat) : Nat := ((List.range k).filter fun j : Nat => decide (f ≤ (j : Int) ∧ (j : Int) < t)).length
theorem cntm_succ (f t : Int) (k : Nat) : cntm f t (k + 1) = cntm f t k + if f ≤ (k : Int) ∧ (k : Int) < t then 1 else 0 := by
  unfold cntm
  rw [List.range_succ, List.filter_append, List.length_append]
  by_cases h : f ≤ (k : Int) ∧ (k : Int) < t <;> simp [h]
theorem cntm_le (f t : Int) (k : Nat) : cntm f t k ≤ k := Nat.le_trans (List.length_filter_le _ _) (by simp)
theorem bl_mask (f t : Int) : bl (mask f t) = (List.range 64).filter fun j : Nat => decide (f ≤ (j : Int) ∧ (j : Int) < t) := by
  unfold bl
  refine List.filter_congr fun j hj => ?_
  have : j < 64 := by simpa using hj
  rw [mask_bit, decide_eq_decide]; simp [this]
theorem len_mask (f t : Int) : (bz (mask f t)).length = cntm f t 64 := by rw [bz_len, bl_mask]; rfl
theorem sel_mask (f t : Int) (k : Nat) (hk : k < 64) (h : f ≤ (k : Int) ∧ (k : Int) < t) : rSel (bz (mask f t)) (cntm f t k : Nat) = k := by
  unfold rSel
  rw [if_neg (by omega), Int.toNat_natCast, bz, bl_mask]
  obtain ⟨d, hd⟩ : ∃ d, 64 = k + (1 + d) := ⟨63 - k, by omega⟩
  rw [hd, List.range_add, List.filter_append, List.map_append, List.getElem?_append_right (by rw [List.length_map]; exact Nat.le_refl _), List.length_map]
  have e : cntm f t k - ((List.range k).filter fun j : Nat => decide (f ≤ (j : Int) ∧ (j : Int) < t)).length = 0 := Nat.sub_self _
  rw [e, List.range_add]
  simp [h]

/-- A word's rest. -/
def rest (x : Nat) : Nat := 18446744073709551615 - x
theorem rest_lt (x : Nat) : rest x < 18446744073709551616 := by unfold rest; omega
theorem rest_bit (x j : Nat) (hx : x < 18446744073709551616) (hj : j < 64) : (rest x).testBit j = !x.testBit j := not_bit x j hx hj
theorem xor_full (x : Nat) (hx : x < 18446744073709551616) : 18446744073709551615 ^^^ x = rest x := by
  apply Nat.eq_of_testBit_eq
  intro j
  have e : (18446744073709551615 : Nat) = 2 ^ 64 - 1 := rfl
  by_cases hj : j < 64
  · rw [rest_bit x j hx hj, Nat.testBit_xor, e, Nat.testBit_two_pow_sub_one]
    simp [hj]
  · have h1 : x.testBit j = false := Nat.testBit_lt_two_pow (Nat.lt_of_lt_of_le hx (Nat.pow_le_pow_right (n := 2) (by decide) (Nat.le_of_not_lt hj)))
    have h2 : (rest x).testBit j = false := Nat.testBit_lt_two_pow (Nat.lt_of_lt_of_le (rest_lt x) (Nat.pow_le_pow_right (n := 2) (by decide) (Nat.le_of_not_lt hj)))
    rw [h2, Nat.testBit_xor, e, Nat.testBit_two_pow_sub_one, h1]
    simp [hj]
theorem has_bit (x k : Nat) (hk : k < 64) : rHas (bz x) k = x.testBit k := by
  rw [Bool.eq_iff_iff, rHas, List.any_eq_true]
  constructor
  · rintro ⟨y, hy, he⟩
    obtain rfl : y = (k : Int) := by simpa using he
    simpa using (mem_bz.1 hy).2.2
  · intro h
    exact ⟨k, mem_bz.2 ⟨by omega, by omega, by simpa using h⟩, by simp⟩
def clamp (i : Int) : Nat := (max (min i 64) 0).toNat
def cb (x c : Nat) : Nat := ((List.range c).filter fun j => x.testBit j).length
theorem cb_succ (x c : Nat) : cb x (c + 1) = cb x c + if x.testBit c then 1 else 0 := by
  unfold cb
  rw [List.range_succ, List.filter_append, List.length_append]
  cases h : x.testBit c <;> simp [h]
theorem rank_cb (x : Nat) (i : Int) : rRank (bz x) i = cb x (clamp i) := by
  have hc : clamp i ≤ 64 := by unfold clamp; omega
  have : ∀ c, c ≤ 64 → ((List.range 64).filter fun j => x.testBit j && decide (j < c)).length = cb x c := by
    intro c hc
    obtain ⟨d, hd⟩ : ∃ d, 64 = c + d := ⟨64 - c, by omega⟩
    rw [hd, List.range_add, List.filter_append]
    have h2 : ((List.range d).map fun y => c + y).filter (fun j => x.testBit j && decide (j < c)) = [] := by
      rw [List.filter_eq_nil_iff]
      intro a ha
      simp only [List.mem_map, List.mem_range] at ha
      obtain ⟨y, _, rfl⟩ := ha
      simp
    rw [h2, List.append_nil]
    unfold cb
    congr 1
    refine List.filter_congr fun j hj => ?_
    have : j < c := by simpa using hj
    simp [this]
  rw [← this _ hc]
  unfold rRank bz bl
  rw [List.filter_map, List.length_map, List.filter_filter]
  congr 1
  refine List.filter_congr fun j hj => ?_
  have h64 : j < 64 := by simpa using hj
  simp only [Function.comp]
  rw [Bool.and_comm]
  congr 1
  rw [decide_eq_decide]; unfold clamp; omega
theorem cb_rest (x : Nat) (hx : x < 18446744073709551616) (c : Nat) (hc : c ≤ 64) : cb x c + cb (rest x) c = c := by
  induction c with
  | zero => rfl
  | succ c ih =>
    rw [cb_succ, cb_succ, rest_bit x c hx (by omega)]
    have := ih (by omega)
    cases x.testBit c <;> simp <;> omega
theorem rank_rest (x : Nat) (hx : x < 18446744073709551616) (i : Int) : rRank (bz x) i + rRank (bz (rest x)) i = clamp i := by
  rw [rank_cb, rank_cb]; exact cb_rest x hx _ (by unfold clamp; omega)
theorem len_rest (x : Nat) (hx : x < 18446744073709551616) : (bl x).length + (bl (rest x)).length = 64 := cb_rest x hx 64 (by decide)
theorem next_rest_at (x : Nat) (hx : x < 18446744073709551616) (i : Int) (k : Nat) (h0 : clamp i ≤ k) (hk : k < 64) (hset : ∀ j, clamp i ≤ j → j < k → x.testBit j = true) (hb : x.testBit k = false) :
    rNext (bz (rest x)) i = k := by
  have hi : i ≤ (k : Int) := by unfold clamp at h0; omega
  unfold rNext bz
  rw [List.find?_map]
  have : (bl (rest x)).find? (fun j : Nat => decide (i ≤ (j : Int))) = some k := by
    unfold bl
    rw [List.find?_filter, List.find?_range_eq_some]
    refine ⟨by rw [rest_bit x k hx hk, hb]; simp [hi], by simpa using hk, fun j hj => ?_⟩
    by_cases hc : clamp i ≤ j
    · rw [rest_bit x j hx (by omega), hset j hc hj]; simp
    · have : ¬ i ≤ (j : Int) := by unfold clamp at hc; omega
      simp [this]
  simp only [Function.comp_def, this]
  rfl
theorem next_rest_none (x : Nat) (hx : x < 18446744073709551616) (i : Int) (hset : ∀ j, clamp i ≤ j → j < 64 → x.testBit j = true) : rNext (bz (rest x)) i = -1 := by
  unfold rNext
  have : (bz (rest x)).find? (fun y => decide (i ≤ y)) = none := by
    rw [List.find?_eq_none]
    intro y hy
    obtain ⟨h1, h2, h3⟩ := mem_bz.1 hy
    rw [rest_bit x _ hx (by omega)] at h3
    intro hle
    have : i ≤ y := by simpa using hle
    have := hset y.toNat (by unfold clamp; omega) (by omega)
    rw [this] at h3; cases h3
  rw [this]; rfl
end Go.Proofs.Ytclaejaicjmohaa.M
