
/- Plain facts on many words at once: what one has, what all have. -/
import Derived.Test.YtclaejaicjmohaaMath2
namespace Go.Proofs.Ytclaejaicjmohaa.M

def orAll (l : List Nat) : Nat := l.foldl (fun a b => a ||| b) 0
def andAll (l : List Nat) : Nat := l.foldl (fun a b => a &&& b) 18446744073709551615
theorem orAll_snoc (l : List Nat) (x : Nat) : orAll (l ++ [x]) = orAll l ||| x := by simp [orAll]
theorem andAll_snoc (l : List Nat) (x : Nat) : andAll (l ++ [x]) = andAll l &&& x := by simp [andAll]
theorem snoc_indN {p : List Nat → Prop} (h0 : p []) (hs : ∀ l a, p l → p (l ++ [a])) (l : List Nat) : p l := by
  have h : ∀ n, p (l.take n) := by
    intro n
    induction n with
    | zero => simpa using h0
    | succ n ih =>
      by_cases hn : n < l.length
      · rw [List.take_succ_eq_append_getElem hn]; exact hs _ _ ih
      · rw [List.take_of_length_le (by omega)]
        rwa [List.take_of_length_le (by omega)] at ih
  simpa using h l.length
theorem orAll_lt {l : List Nat} (h : ∀ x ∈ l, x < 18446744073709551616) : orAll l < 18446744073709551616 := by
  induction l using snoc_indN with
  | h0 => decide
  | hs l a ih =>
    rw [orAll_snoc]
    exact or_lt (ih fun x hx => h x (by simp [hx])) (h a (by simp))
theorem andAll_lt (l : List Nat) : andAll l < 18446744073709551616 := by
  induction l using snoc_indN with
  | h0 => decide
  | hs l a ih => rw [andAll_snoc]; exact Nat.lt_of_le_of_lt Nat.and_le_left ih
/-- How many of the words have bit i. -/
def has (i : Nat) (l : List Nat) : Nat := (l.filter fun x => x.testBit i).length
theorem has_snoc (i : Nat) (l : List Nat) (x : Nat) : has i (l ++ [x]) = has i l + if x.testBit i then 1 else 0 := by
  unfold has
  rw [List.filter_append, List.length_append]
  cases h : x.testBit i <;> simp [h]
theorem has_le (i : Nat) (l : List Nat) : has i l ≤ l.length := List.length_filter_le _ _
theorem or_has (i : Nat) (l : List Nat) : (orAll l).testBit i = decide (0 < has i l) := by
  induction l using snoc_indN with
  | h0 => simp [orAll, has]
  | hs l a ih =>
    rw [orAll_snoc, has_snoc, Nat.testBit_or, ih]
    cases a.testBit i <;> simp
theorem and_has (i : Nat) (hi : i < 64) (l : List Nat) : (andAll l).testBit i = decide (has i l = l.length) := by
  induction l using snoc_indN with
  | h0 =>
    have e : (18446744073709551615 : Nat) = 2 ^ 64 - 1 := rfl
    simp only [andAll, has, List.foldl_nil, List.filter_nil, List.length_nil]
    rw [e, Nat.testBit_two_pow_sub_one]
    simp [hi]
  | hs l a ih =>
    have := has_le i l
    rw [andAll_snoc, has_snoc, Nat.testBit_and, ih, List.length_append, List.length_singleton]
    cases a.testBit i
    · simp; omega
    · simp
theorem mask_full : mask 0 64 = 18446744073709551615 := by decide +kernel
/-- The bits that there are, one by one. -/
theorem mk_in (l : List Int) (i : Int) (h0 : 0 ≤ i) (h : i < 64) : bz (mk (l ++ [i])) = add (bz (mk l)) i := by rw [mk_snoc]; exact bz_set _ i h0 h
theorem mk_out (l : List Int) (i : Int) (h : ¬ (0 ≤ i ∧ i < 64)) : mk (l ++ [i]) = mk l := by rw [mk_snoc, one_none i (by omega), Nat.or_zero]
end Go.Proofs.Ytclaejaicjmohaa.M
