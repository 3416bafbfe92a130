
/- What the document's functions that make and compare lists answer, and what words made of bits are: contracts of each, the text walked. -/
import Derived.Test.YtclaejaicjmohaaRefsB
import Derived.Deep.QuietTactic
import Derived.BigQuiet
namespace Go.Proofs.Ytclaejaicjmohaa
open Go.RowKit

theorem same_no {xs ys : List Int} {k : Nat} (h : ∃ a b, xs[k]? = some a ∧ ys[k]? = some b ∧ a ≠ b) : decide (xs = ys) = false := by
  rw [decide_eq_false_iff_not]
  rintro rfl
  obtain ⟨a, b, h1, h2, h3⟩ := h
  rw [h1] at h2
  exact h3 (by simpa using h2)

/-- An append of one number onto the call's own list, as the walks use it. -/
theorem own_snoc {w w0 w1 : World} {xs : List Int} {y : Int} {v v' : Value} {t : TypeId} (hb : Below w.heap.size w w0) (hown : w0.ownsRow w.heap.size 3 1 v xs.length (xs.map (Value.int .i64)))
    (hown' : w1.ownsRow w.heap.size 3 1 v' (xs.length + 1) (xs.map (Value.int .i64) ++ [.int .i64 y])) (hgrow : (w0.alloc (.cells #[.int .i64 y] t)).grownBy w1 v.ownBlock) :
    w1.ownsRow w.heap.size 3 1 v' (xs ++ [y]).length ((xs ++ [y]).map (Value.int .i64)) ∧ Below w.heap.size w w1 :=
  ⟨by rw [List.map_append, List.length_append]; exact hown', (hb.alloc hb.size _).grown hgrow (by have := hb.size; simp; omega) (fun g hg => (hown.lt g hg).1)⟩

theorem drop_len (xs : List Int) (n : Int) : (M.drop xs n).length ≤ xs.length := List.length_filter_le _ _
theorem drop_snoc (xs : List Int) (y n : Int) : M.drop (xs ++ [y]) n = M.drop xs n ++ if y ≠ n then [y] else [] := by
  unfold M.drop
  rw [List.filter_append]
  by_cases h : y = n <;> simp [h]

/-- What Add has made of the first k, and whether the number is in it. -/
def addTo (n : Int) : List Int → List Int
  | [] => []
  | x :: xs => (if n ≤ x then n :: M.drop (x :: xs) n else x :: addTo n xs)
def addIn (n : Int) (l : List Int) : Bool := l.any fun x => decide (n ≤ x)
theorem drop_cons_no {x n : Int} {l : List Int} (h : x ≠ n) : M.drop (x :: l) n = x :: M.drop l n := by simp [M.drop, h]
theorem addTo_snoc (n : Int) (l : List Int) (y : Int) : addTo n (l ++ [y]) = addTo n l ++ ((if !addIn n l && decide (n ≤ y) then [n] else []) ++ (if y ≠ n then [y] else [])) := by
  induction l with
  | nil =>
    simp only [List.nil_append, addTo, addIn, List.any_nil, Bool.not_false, Bool.true_and]
    by_cases h : n ≤ y
    · by_cases e : y = n <;> simp [h, M.drop, e]
    · have e : y ≠ n := by omega
      simp [h, e]
  | cons x l ih =>
    rw [List.cons_append, addTo, addTo]
    by_cases h : n ≤ x
    · rw [if_pos h, if_pos h, ← List.cons_append, drop_snoc]
      have : addIn n (x :: l) = true := by simp [addIn, h]
      simp [this]
    · rw [if_neg h, if_neg h, ih]
      have : addIn n (x :: l) = addIn n l := by simp [addIn, h]
      rw [this]; simp
theorem addIn_snoc (n : Int) (l : List Int) (y : Int) : addIn n (l ++ [y]) = (addIn n l || decide (n ≤ y)) := by simp [addIn]
theorem addTo_len (n : Int) (l : List Int) : (addTo n l).length ≤ l.length + 1 := by
  induction l with
  | nil => simp [addTo]
  | cons x l ih =>
    rw [addTo]
    split
    · have := drop_len (x :: l) n
      simp only [List.length_cons] at *
      omega
    · simp only [List.length_cons]; omega
theorem addTo_end (n : Int) (l : List Int) (hl : l.Pairwise (· < ·)) : addTo n l ++ (if addIn n l then [] else [n]) = M.add l n := by
  rw [← M.addGo_eq n l hl]
  clear hl
  induction l with
  | nil => rfl
  | cons x l ih =>
    rw [addTo, M.addGo]
    by_cases h : n ≤ x
    · have : addIn n (x :: l) = true := by simp [addIn, h]
      simp only [h, if_true, this, decide_true, Bool.not_false, Bool.true_and, Bool.or_true, M.addGo_true, List.append_nil]
      by_cases e : x = n <;> simp [M.drop, e]
    · have : addIn n (x :: l) = addIn n l := by simp [addIn, h]
      have e : x ≠ n := by omega
      simp only [h, if_false, this, decide_false, Bool.and_false, Bool.or_false]
      rw [← ih]
      simp [e]

end Go.Proofs.Ytclaejaicjmohaa
