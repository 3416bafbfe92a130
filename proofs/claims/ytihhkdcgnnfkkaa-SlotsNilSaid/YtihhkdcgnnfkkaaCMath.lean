
/- Plain facts on scripts of starts and steps: what was taken, counted, and the most of any beginning. -/
namespace Go.Proofs.Ytihhkdcgnnfkkaa.Pp.M

def taken (l : List Nat) : Nat := l.foldl (fun t a => if a % 3 = 0 then 0 else t + 1) 0
def cnt (l : List Nat) (k : Nat) : Nat := (l.filter fun a => decide (a % 3 = k)).length
def peak : List Nat → Nat → Nat
  | _, 0 => 0
  | l, n + 1 => max (peak l n) (taken (l.take (n + 1)))
/-- The most of any beginning. -/
def top (l : List Nat) : Nat := peak l l.length

theorem taken_snoc (l : List Nat) (a : Nat) : taken (l ++ [a]) = if a % 3 = 0 then 0 else taken l + 1 := by simp [taken]
theorem cnt_snoc (l : List Nat) (a k : Nat) : cnt (l ++ [a]) k = cnt l k + if a % 3 = k then 1 else 0 := by
  unfold cnt
  rw [List.filter_append, List.length_append]
  by_cases h : a % 3 = k <;> simp [h]
theorem cnt_append (l m : List Nat) (k : Nat) : cnt (l ++ m) k = cnt l k + cnt m k := by
  unfold cnt; rw [List.filter_append, List.length_append]
theorem cnt_le (l : List Nat) (k : Nat) : cnt l k ≤ l.length := List.length_filter_le _ _
theorem peak_take (l : List Nat) (n m : Nat) (h : n ≤ m) : peak (l.take m) n = peak l n := by
  induction n with
  | zero => rfl
  | succ n ih =>
    rw [peak, peak, ih (by omega), List.take_take, Nat.min_eq_left h]
theorem top_take (l : List Nat) (n : Nat) (h : n ≤ l.length) : top (l.take n) = peak l n := by
  unfold top
  rw [List.length_take, Nat.min_eq_left h]
  exact peak_take l n n (Nat.le_refl _)
theorem top_take_succ (l : List Nat) (n : Nat) (h : n < l.length) : top (l.take (n + 1)) = max (top (l.take n)) (taken (l.take (n + 1))) := by
  rw [top_take l (n + 1) (by omega), top_take l n (by omega)]; rfl
theorem top_snoc (l : List Nat) (a : Nat) : top (l ++ [a]) = max (top l) (taken (l ++ [a])) := by
  have h := top_take_succ (l ++ [a]) l.length (by simp)
  have e1 : (l ++ [a]).take (l.length + 1) = l ++ [a] := List.take_of_length_le (by simp)
  have e2 : (l ++ [a]).take l.length = l := by simp
  rw [e1, e2] at h
  exact h
theorem taken_le (l : List Nat) : taken l ≤ l.length := by
  unfold taken
  have : ∀ (l : List Nat) (t : Nat), l.foldl (fun t a => if a % 3 = 0 then 0 else t + 1) t ≤ t + l.length := by
    intro l
    induction l with
    | nil => intro t; simp
    | cons a l ih =>
      intro t
      rw [List.foldl_cons, List.length_cons]
      refine Nat.le_trans (ih _) ?_
      split <;> omega
  simpa using this l 0
theorem top_le (l : List Nat) : top l ≤ l.length := by
  have : ∀ n, n ≤ l.length → peak l n ≤ n := by
    intro n
    induction n with
    | zero => intro _; exact Nat.le_refl _
    | succ n ih =>
      intro h
      have h1 := ih (by omega)
      have h2 := taken_le (l.take (n + 1))
      rw [List.length_take] at h2
      rw [peak]; omega
  exact this _ (Nat.le_refl _)
theorem snoc_ind {p : List Nat → Prop} (h0 : p []) (hs : ∀ l a, p l → p (l ++ [a])) (l : List Nat) : p l := by
  have h : ∀ n, p (l.take n) := by
    intro n
    induction n with
    | zero => simpa using h0
    | succ n ih =>
      by_cases hn : n < l.length
      · rw [List.take_succ_eq_append_getElem hn]; exact hs _ _ ih
      · rw [List.take_of_length_le (by omega)]
        rwa [List.take_of_length_le (by omega)] at ih
  simpa using h l.length
theorem taken_append (l m : List Nat) : taken m ≤ taken (l ++ m) ∧ taken (l ++ m) ≤ taken l + taken m ∧ (cnt m 0 = 0 → taken (l ++ m) = taken l + taken m) := by
  induction m using snoc_ind with
  | h0 => simp [taken]
  | hs m a ih =>
    rw [← List.append_assoc, taken_snoc, taken_snoc, cnt_snoc]
    obtain ⟨h1, h2, h3⟩ := ih
    by_cases h : a % 3 = 0
    · simp [h]
    · simp only [h, if_false]
      exact ⟨by omega, by omega, fun hc => by have := h3 (by omega); omega⟩
theorem taken_top (l : List Nat) : taken l ≤ top l := by
  induction l using snoc_ind with
  | h0 => simp [taken]
  | hs l a _ => rw [top_snoc]; omega
theorem top_append (l m : List Nat) : top l ≤ top (l ++ m) ∧ top m ≤ top (l ++ m) ∧ top (l ++ m) ≤ top l + top m := by
  induction m using snoc_ind with
  | h0 => simp [top, peak]
  | hs m a ih =>
    obtain ⟨h1, h2, h3⟩ := ih
    have ht := taken_append l (m ++ [a])
    have hl := taken_top l
    rw [← List.append_assoc] at *
    rw [top_snoc, top_snoc]
    omega
end Go.Proofs.Ytihhkdcgnnfkkaa.Pp.M
