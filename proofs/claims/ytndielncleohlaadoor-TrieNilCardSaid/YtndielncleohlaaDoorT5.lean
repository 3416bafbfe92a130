
/- How many nodes a key more makes; how many keys there may be. -/
import Derived.Test.YtndielncleohlaaDoorT2
import Derived.Test.YtndielncleohlaaDoorK12
namespace Go.Proofs.YtndielncleohlaaDoor
namespace T
theorem offs_snoc (l : List Nat) (a : Nat) : K.off (l ++ [a]) = K.add (K.off l) a := by simp [K.off]
theorem snoc_ind {p : List Nat → Prop} (h0 : p []) (hs : ∀ l a, p l → p (l ++ [a])) (l : List Nat) : p l := M.snoc_indN h0 hs l
theorem off_up (l : List Nat) : K.Up (K.off l) := by
  refine snoc_ind (p := fun l => K.Up (K.off l)) List.Pairwise.nil (fun l a ih => ?_) l
  rw [offs_snoc]
  exact K.add_up ih a
theorem off_mem (l : List Nat) (x : Nat) : x ∈ K.off l ↔ x ∈ l := by
  refine snoc_ind (p := fun l => x ∈ K.off l ↔ x ∈ l) (by simp [K.off]) (fun l a ih => ?_) l
  rw [offs_snoc, K.add_mem (off_up l), ih, List.mem_append, List.mem_singleton]
  exact or_comm
theorem add_len' {xs : List Nat} (h : K.Up xs) (k : Nat) : (K.add xs k).length = xs.length + if k ∈ xs then 0 else 1 := by
  split
  · rename_i hk
    unfold K.add
    rw [if_pos ((K.fo_mem h k).2 hk), Nat.add_zero]
  · rename_i hk
    exact add_len_new h hk
theorem kinds_off {xs : List Nat} (h : K.Up xs) {b : Nat} (hb : 0 < b) : ∀ j, j ≤ xs.length → K.kd xs b j = (K.off ((xs.take j).map fun x => x / 2 ^ (64 - b))).length
  | 0, _ => rfl
  | j + 1, hj => by
    have ih := kinds_off h hb j (by omega)
    show K.kd xs b j + (if K.kc xs b j then 1 else 0) = _
    rw [List.take_succ_eq_append_getElem (by omega), List.map_append, List.map_cons, List.map_nil, offs_snoc, add_len' (off_up _), ih]
    congr 1
    have hm : xs[j] / 2 ^ (64 - b) ∈ K.off ((xs.take j).map fun x => x / 2 ^ (64 - b)) ↔ (0 < j ∧ (xs[j]?).getD 0 / 2 ^ (64 - b) = (xs[j - 1]?).getD 0 / 2 ^ (64 - b)) := by
      rw [off_mem, List.mem_map]
      constructor
      · rintro ⟨x, hx, e⟩
        obtain ⟨i, hi, rfl⟩ := List.getElem_of_mem hx
        rw [List.length_take] at hi
        rw [List.getElem_take] at e
        refine ⟨by omega, ?_⟩
        rw [List.getElem?_eq_getElem (by omega), List.getElem?_eq_getElem (by omega), Option.getD_some, Option.getD_some]
        have h1 : xs[i]'(by omega) ≤ xs[j - 1]'(by omega) := by
          rcases Nat.lt_or_ge i (j - 1) with h2 | h2
          · exact Nat.le_of_lt (K.up_lt h h2 (by omega))
          · have : i = j - 1 := by omega
            subst this
            exact Nat.le_refl _
        have h2 : xs[j - 1]'(by omega) < xs[j]'(by omega) := K.up_lt h (by omega) (by omega)
        have h3 := Nat.div_le_div_right (c := 2 ^ (64 - b)) h1
        have h4 := Nat.div_le_div_right (c := 2 ^ (64 - b)) (Nat.le_of_lt h2)
        have e : xs[i]'(by omega) / 2 ^ (64 - b) = xs[j]'(by omega) / 2 ^ (64 - b) := e
        omega
      · rintro ⟨h0, e⟩
        rw [List.getElem?_eq_getElem (by omega), List.getElem?_eq_getElem (by omega), Option.getD_some, Option.getD_some] at e
        refine ⟨xs[j - 1]'(by omega), ?_, e.symm⟩
        have : (xs.take j)[j - 1]'(by rw [List.length_take]; omega) = xs[j - 1]'(by omega) := List.getElem_take ..
        rw [← this]
        exact List.getElem_mem _
    unfold K.kc
    by_cases h2 : xs[j] / 2 ^ (64 - b) ∈ K.off ((xs.take j).map fun x => x / 2 ^ (64 - b))
    · rw [if_pos h2]
      obtain ⟨h3, h4⟩ := hm.1 h2
      have h0 : decide (j = 0) = false := decide_eq_false (by omega)
      rw [h0, decide_eq_true h4, decide_eq_true hb]
      simp
    · rw [if_neg h2]
      by_cases h0 : j = 0
      · rw [decide_eq_true h0]; simp
      · have h4 : ¬ ((xs[j]?).getD 0 / 2 ^ (64 - b) = (xs[j - 1]?).getD 0 / 2 ^ (64 - b)) := fun e => h2 (hm.2 ⟨by omega, e⟩)
        rw [decide_eq_false h4, decide_eq_true hb]
        simp
theorem kinds_eq {xs : List Nat} (h : K.Up xs) {b : Nat} (hb : 0 < b) : K.kinds xs b = (K.off (xs.map fun x => x / 2 ^ (64 - b))).length := by
  have := kinds_off h hb xs.length (Nat.le_refl _)
  rw [List.take_length] at this
  exact this
theorem kinds_add {xs : List Nat} (h : K.Up xs) (k : Nat) {b : Nat} (hb : 0 < b) : K.kinds (K.add xs k) b = K.kinds xs b + if (∃ x ∈ xs, x / 2 ^ (64 - b) = k / 2 ^ (64 - b)) then 0 else 1 := by
  rw [kinds_eq (K.add_up h k) hb, kinds_eq h hb]
  have e : K.off ((K.add xs k).map fun x => x / 2 ^ (64 - b)) = K.add (K.off (xs.map fun x => x / 2 ^ (64 - b))) (k / 2 ^ (64 - b)) := by
    refine up_ext (off_up _) (K.add_up (off_up _) _) fun y => ?_
    rw [off_mem, K.add_mem (off_up _), off_mem, List.mem_map, List.mem_map]
    constructor
    · rintro ⟨x, hx, rfl⟩
      rcases (K.add_mem h k x).1 hx with rfl | hx
      · exact .inl rfl
      · exact .inr ⟨x, hx, rfl⟩
    · rintro (rfl | ⟨x, hx, rfl⟩)
      · exact ⟨k, (K.add_mem h k k).2 (.inl rfl), rfl⟩
      · exact ⟨x, (K.add_mem h k x).2 (.inr hx), rfl⟩
  rw [e, add_len' (off_up _)]
  congr 1
  have : (k / 2 ^ (64 - b) ∈ K.off (xs.map fun x => x / 2 ^ (64 - b))) ↔ ∃ x ∈ xs, x / 2 ^ (64 - b) = k / 2 ^ (64 - b) := by rw [off_mem, List.mem_map]
  by_cases h2 : ∃ x ∈ xs, x / 2 ^ (64 - b) = k / 2 ^ (64 - b)
  · rw [if_pos h2, if_pos (this.2 h2)]
  · rw [if_neg h2, if_neg (fun h3 => h2 (this.1 h3))]
theorem kinds_zero (xs : List Nat) : K.kinds xs 0 = if xs = [] then 0 else 1 := by
  have : ∀ j, K.kd xs 0 j = if j = 0 then 0 else 1 := by
    intro j
    induction j with
    | zero => rfl
    | succ j ih =>
      show K.kd xs 0 j + (if K.kc xs 0 j then 1 else 0) = _
      rw [ih]
      unfold K.kc
      by_cases h : j = 0
      · subst h; simp
      · simp [h]
  unfold K.kinds
  rw [this]
  cases xs <;> simp
theorem add_ne_nil (xs : List Nat) (k : Nat) : K.add xs k ≠ [] := by
  intro e
  unfold K.add at e
  split at e
  · rename_i h
    rw [e] at h
    simp [K.fo, K.fi] at h
  · simp at e
theorem pre_pow {l : Nat} (hl : 1 ≤ l) (hl2 : l ≤ 10) (x : Nat) : x / 2 ^ (64 - (4 + 6 * (l - 1))) = pre l x := by
  unfold pre
  rw [show (64 : Nat) ^ (11 - l) = (2 ^ 6) ^ (11 - l) by rfl, ← Nat.pow_mul]
  congr 2
  omega
theorem trs_add {xs : List Nat} (h : K.Up xs) {k m : Nat} (hm : m ≤ 11) (h1 : ∀ l, l < m → prs xs l (pre l k)) (h2 : ∀ l, m ≤ l → l < 11 → ¬ prs xs l (pre l k)) (h0 : prs xs 0 (pre 0 k) ↔ xs ≠ []) :
    ∀ j, j ≤ 10 → K.trs (K.add xs k) j = K.trs xs j + (j + 1 - min (j + 1) m)
  | 0, _ => by
    show K.kinds (K.add xs k) 0 = K.kinds xs 0 + _
    rw [kinds_zero, kinds_zero, if_neg (add_ne_nil xs k)]
    by_cases hx : xs = []
    · rw [if_pos hx]
      have : ¬ prs xs 0 (pre 0 k) := fun h => h0.1 h hx
      have : ¬ 0 < m := fun h => this (h1 0 h)
      omega
    · rw [if_neg hx]
      have : 0 < m := by
        rcases Nat.eq_zero_or_pos m with h3 | h3
        · exact absurd (h0.2 hx) (h2 0 (by omega) (by omega))
        · exact h3
      omega
  | j + 1, hj => by
    have ih := trs_add h hm h1 h2 h0 j (by omega)
    show K.trs (K.add xs k) j + K.kinds (K.add xs k) (4 + 6 * j) = K.trs xs j + K.kinds xs (4 + 6 * j) + _
    rw [ih, kinds_add h k (by omega)]
    have e : ∀ x, x / 2 ^ (64 - (4 + 6 * j)) = pre (j + 1) x := fun x => pre_pow (l := j + 1) (by omega) (by omega) x
    simp only [e]
    by_cases h3 : j + 1 < m
    · have : ∃ x ∈ xs, pre (j + 1) x = pre (j + 1) k := h1 _ h3
      rw [if_pos this]
      omega
    · have : ¬ ∃ x ∈ xs, pre (j + 1) x = pre (j + 1) k := h2 _ (by omega) (by omega)
      rw [if_neg this]
      omega
/-- A key more makes as many nodes as it has beginnings that no other key has. -/
theorem trie_add {xs : List Nat} (h : K.Up xs) {k m : Nat} (hm : m ≤ 11) (h1 : ∀ l, l < m → prs xs l (pre l k)) (h2 : m < 11 → ¬ prs xs m (pre m k)) (h0 : prs xs 0 (pre 0 k) ↔ xs ≠ []) : K.trie (K.add xs k) = K.trie xs + (11 - m) := by
  have := trs_add h hm h1 (fun l hl hl2 hp => h2 (by omega) (prs_le hl (by omega) hp)) h0 10 (by omega)
  unfold K.trie
  rw [this]
  omega
/-- No node of the last level has more than 64 keys. -/
theorem nodup_le : ∀ (n a : Nat) (l : List Nat), K.Up l → (∀ x ∈ l, a ≤ x ∧ x < a + n) → l.length ≤ n
  | 0, a, l, _, h => by
    cases l with
    | nil => simp
    | cons x l => have := h x (by simp); omega
  | n + 1, a, l, hu, h => by
    cases l with
    | nil => simp
    | cons x l =>
      have hx := h x (by simp)
      have := nodup_le n (a + 1) l (K.up_tail hu) (fun y hy => by
        have h1 := h y (by simp [hy])
        have h2 := (List.pairwise_cons.1 hu).1 y hy
        omega)
      simp
      omega
theorem split_len (p : Nat → Bool) : ∀ l : List Nat, l.length = (l.filter p).length + (l.filter fun x => !p x).length
  | [] => rfl
  | x :: l => by
    have ih := split_len p l
    cases hp : p x <;> simp [List.filter_cons, hp] <;> omega
theorem len_le {xs : List Nat} (h : K.Up xs) : ∀ (us : List Nat), (∀ x ∈ xs, x / 64 ∈ us) → xs.length ≤ 64 * us.length
  | us, hm => by
    induction us generalizing xs with
    | nil =>
      cases xs with
      | nil => simp
      | cons x l => exact absurd (hm x (by simp)) (by simp)
    | cons u us ih =>
      have h1 := ih (xs := xs.filter fun x => !decide (x / 64 = u)) (h.filter _) (fun x hx => by
        rw [List.mem_filter] at hx
        rcases List.mem_cons.1 (hm x hx.1) with h2 | h2
        · rw [h2] at hx; simp at hx
        · exact h2)
      have h2 := nodup_le 64 (64 * u) (xs.filter fun x => decide (x / 64 = u)) (h.filter _) (fun x hx => by
        rw [List.mem_filter] at hx
        have := of_decide_eq_true hx.2
        omega)
      have h3 := split_len (fun x => decide (x / 64 = u)) xs
      simp only [List.length_cons]
      omega
theorem len_trie {xs : List Nat} (h : K.Up xs) : xs.length ≤ 64 * K.trie xs := by
  have h1 := len_le h (K.off (xs.map fun x => x / 2 ^ (64 - 58))) (fun x hx => by
    rw [off_mem, List.mem_map]
    exact ⟨x, hx, by simp⟩)
  rw [← kinds_eq h (b := 58) (by omega)] at h1
  have h2 : K.kinds xs 58 ≤ K.trie xs := by
    show K.kinds xs (4 + 6 * 9) ≤ K.trs xs 9 + K.kinds xs (4 + 6 * 9)
    omega
  omega
end T
end Go.Proofs.YtndielncleohlaaDoor
