
/- Plain facts: a row of Bools read as the list of the places that are true. -/
import Derived.Test.YtlinoambdlkfjaaGreatMath
namespace Go.Proofs.YtlinoambdlkfjaaGreat
namespace M
theorem snocInd {α : Type} {p : List α → Prop} (h0 : p []) (hs : ∀ l a, p l → p (l ++ [a])) (l : List α) : p l := by
  have h : ∀ l : List α, p l.reverse := by
    intro l
    induction l with
    | nil => exact h0
    | cons a l ih => rw [List.reverse_cons]; exact hs _ _ ih
  rw [← List.reverse_reverse l]; exact h _
theorem nextCases {l : List Int} (hs : l.Pairwise (· < ·)) (n : Int) :
    (M.rNext l n = -1 ∧ ∀ z ∈ l, z < n) ∨ (M.rNext l n ∈ l ∧ n ≤ M.rNext l n ∧ ∀ z ∈ l, n ≤ z → M.rNext l n ≤ z) := by
  unfold M.rNext
  induction l with
  | nil => left; simp
  | cons a l ih =>
    rw [List.pairwise_cons] at hs
    by_cases h : n ≤ a
    · right
      simp [h]
      intro z hz _
      exact Int.le_of_lt (hs.1 z hz)
    · rw [List.find?_cons_of_neg (by simpa using h)]
      rcases ih hs.2 with ⟨h1, h2⟩ | ⟨h1, h2, h3⟩
      · left
        refine ⟨h1, ?_⟩
        intro z hz
        rcases List.mem_cons.1 hz with rfl | hz
        · omega
        · exact h2 z hz
      · right
        refine ⟨List.mem_cons_of_mem _ h1, h2, ?_⟩
        intro z hz hn
        rcases List.mem_cons.1 hz with rfl | hz
        · exact absurd hn h
        · exact h3 z hz hn
theorem prevCases {l : List Int} (hs : l.Pairwise (· < ·)) (n : Int) :
    (M.rPrev l n = -1 ∧ ∀ z ∈ l, n < z) ∨ (M.rPrev l n ∈ l ∧ M.rPrev l n ≤ n ∧ ∀ z ∈ l, z ≤ n → z ≤ M.rPrev l n) := by
  unfold M.rPrev
  rcases hf : (l.filter fun x => decide (x ≤ n)).getLast? with _ | y
  · left
    refine ⟨rfl, ?_⟩
    intro z hz
    rw [List.getLast?_eq_none_iff, List.filter_eq_nil_iff] at hf
    have := hf z hz
    simp at this; omega
  · right
    obtain ⟨ys, hy⟩ := List.getLast?_eq_some_iff.1 hf
    have hm : y ∈ l.filter fun x => decide (x ≤ n) := by rw [hy]; simp
    have hp := List.Pairwise.filter (fun x => decide (x ≤ n)) hs
    rw [List.mem_filter] at hm
    refine ⟨hm.1, by simpa using hm.2, ?_⟩
    intro z hz hzn
    have hz2 : z ∈ l.filter fun x => decide (x ≤ n) := List.mem_filter.2 ⟨hz, by simpa using hzn⟩
    rw [hy] at hz2 hp
    rw [List.pairwise_append] at hp
    rcases List.mem_append.1 hz2 with h | h
    · exact Int.le_of_lt (hp.2.2 z h y (by simp))
    · simp at h; simp [h]
theorem next_of {l : List Int} (hs : l.Pairwise (· < ·)) {n y : Int} (hy : y ∈ l) (hn : n ≤ y) (hm : ∀ z ∈ l, n ≤ z → y ≤ z) : rNext l n = y := by
  rcases nextCases hs n with ⟨_, h⟩ | ⟨h1, h2, h3⟩
  · have := h y hy; omega
  · have := h3 y hy hn
    have := hm _ h1 h2
    omega
theorem next_none {l : List Int} (hs : l.Pairwise (· < ·)) {n : Int} (hm : ∀ z ∈ l, z < n) : rNext l n = -1 := by
  rcases nextCases hs n with ⟨h, _⟩ | ⟨h1, h2, h3⟩
  · exact h
  · have := hm _ h1; omega
theorem prev_of {l : List Int} (hs : l.Pairwise (· < ·)) {n y : Int} (hy : y ∈ l) (hn : y ≤ n) (hm : ∀ z ∈ l, z ≤ n → z ≤ y) : rPrev l n = y := by
  rcases prevCases hs n with ⟨_, h⟩ | ⟨h1, h2, h3⟩
  · have := h y hy; omega
  · have := h3 y hy hn
    have := hm _ h1 h2
    omega
theorem prev_none {l : List Int} (hs : l.Pairwise (· < ·)) {n : Int} (hm : ∀ z ∈ l, n < z) : rPrev l n = -1 := by
  rcases prevCases hs n with ⟨h, _⟩ | ⟨h1, h2, h3⟩
  · exact h
  · have := hm _ h1; omega
/-- The places that are true, rising. -/
def L (bs : List Bool) : List Int := ((List.range bs.length).filter fun i => bs[i]?.getD false).map fun i : Nat => (i : Int)
theorem L_nil : L [] = [] := rfl
theorem L_snoc (bs : List Bool) (b : Bool) : L (bs ++ [b]) = L bs ++ if b then [(bs.length : Int)] else [] := by
  unfold L
  rw [List.length_append, List.length_singleton, List.range_succ, List.filter_append, List.map_append]
  congr 1
  · congr 1
    apply List.filter_congr
    intro i hi
    rw [List.getElem?_append_left (List.mem_range.1 hi)]
  · cases b <;> simp
theorem L_take {bs : List Bool} {k : Nat} (hk : k < bs.length) : L (bs.take (k + 1)) = L (bs.take k) ++ if bs[k] then [(k : Int)] else [] := by
  rw [List.take_succ_eq_append_getElem hk, L_snoc, List.length_take, Nat.min_eq_left (Nat.le_of_lt hk)]
theorem L_in {bs : List Bool} {y : Int} : y ∈ L bs ↔ 0 ≤ y ∧ bs[y.toNat]? = some true := by
  unfold L
  simp only [List.mem_map, List.mem_filter, List.mem_range]
  constructor
  · rintro ⟨i, ⟨h1, h2⟩, rfl⟩
    refine ⟨by omega, ?_⟩
    rw [Int.toNat_natCast, List.getElem?_eq_getElem h1] at *
    simp at h2; rw [h2]
  · rintro ⟨h1, h2⟩
    obtain ⟨h3, h4⟩ := List.getElem?_eq_some_iff.1 h2
    exact ⟨y.toNat, ⟨h3, by rw [h2]; rfl⟩, by omega⟩
theorem L_lt {bs : List Bool} {y : Int} (h : y ∈ L bs) : 0 ≤ y ∧ y < bs.length := by
  obtain ⟨h1, h2⟩ := L_in.1 h
  obtain ⟨h3, _⟩ := List.getElem?_eq_some_iff.1 h2
  omega
theorem L_up (bs : List Bool) : (L bs).Pairwise (· < ·) := by
  unfold L
  rw [List.pairwise_map]
  refine List.Pairwise.imp ?_ (List.Pairwise.filter _ List.pairwise_lt_range)
  intro a b h; omega
theorem L_split (bs : List Bool) (k : Nat) : ∃ r, L bs = L (bs.take k) ++ r ∧ ∀ y ∈ r, (k : Int) ≤ y := by
  rcases Nat.lt_or_ge k bs.length with hk | hk
  · revert hk
    refine snocInd (p := fun bs => k < bs.length → ∃ r, L bs = L (bs.take k) ++ r ∧ ∀ y ∈ r, (k : Int) ≤ y) (fun hk => by simp at hk) ?_ bs
    · intro bs b ih hk
      rw [L_snoc]
      rcases Nat.lt_or_ge k bs.length with h | h
      · obtain ⟨r, h1, h2⟩ := ih h
        refine ⟨r ++ if b then [(bs.length : Int)] else [], ?_, ?_⟩
        · rw [h1, List.append_assoc, List.take_append_of_le_length (Nat.le_of_lt h)]
        · intro y hy
          rcases List.mem_append.1 hy with hy | hy
          · exact h2 y hy
          · cases b
            · simp at hy
            · simp at hy; omega
      · have : k = bs.length := by simp at hk; omega
        subst this
        refine ⟨if b then [(bs.length : Int)] else [], ?_, ?_⟩
        · rw [List.take_append_of_le_length (Nat.le_refl _), List.take_length]
        · intro y hy
          cases b
          · simp at hy
          · simp at hy; omega
  · exact ⟨[], by rw [List.take_of_length_le hk, List.append_nil], by simp⟩
theorem L_low {bs : List Bool} {k : Nat} {y : Int} (h : y ∈ L (bs.take k)) : y < k := by
  have := L_lt h
  rw [List.length_take] at this
  omega
theorem L_rank (bs : List Bool) (v : Int) : rRank (L bs) v = (L (bs.take v.toNat)).length := by
  obtain ⟨r, h1, h2⟩ := L_split bs v.toNat
  unfold rRank
  rw [h1, List.filter_append, List.length_append]
  have e1 : (L (bs.take v.toNat)).filter (fun x => decide (x < v)) = L (bs.take v.toNat) := by
    rw [List.filter_eq_self]
    intro y hy
    have a := L_low hy
    have b := (L_lt hy).1
    simp; omega
  have e2 : r.filter (fun x => decide (x < v)) = [] := by
    rw [List.filter_eq_nil_iff]
    intro y hy
    have a := h2 y hy
    simp; omega
  rw [e1, e2]; rfl
theorem L_all {bs : List Bool} {k : Nat} (h : bs.length ≤ k) : bs.take k = bs := List.take_of_length_le h
theorem L_len (bs : List Bool) : (L bs).length ≤ bs.length := by
  unfold L
  rw [List.length_map]
  exact Nat.le_trans (List.length_filter_le _ _) (by simp)
theorem L_len_take (bs : List Bool) (k : Nat) : (L (bs.take k)).length ≤ k := by
  have := L_len (bs.take k)
  rw [List.length_take] at this
  omega
theorem L_len_step {bs : List Bool} {k : Nat} (hk : k < bs.length) : (L (bs.take (k + 1))).length = (L (bs.take k)).length + if bs[k] then 1 else 0 := by
  rw [L_take hk, List.length_append]
  cases bs[k] <;> rfl
theorem L_sel_hit {bs : List Bool} {k : Nat} (hk : k < bs.length) (hb : bs[k] = true) : rSel (L bs) ((L (bs.take k)).length : Int) = (k : Int) := by
  obtain ⟨r, h1, _⟩ := L_split bs (k + 1)
  rw [L_take hk, hb] at h1
  unfold rSel
  rw [if_neg (by omega), h1, Int.toNat_natCast]
  simp
theorem L_sel_none {bs : List Bool} {k : Int} (h0 : 0 ≤ k) (h : ((L bs).length : Int) ≤ k) : rSel (L bs) k = -1 := by
  unfold rSel
  rw [if_neg (by omega), List.getElem?_eq_none (by omega)]; rfl
theorem L_false (n : Nat) : L (List.replicate n false) = [] := by
  unfold L
  rw [List.map_eq_nil_iff, List.filter_eq_nil_iff]
  intro i hi
  rw [List.mem_range] at hi
  rw [List.getElem?_eq_getElem hi]
  simp
/-- One place written. -/
theorem L_set_true {bs : List Bool} {k : Nat} (hk : k < bs.length) {y : Int} : y ∈ L (bs.set k true) ↔ y = (k : Int) ∨ y ∈ L bs := by
  rw [L_in, L_in, List.getElem?_set]
  by_cases e : k = y.toNat
  · by_cases h0 : 0 ≤ y
    · rw [if_pos e, if_pos hk]
      constructor
      · intro _; left; omega
      · intro _; exact ⟨h0, rfl⟩
    · constructor
      · intro h; exact absurd h.1 h0
      · rintro (h | h)
        · omega
        · exact absurd h.1 h0
  · rw [if_neg e]
    constructor
    · intro h; exact .inr h
    · rintro (h | h)
      · omega
      · exact h
theorem L_set_false {bs : List Bool} {k : Nat} (hk : k < bs.length) {y : Int} : y ∈ L (bs.set k false) ↔ y ≠ (k : Int) ∧ y ∈ L bs := by
  rw [L_in, L_in, List.getElem?_set]
  by_cases e : k = y.toNat
  · by_cases h0 : 0 ≤ y
    · rw [if_pos e, if_pos hk]
      constructor
      · intro h; simp at h
      · intro h; omega
    · constructor
      · intro h; exact absurd h.1 h0
      · intro h; exact absurd h.2.1 h0
  · rw [if_neg e]
    constructor
    · intro h; refine ⟨by omega, h⟩
    · intro h; exact h.2
theorem L_len_set {bs : List Bool} {k : Nat} (hk : k < bs.length) (o : Bool) : (L (bs.set k o)).length + (if bs[k] then 1 else 0) = (L bs).length + (if o then 1 else 0) := by
  have e : bs = bs.take k ++ bs[k] :: bs.drop (k + 1) := by rw [List.getElem_cons_drop, List.take_append_drop]
  have cnt : ∀ (l : List Bool), (L l).length = (l.filter id).length := by
    intro l
    refine snocInd (p := fun l => (L l).length = (l.filter id).length) rfl ?_ l
    intro l b ih
    rw [L_snoc, List.filter_append, List.length_append, List.length_append, ih]
    cases b <;> rfl
  rw [cnt, cnt]
  generalize hb : bs[k] = b at *
  have e2 : bs.set k o = bs.take k ++ o :: bs.drop (k + 1) := by
    conv => lhs; rw [e]
    rw [List.set_append_right _ _ (by rw [List.length_take]; omega), List.length_take]
    have : k - min k bs.length = 0 := by omega
    rw [this]; rfl
  rw [e2]
  conv => rhs; rw [e]
  rw [List.filter_append, List.filter_append, List.length_append, List.length_append]
  cases b <;> cases o <;> simp <;> omega
/-- All from f up to t are there (o), or not; n were changed. -/
def Chg (o : Bool) (l l' : List Int) (f t : Int) (n : Nat) : Prop :=
  l'.Pairwise (· < ·) ∧ (∀ y, y ∈ l' ↔ if f ≤ y ∧ y ≤ t then o = true else y ∈ l) ∧ (if o then n + l.length = l'.length else n + l'.length = l.length)
theorem Chg.same {o : Bool} {l a b : List Int} {f t : Int} {n m : Nat} (h : Chg o l a f t n) (k : Chg o l b f t m) : a = b ∧ n = m := by
  have e : a = b := sorted_ext h.1 k.1 fun y => (h.2.1 y).trans (k.2.1 y).symm
  subst e
  refine ⟨rfl, ?_⟩
  have h1 := h.2.2
  have h2 := k.2.2
  cases o
  · rw [if_neg (by decide)] at h1 h2; omega
  · rw [if_pos rfl] at h1 h2; omega
/-- A rising list is no longer than whatever has all of it. -/
theorem up_len {l xs : List Int} (hl : l.Pairwise (· < ·)) (h : ∀ y ∈ l, y ∈ xs) : l.length ≤ xs.length := by
  induction l generalizing xs with
  | nil => simp
  | cons a l ih =>
    rw [List.pairwise_cons] at hl
    have ha : a ∈ xs := h a (List.mem_cons_self ..)
    have h1 : ∀ y ∈ l, y ∈ xs.erase a := fun y hy => by
      have h2 := hl.1 y hy
      exact (List.mem_erase_of_ne (by omega)).2 (h y (List.mem_cons_of_mem _ hy))
    have h3 := ih hl.2 h1
    rw [List.length_erase_of_mem ha] at h3
    have h4 : 0 < xs.length := List.length_pos_of_mem ha
    rw [List.length_cons]
    omega
end M
end Go.Proofs.YtlinoambdlkfjaaGreat
