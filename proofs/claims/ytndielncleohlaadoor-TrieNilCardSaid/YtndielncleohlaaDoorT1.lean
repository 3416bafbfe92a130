
/- The trie's mathematics: beginnings and digits of keys, the keys below a node. -/
import Derived.Test.YtndielncleohlaaDoorMath2
import Derived.Test.YtndielncleohlaaDoorK10
namespace Go.Proofs.YtndielncleohlaaDoor
namespace T
/-- A key's beginning at a level (the eleventh is the key), and the digit behind it. -/
def pre (l k : Nat) : Nat := k / 64 ^ (11 - l)
def dig (l k : Nat) : Nat := pre (l + 1) k % 64
theorem pre_split {l : Nat} (hl : l < 11) (k : Nat) : pre (l + 1) k = pre l k * 64 + dig l k := by
  have e : pre l k = pre (l + 1) k / 64 := by
    unfold pre
    rw [Nat.div_div_eq_div_mul, ← Nat.pow_succ]
    congr 2
    omega
  unfold dig
  omega
theorem pre_div {l : Nat} (hl : l < 11) (k : Nat) : pre l k = pre (l + 1) k / 64 := by
  have := pre_split hl k
  have h2 : dig l k < 64 := Nat.mod_lt _ (by decide)
  omega
theorem dig_lt (l k : Nat) : dig l k < 64 := Nat.mod_lt _ (by decide)
theorem pre_last (k : Nat) : pre 11 k = k := by unfold pre; simp
theorem pre_zero {k : Nat} (h : k < 18446744073709551616) : pre 0 k = 0 := by
  unfold pre
  exact Nat.div_eq_of_lt (Nat.lt_trans h (by decide))
theorem pre_mono (l : Nat) {a b : Nat} (h : a ≤ b) : pre l a ≤ pre l b := Nat.div_le_div_right h
theorem lt_of_pre {l a b : Nat} (h : pre l a < pre l b) : a < b := by
  rcases Nat.lt_or_ge a b with h1 | h1
  · exact h1
  · have := pre_mono l h1; omega
theorem pre_eq_le : ∀ {l : Nat} (d : Nat), l + d ≤ 11 → ∀ {a b : Nat}, pre (l + d) a = pre (l + d) b → pre l a = pre l b
  | _, 0, _, _, _, h => h
  | l, d + 1, hl, a, b, h => by
    refine pre_eq_le d (by omega) ?_
    rw [pre_div (l := l + d) (by omega) a, pre_div (l := l + d) (by omega) b]
    rw [show l + d + 1 = l + (d + 1) by omega, h]
theorem pre_eq {l m : Nat} (h : l ≤ m) (hm : m ≤ 11) {a b : Nat} (e : pre m a = pre m b) : pre l a = pre l b := by
  obtain ⟨d, rfl⟩ := Nat.exists_eq_add_of_le h
  exact pre_eq_le d hm e
theorem pre_child {l : Nat} (hl : l < 11) {x p d : Nat} (h : pre (l + 1) x = p * 64 + d) (hd : d < 64) : pre l x = p ∧ dig l x = d := by
  have h1 := pre_split hl x
  have h2 := dig_lt l x
  omega
theorem pre_child' {l : Nat} (hl : l < 11) {x p d : Nat} (h : pre l x = p) (hd : dig l x = d) : pre (l + 1) x = p * 64 + d := by rw [pre_split hl, h, hd]
/-- The first level at which two keys part. -/
theorem part_at {a b : Nat} : ∀ (n l : Nat), l + n = 11 → pre l a = pre l b → a < b → ∃ j, l ≤ j ∧ j < 11 ∧ pre j a = pre j b ∧ dig j a < dig j b
  | 0, l, h, e, hlt => by
    have : l = 11 := by omega
    subst this
    rw [pre_last, pre_last] at e
    omega
  | n + 1, l, h, e, hlt => by
    by_cases hd : dig l a = dig l b
    · obtain ⟨j, h1, h2, h3, h4⟩ := part_at n (l + 1) (by omega) (by rw [pre_split (by omega), pre_split (by omega), e, hd]) hlt
      exact ⟨j, by omega, h2, h3, h4⟩
    · refine ⟨l, Nat.le_refl _, by omega, e, ?_⟩
      have h1 := pre_split (l := l) (by omega) a
      have h2 := pre_split (l := l) (by omega) b
      have h3 := pre_mono (l + 1) (Nat.le_of_lt hlt)
      omega
/-- The keys with one beginning. -/
def sub (xs : List Nat) (l p : Nat) : List Nat := xs.filter fun x => decide (pre l x = p)
theorem mem_sub {xs : List Nat} {l p x : Nat} : x ∈ sub xs l p ↔ x ∈ xs ∧ pre l x = p := by unfold sub; simp
/-- There is such a key. -/
def prs (xs : List Nat) (l p : Nat) : Prop := ∃ x ∈ xs, pre l x = p
instance (xs : List Nat) (l p : Nat) : Decidable (prs xs l p) := by unfold prs; exact inferInstance
theorem prs_sub {xs : List Nat} {l p : Nat} : prs xs l p ↔ sub xs l p ≠ [] := by
  constructor
  · rintro ⟨x, hx, hp⟩ h
    have : x ∈ sub xs l p := mem_sub.2 ⟨hx, hp⟩
    rw [h] at this
    cases this
  · intro h
    obtain ⟨x, hx⟩ := List.exists_mem_of_ne_nil _ h
    exact ⟨x, (mem_sub.1 hx).1, (mem_sub.1 hx).2⟩
theorem prs_up {xs : List Nat} {l k : Nat} (hl : l < 11) (h : prs xs (l + 1) (pre (l + 1) k)) : prs xs l (pre l k) := by
  obtain ⟨x, hx, e⟩ := h
  exact ⟨x, hx, pre_eq (Nat.le_succ l) hl e⟩
theorem prs_le {xs : List Nat} {l m k : Nat} (h : l ≤ m) (hm : m ≤ 11) (hp : prs xs m (pre m k)) : prs xs l (pre l k) := by
  obtain ⟨x, hx, e⟩ := hp
  exact ⟨x, hx, pre_eq h hm e⟩
theorem prs_last {xs : List Nat} {k : Nat} : prs xs 11 k ↔ k ∈ xs := by
  unfold prs
  constructor
  · rintro ⟨x, hx, e⟩
    rw [pre_last] at e
    exact e ▸ hx
  · exact fun h => ⟨k, h, pre_last k⟩
theorem sub_up {xs : List Nat} (h : K.Up xs) (l p : Nat) : K.Up (sub xs l p) := h.filter _
theorem sub_nil (l p : Nat) : sub [] l p = [] := rfl
theorem sub_zero {xs : List Nat} (h : ∀ x ∈ xs, x < 18446744073709551616) : sub xs 0 0 = xs := by
  unfold sub
  rw [List.filter_eq_self]
  intro x hx
  exact decide_eq_true (pre_zero (h x hx))
theorem sub_last {xs : List Nat} (h : K.Up xs) (k : Nat) : sub xs 11 k = if k ∈ xs then [k] else [] := by
  unfold sub
  induction xs with
  | nil => rfl
  | cons x l ih =>
    have ih := ih (K.up_tail h)
    rw [List.filter_cons, pre_last]
    by_cases e : x = k
    · subst e
      have : x ∉ l := fun hm => Nat.lt_irrefl _ ((List.pairwise_cons.1 h).1 x hm)
      rw [if_neg this] at ih
      simp [ih]
    · have e' : ¬ k = x := fun h => e h.symm
      simp [e, e', ih]
/-- With a key more. -/
theorem sub_add {xs : List Nat} (h : K.Up xs) (k l p : Nat) (hk : k ∉ xs) : sub (K.add xs k) l p = if pre l k = p then K.add (sub xs l p) k else sub xs l p := by
  have hs : K.Up (sub (K.add xs k) l p) := sub_up (K.add_up h k) l p
  have hs2 : K.Up (if pre l k = p then K.add (sub xs l p) k else sub xs l p) := by
    split
    · exact K.add_up (sub_up h l p) k
    · exact sub_up h l p
  refine up_ext hs hs2 fun x => ?_
  rw [mem_sub, K.add_mem h]
  split
  · rename_i hp
    rw [K.add_mem (sub_up h l p), mem_sub]
    constructor
    · rintro ⟨rfl | h1, h2⟩
      · exact .inl rfl
      · exact .inr ⟨h1, h2⟩
    · rintro (rfl | ⟨h1, h2⟩)
      · exact ⟨.inl rfl, hp⟩
      · exact ⟨.inr h1, h2⟩
  · rename_i hp
    rw [mem_sub]
    constructor
    · rintro ⟨rfl | h1, h2⟩
      · exact absurd h2 hp
      · exact ⟨h1, h2⟩
    · rintro ⟨h1, h2⟩
      exact ⟨.inr h1, h2⟩
where
  up_ext {l m : List Nat} (hl : K.Up l) (hm : K.Up m) (h : ∀ x, x ∈ l ↔ x ∈ m) : l = m := by
    induction l generalizing m with
    | nil =>
      cases m with
      | nil => rfl
      | cons y m => exact absurd ((h y).2 (by simp)) (by simp)
    | cons x l ih =>
      cases m with
      | nil => exact absurd ((h x).1 (by simp)) (by simp)
      | cons y m =>
        have hx := List.pairwise_cons.1 hl
        have hy := List.pairwise_cons.1 hm
        have e : x = y := by
          have h1 := (h x).1 (by simp)
          have h2 := (h y).2 (by simp)
          rcases List.mem_cons.1 h1 with h1 | h1
          · exact h1
          · rcases List.mem_cons.1 h2 with h2 | h2
            · exact h2.symm
            · have := hx.1 y h2; have := hy.1 x h1; omega
        subst e
        congr 1
        refine ih hx.2 hy.2 fun z => ?_
        constructor
        · intro hz
          rcases List.mem_cons.1 ((h z).1 (List.mem_cons_of_mem _ hz)) with h1 | h1
          · subst h1; have := hx.1 z hz; omega
          · exact h1
        · intro hz
          rcases List.mem_cons.1 ((h z).2 (List.mem_cons_of_mem _ hz)) with h1 | h1
          · subst h1; have := hy.1 z hz; omega
          · exact h1
theorem up_ext {l m : List Nat} (hl : K.Up l) (hm : K.Up m) (h : ∀ x, x ∈ l ↔ x ∈ m) : l = m := sub_add.up_ext hl hm h
theorem sub_drop {xs : List Nat} (h : K.Up xs) (k l p : Nat) (_hk : k ∈ xs) : sub (K.drop xs k) l p = if pre l k = p then K.drop (sub xs l p) k else sub xs l p := by
  have hs2 : K.Up (if pre l k = p then K.drop (sub xs l p) k else sub xs l p) := by
    split
    · exact K.drop_up (sub_up h l p) k
    · exact sub_up h l p
  refine up_ext (sub_up (K.drop_up h k) l p) hs2 fun x => ?_
  rw [mem_sub, K.drop_mem h]
  split
  · rw [K.drop_mem (sub_up h l p), mem_sub]
    constructor
    · rintro ⟨⟨h1, h2⟩, h3⟩; exact ⟨h1, h2, h3⟩
    · rintro ⟨h1, h2, h3⟩; exact ⟨⟨h1, h2⟩, h3⟩
  · rename_i hp
    rw [mem_sub]
    constructor
    · rintro ⟨⟨h1, h2⟩, h3⟩; exact ⟨h2, h3⟩
    · rintro ⟨h2, h3⟩; exact ⟨⟨fun e => hp (e ▸ h3), h2⟩, h3⟩
theorem add_len_new {xs : List Nat} (h : K.Up xs) {k : Nat} (hk : k ∉ xs) : (K.add xs k).length = xs.length + 1 := by
  unfold K.add
  rw [if_neg (fun hf => hk ((K.fo_mem h k).1 hf))]
  simp only [List.length_append, List.length_take, List.length_cons, List.length_drop]
  have := K.fi_le xs k
  omega
theorem drop_len {xs : List Nat} (h : K.Up xs) {k : Nat} (hk : k ∈ xs) : (K.drop xs k).length + 1 = xs.length := by
  have hf := (K.fo_mem h k).2 hk
  obtain ⟨h1, _⟩ := K.fo_lt hf
  unfold K.drop
  rw [if_pos hf]
  simp only [List.length_append, List.length_take, List.length_drop]
  omega
end T
end Go.Proofs.YtndielncleohlaaDoor
