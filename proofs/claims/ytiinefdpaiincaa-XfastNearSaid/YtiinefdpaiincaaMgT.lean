/- The trie's mathematics: beginnings and digits of keys, the keys below a node. The trie's mathematics: what a node holds; with a key more, with one less. How many nodes a key more makes; how many keys there may be. -/
import Derived.Test.YtiinefdpaiincaaMgB
import Derived.Test.YtiinefdpaiincaaMgD
import Derived.Test.YtiinefdpaiincaaMgE
section
namespace Go.Proofs.Ytiinefdpaiincaa
namespace T
/-- A key's beginning at a level (the eleventh is the key), and the digit behind it. -/
def pre (l k : Nat) : Nat := k / 64 ^ (11 - l)
def dig (l k : Nat) : Nat := pre (l + 1) k % 64
theorem pre_split {l : Nat} (hl : l < 11) (k : Nat) : pre (l + 1) k = pre l k * 64 + dig l k := by
  have e : pre l k = pre (l + 1) k / 64 := by
    unfold pre
    rw [Nat.div_div_eq_div_mul, ← Nat.pow_succ]
    congr 2
    omega
  unfold dig
  omega
theorem pre_div {l : Nat} (hl : l < 11) (k : Nat) : pre l k = pre (l + 1) k / 64 := by
  have := pre_split hl k
  have h2 : dig l k < 64 := Nat.mod_lt _ (by decide)
  omega
theorem dig_lt (l k : Nat) : dig l k < 64 := Nat.mod_lt _ (by decide)
theorem pre_last (k : Nat) : pre 11 k = k := by unfold pre; simp
theorem pre_zero {k : Nat} (h : k < 18446744073709551616) : pre 0 k = 0 := by
  unfold pre
  exact Nat.div_eq_of_lt (Nat.lt_trans h (by decide))
theorem pre_mono (l : Nat) {a b : Nat} (h : a ≤ b) : pre l a ≤ pre l b := Nat.div_le_div_right h
theorem lt_of_pre {l a b : Nat} (h : pre l a < pre l b) : a < b := by
  rcases Nat.lt_or_ge a b with h1 | h1
  · exact h1
  · have := pre_mono l h1; omega
theorem pre_eq_le : ∀ {l : Nat} (d : Nat), l + d ≤ 11 → ∀ {a b : Nat}, pre (l + d) a = pre (l + d) b → pre l a = pre l b
  | _, 0, _, _, _, h => h
  | l, d + 1, hl, a, b, h => by
    refine pre_eq_le d (by omega) ?_
    rw [pre_div (l := l + d) (by omega) a, pre_div (l := l + d) (by omega) b]
    rw [show l + d + 1 = l + (d + 1) by omega, h]
theorem pre_eq {l m : Nat} (h : l ≤ m) (hm : m ≤ 11) {a b : Nat} (e : pre m a = pre m b) : pre l a = pre l b := by
  obtain ⟨d, rfl⟩ := Nat.exists_eq_add_of_le h
  exact pre_eq_le d hm e
theorem pre_child {l : Nat} (hl : l < 11) {x p d : Nat} (h : pre (l + 1) x = p * 64 + d) (hd : d < 64) : pre l x = p ∧ dig l x = d := by
  have h1 := pre_split hl x
  have h2 := dig_lt l x
  omega
theorem pre_child' {l : Nat} (hl : l < 11) {x p d : Nat} (h : pre l x = p) (hd : dig l x = d) : pre (l + 1) x = p * 64 + d := by rw [pre_split hl, h, hd]
/-- The first level at which two keys part. -/
theorem part_at {a b : Nat} : ∀ (n l : Nat), l + n = 11 → pre l a = pre l b → a < b → ∃ j, l ≤ j ∧ j < 11 ∧ pre j a = pre j b ∧ dig j a < dig j b
  | 0, l, h, e, hlt => by
    have : l = 11 := by omega
    subst this
    rw [pre_last, pre_last] at e
    omega
  | n + 1, l, h, e, hlt => by
    by_cases hd : dig l a = dig l b
    · obtain ⟨j, h1, h2, h3, h4⟩ := part_at n (l + 1) (by omega) (by rw [pre_split (by omega), pre_split (by omega), e, hd]) hlt
      exact ⟨j, by omega, h2, h3, h4⟩
    · refine ⟨l, Nat.le_refl _, by omega, e, ?_⟩
      have h1 := pre_split (l := l) (by omega) a
      have h2 := pre_split (l := l) (by omega) b
      have h3 := pre_mono (l + 1) (Nat.le_of_lt hlt)
      omega
/-- The keys with one beginning. -/
def sub (xs : List Nat) (l p : Nat) : List Nat := xs.filter fun x => decide (pre l x = p)
theorem mem_sub {xs : List Nat} {l p x : Nat} : x ∈ sub xs l p ↔ x ∈ xs ∧ pre l x = p := by unfold sub; simp
/-- There is such a key. -/
def prs (xs : List Nat) (l p : Nat) : Prop := ∃ x ∈ xs, pre l x = p
instance (xs : List Nat) (l p : Nat) : Decidable (prs xs l p) := by unfold prs; exact inferInstance
theorem prs_sub {xs : List Nat} {l p : Nat} : prs xs l p ↔ sub xs l p ≠ [] := by
  constructor
  · rintro ⟨x, hx, hp⟩ h
    have : x ∈ sub xs l p := mem_sub.2 ⟨hx, hp⟩
    rw [h] at this
    cases this
  · intro h
    obtain ⟨x, hx⟩ := List.exists_mem_of_ne_nil _ h
    exact ⟨x, (mem_sub.1 hx).1, (mem_sub.1 hx).2⟩
theorem prs_up {xs : List Nat} {l k : Nat} (hl : l < 11) (h : prs xs (l + 1) (pre (l + 1) k)) : prs xs l (pre l k) := by
  obtain ⟨x, hx, e⟩ := h
  exact ⟨x, hx, pre_eq (Nat.le_succ l) hl e⟩
theorem prs_le {xs : List Nat} {l m k : Nat} (h : l ≤ m) (hm : m ≤ 11) (hp : prs xs m (pre m k)) : prs xs l (pre l k) := by
  obtain ⟨x, hx, e⟩ := hp
  exact ⟨x, hx, pre_eq h hm e⟩
theorem prs_last {xs : List Nat} {k : Nat} : prs xs 11 k ↔ k ∈ xs := by
  unfold prs
  constructor
  · rintro ⟨x, hx, e⟩
    rw [pre_last] at e
    exact e ▸ hx
  · exact fun h => ⟨k, h, pre_last k⟩
theorem sub_up {xs : List Nat} (h : K.Up xs) (l p : Nat) : K.Up (sub xs l p) := h.filter _
theorem sub_nil (l p : Nat) : sub [] l p = [] := rfl
theorem sub_zero {xs : List Nat} (h : ∀ x ∈ xs, x < 18446744073709551616) : sub xs 0 0 = xs := by
  unfold sub
  rw [List.filter_eq_self]
  intro x hx
  exact decide_eq_true (pre_zero (h x hx))
theorem sub_last {xs : List Nat} (h : K.Up xs) (k : Nat) : sub xs 11 k = if k ∈ xs then [k] else [] := by
  unfold sub
  induction xs with
  | nil => rfl
  | cons x l ih =>
    have ih := ih (K.up_tail h)
    rw [List.filter_cons, pre_last]
    by_cases e : x = k
    · subst e
      have : x ∉ l := fun hm => Nat.lt_irrefl _ ((List.pairwise_cons.1 h).1 x hm)
      rw [if_neg this] at ih
      simp [ih]
    · have e' : ¬ k = x := fun h => e h.symm
      simp [e, e', ih]
/-- With a key more. -/
theorem sub_add {xs : List Nat} (h : K.Up xs) (k l p : Nat) (hk : k ∉ xs) : sub (K.add xs k) l p = if pre l k = p then K.add (sub xs l p) k else sub xs l p := by
  have hs : K.Up (sub (K.add xs k) l p) := sub_up (K.add_up h k) l p
  have hs2 : K.Up (if pre l k = p then K.add (sub xs l p) k else sub xs l p) := by
    split
    · exact K.add_up (sub_up h l p) k
    · exact sub_up h l p
  refine up_ext hs hs2 fun x => ?_
  rw [mem_sub, K.add_mem h]
  split
  · rename_i hp
    rw [K.add_mem (sub_up h l p), mem_sub]
    constructor
    · rintro ⟨rfl | h1, h2⟩
      · exact .inl rfl
      · exact .inr ⟨h1, h2⟩
    · rintro (rfl | ⟨h1, h2⟩)
      · exact ⟨.inl rfl, hp⟩
      · exact ⟨.inr h1, h2⟩
  · rename_i hp
    rw [mem_sub]
    constructor
    · rintro ⟨rfl | h1, h2⟩
      · exact absurd h2 hp
      · exact ⟨h1, h2⟩
    · rintro ⟨h1, h2⟩
      exact ⟨.inr h1, h2⟩
where
  up_ext {l m : List Nat} (hl : K.Up l) (hm : K.Up m) (h : ∀ x, x ∈ l ↔ x ∈ m) : l = m := by
    induction l generalizing m with
    | nil =>
      cases m with
      | nil => rfl
      | cons y m => exact absurd ((h y).2 (by simp)) (by simp)
    | cons x l ih =>
      cases m with
      | nil => exact absurd ((h x).1 (by simp)) (by simp)
      | cons y m =>
        have hx := List.pairwise_cons.1 hl
        have hy := List.pairwise_cons.1 hm
        have e : x = y := by
          have h1 := (h x).1 (by simp)
          have h2 := (h y).2 (by simp)
          rcases List.mem_cons.1 h1 with h1 | h1
          · exact h1
          · rcases List.mem_cons.1 h2 with h2 | h2
            · exact h2.symm
            · have := hx.1 y h2; have := hy.1 x h1; omega
        subst e
        congr 1
        refine ih hx.2 hy.2 fun z => ?_
        constructor
        · intro hz
          rcases List.mem_cons.1 ((h z).1 (List.mem_cons_of_mem _ hz)) with h1 | h1
          · subst h1; have := hx.1 z hz; omega
          · exact h1
        · intro hz
          rcases List.mem_cons.1 ((h z).2 (List.mem_cons_of_mem _ hz)) with h1 | h1
          · subst h1; have := hy.1 z hz; omega
          · exact h1
theorem up_ext {l m : List Nat} (hl : K.Up l) (hm : K.Up m) (h : ∀ x, x ∈ l ↔ x ∈ m) : l = m := sub_add.up_ext hl hm h
theorem sub_drop {xs : List Nat} (h : K.Up xs) (k l p : Nat) (_hk : k ∈ xs) : sub (K.drop xs k) l p = if pre l k = p then K.drop (sub xs l p) k else sub xs l p := by
  have hs2 : K.Up (if pre l k = p then K.drop (sub xs l p) k else sub xs l p) := by
    split
    · exact K.drop_up (sub_up h l p) k
    · exact sub_up h l p
  refine up_ext (sub_up (K.drop_up h k) l p) hs2 fun x => ?_
  rw [mem_sub, K.drop_mem h]
  split
  · rw [K.drop_mem (sub_up h l p), mem_sub]
    constructor
    · rintro ⟨⟨h1, h2⟩, h3⟩; exact ⟨h1, h2, h3⟩
    · rintro ⟨h1, h2, h3⟩; exact ⟨⟨h1, h2⟩, h3⟩
  · rename_i hp
    rw [mem_sub]
    constructor
    · rintro ⟨⟨h1, h2⟩, h3⟩; exact ⟨h2, h3⟩
    · rintro ⟨h2, h3⟩; exact ⟨⟨fun e => hp (e ▸ h3), h2⟩, h3⟩
theorem add_len_new {xs : List Nat} (h : K.Up xs) {k : Nat} (hk : k ∉ xs) : (K.add xs k).length = xs.length + 1 := by
  unfold K.add
  rw [if_neg (fun hf => hk ((K.fo_mem h k).1 hf))]
  simp only [List.length_append, List.length_take, List.length_cons, List.length_drop]
  have := K.fi_le xs k
  omega
theorem drop_len {xs : List Nat} (h : K.Up xs) {k : Nat} (hk : k ∈ xs) : (K.drop xs k).length + 1 = xs.length := by
  have hf := (K.fo_mem h k).2 hk
  obtain ⟨h1, _⟩ := K.fo_lt hf
  unfold K.drop
  rw [if_pos hf]
  simp only [List.length_append, List.length_take, List.length_drop]
  omega
end T
end Go.Proofs.Ytiinefdpaiincaa
end
section
namespace Go.Proofs.Ytiinefdpaiincaa
namespace T
theorem bl_up (W : Nat) : K.Up (M.bl W) := M.bl_sorted W
theorem bl_set (W d : Nat) (hd : d < 64) : M.bl (W ||| M.one d) = K.add (M.bl W) d := by
  refine up_ext (bl_up _) (K.add_up (bl_up W) d) fun x => ?_
  rw [K.add_mem (bl_up W), M.mem_bl, M.mem_bl, Nat.testBit_or, M.one_bit]
  simp only [Bool.or_eq_true, decide_eq_true_eq]
  constructor
  · rintro ⟨h1, h2 | h2⟩
    · exact .inr ⟨h1, h2⟩
    · exact .inl (by omega)
  · rintro (rfl | ⟨h1, h2⟩)
    · exact ⟨hd, .inr (by omega)⟩
    · exact ⟨h1, .inl h2⟩
theorem bl_clear (W d : Nat) (hd : d < 64) : M.bl (W &&& (18446744073709551615 - M.one d)) = K.drop (M.bl W) d := by
  refine up_ext (bl_up _) (K.drop_up (bl_up W) d) fun x => ?_
  rw [K.drop_mem (bl_up W), M.mem_bl, M.mem_bl, Nat.testBit_and]
  constructor
  · rintro ⟨h1, h2⟩
    rw [M.not_bit _ _ (M.one_lt d) h1, M.one_bit] at h2
    simp only [Bool.and_eq_true, Bool.not_eq_true', decide_eq_false_iff_not] at h2
    exact ⟨fun e => h2.2 (by omega), h1, h2.1⟩
  · rintro ⟨h0, h1, h2⟩
    refine ⟨h1, ?_⟩
    rw [M.not_bit _ _ (M.one_lt d) h1, M.one_bit, h2]
    simp only [Bool.and_eq_true, Bool.not_eq_true', decide_eq_false_iff_not, true_and]
    omega
theorem filter_while {xs : List Nat} (h : K.Up xs) (k : Nat) : xs.filter (fun x => decide (x < k)) = xs.takeWhile fun x => decide (x < k) := by
  induction xs with
  | nil => rfl
  | cons x l ih =>
    have hx := List.pairwise_cons.1 h
    by_cases e : x < k
    · rw [List.filter_cons_of_pos (by simpa using e), List.takeWhile_cons_of_pos (by simpa using e), ih hx.2]
    · rw [List.filter_cons_of_neg (by simpa using e), List.takeWhile_cons_of_neg (by simpa using e)]
      rw [List.filter_eq_nil_iff]
      intro y hy
      have := hx.1 y hy
      simp only [decide_eq_true_eq]
      omega
/-- A digit's rank is its place. -/
theorem rank_fi (W d : Nat) : M.rRank (M.bz W) (d : Int) = K.fi (M.bl W) d := by
  unfold M.rRank M.bz K.fi
  rw [← filter_while (bl_up W), List.filter_map, List.length_map]
  congr 1
  refine List.filter_congr fun x _ => ?_
  simp
theorem has_bl (W d : Nat) (hd : d < 64) : M.rHas (M.bz W) (d : Int) = decide (d ∈ M.bl W) := by
  rw [M.has_bit W d hd, Bool.eq_iff_iff, decide_eq_true_eq, M.mem_bl]
  exact ⟨fun h => ⟨hd, h⟩, fun h => h.2⟩
/-- The digits that come next. -/
def dgs (xs : List Nat) (l p : Nat) : List Nat := (List.range 64).filter fun d => decide (prs xs (l + 1) (p * 64 + d))
theorem dgs_up (xs : List Nat) (l p : Nat) : K.Up (dgs xs l p) := (List.pairwise_lt_range (n := 64)).filter _
theorem mem_dgs {xs : List Nat} {l p d : Nat} : d ∈ dgs xs l p ↔ d < 64 ∧ prs xs (l + 1) (p * 64 + d) := by unfold dgs; simp
theorem dgs_add {xs : List Nat} (h : K.Up xs) {l : Nat} (hl : l < 11) (k : Nat) : dgs (K.add xs k) l (pre l k) = K.add (dgs xs l (pre l k)) (dig l k) := by
  refine up_ext (dgs_up _ _ _) (K.add_up (dgs_up _ _ _) _) fun d => ?_
  rw [K.add_mem (dgs_up _ _ _), mem_dgs, mem_dgs]
  constructor
  · rintro ⟨h1, x, hx, e⟩
    rcases (K.add_mem h k x).1 hx with rfl | hx
    · exact .inl (pre_child hl e h1).2.symm
    · exact .inr ⟨h1, x, hx, e⟩
  · rintro (rfl | ⟨h1, x, hx, e⟩)
    · exact ⟨dig_lt l k, k, (K.add_mem h k k).2 (.inl rfl), pre_split hl k⟩
    · exact ⟨h1, x, (K.add_mem h k x).2 (.inr hx), e⟩
theorem dgs_drop {xs : List Nat} (h : K.Up xs) {l : Nat} (hl : l < 11) (k : Nat) : dgs (K.drop xs k) l (pre l k) = if prs (K.drop xs k) (l + 1) (pre (l + 1) k) then dgs xs l (pre l k) else K.drop (dgs xs l (pre l k)) (dig l k) := by
  have hs2 : K.Up (if prs (K.drop xs k) (l + 1) (pre (l + 1) k) then dgs xs l (pre l k) else K.drop (dgs xs l (pre l k)) (dig l k)) := by
    split
    · exact dgs_up _ _ _
    · exact K.drop_up (dgs_up _ _ _) _
  refine up_ext (dgs_up _ _ _) hs2 fun d => ?_
  rw [mem_dgs]
  split
  · rename_i hp
    rw [mem_dgs]
    constructor
    · rintro ⟨h1, x, hx, e⟩
      exact ⟨h1, x, ((K.drop_mem h k x).1 hx).2, e⟩
    · rintro ⟨h1, x, hx, e⟩
      refine ⟨h1, ?_⟩
      by_cases hk : x = k
      · subst hk
        rw [← e]
        exact hp
      · exact ⟨x, (K.drop_mem h k x).2 ⟨hk, hx⟩, e⟩
  · rename_i hp
    rw [K.drop_mem (dgs_up _ _ _), mem_dgs]
    constructor
    · rintro ⟨h1, x, hx, e⟩
      refine ⟨fun hd => hp ⟨x, hx, ?_⟩, h1, x, ((K.drop_mem h k x).1 hx).2, e⟩
      rw [e, hd, pre_split hl k]
    · rintro ⟨h0, h1, x, hx, e⟩
      refine ⟨h1, x, (K.drop_mem h k x).2 ⟨fun hk => ?_, hx⟩, e⟩
      subst hk
      exact h0 (pre_child hl e h1).2.symm
/-- The keys that have a beginning are alike in two lists: so is the node. -/
theorem sub_congr {xs ys : List Nat} {l p : Nat} (hx : K.Up xs) (hy : K.Up ys) (h : ∀ x, pre l x = p → (x ∈ xs ↔ x ∈ ys)) : sub xs l p = sub ys l p :=
  up_ext (sub_up hx l p) (sub_up hy l p) fun x => by
    rw [mem_sub, mem_sub]
    exact ⟨fun ⟨h1, h2⟩ => ⟨(h x h2).1 h1, h2⟩, fun ⟨h1, h2⟩ => ⟨(h x h2).2 h1, h2⟩⟩
theorem dgs_congr {xs ys : List Nat} {l p : Nat} (hl : l < 11) (h : ∀ x, pre l x = p → (x ∈ xs ↔ x ∈ ys)) : dgs xs l p = dgs ys l p :=
  up_ext (dgs_up _ _ _) (dgs_up _ _ _) fun d => by
    rw [mem_dgs, mem_dgs]
    constructor
    · rintro ⟨h1, x, hx, e⟩
      exact ⟨h1, x, (h x (pre_child hl e h1).1).1 hx, e⟩
    · rintro ⟨h1, x, hx, e⟩
      exact ⟨h1, x, (h x (pre_child hl e h1).1).2 hx, e⟩
theorem head_add {ys : List Nat} (h : K.Up ys) {a : Nat} (ha : ys.head? = some a) (k : Nat) : (K.add ys k).head? = some (min a k) := by
  cases ys with
  | nil => cases ha
  | cons x l =>
    cases ha
    have hx := List.pairwise_cons.1 h
    have h2 := K.add_up h k
    generalize hz : K.add (a :: l) k = zs at *
    cases zs with
    | nil =>
      have := (K.add_mem h k k).2 (.inl rfl)
      rw [hz] at this
      cases this
    | cons z zs =>
      have h3 := List.pairwise_cons.1 h2
      have hm : ∀ y, y ∈ z :: zs ↔ y = k ∨ y ∈ a :: l := fun y => by rw [← hz]; exact K.add_mem h k y
      have hle : ∀ y, y ∈ z :: zs → z ≤ y := fun y hy => by
        rcases List.mem_cons.1 hy with rfl | hy
        · exact Nat.le_refl _
        · exact Nat.le_of_lt (h3.1 y hy)
      have h4 := hle k ((hm k).2 (.inl rfl))
      have h5 := hle a ((hm a).2 (.inr (by simp)))
      have h6 : z = k ∨ a ≤ z := by
        rcases (hm z).1 (by simp) with h6 | h6
        · exact .inl h6
        · rcases List.mem_cons.1 h6 with rfl | h6
          · exact .inr (Nat.le_refl _)
          · exact .inr (Nat.le_of_lt (hx.1 z h6))
      show some z = some (min a k)
      congr 1
      omega
theorem last_le {ys : List Nat} (h : K.Up ys) {b : Nat} (hb : ys.getLast? = some b) : ∀ y ∈ ys, y ≤ b := by
  intro y hy
  obtain ⟨zs, rfl⟩ := List.getLast?_eq_some_iff.1 hb
  rcases List.mem_append.1 hy with hy | hy
  · exact Nat.le_of_lt ((List.pairwise_append.1 h).2.2 y hy b (by simp))
  · simp at hy; omega
theorem last_of {ys : List Nat} (h : K.Up ys) {b : Nat} (hb : b ∈ ys) (hm : ∀ y ∈ ys, y ≤ b) : ys.getLast? = some b := by
  have hne : ys ≠ [] := fun e => by rw [e] at hb; cases hb
  obtain ⟨c, hc⟩ : ∃ c, ys.getLast? = some c := ⟨_, List.getLast?_eq_some_getLast hne⟩
  have h1 := last_le h hc b hb
  have h2 := hm c (List.mem_of_getLast? hc)
  rw [hc]
  congr 1
  omega
theorem head_le {ys : List Nat} (h : K.Up ys) {a : Nat} (ha : ys.head? = some a) : ∀ y ∈ ys, a ≤ y := by
  intro y hy
  cases ys with
  | nil => cases ha
  | cons x l =>
    cases ha
    rcases List.mem_cons.1 hy with rfl | hy
    · exact Nat.le_refl _
    · exact Nat.le_of_lt ((List.pairwise_cons.1 h).1 y hy)
theorem head_of {ys : List Nat} (h : K.Up ys) {a : Nat} (ha : a ∈ ys) (hm : ∀ y ∈ ys, a ≤ y) : ys.head? = some a := by
  cases ys with
  | nil => cases ha
  | cons x l =>
    have h1 := head_le h (a := x) rfl a ha
    have h2 := hm x (by simp)
    show some x = some a
    congr 1
    omega
theorem last_add {ys : List Nat} (h : K.Up ys) {b : Nat} (hb : ys.getLast? = some b) (k : Nat) : (K.add ys k).getLast? = some (max b k) := by
  have h1 := List.mem_of_getLast? hb
  refine last_of (K.add_up h k) ((K.add_mem h k _).2 ?_) fun y hy => ?_
  · rcases Nat.le_total b k with h2 | h2
    · exact .inl (Nat.max_eq_right h2)
    · rw [Nat.max_eq_left h2]; exact .inr h1
  · rcases (K.add_mem h k y).1 hy with rfl | hy
    · omega
    · have := last_le h hb y hy
      omega
theorem add_nil (k : Nat) : K.add [] k = [k] := rfl
/-- A rising list with one more: what lists along it become. -/
theorem map_add {ds : List Nat} {d : Nat} (hd : d ∉ ds) (hu : K.Up ds) (f : Nat → Nat) : (K.add ds d).map f = (ds.map f).take (K.fi ds d) ++ f d :: (ds.map f).drop (K.fi ds d) := by
  unfold K.add
  rw [if_neg (fun h => hd ((K.fo_mem hu d).1 h)), List.map_append, List.map_cons, List.map_take, List.map_drop]
theorem map_drop {ds : List Nat} {d : Nat} (hd : d ∈ ds) (hu : K.Up ds) (f : Nat → Nat) : (K.drop ds d).map f = (ds.map f).take (K.fi ds d) ++ (ds.map f).drop (K.fi ds d + 1) := by
  unfold K.drop
  rw [if_pos ((K.fo_mem hu d).2 hd), List.map_append, List.map_take, List.map_drop]
/-- What the node of a beginning holds. -/
structure NdOK (xs : List Nat) (pl : Nat → Nat → Nat) (l p W ks le gr : Nat) (ch : List Nat) : Prop where
  wlt : W < 18446744073709551616
  bits : M.bl W = dgs xs l p
  ks : ks = (sub xs l p).length
  le : (sub xs l p).head? = some le
  gr : (sub xs l p).getLast? = some gr
  ch : ch = if l < 10 then (dgs xs l p).map (fun d => pl (l + 1) (p * 64 + d)) else []
theorem NdOK.frame {xs ys : List Nat} {pl pl' : Nat → Nat → Nat} {l p W ks le gr : Nat} {ch : List Nat} (h : NdOK xs pl l p W ks le gr ch) (hl : l < 11) (hx : K.Up xs) (hy : K.Up ys) (he : ∀ x, pre l x = p → (x ∈ xs ↔ x ∈ ys))
    (hp : ∀ d, d < 64 → prs xs (l + 1) (p * 64 + d) → pl' (l + 1) (p * 64 + d) = pl (l + 1) (p * 64 + d)) : NdOK ys pl' l p W ks le gr ch := by
  have e1 := sub_congr hx hy he
  have e2 := dgs_congr hl he
  refine ⟨h.wlt, e2 ▸ h.bits, e1 ▸ h.ks, e1 ▸ h.le, e1 ▸ h.gr, ?_⟩
  rw [h.ch, ← e2]
  split
  · refine List.map_congr_left fun d hd => ?_
    have := mem_dgs.1 hd
    exact (hp d this.1 this.2).symm
  · rfl
/-- A node that was there, with a key more. -/
theorem NdOK.grow {xs : List Nat} {pl pl' : Nat → Nat → Nat} {l k W ks le gr : Nat} {ch : List Nat} (h : NdOK xs pl l (pre l k) W ks le gr ch) (hl : l < 11) (hx : K.Up xs) (hk : k ∉ xs)
    (hp : ∀ d, d < 64 → prs xs (l + 1) (pre l k * 64 + d) → pl' (l + 1) (pre l k * 64 + d) = pl (l + 1) (pre l k * 64 + d)) :
    NdOK (K.add xs k) pl' l (pre l k) (W ||| M.one (dig l k)) (ks + 1) (min le k) (max gr k)
      (if l < 10 ∧ dig l k ∉ M.bl W then ch.take (K.fi (M.bl W) (dig l k)) ++ pl' (l + 1) (pre (l + 1) k) :: ch.drop (K.fi (M.bl W) (dig l k)) else ch) := by
  have hs := sub_add hx k l (pre l k) hk
  rw [if_pos rfl] at hs
  have hks : k ∉ sub xs l (pre l k) := fun hm => hk (mem_sub.1 hm).1
  have e2 : ch = if l < 10 then (dgs xs l (pre l k)).map (fun d => pl' (l + 1) (pre l k * 64 + d)) else [] := by
    rw [h.ch]
    split
    · refine List.map_congr_left fun d hd => ?_
      have := mem_dgs.1 hd
      exact (hp d this.1 this.2).symm
    · rfl
  refine ⟨M.or_lt h.wlt (M.one_lt _), ?_, ?_, ?_, ?_, ?_⟩
  · rw [bl_set _ _ (dig_lt l k), h.bits, dgs_add hx hl]
  · rw [hs, add_len_new (sub_up hx _ _) hks, h.ks]
  · rw [hs]; exact head_add (sub_up hx _ _) h.le k
  · rw [hs]; exact last_add (sub_up hx _ _) h.gr k
  · rw [dgs_add hx hl, e2, h.bits]
    by_cases h10 : l < 10
    · rw [if_pos h10, if_pos h10]
      by_cases hd : dig l k ∈ dgs xs l (pre l k)
      · rw [if_neg (fun h => h.2 hd)]
        unfold K.add
        rw [if_pos ((K.fo_mem (dgs_up _ _ _) _).2 hd)]
      · rw [if_pos ⟨h10, hd⟩, map_add hd (dgs_up _ _ _), ← pre_split hl]
    · rw [if_neg h10, if_neg h10, if_neg (fun h => h10 h.1)]
/-- A new node, of one key. -/
theorem NdOK.fresh {xs : List Nat} {pl' : Nat → Nat → Nat} {l k : Nat} (hl : l < 11) (hx : K.Up xs) (hn : ¬ prs xs l (pre l k)) :
    NdOK (K.add xs k) pl' l (pre l k) (0 ||| M.one (dig l k)) (0 + 1) (min k k) (max k k) (if l < 10 then [pl' (l + 1) (pre (l + 1) k)] else []) := by
  have hk : k ∉ xs := fun hm => hn ⟨k, hm, rfl⟩
  have hs := sub_add hx k l (pre l k) hk
  rw [if_pos rfl] at hs
  have hn2 : sub xs l (pre l k) = [] := by
    rcases Classical.em (sub xs l (pre l k) = []) with h | h
    · exact h
    · exact absurd (prs_sub.2 h) hn
  have hd : dgs xs l (pre l k) = [] := by
    unfold dgs
    rw [List.filter_eq_nil_iff]
    intro d hd
    simp only [decide_eq_true_eq]
    rintro ⟨x, hx, e⟩
    exact hn ⟨x, hx, (pre_child hl e (List.mem_range.1 hd)).1⟩
  rw [hn2, add_nil] at hs
  refine ⟨M.or_lt (by decide) (M.one_lt _), ?_, ?_, ?_, ?_, ?_⟩
  · rw [bl_set _ _ (dig_lt l k), dgs_add hx hl, hd, M.bl_zero]
  · rw [hs]; rfl
  · rw [hs, Nat.min_self]; rfl
  · rw [hs, Nat.max_self]; rfl
  · rw [dgs_add hx hl, hd, add_nil]
    split
    · show [_] = [pl' (l + 1) (pre l k * 64 + dig l k)]
      rw [← pre_split hl]
    · rfl
/-- A node with one key less, if another is left. -/
theorem NdOK.shrink {xs : List Nat} {pl : Nat → Nat → Nat} {l k W ks le gr ab bw : Nat} {ch : List Nat} (h : NdOK xs pl l (pre l k) W ks le gr ch) (hl : l < 11) (hx : K.Up xs) (hk : k ∈ xs) (h1 : ks - 1 ≠ 0) (gone : Bool) (hg : gone = !decide (prs (K.drop xs k) (l + 1) (pre (l + 1) k)))
    (hab : ∀ x ∈ xs, k < x → ab ∈ xs ∧ k < ab ∧ ab ≤ x) (hbw : ∀ x ∈ xs, x < k → bw ∈ xs ∧ bw < k ∧ x ≤ bw) :
    NdOK (K.drop xs k) pl l (pre l k) (if gone then W &&& (18446744073709551615 - M.one (dig l k)) else W) (ks - 1) (if le = k then ab else le) (if gr = k then bw else gr)
      (if gone ∧ K.fi (M.bl W) (dig l k) < ch.length then ch.take (K.fi (M.bl W) (dig l k)) ++ ch.drop (K.fi (M.bl W) (dig l k) + 1) else ch) := by
  have hs := sub_drop hx k l (pre l k) hk
  rw [if_pos rfl] at hs
  have hu := sub_up hx l (pre l k)
  have hks : k ∈ sub xs l (pre l k) := mem_sub.2 ⟨hk, rfl⟩
  have hdm : dig l k ∈ dgs xs l (pre l k) := mem_dgs.2 ⟨dig_lt l k, k, hk, pre_split hl k⟩
  have hlen := drop_len hu hks
  have hne : K.drop (sub xs l (pre l k)) k ≠ [] := fun e => by rw [e] at hlen; simp at hlen; have := h.ks; omega
  have hmem := fun x => K.drop_mem hu k x
  refine ⟨?_, ?_, ?_, ?_, ?_, ?_⟩
  · split
    · exact Nat.lt_of_le_of_lt Nat.and_le_left h.wlt
    · exact h.wlt
  · rw [dgs_drop hx hl]
    cases gone with
    | true =>
      have : ¬ prs (K.drop xs k) (l + 1) (pre (l + 1) k) := by simpa using hg.symm
      rw [if_neg this, if_pos rfl, bl_clear _ _ (dig_lt l k), h.bits]
    | false =>
      have : prs (K.drop xs k) (l + 1) (pre (l + 1) k) := by simpa using hg.symm
      rw [if_pos this]
      exact h.bits
  · rw [hs, h.ks]; omega
  · rw [hs]
    refine head_of (K.drop_up hu k) ?_ ?_
    · rw [hmem]
      split
      · rename_i e
        obtain ⟨y, hy⟩ := List.exists_mem_of_ne_nil _ hne
        obtain ⟨hy1, hy2⟩ := (hmem y).1 hy
        have hky := head_le hu h.le y hy2
        obtain ⟨h5, h6, h7⟩ := hab y (mem_sub.1 hy2).1 (by omega)
        refine ⟨by omega, mem_sub.2 ⟨h5, ?_⟩⟩
        have h8 := pre_mono l (Nat.le_of_lt h6)
        have h9 := pre_mono l h7
        have h10 := (mem_sub.1 hy2).2
        omega
      · rename_i e
        exact ⟨e, List.mem_of_head? h.le⟩
    · intro y hy
      obtain ⟨hy1, hy2⟩ := (hmem y).1 hy
      have hky := head_le hu h.le y hy2
      split
      · rename_i e
        exact (hab y (mem_sub.1 hy2).1 (by omega)).2.2
      · exact hky
  · rw [hs]
    refine last_of (K.drop_up hu k) ?_ ?_
    · rw [hmem]
      split
      · rename_i e
        obtain ⟨y, hy⟩ := List.exists_mem_of_ne_nil _ hne
        obtain ⟨hy1, hy2⟩ := (hmem y).1 hy
        have hky := last_le hu h.gr y hy2
        obtain ⟨h5, h6, h7⟩ := hbw y (mem_sub.1 hy2).1 (by omega)
        refine ⟨by omega, mem_sub.2 ⟨h5, ?_⟩⟩
        have h8 := pre_mono l (Nat.le_of_lt h6)
        have h9 := pre_mono l h7
        have h10 := (mem_sub.1 hy2).2
        omega
      · rename_i e
        exact ⟨e, List.mem_of_getLast? h.gr⟩
    · intro y hy
      obtain ⟨hy1, hy2⟩ := (hmem y).1 hy
      have hky := last_le hu h.gr y hy2
      split
      · rename_i e
        exact (hbw y (mem_sub.1 hy2).1 (by omega)).2.2
      · exact hky
  · rw [dgs_drop hx hl, h.bits, h.ch]
    by_cases h10 : l < 10
    · rw [if_pos h10, if_pos h10]
      have hfl : K.fi (dgs xs l (pre l k)) (dig l k) < (dgs xs l (pre l k)).length := (K.fo_lt ((K.fo_mem (dgs_up _ _ _) _).2 hdm)).1
      cases gone with
      | true =>
        have : ¬ prs (K.drop xs k) (l + 1) (pre (l + 1) k) := by simpa using hg.symm
        rw [if_neg this, if_pos ⟨rfl, by rw [List.length_map]; exact hfl⟩, map_drop hdm (dgs_up _ _ _)]
      | false =>
        have : prs (K.drop xs k) (l + 1) (pre (l + 1) k) := by simpa using hg.symm
        rw [if_pos this, if_neg (fun h => by cases h.1)]
    · rw [if_neg h10, if_neg h10, if_neg (fun h => by simp at h)]
/-- When one key less leaves none. -/
theorem gone_iff {xs : List Nat} {pl : Nat → Nat → Nat} {l k W ks le gr : Nat} {ch : List Nat} (h : NdOK xs pl l (pre l k) W ks le gr ch) (hx : K.Up xs) (hk : k ∈ xs) : (ks - 1 = 0) ↔ ¬ prs (K.drop xs k) l (pre l k) := by
  have hs := sub_drop hx k l (pre l k) hk
  rw [if_pos rfl] at hs
  have hks : k ∈ sub xs l (pre l k) := mem_sub.2 ⟨hk, rfl⟩
  have hlen := drop_len (sub_up hx l (pre l k)) hks
  rw [prs_sub, hs, h.ks]
  constructor
  · intro h0 h2
    exact h2 (List.length_eq_zero_iff.1 (by omega))
  · intro h0
    have : K.drop (sub xs l (pre l k)) k = [] := Classical.not_not.1 h0
    rw [this] at hlen
    simp at hlen
    omega
end T
end Go.Proofs.Ytiinefdpaiincaa
end
section
namespace Go.Proofs.Ytiinefdpaiincaa
namespace T
theorem offs_snoc (l : List Nat) (a : Nat) : K.off (l ++ [a]) = K.add (K.off l) a := by simp [K.off]
theorem snoc_ind {p : List Nat → Prop} (h0 : p []) (hs : ∀ l a, p l → p (l ++ [a])) (l : List Nat) : p l := M.snoc_indN h0 hs l
theorem off_up (l : List Nat) : K.Up (K.off l) := by
  refine snoc_ind (p := fun l => K.Up (K.off l)) List.Pairwise.nil (fun l a ih => ?_) l
  rw [offs_snoc]
  exact K.add_up ih a
theorem off_mem (l : List Nat) (x : Nat) : x ∈ K.off l ↔ x ∈ l := by
  refine snoc_ind (p := fun l => x ∈ K.off l ↔ x ∈ l) (by simp [K.off]) (fun l a ih => ?_) l
  rw [offs_snoc, K.add_mem (off_up l), ih, List.mem_append, List.mem_singleton]
  exact or_comm
theorem add_len' {xs : List Nat} (h : K.Up xs) (k : Nat) : (K.add xs k).length = xs.length + if k ∈ xs then 0 else 1 := by
  split
  · rename_i hk
    unfold K.add
    rw [if_pos ((K.fo_mem h k).2 hk), Nat.add_zero]
  · rename_i hk
    exact add_len_new h hk
theorem kinds_off {xs : List Nat} (h : K.Up xs) {b : Nat} (hb : 0 < b) : ∀ j, j ≤ xs.length → K.kd xs b j = (K.off ((xs.take j).map fun x => x / 2 ^ (64 - b))).length
  | 0, _ => rfl
  | j + 1, hj => by
    have ih := kinds_off h hb j (by omega)
    show K.kd xs b j + (if K.kc xs b j then 1 else 0) = _
    rw [List.take_succ_eq_append_getElem (by omega), List.map_append, List.map_cons, List.map_nil, offs_snoc, add_len' (off_up _), ih]
    congr 1
    have hm : xs[j] / 2 ^ (64 - b) ∈ K.off ((xs.take j).map fun x => x / 2 ^ (64 - b)) ↔ (0 < j ∧ (xs[j]?).getD 0 / 2 ^ (64 - b) = (xs[j - 1]?).getD 0 / 2 ^ (64 - b)) := by
      rw [off_mem, List.mem_map]
      constructor
      · rintro ⟨x, hx, e⟩
        obtain ⟨i, hi, rfl⟩ := List.getElem_of_mem hx
        rw [List.length_take] at hi
        rw [List.getElem_take] at e
        refine ⟨by omega, ?_⟩
        rw [List.getElem?_eq_getElem (by omega), List.getElem?_eq_getElem (by omega), Option.getD_some, Option.getD_some]
        have h1 : xs[i]'(by omega) ≤ xs[j - 1]'(by omega) := by
          rcases Nat.lt_or_ge i (j - 1) with h2 | h2
          · exact Nat.le_of_lt (K.up_lt h h2 (by omega))
          · have : i = j - 1 := by omega
            subst this
            exact Nat.le_refl _
        have h2 : xs[j - 1]'(by omega) < xs[j]'(by omega) := K.up_lt h (by omega) (by omega)
        have h3 := Nat.div_le_div_right (c := 2 ^ (64 - b)) h1
        have h4 := Nat.div_le_div_right (c := 2 ^ (64 - b)) (Nat.le_of_lt h2)
        have e : xs[i]'(by omega) / 2 ^ (64 - b) = xs[j]'(by omega) / 2 ^ (64 - b) := e
        omega
      · rintro ⟨h0, e⟩
        rw [List.getElem?_eq_getElem (by omega), List.getElem?_eq_getElem (by omega), Option.getD_some, Option.getD_some] at e
        refine ⟨xs[j - 1]'(by omega), ?_, e.symm⟩
        have : (xs.take j)[j - 1]'(by rw [List.length_take]; omega) = xs[j - 1]'(by omega) := List.getElem_take ..
        rw [← this]
        exact List.getElem_mem _
    unfold K.kc
    by_cases h2 : xs[j] / 2 ^ (64 - b) ∈ K.off ((xs.take j).map fun x => x / 2 ^ (64 - b))
    · rw [if_pos h2]
      obtain ⟨h3, h4⟩ := hm.1 h2
      have h0 : decide (j = 0) = false := decide_eq_false (by omega)
      rw [h0, decide_eq_true h4, decide_eq_true hb]
      simp
    · rw [if_neg h2]
      by_cases h0 : j = 0
      · rw [decide_eq_true h0]; simp
      · have h4 : ¬ ((xs[j]?).getD 0 / 2 ^ (64 - b) = (xs[j - 1]?).getD 0 / 2 ^ (64 - b)) := fun e => h2 (hm.2 ⟨by omega, e⟩)
        rw [decide_eq_false h4, decide_eq_true hb]
        simp
theorem kinds_eq {xs : List Nat} (h : K.Up xs) {b : Nat} (hb : 0 < b) : K.kinds xs b = (K.off (xs.map fun x => x / 2 ^ (64 - b))).length := by
  have := kinds_off h hb xs.length (Nat.le_refl _)
  rw [List.take_length] at this
  exact this
theorem kinds_add {xs : List Nat} (h : K.Up xs) (k : Nat) {b : Nat} (hb : 0 < b) : K.kinds (K.add xs k) b = K.kinds xs b + if (∃ x ∈ xs, x / 2 ^ (64 - b) = k / 2 ^ (64 - b)) then 0 else 1 := by
  rw [kinds_eq (K.add_up h k) hb, kinds_eq h hb]
  have e : K.off ((K.add xs k).map fun x => x / 2 ^ (64 - b)) = K.add (K.off (xs.map fun x => x / 2 ^ (64 - b))) (k / 2 ^ (64 - b)) := by
    refine up_ext (off_up _) (K.add_up (off_up _) _) fun y => ?_
    rw [off_mem, K.add_mem (off_up _), off_mem, List.mem_map, List.mem_map]
    constructor
    · rintro ⟨x, hx, rfl⟩
      rcases (K.add_mem h k x).1 hx with rfl | hx
      · exact .inl rfl
      · exact .inr ⟨x, hx, rfl⟩
    · rintro (rfl | ⟨x, hx, rfl⟩)
      · exact ⟨k, (K.add_mem h k k).2 (.inl rfl), rfl⟩
      · exact ⟨x, (K.add_mem h k x).2 (.inr hx), rfl⟩
  rw [e, add_len' (off_up _)]
  congr 1
  have : (k / 2 ^ (64 - b) ∈ K.off (xs.map fun x => x / 2 ^ (64 - b))) ↔ ∃ x ∈ xs, x / 2 ^ (64 - b) = k / 2 ^ (64 - b) := by rw [off_mem, List.mem_map]
  by_cases h2 : ∃ x ∈ xs, x / 2 ^ (64 - b) = k / 2 ^ (64 - b)
  · rw [if_pos h2, if_pos (this.2 h2)]
  · rw [if_neg h2, if_neg (fun h3 => h2 (this.1 h3))]
theorem kinds_zero (xs : List Nat) : K.kinds xs 0 = if xs = [] then 0 else 1 := by
  have : ∀ j, K.kd xs 0 j = if j = 0 then 0 else 1 := by
    intro j
    induction j with
    | zero => rfl
    | succ j ih =>
      show K.kd xs 0 j + (if K.kc xs 0 j then 1 else 0) = _
      rw [ih]
      unfold K.kc
      by_cases h : j = 0
      · subst h; simp
      · simp [h]
  unfold K.kinds
  rw [this]
  cases xs <;> simp
theorem add_ne_nil (xs : List Nat) (k : Nat) : K.add xs k ≠ [] := by
  intro e
  unfold K.add at e
  split at e
  · rename_i h
    rw [e] at h
    simp [K.fo, K.fi] at h
  · simp at e
theorem pre_pow {l : Nat} (hl : 1 ≤ l) (hl2 : l ≤ 10) (x : Nat) : x / 2 ^ (64 - (4 + 6 * (l - 1))) = pre l x := by
  unfold pre
  rw [show (64 : Nat) ^ (11 - l) = (2 ^ 6) ^ (11 - l) by rfl, ← Nat.pow_mul]
  congr 2
  omega
theorem trs_add {xs : List Nat} (h : K.Up xs) {k m : Nat} (hm : m ≤ 11) (h1 : ∀ l, l < m → prs xs l (pre l k)) (h2 : ∀ l, m ≤ l → l < 11 → ¬ prs xs l (pre l k)) (h0 : prs xs 0 (pre 0 k) ↔ xs ≠ []) :
    ∀ j, j ≤ 10 → K.trs (K.add xs k) j = K.trs xs j + (j + 1 - min (j + 1) m)
  | 0, _ => by
    show K.kinds (K.add xs k) 0 = K.kinds xs 0 + _
    rw [kinds_zero, kinds_zero, if_neg (add_ne_nil xs k)]
    by_cases hx : xs = []
    · rw [if_pos hx]
      have : ¬ prs xs 0 (pre 0 k) := fun h => h0.1 h hx
      have : ¬ 0 < m := fun h => this (h1 0 h)
      omega
    · rw [if_neg hx]
      have : 0 < m := by
        rcases Nat.eq_zero_or_pos m with h3 | h3
        · exact absurd (h0.2 hx) (h2 0 (by omega) (by omega))
        · exact h3
      omega
  | j + 1, hj => by
    have ih := trs_add h hm h1 h2 h0 j (by omega)
    show K.trs (K.add xs k) j + K.kinds (K.add xs k) (4 + 6 * j) = K.trs xs j + K.kinds xs (4 + 6 * j) + _
    rw [ih, kinds_add h k (by omega)]
    have e : ∀ x, x / 2 ^ (64 - (4 + 6 * j)) = pre (j + 1) x := fun x => pre_pow (l := j + 1) (by omega) (by omega) x
    simp only [e]
    by_cases h3 : j + 1 < m
    · have : ∃ x ∈ xs, pre (j + 1) x = pre (j + 1) k := h1 _ h3
      rw [if_pos this]
      omega
    · have : ¬ ∃ x ∈ xs, pre (j + 1) x = pre (j + 1) k := h2 _ (by omega) (by omega)
      rw [if_neg this]
      omega
/-- A key more makes as many nodes as it has beginnings that no other key has. -/
theorem trie_add {xs : List Nat} (h : K.Up xs) {k m : Nat} (hm : m ≤ 11) (h1 : ∀ l, l < m → prs xs l (pre l k)) (h2 : m < 11 → ¬ prs xs m (pre m k)) (h0 : prs xs 0 (pre 0 k) ↔ xs ≠ []) : K.trie (K.add xs k) = K.trie xs + (11 - m) := by
  have := trs_add h hm h1 (fun l hl hl2 hp => h2 (by omega) (prs_le hl (by omega) hp)) h0 10 (by omega)
  unfold K.trie
  rw [this]
  omega
/-- No node of the last level has more than 64 keys. -/
theorem nodup_le : ∀ (n a : Nat) (l : List Nat), K.Up l → (∀ x ∈ l, a ≤ x ∧ x < a + n) → l.length ≤ n
  | 0, a, l, _, h => by
    cases l with
    | nil => simp
    | cons x l => have := h x (by simp); omega
  | n + 1, a, l, hu, h => by
    cases l with
    | nil => simp
    | cons x l =>
      have hx := h x (by simp)
      have := nodup_le n (a + 1) l (K.up_tail hu) (fun y hy => by
        have h1 := h y (by simp [hy])
        have h2 := (List.pairwise_cons.1 hu).1 y hy
        omega)
      simp
      omega
theorem split_len (p : Nat → Bool) : ∀ l : List Nat, l.length = (l.filter p).length + (l.filter fun x => !p x).length
  | [] => rfl
  | x :: l => by
    have ih := split_len p l
    cases hp : p x <;> simp [hp] <;> omega
theorem len_le {xs : List Nat} (h : K.Up xs) : ∀ (us : List Nat), (∀ x ∈ xs, x / 64 ∈ us) → xs.length ≤ 64 * us.length
  | us, hm => by
    induction us generalizing xs with
    | nil =>
      cases xs with
      | nil => simp
      | cons x l => exact absurd (hm x (by simp)) (by simp)
    | cons u us ih =>
      have h1 := ih (xs := xs.filter fun x => !decide (x / 64 = u)) (h.filter _) (fun x hx => by
        rw [List.mem_filter] at hx
        rcases List.mem_cons.1 (hm x hx.1) with h2 | h2
        · rw [h2] at hx; simp at hx
        · exact h2)
      have h2 := nodup_le 64 (64 * u) (xs.filter fun x => decide (x / 64 = u)) (h.filter _) (fun x hx => by
        rw [List.mem_filter] at hx
        have := of_decide_eq_true hx.2
        omega)
      have h3 := split_len (fun x => decide (x / 64 = u)) xs
      simp only [List.length_cons]
      omega
theorem len_trie {xs : List Nat} (h : K.Up xs) : xs.length ≤ 64 * K.trie xs := by
  have h1 := len_le h (K.off (xs.map fun x => x / 2 ^ (64 - 58))) (fun x hx => by
    rw [off_mem, List.mem_map]
    exact ⟨x, hx, by simp⟩)
  rw [← kinds_eq h (b := 58) (by omega)] at h1
  have h2 : K.kinds xs 58 ≤ K.trie xs := by
    show K.kinds xs (4 + 6 * 9) ≤ K.trs xs 9 + K.kinds xs (4 + 6 * 9)
    omega
  omega
end T
end Go.Proofs.Ytiinefdpaiincaa
end
