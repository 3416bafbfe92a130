
/- The trie's mathematics: what a node holds; with a key more, with one less. -/
import Derived.Test.YtndielncleohlaaDoorT1
namespace Go.Proofs.YtndielncleohlaaDoor
namespace T
theorem bl_up (W : Nat) : K.Up (M.bl W) := M.bl_sorted W
theorem bl_set (W d : Nat) (hd : d < 64) : M.bl (W ||| M.one d) = K.add (M.bl W) d := by
  refine up_ext (bl_up _) (K.add_up (bl_up W) d) fun x => ?_
  rw [K.add_mem (bl_up W), M.mem_bl, M.mem_bl, Nat.testBit_or, M.one_bit]
  simp only [Bool.or_eq_true, decide_eq_true_eq]
  constructor
  · rintro ⟨h1, h2 | h2⟩
    · exact .inr ⟨h1, h2⟩
    · exact .inl (by omega)
  · rintro (rfl | ⟨h1, h2⟩)
    · exact ⟨hd, .inr (by omega)⟩
    · exact ⟨h1, .inl h2⟩
theorem bl_clear (W d : Nat) (hd : d < 64) : M.bl (W &&& (18446744073709551615 - M.one d)) = K.drop (M.bl W) d := by
  refine up_ext (bl_up _) (K.drop_up (bl_up W) d) fun x => ?_
  rw [K.drop_mem (bl_up W), M.mem_bl, M.mem_bl, Nat.testBit_and]
  constructor
  · rintro ⟨h1, h2⟩
    rw [M.not_bit _ _ (M.one_lt d) h1, M.one_bit] at h2
    simp only [Bool.and_eq_true, Bool.not_eq_true', decide_eq_false_iff_not] at h2
    exact ⟨fun e => h2.2 (by omega), h1, h2.1⟩
  · rintro ⟨h0, h1, h2⟩
    refine ⟨h1, ?_⟩
    rw [M.not_bit _ _ (M.one_lt d) h1, M.one_bit, h2]
    simp only [Bool.and_eq_true, Bool.not_eq_true', decide_eq_false_iff_not, true_and]
    omega
theorem filter_while {xs : List Nat} (h : K.Up xs) (k : Nat) : xs.filter (fun x => decide (x < k)) = xs.takeWhile fun x => decide (x < k) := by
  induction xs with
  | nil => rfl
  | cons x l ih =>
    have hx := List.pairwise_cons.1 h
    by_cases e : x < k
    · rw [List.filter_cons_of_pos (by simpa using e), List.takeWhile_cons_of_pos (by simpa using e), ih hx.2]
    · rw [List.filter_cons_of_neg (by simpa using e), List.takeWhile_cons_of_neg (by simpa using e)]
      rw [List.filter_eq_nil_iff]
      intro y hy
      have := hx.1 y hy
      simp only [decide_eq_true_eq]
      omega
/-- A digit's rank is its place. -/
theorem rank_fi (W d : Nat) : M.rRank (M.bz W) (d : Int) = K.fi (M.bl W) d := by
  unfold M.rRank M.bz K.fi
  rw [← filter_while (bl_up W), List.filter_map, List.length_map]
  congr 1
  refine List.filter_congr fun x _ => ?_
  simp
theorem has_bl (W d : Nat) (hd : d < 64) : M.rHas (M.bz W) (d : Int) = decide (d ∈ M.bl W) := by
  rw [M.has_bit W d hd, Bool.eq_iff_iff, decide_eq_true_eq, M.mem_bl]
  exact ⟨fun h => ⟨hd, h⟩, fun h => h.2⟩
/-- The digits that come next. -/
def dgs (xs : List Nat) (l p : Nat) : List Nat := (List.range 64).filter fun d => decide (prs xs (l + 1) (p * 64 + d))
theorem dgs_up (xs : List Nat) (l p : Nat) : K.Up (dgs xs l p) := (List.pairwise_lt_range (n := 64)).filter _
theorem mem_dgs {xs : List Nat} {l p d : Nat} : d ∈ dgs xs l p ↔ d < 64 ∧ prs xs (l + 1) (p * 64 + d) := by unfold dgs; simp
theorem dgs_add {xs : List Nat} (h : K.Up xs) {l : Nat} (hl : l < 11) (k : Nat) : dgs (K.add xs k) l (pre l k) = K.add (dgs xs l (pre l k)) (dig l k) := by
  refine up_ext (dgs_up _ _ _) (K.add_up (dgs_up _ _ _) _) fun d => ?_
  rw [K.add_mem (dgs_up _ _ _), mem_dgs, mem_dgs]
  constructor
  · rintro ⟨h1, x, hx, e⟩
    rcases (K.add_mem h k x).1 hx with rfl | hx
    · exact .inl (pre_child hl e h1).2.symm
    · exact .inr ⟨h1, x, hx, e⟩
  · rintro (rfl | ⟨h1, x, hx, e⟩)
    · exact ⟨dig_lt l k, k, (K.add_mem h k k).2 (.inl rfl), pre_split hl k⟩
    · exact ⟨h1, x, (K.add_mem h k x).2 (.inr hx), e⟩
theorem dgs_drop {xs : List Nat} (h : K.Up xs) {l : Nat} (hl : l < 11) (k : Nat) : dgs (K.drop xs k) l (pre l k) = if prs (K.drop xs k) (l + 1) (pre (l + 1) k) then dgs xs l (pre l k) else K.drop (dgs xs l (pre l k)) (dig l k) := by
  have hs2 : K.Up (if prs (K.drop xs k) (l + 1) (pre (l + 1) k) then dgs xs l (pre l k) else K.drop (dgs xs l (pre l k)) (dig l k)) := by
    split
    · exact dgs_up _ _ _
    · exact K.drop_up (dgs_up _ _ _) _
  refine up_ext (dgs_up _ _ _) hs2 fun d => ?_
  rw [mem_dgs]
  split
  · rename_i hp
    rw [mem_dgs]
    constructor
    · rintro ⟨h1, x, hx, e⟩
      exact ⟨h1, x, ((K.drop_mem h k x).1 hx).2, e⟩
    · rintro ⟨h1, x, hx, e⟩
      refine ⟨h1, ?_⟩
      by_cases hk : x = k
      · subst hk
        rw [← e]
        exact hp
      · exact ⟨x, (K.drop_mem h k x).2 ⟨hk, hx⟩, e⟩
  · rename_i hp
    rw [K.drop_mem (dgs_up _ _ _), mem_dgs]
    constructor
    · rintro ⟨h1, x, hx, e⟩
      refine ⟨fun hd => hp ⟨x, hx, ?_⟩, h1, x, ((K.drop_mem h k x).1 hx).2, e⟩
      rw [e, hd, pre_split hl k]
    · rintro ⟨h0, h1, x, hx, e⟩
      refine ⟨h1, x, (K.drop_mem h k x).2 ⟨fun hk => ?_, hx⟩, e⟩
      subst hk
      exact h0 (pre_child hl e h1).2.symm
/-- The keys that have a beginning are alike in two lists: so is the node. -/
theorem sub_congr {xs ys : List Nat} {l p : Nat} (hx : K.Up xs) (hy : K.Up ys) (h : ∀ x, pre l x = p → (x ∈ xs ↔ x ∈ ys)) : sub xs l p = sub ys l p :=
  up_ext (sub_up hx l p) (sub_up hy l p) fun x => by
    rw [mem_sub, mem_sub]
    exact ⟨fun ⟨h1, h2⟩ => ⟨(h x h2).1 h1, h2⟩, fun ⟨h1, h2⟩ => ⟨(h x h2).2 h1, h2⟩⟩
theorem dgs_congr {xs ys : List Nat} {l p : Nat} (hl : l < 11) (h : ∀ x, pre l x = p → (x ∈ xs ↔ x ∈ ys)) : dgs xs l p = dgs ys l p :=
  up_ext (dgs_up _ _ _) (dgs_up _ _ _) fun d => by
    rw [mem_dgs, mem_dgs]
    constructor
    · rintro ⟨h1, x, hx, e⟩
      exact ⟨h1, x, (h x (pre_child hl e h1).1).1 hx, e⟩
    · rintro ⟨h1, x, hx, e⟩
      exact ⟨h1, x, (h x (pre_child hl e h1).1).2 hx, e⟩
theorem head_add {ys : List Nat} (h : K.Up ys) {a : Nat} (ha : ys.head? = some a) (k : Nat) : (K.add ys k).head? = some (min a k) := by
  cases ys with
  | nil => cases ha
  | cons x l =>
    cases ha
    have hx := List.pairwise_cons.1 h
    have h2 := K.add_up h k
    generalize hz : K.add (a :: l) k = zs at *
    cases zs with
    | nil =>
      have := (K.add_mem h k k).2 (.inl rfl)
      rw [hz] at this
      cases this
    | cons z zs =>
      have h3 := List.pairwise_cons.1 h2
      have hm : ∀ y, y ∈ z :: zs ↔ y = k ∨ y ∈ a :: l := fun y => by rw [← hz]; exact K.add_mem h k y
      have hle : ∀ y, y ∈ z :: zs → z ≤ y := fun y hy => by
        rcases List.mem_cons.1 hy with rfl | hy
        · exact Nat.le_refl _
        · exact Nat.le_of_lt (h3.1 y hy)
      have h4 := hle k ((hm k).2 (.inl rfl))
      have h5 := hle a ((hm a).2 (.inr (by simp)))
      have h6 : z = k ∨ a ≤ z := by
        rcases (hm z).1 (by simp) with h6 | h6
        · exact .inl h6
        · rcases List.mem_cons.1 h6 with rfl | h6
          · exact .inr (Nat.le_refl _)
          · exact .inr (Nat.le_of_lt (hx.1 z h6))
      show some z = some (min a k)
      congr 1
      omega
theorem last_le {ys : List Nat} (h : K.Up ys) {b : Nat} (hb : ys.getLast? = some b) : ∀ y ∈ ys, y ≤ b := by
  intro y hy
  obtain ⟨zs, rfl⟩ := List.getLast?_eq_some_iff.1 hb
  rcases List.mem_append.1 hy with hy | hy
  · exact Nat.le_of_lt ((List.pairwise_append.1 h).2.2 y hy b (by simp))
  · simp at hy; omega
theorem last_of {ys : List Nat} (h : K.Up ys) {b : Nat} (hb : b ∈ ys) (hm : ∀ y ∈ ys, y ≤ b) : ys.getLast? = some b := by
  have hne : ys ≠ [] := fun e => by rw [e] at hb; cases hb
  obtain ⟨c, hc⟩ : ∃ c, ys.getLast? = some c := ⟨_, List.getLast?_eq_some_getLast hne⟩
  have h1 := last_le h hc b hb
  have h2 := hm c (List.mem_of_getLast? hc)
  rw [hc]
  congr 1
  omega
theorem head_le {ys : List Nat} (h : K.Up ys) {a : Nat} (ha : ys.head? = some a) : ∀ y ∈ ys, a ≤ y := by
  intro y hy
  cases ys with
  | nil => cases ha
  | cons x l =>
    cases ha
    rcases List.mem_cons.1 hy with rfl | hy
    · exact Nat.le_refl _
    · exact Nat.le_of_lt ((List.pairwise_cons.1 h).1 y hy)
theorem head_of {ys : List Nat} (h : K.Up ys) {a : Nat} (ha : a ∈ ys) (hm : ∀ y ∈ ys, a ≤ y) : ys.head? = some a := by
  cases ys with
  | nil => cases ha
  | cons x l =>
    have h1 := head_le h (a := x) rfl a ha
    have h2 := hm x (by simp)
    show some x = some a
    congr 1
    omega
theorem last_add {ys : List Nat} (h : K.Up ys) {b : Nat} (hb : ys.getLast? = some b) (k : Nat) : (K.add ys k).getLast? = some (max b k) := by
  have h1 := List.mem_of_getLast? hb
  refine last_of (K.add_up h k) ((K.add_mem h k _).2 ?_) fun y hy => ?_
  · rcases Nat.le_total b k with h2 | h2
    · exact .inl (Nat.max_eq_right h2)
    · rw [Nat.max_eq_left h2]; exact .inr h1
  · rcases (K.add_mem h k y).1 hy with rfl | hy
    · omega
    · have := last_le h hb y hy
      omega
theorem add_nil (k : Nat) : K.add [] k = [k] := rfl
/-- A rising list with one more: what lists along it become. -/
theorem map_add {ds : List Nat} {d : Nat} (hd : d ∉ ds) (hu : K.Up ds) (f : Nat → Nat) : (K.add ds d).map f = (ds.map f).take (K.fi ds d) ++ f d :: (ds.map f).drop (K.fi ds d) := by
  unfold K.add
  rw [if_neg (fun h => hd ((K.fo_mem hu d).1 h)), List.map_append, List.map_cons, List.map_take, List.map_drop]
theorem map_drop {ds : List Nat} {d : Nat} (hd : d ∈ ds) (hu : K.Up ds) (f : Nat → Nat) : (K.drop ds d).map f = (ds.map f).take (K.fi ds d) ++ (ds.map f).drop (K.fi ds d + 1) := by
  unfold K.drop
  rw [if_pos ((K.fo_mem hu d).2 hd), List.map_append, List.map_take, List.map_drop]
/-- What the node of a beginning holds. -/
structure NdOK (xs : List Nat) (pl : Nat → Nat → Nat) (l p W ks le gr : Nat) (ch : List Nat) : Prop where
  wlt : W < 18446744073709551616
  bits : M.bl W = dgs xs l p
  ks : ks = (sub xs l p).length
  le : (sub xs l p).head? = some le
  gr : (sub xs l p).getLast? = some gr
  ch : ch = if l < 10 then (dgs xs l p).map (fun d => pl (l + 1) (p * 64 + d)) else []
theorem NdOK.frame {xs ys : List Nat} {pl pl' : Nat → Nat → Nat} {l p W ks le gr : Nat} {ch : List Nat} (h : NdOK xs pl l p W ks le gr ch) (hl : l < 11) (hx : K.Up xs) (hy : K.Up ys) (he : ∀ x, pre l x = p → (x ∈ xs ↔ x ∈ ys))
    (hp : ∀ d, d < 64 → prs xs (l + 1) (p * 64 + d) → pl' (l + 1) (p * 64 + d) = pl (l + 1) (p * 64 + d)) : NdOK ys pl' l p W ks le gr ch := by
  have e1 := sub_congr hx hy he
  have e2 := dgs_congr hl he
  refine ⟨h.wlt, e2 ▸ h.bits, e1 ▸ h.ks, e1 ▸ h.le, e1 ▸ h.gr, ?_⟩
  rw [h.ch, ← e2]
  split
  · refine List.map_congr_left fun d hd => ?_
    have := mem_dgs.1 hd
    exact (hp d this.1 this.2).symm
  · rfl
/-- A node that was there, with a key more. -/
theorem NdOK.grow {xs : List Nat} {pl pl' : Nat → Nat → Nat} {l k W ks le gr : Nat} {ch : List Nat} (h : NdOK xs pl l (pre l k) W ks le gr ch) (hl : l < 11) (hx : K.Up xs) (hk : k ∉ xs)
    (hp : ∀ d, d < 64 → prs xs (l + 1) (pre l k * 64 + d) → pl' (l + 1) (pre l k * 64 + d) = pl (l + 1) (pre l k * 64 + d)) :
    NdOK (K.add xs k) pl' l (pre l k) (W ||| M.one (dig l k)) (ks + 1) (min le k) (max gr k)
      (if l < 10 ∧ dig l k ∉ M.bl W then ch.take (K.fi (M.bl W) (dig l k)) ++ pl' (l + 1) (pre (l + 1) k) :: ch.drop (K.fi (M.bl W) (dig l k)) else ch) := by
  have hs := sub_add hx k l (pre l k) hk
  rw [if_pos rfl] at hs
  have hks : k ∉ sub xs l (pre l k) := fun hm => hk (mem_sub.1 hm).1
  have e2 : ch = if l < 10 then (dgs xs l (pre l k)).map (fun d => pl' (l + 1) (pre l k * 64 + d)) else [] := by
    rw [h.ch]
    split
    · refine List.map_congr_left fun d hd => ?_
      have := mem_dgs.1 hd
      exact (hp d this.1 this.2).symm
    · rfl
  refine ⟨M.or_lt h.wlt (M.one_lt _), ?_, ?_, ?_, ?_, ?_⟩
  · rw [bl_set _ _ (dig_lt l k), h.bits, dgs_add hx hl]
  · rw [hs, add_len_new (sub_up hx _ _) hks, h.ks]
  · rw [hs]; exact head_add (sub_up hx _ _) h.le k
  · rw [hs]; exact last_add (sub_up hx _ _) h.gr k
  · rw [dgs_add hx hl, e2, h.bits]
    by_cases h10 : l < 10
    · rw [if_pos h10, if_pos h10]
      by_cases hd : dig l k ∈ dgs xs l (pre l k)
      · rw [if_neg (fun h => h.2 hd)]
        unfold K.add
        rw [if_pos ((K.fo_mem (dgs_up _ _ _) _).2 hd)]
      · rw [if_pos ⟨h10, hd⟩, map_add hd (dgs_up _ _ _), ← pre_split hl]
    · rw [if_neg h10, if_neg h10, if_neg (fun h => h10 h.1)]
/-- A new node, of one key. -/
theorem NdOK.fresh {xs : List Nat} {pl' : Nat → Nat → Nat} {l k : Nat} (hl : l < 11) (hx : K.Up xs) (hn : ¬ prs xs l (pre l k)) :
    NdOK (K.add xs k) pl' l (pre l k) (0 ||| M.one (dig l k)) (0 + 1) (min k k) (max k k) (if l < 10 then [pl' (l + 1) (pre (l + 1) k)] else []) := by
  have hk : k ∉ xs := fun hm => hn ⟨k, hm, rfl⟩
  have hs := sub_add hx k l (pre l k) hk
  rw [if_pos rfl] at hs
  have hn2 : sub xs l (pre l k) = [] := by
    rcases Classical.em (sub xs l (pre l k) = []) with h | h
    · exact h
    · exact absurd (prs_sub.2 h) hn
  have hd : dgs xs l (pre l k) = [] := by
    unfold dgs
    rw [List.filter_eq_nil_iff]
    intro d hd
    simp only [decide_eq_true_eq]
    rintro ⟨x, hx, e⟩
    exact hn ⟨x, hx, (pre_child hl e (List.mem_range.1 hd)).1⟩
  rw [hn2, add_nil] at hs
  refine ⟨M.or_lt (by decide) (M.one_lt _), ?_, ?_, ?_, ?_, ?_⟩
  · rw [bl_set _ _ (dig_lt l k), dgs_add hx hl, hd, M.bl_zero]
  · rw [hs]; rfl
  · rw [hs, Nat.min_self]; rfl
  · rw [hs, Nat.max_self]; rfl
  · rw [dgs_add hx hl, hd, add_nil]
    split
    · show [_] = [pl' (l + 1) (pre l k * 64 + dig l k)]
      rw [← pre_split hl]
    · rfl
/-- A node with one key less, if another is left. -/
theorem NdOK.shrink {xs : List Nat} {pl : Nat → Nat → Nat} {l k W ks le gr ab bw : Nat} {ch : List Nat} (h : NdOK xs pl l (pre l k) W ks le gr ch) (hl : l < 11) (hx : K.Up xs) (hk : k ∈ xs) (h1 : ks - 1 ≠ 0) (gone : Bool) (hg : gone = !decide (prs (K.drop xs k) (l + 1) (pre (l + 1) k)))
    (hab : ∀ x ∈ xs, k < x → ab ∈ xs ∧ k < ab ∧ ab ≤ x) (hbw : ∀ x ∈ xs, x < k → bw ∈ xs ∧ bw < k ∧ x ≤ bw) :
    NdOK (K.drop xs k) pl l (pre l k) (if gone then W &&& (18446744073709551615 - M.one (dig l k)) else W) (ks - 1) (if le = k then ab else le) (if gr = k then bw else gr)
      (if gone ∧ K.fi (M.bl W) (dig l k) < ch.length then ch.take (K.fi (M.bl W) (dig l k)) ++ ch.drop (K.fi (M.bl W) (dig l k) + 1) else ch) := by
  have hs := sub_drop hx k l (pre l k) hk
  rw [if_pos rfl] at hs
  have hu := sub_up hx l (pre l k)
  have hks : k ∈ sub xs l (pre l k) := mem_sub.2 ⟨hk, rfl⟩
  have hdm : dig l k ∈ dgs xs l (pre l k) := mem_dgs.2 ⟨dig_lt l k, k, hk, pre_split hl k⟩
  have hlen := drop_len hu hks
  have hne : K.drop (sub xs l (pre l k)) k ≠ [] := fun e => by rw [e] at hlen; simp at hlen; have := h.ks; omega
  have hmem := fun x => K.drop_mem hu k x
  refine ⟨?_, ?_, ?_, ?_, ?_, ?_⟩
  · split
    · exact Nat.lt_of_le_of_lt Nat.and_le_left h.wlt
    · exact h.wlt
  · rw [dgs_drop hx hl]
    cases gone with
    | true =>
      have : ¬ prs (K.drop xs k) (l + 1) (pre (l + 1) k) := by simpa using hg.symm
      rw [if_neg this, if_pos rfl, bl_clear _ _ (dig_lt l k), h.bits]
    | false =>
      have : prs (K.drop xs k) (l + 1) (pre (l + 1) k) := by simpa using hg.symm
      rw [if_pos this]
      exact h.bits
  · rw [hs, h.ks]; omega
  · rw [hs]
    refine head_of (K.drop_up hu k) ?_ ?_
    · rw [hmem]
      split
      · rename_i e
        obtain ⟨y, hy⟩ := List.exists_mem_of_ne_nil _ hne
        obtain ⟨hy1, hy2⟩ := (hmem y).1 hy
        have hky := head_le hu h.le y hy2
        obtain ⟨h5, h6, h7⟩ := hab y (mem_sub.1 hy2).1 (by omega)
        refine ⟨by omega, mem_sub.2 ⟨h5, ?_⟩⟩
        have h8 := pre_mono l (Nat.le_of_lt h6)
        have h9 := pre_mono l h7
        have h10 := (mem_sub.1 hy2).2
        omega
      · rename_i e
        exact ⟨e, List.mem_of_head? h.le⟩
    · intro y hy
      obtain ⟨hy1, hy2⟩ := (hmem y).1 hy
      have hky := head_le hu h.le y hy2
      split
      · rename_i e
        exact (hab y (mem_sub.1 hy2).1 (by omega)).2.2
      · exact hky
  · rw [hs]
    refine last_of (K.drop_up hu k) ?_ ?_
    · rw [hmem]
      split
      · rename_i e
        obtain ⟨y, hy⟩ := List.exists_mem_of_ne_nil _ hne
        obtain ⟨hy1, hy2⟩ := (hmem y).1 hy
        have hky := last_le hu h.gr y hy2
        obtain ⟨h5, h6, h7⟩ := hbw y (mem_sub.1 hy2).1 (by omega)
        refine ⟨by omega, mem_sub.2 ⟨h5, ?_⟩⟩
        have h8 := pre_mono l (Nat.le_of_lt h6)
        have h9 := pre_mono l h7
        have h10 := (mem_sub.1 hy2).2
        omega
      · rename_i e
        exact ⟨e, List.mem_of_getLast? h.gr⟩
    · intro y hy
      obtain ⟨hy1, hy2⟩ := (hmem y).1 hy
      have hky := last_le hu h.gr y hy2
      split
      · rename_i e
        exact (hbw y (mem_sub.1 hy2).1 (by omega)).2.2
      · exact hky
  · rw [dgs_drop hx hl, h.bits, h.ch]
    by_cases h10 : l < 10
    · rw [if_pos h10, if_pos h10]
      have hfl : K.fi (dgs xs l (pre l k)) (dig l k) < (dgs xs l (pre l k)).length := (K.fo_lt ((K.fo_mem (dgs_up _ _ _) _).2 hdm)).1
      cases gone with
      | true =>
        have : ¬ prs (K.drop xs k) (l + 1) (pre (l + 1) k) := by simpa using hg.symm
        rw [if_neg this, if_pos ⟨rfl, by rw [List.length_map]; exact hfl⟩, map_drop hdm (dgs_up _ _ _)]
      | false =>
        have : prs (K.drop xs k) (l + 1) (pre (l + 1) k) := by simpa using hg.symm
        rw [if_pos this, if_neg (fun h => by cases h.1)]
    · rw [if_neg h10, if_neg h10, if_neg (fun h => by simp at h)]
/-- When one key less leaves none. -/
theorem gone_iff {xs : List Nat} {pl : Nat → Nat → Nat} {l k W ks le gr : Nat} {ch : List Nat} (h : NdOK xs pl l (pre l k) W ks le gr ch) (hx : K.Up xs) (hk : k ∈ xs) : (ks - 1 = 0) ↔ ¬ prs (K.drop xs k) l (pre l k) := by
  have hs := sub_drop hx k l (pre l k) hk
  rw [if_pos rfl] at hs
  have hks : k ∈ sub xs l (pre l k) := mem_sub.2 ⟨hk, rfl⟩
  have hlen := drop_len (sub_up hx l (pre l k)) hks
  rw [prs_sub, hs, h.ks]
  constructor
  · intro h0 h2
    exact h2 (List.length_eq_zero_iff.1 (by omega))
  · intro h0
    have : K.drop (sub xs l (pre l k)) k = [] := Classical.not_not.1 h0
    rw [this] at hlen
    simp at hlen
    omega
end T
end Go.Proofs.YtndielncleohlaaDoor
