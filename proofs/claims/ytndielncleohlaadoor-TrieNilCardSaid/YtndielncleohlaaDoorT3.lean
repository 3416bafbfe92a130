
/- The trie's mathematics: the next key above, the last one below, told by the way. -/
import Derived.Test.YtndielncleohlaaDoorT2
namespace Go.Proofs.YtndielncleohlaaDoor
namespace T
theorem next_cases (W d : Nat) : (∃ d', d' ∈ M.bl W ∧ d < d' ∧ (∀ e ∈ M.bl W, d < e → d' ≤ e) ∧ M.rNext (M.bz W) ((d : Int) + 1) = (d' : Int)) ∨ ((∀ e ∈ M.bl W, e ≤ d) ∧ M.rNext (M.bz W) ((d : Int) + 1) = -1) := by
  have : ∀ ds : List Nat, K.Up ds → (∃ d', d' ∈ ds ∧ d < d' ∧ (∀ e ∈ ds, d < e → d' ≤ e) ∧ M.rNext (ds.map fun i : Nat => (i : Int)) ((d : Int) + 1) = (d' : Int)) ∨ ((∀ e ∈ ds, e ≤ d) ∧ M.rNext (ds.map fun i : Nat => (i : Int)) ((d : Int) + 1) = -1) := by
    intro ds
    induction ds with
    | nil => intro _; exact .inr ⟨by simp, rfl⟩
    | cons x ds ih =>
      intro hu
      have hx := List.pairwise_cons.1 hu
      by_cases h : d < x
      · refine .inl ⟨x, by simp, h, fun e he _ => ?_, ?_⟩
        · rcases List.mem_cons.1 he with rfl | he
          · exact Nat.le_refl _
          · exact Nat.le_of_lt (hx.1 e he)
        · unfold M.rNext
          rw [List.map_cons, List.find?_cons_of_pos (by simp; omega)]
          rfl
      · have e : M.rNext ((x :: ds).map fun i : Nat => (i : Int)) ((d : Int) + 1) = M.rNext (ds.map fun i : Nat => (i : Int)) ((d : Int) + 1) := by
          unfold M.rNext
          rw [List.map_cons, List.find?_cons_of_neg (by simp; omega)]
        rw [e]
        rcases ih hx.2 with ⟨d', h1, h2, h3, h4⟩ | ⟨h1, h2⟩
        · exact .inl ⟨d', List.mem_cons_of_mem _ h1, h2, fun e he hd => by
            rcases List.mem_cons.1 he with rfl | he
            · omega
            · exact h3 e he hd, h4⟩
        · exact .inr ⟨fun e he => by
            rcases List.mem_cons.1 he with rfl | he
            · omega
            · exact h1 e he, h2⟩
  exact this (M.bl W) (bl_up W)
theorem prev_cases (W d : Nat) : (∃ d', d' ∈ M.bl W ∧ d' < d ∧ (∀ e ∈ M.bl W, e < d → e ≤ d') ∧ M.rPrev (M.bz W) ((d : Int) - 1) = (d' : Int)) ∨ ((∀ e ∈ M.bl W, d ≤ e) ∧ M.rPrev (M.bz W) ((d : Int) - 1) = -1) := by
  have hf : ∀ ds : List Nat, (ds.map fun i : Nat => (i : Int)).filter (fun x => decide (x ≤ (d : Int) - 1)) = (ds.filter fun x => decide (x < d)).map fun i : Nat => (i : Int) := by
    intro ds
    induction ds with
    | nil => rfl
    | cons x ds ih =>
      rw [List.map_cons, List.filter_cons, List.filter_cons, ih]
      by_cases h : x < d
      · rw [if_pos (by simp; omega), if_pos (by simpa using h)]
        rfl
      · rw [if_neg (by simp; omega), if_neg (by simpa using h)]
  have he : M.rPrev (M.bz W) ((d : Int) - 1) = ((((M.bl W).filter fun x => decide (x < d)).map fun i : Nat => (i : Int)).getLast?).getD (-1) := by
    unfold M.rPrev M.bz
    rw [hf]
  rw [he]
  by_cases hn : (M.bl W).filter (fun x => decide (x < d)) = []
  · rw [hn]
    refine .inr ⟨fun e hm => ?_, rfl⟩
    rcases Nat.lt_or_ge e d with h | h
    · have : e ∈ (M.bl W).filter fun x => decide (x < d) := List.mem_filter.2 ⟨hm, by simpa using h⟩
      rw [hn] at this
      cases this
    · exact h
  · obtain ⟨d', hd⟩ : ∃ d', ((M.bl W).filter fun x => decide (x < d)).getLast? = some d' := ⟨_, List.getLast?_eq_some_getLast hn⟩
    have hm := List.mem_of_getLast? hd
    rw [List.mem_filter] at hm
    refine .inl ⟨d', hm.1, of_decide_eq_true hm.2, fun e he h => last_le ((bl_up W).filter _) hd e (List.mem_filter.2 ⟨he, by simpa using h⟩), ?_⟩
    rw [List.getLast?_map, hd]
    rfl
/-- There is a key above with that beginning, at the last level at which there is one: the least of these is the next. -/
theorem ab_found {xs : List Nat} (hu : K.Up xs) {k l m d y : Nat} (hl : l < 11) (hmn : ∀ l', l < l' → l' < m → ∀ e ∈ dgs xs l' (pre l' k), e ≤ dig l' k) (hpm : ∀ l', l' < 11 → prs xs l' (pre l' k) → l' < m)
    (_hd : d ∈ dgs xs l (pre l k)) (hlt : dig l k < d) (hmin : ∀ e ∈ dgs xs l (pre l k), dig l k < e → d ≤ e) (hy : (sub xs (l + 1) (pre l k * 64 + d)).head? = some y) : y ∈ xs ∧ k < y ∧ ∀ x ∈ xs, k < x → y ≤ x := by
  have hym := mem_sub.1 (List.mem_of_head? hy)
  have hks := pre_split hl k
  refine ⟨hym.1, lt_of_pre (l := l + 1) (by omega), fun x hx hkx => ?_⟩
  rcases Nat.lt_trichotomy (pre (l + 1) x) (pre (l + 1) k) with h | h | h
  · have := lt_of_pre h; omega
  · obtain ⟨j, h1, h2, h3, h4⟩ := part_at (11 - (l + 1)) (l + 1) (by omega) h.symm hkx
    have hp : prs xs j (pre j k) := ⟨x, hx, h3.symm⟩
    have := hmn j (by omega) (hpm j h2 hp) (dig j x) (mem_dgs.2 ⟨dig_lt _ _, x, hx, by rw [pre_split h2, h3]⟩)
    omega
  · have hxs := pre_split hl x
    have hdx := dig_lt l x
    rcases Nat.lt_trichotomy (pre l x) (pre l k) with h5 | h5 | h5
    · omega
    · have h6 := hmin (dig l x) (mem_dgs.2 ⟨hdx, x, hx, by rw [hxs, h5]⟩) (by omega)
      by_cases h7 : dig l x = d
      · exact head_le (sub_up hu _ _) hy x (mem_sub.2 ⟨hx, by rw [hxs, h5, h7]⟩)
      · exact Nat.le_of_lt (lt_of_pre (l := l + 1) (by omega))
    · have hd2 : d < 64 := (mem_dgs.1 _hd).1
      exact Nat.le_of_lt (lt_of_pre (l := l + 1) (by omega))
theorem ab_none {xs : List Nat} {k m : Nat} (hk : k < 18446744073709551616) (hlt : ∀ x ∈ xs, x < 18446744073709551616) (hmn : ∀ l', l' < m → ∀ e ∈ dgs xs l' (pre l' k), e ≤ dig l' k) (hpm : ∀ l', l' < 11 → prs xs l' (pre l' k) → l' < m) : ∀ x ∈ xs, x ≤ k := by
  intro x hx
  rcases Nat.lt_or_ge k x with hkx | h
  · obtain ⟨j, _, h2, h3, h4⟩ := part_at 11 0 (by omega) (by rw [pre_zero hk, pre_zero (hlt x hx)]) hkx
    have hp : prs xs j (pre j k) := ⟨x, hx, h3.symm⟩
    have := hmn j (hpm j h2 hp) (dig j x) (mem_dgs.2 ⟨dig_lt _ _, x, hx, by rw [pre_split h2, h3]⟩)
    omega
  · exact h
theorem be_found {xs : List Nat} (hu : K.Up xs) {k l m d y : Nat} (hl : l < 11) (hmn : ∀ l', l < l' → l' < m → ∀ e ∈ dgs xs l' (pre l' k), dig l' k ≤ e) (hpm : ∀ l', l' < 11 → prs xs l' (pre l' k) → l' < m)
    (_hd : d ∈ dgs xs l (pre l k)) (hlt : d < dig l k) (hmin : ∀ e ∈ dgs xs l (pre l k), e < dig l k → e ≤ d) (hy : (sub xs (l + 1) (pre l k * 64 + d)).getLast? = some y) : y ∈ xs ∧ y < k ∧ ∀ x ∈ xs, x < k → x ≤ y := by
  have hym := mem_sub.1 (List.mem_of_getLast? hy)
  have hks := pre_split hl k
  refine ⟨hym.1, lt_of_pre (l := l + 1) (by omega), fun x hx hkx => ?_⟩
  rcases Nat.lt_trichotomy (pre (l + 1) x) (pre (l + 1) k) with h | h | h
  · have hxs := pre_split hl x
    have hdx := dig_lt l x
    have hdk := dig_lt l k
    rcases Nat.lt_trichotomy (pre l x) (pre l k) with h5 | h5 | h5
    · exact Nat.le_of_lt (lt_of_pre (l := l + 1) (by omega))
    · have h6 := hmin (dig l x) (mem_dgs.2 ⟨hdx, x, hx, by rw [hxs, h5]⟩) (by omega)
      by_cases h7 : dig l x = d
      · exact last_le (sub_up hu _ _) hy x (mem_sub.2 ⟨hx, by rw [hxs, h5, h7]⟩)
      · exact Nat.le_of_lt (lt_of_pre (l := l + 1) (by omega))
    · omega
  · obtain ⟨j, h1, h2, h3, h4⟩ := part_at (11 - (l + 1)) (l + 1) (by omega) h hkx
    have hp : prs xs j (pre j k) := ⟨x, hx, h3⟩
    have := hmn j (by omega) (hpm j h2 hp) (dig j x) (mem_dgs.2 ⟨dig_lt _ _, x, hx, by rw [pre_split h2, h3]⟩)
    omega
  · have := lt_of_pre h; omega
theorem be_none {xs : List Nat} {k m : Nat} (hk : k < 18446744073709551616) (hlt : ∀ x ∈ xs, x < 18446744073709551616) (hmn : ∀ l', l' < m → ∀ e ∈ dgs xs l' (pre l' k), dig l' k ≤ e) (hpm : ∀ l', l' < 11 → prs xs l' (pre l' k) → l' < m) : ∀ x ∈ xs, k ≤ x := by
  intro x hx
  rcases Nat.lt_or_ge x k with hkx | h
  · obtain ⟨j, _, h2, h3, h4⟩ := part_at 11 0 (by omega) (by rw [pre_zero hk, pre_zero (hlt x hx)]) hkx
    have hp : prs xs j (pre j k) := ⟨x, hx, h3⟩
    have := hmn j (hpm j h2 hp) (dig j x) (mem_dgs.2 ⟨dig_lt _ _, x, hx, by rw [pre_split h2, h3]⟩)
    omega
  · exact h
/-- What the document's lists say of the next and of the last. -/
theorem nx_yes {xs : List Nat} (h : K.Up xs) {k : Nat} (hk : k ∈ xs) : K.nx xs k = k ∧ K.nxb xs k = true := by
  obtain ⟨h1, h2⟩ := K.fo_lt ((K.fo_mem h k).2 hk)
  unfold K.nx K.nxb
  rw [List.getElem?_eq_getElem h1, h2]
  exact ⟨rfl, decide_eq_true h1⟩
theorem nx_above {xs : List Nat} (h : K.Up xs) {k y : Nat} (hk : k ∉ xs) (hy : y ∈ xs) (hlt : k < y) (hm : ∀ x ∈ xs, k < x → y ≤ x) : K.nx xs k = y ∧ K.nxb xs k = true := by
  obtain ⟨j, hj, rfl⟩ := List.getElem_of_mem hy
  have h1 : K.fi xs k ≤ j := by
    rcases Nat.lt_or_ge j (K.fi xs k) with h2 | h2
    · have := (K.fi_lt h2).2; omega
    · exact h2
  have h2 := K.fi_at (xs := xs) (k := k) (by omega)
  have h3 : xs[K.fi xs k]'(by omega) ≠ k := fun e => hk (e ▸ List.getElem_mem _)
  have h4 := hm (xs[K.fi xs k]'(by omega)) (List.getElem_mem _) (by omega)
  have h5 : K.fi xs k = j := by
    rcases Nat.lt_or_ge (K.fi xs k) j with h6 | h6
    · have := K.up_lt h h6 hj; omega
    · omega
  unfold K.nx K.nxb
  rw [h5, List.getElem?_eq_getElem hj]
  exact ⟨rfl, decide_eq_true hj⟩
theorem nx_none {xs : List Nat} {k : Nat} (hk : k ∉ xs) (hm : ∀ x ∈ xs, x ≤ k) : K.nx xs k = 0 ∧ K.nxb xs k = false := by
  have h1 : ¬ K.fi xs k < xs.length := fun h => by
    have h2 := K.fi_at h
    have h3 := hm _ (List.getElem_mem h)
    have h4 : xs[K.fi xs k] = k := by omega
    exact hk (h4 ▸ List.getElem_mem h)
  unfold K.nx K.nxb
  rw [List.getElem?_eq_none (by omega)]
  exact ⟨rfl, decide_eq_false h1⟩
theorem pv_yes {xs : List Nat} (h : K.Up xs) {k : Nat} (hk : k ∈ xs) : K.pv xs k = k ∧ K.pvb xs k = true := by
  have hf := (K.fo_mem h k).2 hk
  unfold K.pv K.pvb
  rw [if_pos hf, hf]
  exact ⟨rfl, rfl⟩
theorem pv_below {xs : List Nat} (h : K.Up xs) {k y : Nat} (hk : k ∉ xs) (hy : y ∈ xs) (hlt : y < k) (hm : ∀ x ∈ xs, x < k → x ≤ y) : K.pv xs k = y ∧ K.pvb xs k = true := by
  obtain ⟨j, hj, rfl⟩ := List.getElem_of_mem hy
  have hf : ¬ K.fo xs k = true := fun h2 => hk ((K.fo_mem h k).1 h2)
  have h1 : j < K.fi xs k := by
    rcases Nat.lt_or_ge j (K.fi xs k) with h2 | h2
    · exact h2
    · have h3 := K.fi_at (xs := xs) (k := k) (by omega)
      rcases Nat.eq_or_lt_of_le h2 with h4 | h4
      · have : xs[K.fi xs k]'(by omega) = xs[j] := by congr 1
        omega
      · have := K.up_lt h h4 hj; omega
  have h5 : K.fi xs k - 1 = j := by
    have h6 := K.fi_le xs k
    rcases Nat.lt_or_ge j (K.fi xs k - 1) with h7 | h7
    · have h8 := (K.fi_lt (xs := xs) (k := k) (j := K.fi xs k - 1) (by omega)).2
      have h9 := hm _ (List.getElem_mem (l := xs) (n := K.fi xs k - 1) (by omega)) h8
      have h10 := K.up_lt h h7 (by omega)
      omega
    · omega
  unfold K.pv K.pvb
  rw [if_neg hf, if_neg (by omega), h5, List.getElem?_eq_getElem hj]
  refine ⟨rfl, ?_⟩
  have : decide (K.fi xs k = 0) = false := decide_eq_false (by omega)
  rw [this]
  simp
theorem pv_none {xs : List Nat} (h : K.Up xs) {k : Nat} (hk : k ∉ xs) (hm : ∀ x ∈ xs, k ≤ x) : K.pv xs k = 0 ∧ K.pvb xs k = false := by
  have hf : ¬ K.fo xs k = true := fun h2 => hk ((K.fo_mem h k).1 h2)
  have h1 : K.fi xs k = 0 := by
    rcases Nat.eq_zero_or_pos (K.fi xs k) with h2 | h2
    · exact h2
    · obtain ⟨h3, h4⟩ := K.fi_lt h2
      have := hm _ (List.getElem_mem h3)
      omega
  unfold K.pv K.pvb
  rw [if_neg hf, if_pos h1]
  have : K.fo xs k = false := by simpa using hf
  rw [this, decide_eq_true h1]
  exact ⟨rfl, rfl⟩
end T
end Go.Proofs.YtndielncleohlaaDoor
