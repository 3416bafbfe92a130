/- What becomes of a level's links when a key comes or goes; the longest prefix that is there; what is used: plain lemmas. A prefix, and two links as a table's value; which way the keys of the longest prefix lie; the texts walked. -/
import Derived.Test.YtialjokdaniofaaGreatMq14
section
namespace Go.Proofs.YtialjokdaniofaaGreat
set_option maxRecDepth 20000
open Go.RowKit
set_option linter.unusedSectionVars false
variable [Gh]
namespace X
section
variable {L1 L2 : LL} {n k : Nat}
theorem rises_app (h : Rises (L1 ++ L2)) : Rises L1 ∧ Rises L2 := ⟨(List.pairwise_append.1 h).1, (List.pairwise_append.1 h).2.1⟩
theorem sg_with (l : Nat) : sg (L1 ++ (n, k) :: L2) l (pf l k) = sg L1 l (pf l k) ++ (n, k) :: sg L2 l (pf l k) := by rw [sg_app, sg_one]
theorem sg_else {l q : Nat} (h : q ≠ pf l k) : sg (L1 ++ (n, k) :: L2) l q = sg (L1 ++ L2) l q := by rw [sg_app, sg_app, sg_other h]
theorem lst_cons_nil (S : LL) (a : Int) : lst a (S ++ [(n, k)]) = (n : Int) := by rw [lst_app]; rfl
theorem fst_cons (S : LL) : fst' ((n, k) :: S) = n := rfl
theorem lst_snoc (S : LL) : lst' (S ++ [(n, k)]) = n := by unfold lst'; rw [lst_cons_nil]; rfl
theorem fst_app {S1 S2 : LL} (h : S1 ≠ []) : fst' (S1 ++ S2) = fst' S1 := by unfold fst'; rw [hd_sg_app _ _ _ h]
theorem lst_app' {S1 S2 : LL} (h : S2 ≠ []) : lst' (S1 ++ S2) = lst' S2 := by unfold lst'; rw [lst_sg_app _ _ _ h]
theorem lst_cons {S : LL} (h : S ≠ []) : lst' ((n, k) :: S) = lst' S := by
  have := lst_app' (S1 := [(n, k)]) h
  exact this
theorem sg_sub {L : LL} {l p : Nat} {x : Nat × Nat} (h : x ∈ sg L l p) : x ∈ L := (mem_sg.1 h).1
theorem fst_mem {S : LL} (h : S ≠ []) : ∃ x ∈ S, fst' S = x.1 := by
  obtain ⟨x, hx, e⟩ := hd_mem h
  exact ⟨x, hx, by unfold fst'; rw [e 0]; omega⟩
theorem lst_mem' {S : LL} (h : S ≠ []) : ∃ x ∈ S, lst' S = x.1 := by
  obtain ⟨x, hx, e⟩ := lst_mem (a := 0) h
  exact ⟨x, hx, by unfold lst'; rw [e]; omega⟩
/-- A key comes: what its prefix's ends are, and become. -/
theorem grow_cases (hr : Rises (L1 ++ L2)) (h1 : ∀ x ∈ L1, x.2 < k) (h2 : ∀ x ∈ L2, k < x.2) (hn : ((L1 ++ L2).map (·.1)).Nodup) (l : Nat) :
    (sg (L1 ++ L2) l (pf l k) = [] ∧ pk (sg (L1 ++ (n, k) :: L2) l (pf l k)) = n * 4294967296 + n) ∨
    (sg (L1 ++ L2) l (pf l k) ≠ [] ∧ (fst' (sg (L1 ++ L2) l (pf l k)) : Int) = hd L2 (-1) ∧ pk (sg (L1 ++ (n, k) :: L2) l (pf l k)) = n * 4294967296 + lst' (sg (L1 ++ L2) l (pf l k))) ∨
    (sg (L1 ++ L2) l (pf l k) ≠ [] ∧ (fst' (sg (L1 ++ L2) l (pf l k)) : Int) ≠ hd L2 (-1) ∧ (lst' (sg (L1 ++ L2) l (pf l k)) : Int) = lst (-1) L1 ∧ pk (sg (L1 ++ (n, k) :: L2) l (pf l k)) = fst' (sg (L1 ++ L2) l (pf l k)) * 4294967296 + n) ∨
    (sg (L1 ++ L2) l (pf l k) ≠ [] ∧ (fst' (sg (L1 ++ L2) l (pf l k)) : Int) ≠ hd L2 (-1) ∧ (lst' (sg (L1 ++ L2) l (pf l k)) : Int) ≠ lst (-1) L1 ∧ pk (sg (L1 ++ (n, k) :: L2) l (pf l k)) = pk (sg (L1 ++ L2) l (pf l k))) := by
  obtain ⟨r1, r2⟩ := rises_app hr
  obtain ⟨_, _, hnn⟩ := nod_app hn
  have la := fun hne => last_sg (l := l) r1 (fun x hx => Nat.le_of_lt (h1 x hx)) hne (-1)
  have fb := fun hne => first_sg (l := l) r2 (fun x hx => Nat.le_of_lt (h2 x hx)) hne (-1)
  rw [sg_with, sg_app]
  have m1 : ∀ x ∈ sg L1 l (pf l k), x ∈ L1 := fun x hx => sg_sub hx
  have m2 : ∀ x ∈ sg L2 l (pf l k), x ∈ L2 := fun x hx => sg_sub hx
  generalize sg L1 l (pf l k) = S1 at *
  generalize sg L2 l (pf l k) = S2 at *
  by_cases e1 : S1 = [] <;> by_cases e2 : S2 = []
  · subst e1 e2
    exact .inl ⟨rfl, rfl⟩
  · subst e1
    refine .inr (.inl ⟨by simpa using e2, ?_, ?_⟩)
    · rw [List.nil_append, fst_eq e2 (-1), fb e2]
    · rw [List.nil_append, List.nil_append]
      unfold pk
      rw [fst_cons, lst_cons e2]
  · subst e2
    refine .inr (.inr (.inl ⟨by simpa using e1, ?_, ?_, ?_⟩))
    · rw [List.append_nil]
      obtain ⟨x, hx, e⟩ := fst_mem e1
      rw [e]
      exact hd_ne (fun y hy => Ne.symm (hnn x (m1 x hx) y hy))
    · rw [List.append_nil, lst_eq e1 (-1), la e1]
    · rw [List.append_nil]
      unfold pk
      rw [lst_snoc, fst_app e1]
  · refine .inr (.inr (.inr ⟨by simp [e1], ?_, ?_, ?_⟩))
    · rw [fst_app e1]
      obtain ⟨x, hx, e⟩ := fst_mem e1
      rw [e]
      exact hd_ne (fun y hy => Ne.symm (hnn x (m1 x hx) y hy))
    · rw [lst_app' e2]
      obtain ⟨x, hx, e⟩ := lst_mem' e2
      rw [e]
      exact lst_ne (fun y hy => hnn y hy x (m2 x hx))
    · unfold pk
      rw [fst_app e1, fst_app e1, lst_app' (by simp), lst_app' e2, lst_cons e2]
end
/-- How many prefixes of a key are there: all up to so many bits. -/
def sc (L : LL) (k : Nat) : Nat := ((List.range 65).takeWhile fun l => decide (sg L l (pf l k) ≠ [])).length
theorem sc_le (L : LL) (k : Nat) : sc L k ≤ 65 := by
  have := (List.takeWhile_prefix (p := fun l => decide (sg L l (pf l k) ≠ [])) (l := List.range 65)).length_le
  simpa [sc] using this
theorem sc_yes {L : LL} {k l : Nat} (h : l < sc L k) : sg L l (pf l k) ≠ [] := by
  have h1 := List.all_eq_true.1 (List.all_takeWhile (l := List.range 65) (p := fun l => decide (sg L l (pf l k) ≠ []))) _ (List.getElem_mem h)
  have e : ((List.range 65).takeWhile fun l => decide (sg L l (pf l k) ≠ []))[l]'h = l := by
    rw [(List.takeWhile_prefix _).getElem h]
    simp
  rw [e] at h1
  exact of_decide_eq_true h1
theorem take_no (ls : List Nat) (P : Nat → Bool) (h : (ls.takeWhile P).length < ls.length) : P (ls[(ls.takeWhile P).length]'h) = false := by
  induction ls with
  | nil => simp at h
  | cons x ls ih =>
    cases hx : P x with
    | true =>
      have e : (List.takeWhile P (x :: ls)).length = (ls.takeWhile P).length + 1 := by rw [List.takeWhile_cons_of_pos (by simpa using hx)]; rfl
      have h2 : (ls.takeWhile P).length < ls.length := by rw [e] at h; simpa using h
      have := ih h2
      simp only [e, List.getElem_cons_succ]
      exact this
    | false =>
      have e : (List.takeWhile P (x :: ls)).length = 0 := by rw [List.takeWhile_cons_of_neg (by simp [hx])]; rfl
      simp only [e, List.getElem_cons_zero]
      exact hx
theorem sc_at {L : LL} {k : Nat} (h : sc L k < 65) : sg L (sc L k) (pf (sc L k) k) = [] := by
  have h1 := take_no (List.range 65) (fun l => decide (sg L l (pf l k) ≠ [])) (by simpa [sc] using h)
  have h2 : (List.range 65)[((List.range 65).takeWhile fun l => decide (sg L l (pf l k) ≠ [])).length]'(by simpa [sc] using h) = sc L k := by simp [sc]
  rw [h2] at h1
  exact Classical.not_not.1 (of_decide_eq_false h1)
theorem sg_less {L : LL} {k l m : Nat} (hlm : l ≤ m) (hm : m ≤ 64) (h : sg L m (pf m k) ≠ []) : sg L l (pf l k) ≠ [] := by
  obtain ⟨x, hx⟩ := List.exists_mem_of_ne_nil _ h
  obtain ⟨h1, h2⟩ := mem_sg.1 hx
  exact List.ne_nil_of_mem (mem_sg.2 ⟨h1, pf_up hlm hm h2⟩)
theorem sc_no {L : LL} {k l : Nat} (h : sc L k ≤ l) (hl : l ≤ 64) : sg L l (pf l k) = [] := by
  rcases Classical.em (sg L l (pf l k) = []) with h1 | h1
  · exact h1
  · exact absurd (sc_at (L := L) (k := k) (by omega)) (sg_less h hl h1)
theorem sc_all {L : LL} {k : Nat} : sc L k = 65 ↔ ∃ x ∈ L, x.2 = k := by
  constructor
  · intro h
    have h1 := sc_yes (L := L) (k := k) (l := 64) (by omega)
    obtain ⟨x, hx⟩ := List.exists_mem_of_ne_nil _ h1
    obtain ⟨h2, h3⟩ := mem_sg.1 hx
    rw [pf_all, pf_all] at h3
    exact ⟨x, h2, h3⟩
  · rintro ⟨x, hx, e⟩
    rcases Nat.lt_or_ge (sc L k) 65 with h | h
    · have h1 := sc_no (L := L) (k := k) (l := 64) (by omega) (Nat.le_refl _)
      have h2 : x ∈ sg L 64 (pf 64 k) := mem_sg.2 ⟨hx, by rw [pf_all, pf_all, e]⟩
      rw [h1] at h2
      cases h2
    · have := sc_le L k
      omega
theorem sc_zero {L : LL} {k : Nat} (hL : ∀ x ∈ L, x.2 < 18446744073709551616) (hk : k < 18446744073709551616) : sc L k = 0 ↔ L = [] := by
  constructor
  · intro h
    rcases Classical.em (L = []) with h1 | h1
    · exact h1
    · exfalso
      obtain ⟨x, hx⟩ := List.exists_mem_of_ne_nil _ h1
      have h2 := sc_no (L := L) (k := k) (l := 0) (by omega) (by omega)
      have h3 : x ∈ sg L 0 (pf 0 k) := mem_sg.2 ⟨hx, by rw [pf_zero (hL x hx), pf_zero hk]⟩
      rw [h2] at h3
      cases h3
  · rintro rfl
    rcases Nat.eq_zero_or_pos (sc [] k) with h | h
    · exact h
    · exact absurd rfl (sc_yes h)
/-- What is used with a key more. -/
theorem xfs_add {xs : List Nat} {L : LL} (hL : L.map (·.2) = xs) (hu : K.Up xs) {k : Nat} (hx : ∀ x ∈ xs, x < 18446744073709551616) (hk : k < 18446744073709551616) (hno : k ∉ xs) : ∀ j, j ≤ 65 → K.xfs (K.add xs k) j = K.xfs xs j + 1 + (j - min j (sc L k))
  | 0, _ => by
    show (K.add xs k).length = xs.length + 1 + _
    rw [T.add_len' hu, if_neg hno]
    omega
  | j + 1, hj => by
    have ih := xfs_add hL hu hx hk hno j (by omega)
    show K.xfs (K.add xs k) j + K.kinds (K.add xs k) j = K.xfs xs j + K.kinds xs j + 1 + _
    rw [ih]
    have hkd : K.kinds (K.add xs k) j = K.kinds xs j + if j < sc L k then 0 else 1 := by
      rcases Nat.eq_zero_or_pos j with h0 | h0
      · subst h0
        rw [T.kinds_zero, T.kinds_zero, if_neg (T.add_ne_nil xs k)]
        have hz := sc_zero (L := L) (k := k) (fun x hm => hx _ (by rw [← hL]; exact List.mem_map.2 ⟨x, hm, rfl⟩)) hk
        by_cases h1 : xs = []
        · have : L = [] := by rw [h1] at hL; simpa using hL
          have := hz.2 this
          rw [if_pos h1, if_neg (by omega)]
        · have : ¬ sc L k = 0 := fun h => h1 (by have := hz.1 h; rw [this] at hL; exact hL.symm)
          rw [if_neg h1, if_pos (by omega)]
      · rw [T.kinds_add hu k h0]
        congr 1
        have hiff : (∃ x ∈ xs, x / 2 ^ (64 - j) = k / 2 ^ (64 - j)) ↔ j < sc L k := by
          constructor
          · rintro ⟨x, hm, e⟩
            rw [← hL] at hm
            obtain ⟨y, hy, rfl⟩ := List.mem_map.1 hm
            rcases Nat.lt_or_ge j (sc L k) with h | h
            · exact h
            · have h1 := sc_no (L := L) (k := k) h (by omega)
              have h2 : y ∈ sg L j (pf j k) := mem_sg.2 ⟨hy, e⟩
              rw [h1] at h2
              cases h2
          · intro h
            obtain ⟨y, hy⟩ := List.exists_mem_of_ne_nil _ (sc_yes h)
            obtain ⟨h1, h2⟩ := mem_sg.1 hy
            exact ⟨y.2, by rw [← hL]; exact List.mem_map.2 ⟨y, h1, rfl⟩, h2⟩
        by_cases h : j < sc L k
        · rw [if_pos h, if_pos (hiff.2 h)]
        · rw [if_neg h, if_neg (fun h2 => h (hiff.1 h2))]
    rw [hkd]
    by_cases h : j < sc L k
    · rw [if_pos h]; omega
    · rw [if_neg h]; omega
theorem xfast_add {xs : List Nat} {L : LL} (hL : L.map (·.2) = xs) (hu : K.Up xs) {k : Nat} (hx : ∀ x ∈ xs, x < 18446744073709551616) (hk : k < 18446744073709551616) (hno : k ∉ xs) : K.xfast (K.add xs k) = K.xfast xs + 1 + (65 - sc L k) := by
  have h1 := xfs_add hL hu hx hk hno 65 (Nat.le_refl _)
  have h2 := sc_le L k
  unfold K.xfast
  rw [h1]
  omega
end X
end Go.Proofs.YtialjokdaniofaaGreat
end
section
namespace Go.Proofs.YtialjokdaniofaaGreat
set_option maxRecDepth 20000
open Go.RowKit
set_option linter.unusedSectionVars false
variable [Gh]
namespace X
theorem or_add (a b : Nat) (hb : b < 4294967296) : a * 4294967296 ||| b = a * 4294967296 + b := by
  have h := Nat.two_pow_add_eq_or_of_lt (i := 32) (b := b) hb a
  rw [Nat.mul_comm] at h
  exact h.symm
theorem or_cast (c b : Nat) (hc : c < 18446744073709551616) (hb : b < 18446744073709551616) : bits BinOp.or .u64 (c : Int) (b : Int) = ((c ||| b : Nat) : Int) := by
  have hor : c ||| b < 18446744073709551616 := Nat.or_lt_two_pow (n := 64) hc hb
  show IntKind.u64.wrap ((BitVec.ofInt 64 (c : Int) ||| BitVec.ofInt 64 (b : Int)).toNat : Int) = _
  have e2 : (BitVec.ofInt 64 (c : Int) ||| BitVec.ofInt 64 (b : Int)).toNat = c ||| b := by
    rw [BitVec.toNat_or]
    have a1 : (BitVec.ofInt 64 (c : Int)).toNat = c := by simp; omega
    have a2 : (BitVec.ofInt 64 (b : Int)).toNat = b := by simp; omega
    rw [a1, a2]
  rw [e2]
  exact Hs.u64_in _ (by omega) (by omega)
theorem or_at (a b : Nat) (ha : a < 1048576) (hb : b < 1048576) : bits BinOp.or .u64 ((a : Int) * 4294967296) (b : Int) = ((a * 4294967296 + b : Nat) : Int) := by
  have h1 : (a : Int) * 4294967296 = ((a * 4294967296 : Nat) : Int) := by omega
  rw [h1, or_cast _ _ (by omega) (by omega), or_add a b (by omega)]
theorem bit_of (k s : Nat) (hs : s ≤ 63) : (k * 2 ^ s % 18446744073709551616) / 9223372036854775808 = pf (s + 1) k % 2 := by
  have e1 : (18446744073709551616 : Nat) = 2 ^ (64 - s) * 2 ^ s := by rw [← Nat.pow_add, show 64 - s + s = 64 by omega]
  have e2 : (9223372036854775808 : Nat) = 2 ^ (63 - s) * 2 ^ s := by rw [← Nat.pow_add, show 63 - s + s = 63 by omega]
  have e3 : (2 : Nat) ^ (64 - s) = 2 ^ (63 - s) * 2 := by rw [← Nat.pow_succ]; congr 1; omega
  rw [e1, e2, Nat.mul_mod_mul_right, Nat.mul_div_mul_right _ _ (Nat.two_pow_pos s), e3, Nat.mod_mul_right_div_self]
  unfold pf
  rw [show 64 - (s + 1) = 63 - s by omega]
theorem pf_half {l : Nat} (hl : l ≤ 63) (k : Nat) : pf (l + 1) k / 2 = pf l k := by
  unfold pf
  rw [Nat.div_div_eq_div_mul, ← Nat.pow_succ]
  congr 2
  omega
section
variable {L1 L2 : LL} {k : Nat}
/-- Where the keys of the longest prefix lie. -/
theorem near_cases (hr : Rises (L1 ++ L2)) (h1 : ∀ x ∈ L1, x.2 < k) (h2 : ∀ x ∈ L2, k < x.2) {s : Nat} (hs : sc (L1 ++ L2) k = s + 1) (hs2 : s ≤ 63) :
    (pf (s + 1) k % 2 = 0 → L2 ≠ [] ∧ (fst' (sg (L1 ++ L2) s (pf s k)) : Int) = hd L2 (-1)) ∧ (pf (s + 1) k % 2 ≠ 0 → L1 ≠ [] ∧ (lst' (sg (L1 ++ L2) s (pf s k)) : Int) = lst (-1) L1) := by
  obtain ⟨r1, r2⟩ := rises_app hr
  have hne := sc_yes (L := L1 ++ L2) (k := k) (l := s) (by omega)
  have hno := sc_no (L := L1 ++ L2) (k := k) (l := s + 1) (by omega) (by omega)
  have hdiff : ∀ x ∈ sg (L1 ++ L2) s (pf s k), pf (s + 1) x.2 ≠ pf (s + 1) k ∧ pf (s + 1) x.2 / 2 = pf (s + 1) k / 2 := by
    intro x hx
    obtain ⟨h3, h4⟩ := mem_sg.1 hx
    refine ⟨fun e => ?_, by rw [pf_half hs2, pf_half hs2, h4]⟩
    have : x ∈ sg (L1 ++ L2) (s + 1) (pf (s + 1) k) := mem_sg.2 ⟨h3, e⟩
    rw [hno] at this
    cases this
  have la := fun hne => last_sg (l := s) r1 (fun x hx => Nat.le_of_lt (h1 x hx)) hne (-1)
  have fb := fun hne => first_sg (l := s) r2 (fun x hx => Nat.le_of_lt (h2 x hx)) hne (-1)
  rw [sg_app] at hne hdiff ⊢
  constructor
  · intro h0
    have e1 : sg L1 s (pf s k) = [] := by
      rcases Classical.em (sg L1 s (pf s k) = []) with h | h
      · exact h
      · exfalso
        obtain ⟨x, hx⟩ := List.exists_mem_of_ne_nil _ h
        obtain ⟨h3, h4⟩ := hdiff x (List.mem_append_left _ hx)
        have h5 := h1 x (sg_sub hx)
        have h6 := pf_mono (l := s + 1) (Nat.le_of_lt h5)
        omega
    rw [e1, List.nil_append] at hne ⊢
    refine ⟨fun e => ?_, ?_⟩
    · subst e
      exact hne rfl
    · rw [fst_eq hne (-1), fb hne]
  · intro h0
    have e2 : sg L2 s (pf s k) = [] := by
      rcases Classical.em (sg L2 s (pf s k) = []) with h | h
      · exact h
      · exfalso
        obtain ⟨x, hx⟩ := List.exists_mem_of_ne_nil _ h
        obtain ⟨h3, h4⟩ := hdiff x (List.mem_append_right _ hx)
        have h5 := h2 x (sg_sub hx)
        have h6 := pf_mono (l := s + 1) (Nat.le_of_lt h5)
        omega
    rw [e2, List.append_nil] at hne ⊢
    refine ⟨fun e => ?_, ?_⟩
    · subst e
      exact hne rfl
    · rw [lst_eq hne (-1), la hne]
end
end X
abbrev kyv (l p : Nat) : Value := .agg #[.int .u8 (l : Int), .int .u64 (p : Int)]
abbrev env (a b : Nat) : Value := .agg #[.int .i64 (a : Int), .int .i64 (b : Int)]
theorem ends_res {fn : Func} {u : Tmp} (h : fn.results = #[.cell u 161]) (tmps : Array Value) (w : World) (g : Nat) (a b : Value) (hu : tmps.getD u undef = .pointer (some ⟨g, 0, none⟩))
    (hc : w.heap[g]? = some (.cells #[a, b] 161 (0, 0))) : (results fn tmps).run Tryz.prog w = .ok (.agg #[a, b]) w := by
  have hp' : tmps[u]?.getD undef = .pointer (some ⟨g, 0, none⟩) := by simpa using hu
  have hr := run_loadVar_row (P := Tryz.prog) w g 161 161 _ (0, 0) _ hc Tryz.underlying161 (by kernel_rfl) (by kernel_rfl)
  simp [results, h, hp', asAddr, hr]
theorem ends_res2 {fn : Func} {u t : Tmp} (h : fn.results = #[.cell u 161, .tmp t]) (tmps : Array Value) (w : World) (g : Nat) (a b : Value) (z : Value) (hu : tmps.getD u undef = .pointer (some ⟨g, 0, none⟩))
    (hc : w.heap[g]? = some (.cells #[a, b] 161 (0, 0))) (hb : tmps.getD t undef = z) : (results fn tmps).run Tryz.prog w = .ok (.tuple #[.agg #[a, b], z]) w := by
  have hp' : tmps[u]?.getD undef = .pointer (some ⟨g, 0, none⟩) := by simpa using hu
  have hb' : tmps[t]?.getD undef = z := by simpa using hb
  have hr := run_loadVar_row (P := Tryz.prog) w g 161 161 _ (0, 0) _ hc Tryz.underlying161 (by kernel_rfl) (by kernel_rfl)
  simp [results, h, hp', hb', asAddr, hr]
theorem key_res {fn : Func} {u : Tmp} (h : fn.results = #[.cell u 137]) (tmps : Array Value) (w : World) (g : Nat) (a b : Value) (hu : tmps.getD u undef = .pointer (some ⟨g, 0, none⟩))
    (hc : w.heap[g]? = some (.cells #[a, b] 137 (0, 0))) : (results fn tmps).run Tryz.prog w = .ok (.agg #[a, b]) w := by
  have hp' : tmps[u]?.getD undef = .pointer (some ⟨g, 0, none⟩) := by simpa using hu
  have hr := run_loadVar_row (P := Tryz.prog) w g 137 137 _ (0, 0) _ hc Tryz.underlying137 (by kernel_rfl) (by kernel_rfl)
  simp [results, h, hp', asAddr, hr]
theorem x_prefix (w : World) (k l : Nat) (hl : l ≤ 64) :
    Calls Tryz.prog 137 #[.int .u64 (k : Int), .int .i64 (l : Int)] w fun e w' => e = .returned (kyv l (X.pf l k)) ∧ Below w.heap.size w w' := by
  have w1 : IntKind.u8.wrap (l : Int) = (l : Int) := by simp [IntKind.wrap, IntKind.signed, IntKind.bits]; omega
  have w2 : IntKind.i64.wrap (64 - (l : Int)) = 64 - (l : Int) := IntWalk.i64_in _ (by omega)
  have e : (k : Int) / 2 ^ (64 - l) = ((X.pf l k : Nat) : Int) := by unfold X.pf; push_cast; rfl
  generalize X.pf l k = p at *
  go_enter Tryz.func137, Tryz.ntmps137
  go_wp2
  exact bodyPost_ret (key_res rfl _ _ w.heap.size _ _ rfl (K.alloc_top _ _)) rfl ⟨rfl, (Below.refl _ w).alloc (Nat.le_refl _) _⟩
theorem x_pack (w : World) (a b : Nat) (ha : a < 1048576) (hb : b < 1048576) :
    Calls Tryz.prog 162 #[env a b] w fun e w' => e = .returned (.int .u64 ((a * 4294967296 + b : Nat) : Int)) ∧ Below w.heap.size w w' := by
  have e := X.or_at a b ha hb
  generalize a * 4294967296 + b = c at *
  go_enter Tryz.func162, Tryz.ntmps162
  go_wp2
  go_ret
  exact ⟨rfl, (Below.refl _ w).alloc (Nat.le_refl _) _⟩
theorem x_unpack (w : World) (a b : Nat) (ha : a < 1048576) (hb : b < 1048576) :
    Calls Tryz.prog 146 #[.int .u64 ((a * 4294967296 + b : Nat) : Int)] w fun e w' => e = .returned (env a b) ∧ Below w.heap.size w w' := by
  obtain ⟨c, hc⟩ : ∃ c, a * 4294967296 + b = c := ⟨_, rfl⟩
  have e1 : (c : Int) / 4294967296 = (a : Int) := by omega
  have e2 : (c : Int) % 4294967296 = (b : Int) := by omega
  have w1 : IntKind.i64.wrap (a : Int) = (a : Int) := IntWalk.i64_in _ (by omega)
  have w2 : IntKind.i64.wrap (b : Int) = (b : Int) := IntWalk.i64_in _ (by omega)
  have w3 : IntKind.u32.wrap (c : Int) = (b : Int) := by simp [IntKind.wrap, IntKind.signed, IntKind.bits]; omega
  rw [hc]
  clear hc
  go_enter Tryz.func146, Tryz.ntmps146
  go_wp2
  refine bodyPost_ret (ends_res rfl _ _ w.heap.size _ _ rfl (K.alloc_top _ _)) rfl ⟨?_, (Below.refl _ w).alloc (Nat.le_refl _) _⟩
  rfl
theorem x_above (w : World) (s a b k : Nat) (hs : s ≤ 63) :
    Calls Tryz.prog 143 #[.agg #[.int .i64 (s : Int), .int .i64 (a : Int), .int .i64 (b : Int)], .int .u64 (k : Int)] w fun e w' => e = .returned (.bool (decide (X.pf (s + 1) k % 2 = 0))) ∧ Below w.heap.size w w' := by
  have e := X.bit_of k s hs
  have e2 : (IntKind.u64.wrap ((k : Int) * 2 ^ s) / 9223372036854775808 == 0) = decide (X.pf (s + 1) k % 2 = 0) := by
    rw [← e, IntKind.wrap_u64]
    have h1 : ((k : Int) * 2 ^ s) = ((k * 2 ^ s : Nat) : Int) := by push_cast; rfl
    rw [h1, Bool.eq_iff_iff, beq_iff_eq, decide_eq_true_eq]
    generalize k * 2 ^ s = c
    omega
  generalize decide (X.pf (s + 1) k % 2 = 0) = r at *
  clear e
  go_enter Tryz.func143, Tryz.ntmps143
  go_wp2
  go_ret
  exact ⟨by rw [← e2]; simp, (Below.refl _ w).alloc (Nat.le_refl _) _⟩
end Go.Proofs.YtialjokdaniofaaGreat
end
