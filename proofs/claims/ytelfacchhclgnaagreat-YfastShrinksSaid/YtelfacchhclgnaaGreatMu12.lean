/- A table is changed: Drop; the text walked. New, Len, Size, Probes, Clear; a nil table; the texts walked. Clear of a table; the text walked. Prefixes of keys, told by the links that have them: plain lemmas. What becomes of a level's links when a key comes or goes; the longest prefix that is there; what is used: plain lemmas. -/
import Derived.Test.YtelfacchhclgnaaGreatMu11
import Derived.Test.YtelfacchhclgnaaGreatMu08
section
namespace Go.Proofs.YtelfacchhclgnaaGreat.Hs
set_option maxRecDepth 4000
open Go.RowKit
set_option maxHeartbeats 2000000 in
theorem tab_drop_yes (w : World) (P Q M seed n pr cl : Nat) (es r : List (H.Key × Nat)) (a : Tab w P Q M seed n es pr cl) (k : H.Key) (k1 : k.1 < 256) (v0 : Nat) (he : es.Perm ((k, v0) :: r)) (hes : r.length < 1000000) :
    Calls Tryz.prog 101 #[.pointer (some ⟨P, 0, none⟩), .agg #[.int .u8 (k.1 : Int), .int .u64 (k.2 : Int)]] w (PutP w P Q M seed n r cl true) := by
  replace a := a.perm he
  have hmem : (k, v0) ∈ (k, v0) :: r := List.mem_cons_self
  clear he
  obtain ⟨ps, t, p, h1, h2, h3, h4, h5, h6, h7, h8⟩ := a
  rw [List.length_cons] at h1 h5 h6
  have hl8 := h1.len
  obtain ⟨q, hq, hq3, hqn⟩ := h1.pw
  have HF := Lib.hid (H.tab_free h2 h4 (by rw [List.length_cons]; exact h5) (by omega))
  have hne := tb_ne_m h1 h7
  have hPl := h1.row.lt
  have hQl := h1.qlt
  have hPQ := h1.ne
  have b0 : Below w.heap.size w (w.alloc (.cells #[.int .u8 (k.1 : Int), .int .u64 (k.2 : Int)] 137)) := (Below.refl _ w).alloc (Nat.le_refl _) _
  have kb : KB (w.alloc (.cells #[.int .u8 (k.1 : Int), .int .u64 (k.2 : Int)] 137)) w.heap.size k := alloc_topI _ _
  have kc0 := kb.c0
  have kc1 := kb.c1
  have hMl := h7.lt
  have t1 := h1.below b0 (Nat.le_refl _)
  have hfi := Lib.hid (t_find _ P Q M seed _ pr ps t1 k k1 (by rw [h2]; exact HF.out))
  have HM := Lib.hid (h7.below b0 hMl)
  have HB := Lib.hid b0
  have H2 := Lib.hid h2
  have H3 := Lib.hid h3
  have H4 := Lib.hid h4
  have h5' := h5
  have H56 := Lib.hid (And.intro h5 h6)
  have H8 := Lib.hid h8
  have hmH := Lib.hid hmem
  have hqN := Lib.hid hqn
  have hn30 : n ≤ 8000008 := by omega
  have hn8 : 8 ≤ n := by omega
  clear h1 h2 h3 h4 h5 h6 h7 h8 b0 kb t1 hqn hmem
  generalize hcl : r.length = c at *
  have HC := Lib.hid hcl
  clear hcl
  have wc : IntKind.i64.wrap (8 * (c : Int)) = 8 * (c : Int) := IntWalk.i64_in _ (by omega)
  go_enter Tryz.func101, Tryz.ntmps101
  go_wp2_with (first
    | (go_at_call 129; (with_reducible refine hfi.out.mono ?_); rintro e w3 ⟨i, d, rfl, ht3, hs3, hk3, hb3⟩
       obtain ⟨hft, hfk, hfv⟩ := H.found_yes (by (rw [H2.out]; exact H3.out)) hs3 hk3 H4.out hmH.out
       have hdp := hs3.scan.lt
       have hdl := H.wy_lt (hmN_lt seed ps.length k (by omega)) hdp
       rw [hs3.scan.way] at hdl
       have hcg := Lib.hid (t_close w3 P Q M seed (c + 1) (d + 1) ps ht3 (by (rw [H2.out]; exact H3.out)) i hs3.scan.lt hft (by (rw [H2.out]; exact HF.out)) (by omega))
       have HFK := Lib.hid hfk
       have HFV := Lib.hid hfv
       have T3 := Lib.hid ht3
       have S3 := Lib.hid hs3
       have B3 := Lib.hid hb3
       clear ht3 hs3 hk3 hb3 hfk hfv)
    | (go_at_call 136; (with_reducible refine hcg.out.mono ?_); rintro e w4 ⟨qs, j, rfl, ht4, hi4, hp4, hpr4, hb4⟩
       have u2 := ht4.row.c2
       have u3 := ht4.row.c3
       have f3 := ht4.row.fr 3
       have hl4 : qs.length = n := (by (rw [hi4.len]; exact H2.out))
       rw [hl4] at u2
       have T4 := Lib.hid ht4
       have I4 := Lib.hid hi4
       have P4 := Lib.hid hp4
       have R4 := Lib.hid hpr4
       have B4 := Lib.hid hb4
       have L4 := Lib.hid hl4
       clear ht4 hi4 hp4 hpr4 hb4 hl4))
  have hwi := H.ents_wipe H.z hdp hft rfl
  rw [HFK.out, HFV.out] at hwi
  have hr : (H.ents qs).Perm r := P4.out.trans (List.Perm.cons_inv (hwi.trans H4.out))
  have HR := Lib.hid hr
  have T5 := Lib.hid (T4.out.setc c)
  have I5 : H.Inv n (hmN seed n) qs := by have := I4.out; rw [H2.out] at this; exact this
  have HI5 := Lib.hid I5
  have hpr : d + 1 + j + 1 ≤ n := by
    have := R4.out _ d (hmN_lt seed ps.length k (by omega)) S3.out.scan
    rw [H2.out] at this; omega
  have hM4 := Lib.hid ((HM.out.but B3.out (Ne.symm hne.1)).but B4.out (fun h => by rcases h with h | h; exact hne.1 h.symm; exact hne.2 h.symm))
  have hB4 := Lib.hid (((ButS.of_below HB.out (Nat.le_refl _)).trans (B3.out.mono (T := TF P Q M) (fun j _ h => .inl h))).trans (B4.out.mono (fun j _ h => by rcases h with h | h; exact .inl h; exact .inr (.inl h))))
  have hB5 := Lib.hid (hB4.out.trans (but_set' w4 P 3 (.int .i64 (c : Int)) (TF P Q M) (.inl rfl)))
  have hM5 := Lib.hid (hM4.out.but (but_set' w4 P 3 (.int .i64 (c : Int)) (· = P) rfl) (Ne.symm hne.1))
  clear hwi hr I5 hft
  by_cases g8 : 8 < n
  · by_cases gs : 8 * c ≤ n
    · have d1 : decide (8 < (n : Int)) = true := decide_eq_true (by omega)
      have d2 : decide (8 * (c : Int) ≤ (n : Int)) = true := decide_eq_true (by omega)
      have d3 : decide (8 < n) = true := decide_eq_true g8
      have hq4 : 4 ≤ q := by
        rcases Nat.lt_or_ge q 4 with h | h
        · exfalso
          have h2 : 2 ^ q ≤ 2 ^ 3 := Nat.pow_le_pow_right (by decide) (by omega)
          rw [← hqN.out, H2.out] at h2
          omega
        · exact h
      have hpw : n / 2 = 2 ^ (q - 1) ∧ n = 2 * (n / 2) := by
        obtain ⟨m, rfl⟩ : ∃ m, q = m + 1 := ⟨q - 1, by omega⟩
        have := hqN.out
        rw [H2.out, Nat.pow_succ] at this
        rw [Nat.add_sub_cancel]
        omega
      have hpw16 : 8 ≤ n / 2 := by
        have h2 : 2 ^ 3 ≤ 2 ^ (q - 1) := Nat.pow_le_pow_right (by decide) (by omega)
        rw [hpw.1]; exact h2
      have hmv := fun N => Lib.hid (t_move ((w4.setCell ⟨P, 3, none⟩ (.int .i64 (c : Int))).drewN N) P Q M seed c (d + 1 + j + 1) qs (T5.out.drewN N) (by rw [L4.out]; exact HI5.out) (n / 2) (q - 1) hpw.1 (by omega) (by omega) (by rw [HR.out.length_eq, HC.out]; omega))
      have hsz : ((n / 2 : Nat) : Int) = (n : Int) / 2 := by omega
      rw [hsz] at hmv
      have HPW := Lib.hid hpw
      clear hsz hpw
      go_quiet (fail)
      go_wp2_with (first
        | (go_at_call 130; (with_reducible refine (hmv _).out.mono ?_); rintro e w6 ⟨ts, Q6, rfl, ht6, hl6, hi6, hp6, hQ6, hb6⟩
           have T6 := Lib.hid ht6
           have L6 := Lib.hid hl6
           have I6 := Lib.hid hi6
           have P6 := Lib.hid hp6
           have B6 := Lib.hid hb6
           clear ht6 hl6 hi6 hp6 hb6))
      go_ret
      have hM6 : Mt w6 M 0 cl 0 t p := Mt.but (r := 0) (c := cl) (s := 0) (t := t) (p := p) (w := (w4.setCell ⟨P, 3, none⟩ (.int .i64 (c : Int))).drewN nq) hM5.out B6.out (Ne.symm hne.1)
      refine ⟨rfl, Q6, n / 2, d + 1 + j + 1, ⟨ts, t, p, by rw [HC.out]; exact T6.out, L6.out, I6.out, P6.out.trans HR.out, by rw [HC.out]; omega, fun h => by rw [HC.out]; have := HPW.out.2; have := H56.out.2 g8; omega, hM6, H8.out⟩, ?_, .inr ?_, by omega, hpr⟩
      · exact (hB5.out.drewN nq).trans (B6.out.mono (fun j _ h => .inl h))
      · have h1 := hB5.out.size
        have h2 : (w4.setCell ⟨P, 3, none⟩ (.int .i64 (c : Int))).heap.size ≤ Q6 := hQ6
        omega
    · have d1 : decide (8 < (n : Int)) = true := decide_eq_true (by omega)
      have d2 : decide (8 * (c : Int) ≤ (n : Int)) = false := decide_eq_false (by omega)
      have d3 : decide (8 < n) = true := decide_eq_true g8
      go_quiet (fail)
      go_wp2
      go_ret
      exact ⟨rfl, Q, n, d + 1 + j + 1, ⟨qs, t, p, by rw [HC.out]; exact T5.out.drewN nq, L4.out, HI5.out, HR.out, by rw [HC.out]; omega, fun h => by rw [HC.out]; omega, hM5.out, H8.out⟩, hB5.out.drewN nq, .inl rfl, by omega, hpr⟩
  · have d1 : decide (8 < (n : Int)) = false := decide_eq_false (by omega)
    have d3 : decide (8 < n) = false := decide_eq_false g8
    go_quiet (fail)
    go_wp2
    go_ret
    exact ⟨rfl, Q, n, d + 1 + j + 1, ⟨qs, t, p, by rw [HC.out]; exact T5.out.drewN nq, L4.out, HI5.out, HR.out, by rw [HC.out]; omega, fun h => absurd h g8, hM5.out, H8.out⟩, hB5.out.drewN nq, .inl rfl, by omega, hpr⟩
end Go.Proofs.YtelfacchhclgnaaGreat.Hs
end
section
namespace Go.Proofs.YtelfacchhclgnaaGreat.Hs
set_option maxRecDepth 4000
open Go.RowKit
theorem tab_len (w : World) (P Q M seed n pr cl : Nat) (es : List (H.Key × Nat)) (a : Tab w P Q M seed n es pr cl) :
    Calls Tryz.prog 73 #[.pointer (some ⟨P, 0, none⟩)] w fun e w' => e = .returned (.int .i64 (es.length : Int)) ∧ w = w' := by
  obtain ⟨ps, t, p, h1, _⟩ := a
  have hc := h1.row.c3
  clear h1
  generalize es.length = c at *
  go_enter Tryz.func73, Tryz.ntmps73
  go_wp2
  go_ret
  exact ⟨rfl, rfl⟩
theorem tb_new {w : World} {P Q M seed : Nat} (h1 : TRow w P Q M seed 8 0 0) (h2 : w.heap[Q]? = some (.cells (ev (List.replicate 8 H.z)).toArray 169 (0, 0))) {cl t p : Nat} (hm : Mt w M 0 cl 0 t p) (ht : t ≤ cl) : Tab w P Q M seed 8 [] 0 cl := by
  refine ⟨List.replicate 8 H.z, t, p, ⟨?_, h2, ⟨3, by omega, by omega, by simp⟩, fun e he => ?_⟩, by simp, H.inv_rep _ _, by rw [H.ents_rep], by simp, by omega, hm, ht⟩
  · rw [List.length_replicate]; exact h1
  · rw [List.eq_of_mem_replicate he]; decide
theorem mk_eight : ∃ E : List Value, E = ev (List.replicate 8 H.z) ∧ ∀ w : World, (Instr.makeSlice 116 (.int .i64 8) (.int .i64 8)).run Tryz.prog w = .ok (.slice (some ⟨w.heap.size, 0, none⟩) 8 8) (w.alloc (.cells E.toArray 169)) :=
  ⟨_, rfl, fun w => mk_entries 8 (by omega) w⟩
def NewP (w : World) (M? : Option Nat) (seed : Nat) (e : Ending) (w' : World) : Prop :=
  ∃ P Q M, e = .returned (.pointer (some ⟨P, 0, none⟩)) ∧ Tab w' P Q M seed 8 [] 0 0 ∧ Below w.heap.size w w' ∧ w.heap.size ≤ P ∧ w.heap.size ≤ Q ∧ (M? = some M ∨ (M? = none ∧ w.heap.size ≤ M))
theorem tab_new_nil (w : World) (seed : Nat) : Calls Tryz.prog 37 #[.pointer none, .int .u64 (seed : Int)] w (NewP w none seed) := by
  obtain ⟨E, hE, hmk⟩ := mk_eight
  have HE := Lib.hid hE
  clear hE
  go_enter Tryz.func37, Tryz.ntmps37
  go_wp2_with (first
    | (go_at_call 67; (with_reducible refine (m_new _).mono ?_); rintro e w1 ⟨rfl, hm, hb1⟩; have hmH := Lib.hid hm; clear hm; have hbH := Lib.hid hb1; clear hb1))
  go_ret
  have hlt := hmH.out.lt
  have hb2 : Below w1.heap.size w1 ((w1.alloc (.cells E.toArray 169)).alloc (.cells #[.pointer (some ⟨w.heap.size, 0, none⟩), .int .u64 (seed : Int), .slice (some ⟨w1.heap.size, 0, none⟩) 8 8, .int .i64 0, .int .i64 0] 118)) :=
    ((Below.refl _ w1).alloc (Nat.le_refl _) _).alloc (by simp) _
  refine ⟨w1.heap.size + 1, w1.heap.size, w.heap.size, rfl, tb_new ?_ ?_ (hmH.out.below hb2 hlt) (Nat.le_refl _), hbH.out.trans (hb2.mono (by omega)), by omega, by omega, .inr ⟨rfl, Nat.le_refl _⟩⟩
  · have hz : (w1.alloc (.cells E.toArray 169)).heap.size = w1.heap.size + 1 := by simp
    have := alloc_topI (w1.alloc (.cells E.toArray 169)) (.cells #[.pointer (some ⟨w.heap.size, 0, none⟩), .int .u64 (seed : Int), .slice (some ⟨w1.heap.size, 0, none⟩) 8 8, .int .i64 0, .int .i64 0] 118)
    rw [hz] at this
    exact this
  · rw [← HE.out]; exact (Below.heap_alloc _ _ _ (by simp)).trans (alloc_topI w1 _)
end Go.Proofs.YtelfacchhclgnaaGreat.Hs
end
section
namespace Go.Proofs.YtelfacchhclgnaaGreat.Hs
set_option maxRecDepth 4000
open Go.RowKit
abbrev clr (w : World) (P Q' : Nat) : World := ((w.setCell ⟨P, 2, none⟩ (.slice (some ⟨Q', 0, none⟩) 8 8)).setCell ⟨P, 3, none⟩ (.int .i64 0)).setCell ⟨P, 4, none⟩ (.int .i64 0)
end Go.Proofs.YtelfacchhclgnaaGreat.Hs
end
section
namespace Go.Proofs.YtelfacchhclgnaaGreat
set_option maxRecDepth 20000
open Go.RowKit
set_option linter.unusedSectionVars false
variable [Gh]
namespace X
/-- The first l bits of a key. -/
def pf (l k : Nat) : Nat := k / 2 ^ (64 - l)
theorem pf_mono {l a b : Nat} (h : a ≤ b) : pf l a ≤ pf l b := Nat.div_le_div_right h
theorem pf_zero {k : Nat} (h : k < 18446744073709551616) : pf 0 k = 0 := Nat.div_eq_of_lt (by simpa using h)
theorem pf_all (k : Nat) : pf 64 k = k := by simp [pf]
theorem pf_up {l m a b : Nat} (hlm : l ≤ m) (hm : m ≤ 64) (h : pf m a = pf m b) : pf l a = pf l b := by
  have e : ∀ x, pf l x = pf m x / 2 ^ (m - l) := fun x => by
    unfold pf
    rw [Nat.div_div_eq_div_mul, ← Nat.pow_add]
    congr 2
    omega
  rw [e, e, h]
/-- The links whose keys begin so. -/
def sg (L : LL) (l p : Nat) : LL := L.filter fun x => decide (pf l x.2 = p)
theorem mem_sg {L : LL} {l p : Nat} {x : Nat × Nat} : x ∈ sg L l p ↔ x ∈ L ∧ pf l x.2 = p := by simp [sg]
theorem sg_app (L1 L2 : LL) (l p : Nat) : sg (L1 ++ L2) l p = sg L1 l p ++ sg L2 l p := by simp [sg]
theorem sg_one (n k l : Nat) (L : LL) : sg ((n, k) :: L) l (pf l k) = (n, k) :: sg L l (pf l k) := by simp [sg]
theorem sg_other {n k l p : Nat} (h : p ≠ pf l k) (L : LL) : sg ((n, k) :: L) l p = sg L l p := by
  unfold sg
  rw [List.filter_cons_of_neg]
  simp only [decide_eq_true_eq]
  exact fun e => h e.symm
/-- Links rise by their keys. -/
def Rises (L : LL) : Prop := L.Pairwise fun x y => x.2 < y.2
theorem last_sg {L1 : LL} {l k : Nat} (hr : Rises L1) (hk : ∀ x ∈ L1, x.2 ≤ k) (h : sg L1 l (pf l k) ≠ []) (a : Int) : lst a (sg L1 l (pf l k)) = lst a L1 := by
  rcases List.eq_nil_or_concat L1 with rfl | ⟨L0, y, rfl⟩
  · rfl
  · rw [List.concat_eq_append] at *
    have hy : pf l y.2 = pf l k := by
      obtain ⟨x, hx⟩ := List.exists_mem_of_ne_nil _ h
      obtain ⟨h1, h2⟩ := mem_sg.1 hx
      have h3 : x.2 ≤ y.2 := by
        rcases List.mem_append.1 h1 with h4 | h4
        · exact Nat.le_of_lt ((List.pairwise_append.1 hr).2.2 x h4 y (by simp))
        · simp at h4; subst h4; exact Nat.le_refl _
      have h5 := pf_mono (l := l) h3
      have h6 := pf_mono (l := l) (hk y (by simp))
      omega
    rw [sg_app, lst_app, lst_app]
    have : sg [y] l (pf l k) = [y] := by simp [sg, hy]
    rw [this]
    rfl
theorem first_sg {L2 : LL} {l k : Nat} (hr : Rises L2) (hk : ∀ x ∈ L2, k ≤ x.2) (h : sg L2 l (pf l k) ≠ []) (b : Int) : hd (sg L2 l (pf l k)) b = hd L2 b := by
  cases L2 with
  | nil => rfl
  | cons y L =>
    have hy : pf l y.2 = pf l k := by
      obtain ⟨x, hx⟩ := List.exists_mem_of_ne_nil _ h
      obtain ⟨h1, h2⟩ := mem_sg.1 hx
      have h3 : y.2 ≤ x.2 := by
        rcases List.mem_cons.1 h1 with h4 | h4
        · subst h4; exact Nat.le_refl _
        · exact Nat.le_of_lt ((List.pairwise_cons.1 hr).1 x h4)
      have h5 := pf_mono (l := l) h3
      have h6 := pf_mono (l := l) (hk y (by simp))
      omega
    have : sg (y :: L) l (pf l k) = y :: sg L l (pf l k) := by simp [sg, hy]
    rw [this]
    rfl
/-- The ends of some links, as numbers; as a table's value. -/
def fst' (S : LL) : Nat := (hd S 0).toNat
def lst' (S : LL) : Nat := (lst 0 S).toNat
def pk (S : LL) : Nat := fst' S * 4294967296 + lst' S
theorem lst_ind {S : LL} (h : S ≠ []) (a b : Int) : lst a S = lst b S := by
  cases S
  · exact absurd rfl h
  · rfl
theorem fst_eq {S : LL} (h : S ≠ []) (b : Int) : (fst' S : Int) = hd S b := by
  obtain ⟨x, _, e⟩ := hd_mem h
  unfold fst'
  rw [e 0, e b]
  omega
theorem lst_eq {S : LL} (h : S ≠ []) (a : Int) : (lst' S : Int) = lst a S := by
  obtain ⟨x, _, e⟩ := lst_mem (a := 0) h
  unfold lst'
  rw [← lst_ind h 0 a, e]
  omega
theorem hd_sg_app (S1 S2 : LL) (b : Int) (h : S1 ≠ []) : hd (S1 ++ S2) b = hd S1 b := by
  cases S1
  · exact absurd rfl h
  · rfl
theorem lst_sg_app (S1 S2 : LL) (a : Int) (h : S2 ≠ []) : lst a (S1 ++ S2) = lst a S2 := by
  rw [lst_app]
  exact lst_ind h _ _
/-- What the table has: the levels below l0 by the links L', the others by L. -/
structure TE (l0 : Nat) (L L' : LL) (es : List (Hs.H.Key × Nat)) : Prop where
  nod : (es.map (·.1)).Nodup
  mem : ∀ l p v, ((l, p), v) ∈ es ↔ l ≤ 64 ∧ sg (if l < l0 then L' else L) l p ≠ [] ∧ v = pk (sg (if l < l0 then L' else L) l p)
theorem TE.all {L L' : LL} {es : List (Hs.H.Key × Nat)} (h : TE 65 L L' es) : TE 0 L' L' es := ⟨h.nod, fun l p v => by
  rw [h.mem]
  by_cases hl : l ≤ 64
  · rw [if_pos (by omega)]; simp
  · simp [hl]⟩
theorem TE.any {L : LL} {es : List (Hs.H.Key × Nat)} (h : TE 0 L L es) (L2 : LL) : TE 0 L L2 es := ⟨h.nod, fun l p v => by
  rw [h.mem]
  simp⟩
theorem TE.perm {l0 : Nat} {L L' : LL} {es es' : List (Hs.H.Key × Nat)} (h : TE l0 L L' es) (hp : es.Perm es') : TE l0 L L' es' :=
  ⟨((hp.map (·.1)).nodup_iff).1 h.nod, fun l p v => by rw [← hp.mem_iff]; exact h.mem l p v⟩
/-- Is there a prefix? -/
theorem TE.no {l0 : Nat} {L L' : LL} {es : List (Hs.H.Key × Nat)} (h : TE l0 L L' es) {l p : Nat} (hn : sg (if l < l0 then L' else L) l p = []) : ∀ x ∈ es, x.1 ≠ (l, p) := by
  rintro ⟨k, v⟩ hx rfl
  exact ((h.mem l p v).1 hx).2.1 hn
theorem TE.yes {l0 : Nat} {L L' : LL} {es : List (Hs.H.Key × Nat)} (h : TE l0 L L' es) {l p : Nat} (hl : l ≤ 64) (hn : sg (if l < l0 then L' else L) l p ≠ []) : ((l, p), pk (sg (if l < l0 then L' else L) l p)) ∈ es := (h.mem l p _).2 ⟨hl, hn, rfl⟩
theorem perm_of_mem {α : Type} [BEq α] [LawfulBEq α] {x : α} {l : List α} (h : x ∈ l) : l.Perm (x :: l.erase x) := List.perm_cons_erase h
/-- One level is brought to the new links: another value, a new entry, or one less. -/
theorem TE.put {l : Nat} {L L' : LL} {es r : List (Hs.H.Key × Nat)} {p v0 : Nat} (h : TE l L L' es) (hl : l ≤ 64) (hp : es.Perm (((l, p), v0) :: r)) (hne : sg L' l p ≠ []) (ho : ∀ q, q ≠ p → sg L' l q = sg L l q) :
    TE (l + 1) L L' (((l, p), pk (sg L' l p)) :: r) := by
  have h1 := h.perm hp
  have hnod := h1.nod
  rw [List.map_cons, List.nodup_cons] at hnod
  refine ⟨by rw [List.map_cons, List.nodup_cons]; exact hnod, fun l2 p2 v2 => ?_⟩
  have hm := h1.mem l2 p2 v2
  rw [List.mem_cons] at hm ⊢
  by_cases he : l2 = l ∧ p2 = p
  · obtain ⟨rfl, rfl⟩ := he
    rw [if_pos (by omega)]
    constructor
    · rintro (e | e)
      · exact ⟨hl, hne, (Prod.mk.inj e).2⟩
      · exact absurd (List.mem_map.2 ⟨_, e, rfl⟩) hnod.1
    · rintro ⟨_, _, rfl⟩
      exact .inl rfl
  · have hk : ∀ v', ¬ ((l2, p2), v2) = (((l, p), v') : Hs.H.Key × Nat) := fun v' e => he (by have := Prod.mk.inj (Prod.mk.inj e).1; exact this)
    have hs : (if l2 < l + 1 then L' else L) = (if l2 < l then L' else L) ∨ l2 = l := by
      by_cases h3 : l2 < l
      · left; rw [if_pos h3, if_pos (by omega)]
      · by_cases h4 : l2 = l
        · exact .inr h4
        · left; rw [if_neg h3, if_neg (by omega)]
    have hsg : sg (if l2 < l + 1 then L' else L) l2 p2 = sg (if l2 < l then L' else L) l2 p2 := by
      rcases hs with e | e
      · rw [e]
      · subst e
        rw [if_pos (by omega), if_neg (by omega)]
        exact ho p2 (fun e2 => he ⟨rfl, e2⟩)
    rw [hsg, ← hm]
    constructor
    · rintro (e | e)
      · exact absurd e (hk _)
      · exact .inr e
    · rintro (e | e)
      · exact absurd e (hk _)
      · exact .inr e
theorem TE.new {l : Nat} {L L' : LL} {es : List (Hs.H.Key × Nat)} {p : Nat} (h : TE l L L' es) (hl : l ≤ 64) (h0 : sg L l p = []) (hne : sg L' l p ≠ []) (ho : ∀ q, q ≠ p → sg L' l q = sg L l q) :
    TE (l + 1) L L' (((l, p), pk (sg L' l p)) :: es) := by
  have hno := h.no (l := l) (p := p) (by rw [if_neg (by omega)]; exact h0)
  refine ⟨by rw [List.map_cons, List.nodup_cons]; exact ⟨fun hm => by obtain ⟨x, hx, e⟩ := List.mem_map.1 hm; exact hno x hx e, h.nod⟩, fun l2 p2 v2 => ?_⟩
  have hm := h.mem l2 p2 v2
  rw [List.mem_cons]
  by_cases he : l2 = l ∧ p2 = p
  · obtain ⟨rfl, rfl⟩ := he
    rw [if_pos (by omega)]
    constructor
    · rintro (e | e)
      · exact ⟨hl, hne, (Prod.mk.inj e).2⟩
      · exact absurd rfl (hno _ e)
    · rintro ⟨_, _, rfl⟩
      exact .inl rfl
  · have hk : ∀ v', ¬ ((l2, p2), v2) = (((l, p), v') : Hs.H.Key × Nat) := fun v' e => he (by have := Prod.mk.inj (Prod.mk.inj e).1; exact this)
    have hsg : sg (if l2 < l + 1 then L' else L) l2 p2 = sg (if l2 < l then L' else L) l2 p2 := by
      by_cases h3 : l2 < l
      · rw [if_pos h3, if_pos (by omega)]
      · by_cases h4 : l2 = l
        · subst h4
          rw [if_pos (by omega), if_neg (by omega)]
          exact ho p2 (fun e2 => he ⟨rfl, e2⟩)
        · rw [if_neg h3, if_neg (by omega)]
    rw [hsg, ← hm]
    constructor
    · rintro (e | e)
      · exact absurd e (hk _)
      · exact e
    · exact fun e => .inr e
theorem TE.less {l : Nat} {L L' : LL} {es r : List (Hs.H.Key × Nat)} {p v0 : Nat} (h : TE l L L' es) (hp : es.Perm (((l, p), v0) :: r)) (h0 : sg L' l p = []) (ho : ∀ q, q ≠ p → sg L' l q = sg L l q) :
    TE (l + 1) L L' r := by
  have h1 := h.perm hp
  have hnod := h1.nod
  rw [List.map_cons, List.nodup_cons] at hnod
  refine ⟨hnod.2, fun l2 p2 v2 => ?_⟩
  have hm := h1.mem l2 p2 v2
  rw [List.mem_cons] at hm
  by_cases he : l2 = l ∧ p2 = p
  · obtain ⟨rfl, rfl⟩ := he
    rw [if_pos (by omega), h0]
    constructor
    · intro e
      exact absurd (List.mem_map.2 ⟨_, e, rfl⟩) hnod.1
    · rintro ⟨_, h2, _⟩
      exact absurd rfl h2
  · have hk : ∀ v', ¬ ((l2, p2), v2) = (((l, p), v') : Hs.H.Key × Nat) := fun v' e => he (by have := Prod.mk.inj (Prod.mk.inj e).1; exact this)
    have hsg : sg (if l2 < l + 1 then L' else L) l2 p2 = sg (if l2 < l then L' else L) l2 p2 := by
      by_cases h3 : l2 < l
      · rw [if_pos h3, if_pos (by omega)]
      · by_cases h4 : l2 = l
        · subst h4
          rw [if_pos (by omega), if_neg (by omega)]
          exact ho p2 (fun e2 => he ⟨rfl, e2⟩)
        · rw [if_neg h3, if_neg (by omega)]
    rw [hsg, ← hm]
    exact ⟨fun e => .inr e, fun e => e.elim (fun e => absurd e (hk _)) id⟩
/-- Nothing to do at a level. -/
theorem TE.stay {l : Nat} {L L' : LL} {es : List (Hs.H.Key × Nat)} (h : TE l L L' es) (ho : ∀ q, sg L' l q ≠ [] ↔ sg L l q ≠ []) (hv : ∀ q, sg L l q ≠ [] → pk (sg L' l q) = pk (sg L l q)) : TE (l + 1) L L' es := by
  refine ⟨h.nod, fun l2 p2 v2 => ?_⟩
  rw [h.mem l2 p2 v2]
  by_cases h3 : l2 < l
  · rw [if_pos h3, if_pos (by omega)]
  · by_cases h4 : l2 = l
    · subst h4
      rw [if_neg (by omega), if_pos (by omega)]
      constructor
      · rintro ⟨a, b, c⟩
        exact ⟨a, (ho p2).2 b, by rw [hv p2 b]; exact c⟩
      · rintro ⟨a, b, c⟩
        have b2 := (ho p2).1 b
        exact ⟨a, b2, by rw [← hv p2 b2]; exact c⟩
    · rw [if_neg h3, if_neg (by omega)]
theorem TE.zero : TE 0 [] [] [] := ⟨by simp, fun l p v => by simp [sg]⟩
end X
end Go.Proofs.YtelfacchhclgnaaGreat
end
section
namespace Go.Proofs.YtelfacchhclgnaaGreat
set_option maxRecDepth 20000
open Go.RowKit
set_option linter.unusedSectionVars false
variable [Gh]
namespace X
section
variable {L1 L2 : LL} {n k : Nat}
theorem rises_app (h : Rises (L1 ++ L2)) : Rises L1 ∧ Rises L2 := ⟨(List.pairwise_append.1 h).1, (List.pairwise_append.1 h).2.1⟩
theorem sg_with (l : Nat) : sg (L1 ++ (n, k) :: L2) l (pf l k) = sg L1 l (pf l k) ++ (n, k) :: sg L2 l (pf l k) := by rw [sg_app, sg_one]
theorem sg_else {l q : Nat} (h : q ≠ pf l k) : sg (L1 ++ (n, k) :: L2) l q = sg (L1 ++ L2) l q := by rw [sg_app, sg_app, sg_other h]
theorem lst_cons_nil (S : LL) (a : Int) : lst a (S ++ [(n, k)]) = (n : Int) := by rw [lst_app]; rfl
theorem fst_cons (S : LL) : fst' ((n, k) :: S) = n := rfl
theorem lst_snoc (S : LL) : lst' (S ++ [(n, k)]) = n := by unfold lst'; rw [lst_cons_nil]; rfl
theorem fst_app {S1 S2 : LL} (h : S1 ≠ []) : fst' (S1 ++ S2) = fst' S1 := by unfold fst'; rw [hd_sg_app _ _ _ h]
theorem lst_app' {S1 S2 : LL} (h : S2 ≠ []) : lst' (S1 ++ S2) = lst' S2 := by unfold lst'; rw [lst_sg_app _ _ _ h]
theorem lst_cons {S : LL} (h : S ≠ []) : lst' ((n, k) :: S) = lst' S := by
  have := lst_app' (S1 := [(n, k)]) h
  exact this
theorem sg_sub {L : LL} {l p : Nat} {x : Nat × Nat} (h : x ∈ sg L l p) : x ∈ L := (mem_sg.1 h).1
theorem fst_mem {S : LL} (h : S ≠ []) : ∃ x ∈ S, fst' S = x.1 := by
  obtain ⟨x, hx, e⟩ := hd_mem h
  exact ⟨x, hx, by unfold fst'; rw [e 0]; omega⟩
theorem lst_mem' {S : LL} (h : S ≠ []) : ∃ x ∈ S, lst' S = x.1 := by
  obtain ⟨x, hx, e⟩ := lst_mem (a := 0) h
  exact ⟨x, hx, by unfold lst'; rw [e]; omega⟩
/-- A key comes: what its prefix's ends are, and become. -/
theorem grow_cases (hr : Rises (L1 ++ L2)) (h1 : ∀ x ∈ L1, x.2 < k) (h2 : ∀ x ∈ L2, k < x.2) (hn : ((L1 ++ L2).map (·.1)).Nodup) (l : Nat) :
    (sg (L1 ++ L2) l (pf l k) = [] ∧ pk (sg (L1 ++ (n, k) :: L2) l (pf l k)) = n * 4294967296 + n) ∨
    (sg (L1 ++ L2) l (pf l k) ≠ [] ∧ (fst' (sg (L1 ++ L2) l (pf l k)) : Int) = hd L2 (-1) ∧ pk (sg (L1 ++ (n, k) :: L2) l (pf l k)) = n * 4294967296 + lst' (sg (L1 ++ L2) l (pf l k))) ∨
    (sg (L1 ++ L2) l (pf l k) ≠ [] ∧ (fst' (sg (L1 ++ L2) l (pf l k)) : Int) ≠ hd L2 (-1) ∧ (lst' (sg (L1 ++ L2) l (pf l k)) : Int) = lst (-1) L1 ∧ pk (sg (L1 ++ (n, k) :: L2) l (pf l k)) = fst' (sg (L1 ++ L2) l (pf l k)) * 4294967296 + n) ∨
    (sg (L1 ++ L2) l (pf l k) ≠ [] ∧ (fst' (sg (L1 ++ L2) l (pf l k)) : Int) ≠ hd L2 (-1) ∧ (lst' (sg (L1 ++ L2) l (pf l k)) : Int) ≠ lst (-1) L1 ∧ pk (sg (L1 ++ (n, k) :: L2) l (pf l k)) = pk (sg (L1 ++ L2) l (pf l k))) := by
  obtain ⟨r1, r2⟩ := rises_app hr
  obtain ⟨_, _, hnn⟩ := nod_app hn
  have la := fun hne => last_sg (l := l) r1 (fun x hx => Nat.le_of_lt (h1 x hx)) hne (-1)
  have fb := fun hne => first_sg (l := l) r2 (fun x hx => Nat.le_of_lt (h2 x hx)) hne (-1)
  rw [sg_with, sg_app]
  have m1 : ∀ x ∈ sg L1 l (pf l k), x ∈ L1 := fun x hx => sg_sub hx
  have m2 : ∀ x ∈ sg L2 l (pf l k), x ∈ L2 := fun x hx => sg_sub hx
  generalize sg L1 l (pf l k) = S1 at *
  generalize sg L2 l (pf l k) = S2 at *
  by_cases e1 : S1 = [] <;> by_cases e2 : S2 = []
  · subst e1 e2
    exact .inl ⟨rfl, rfl⟩
  · subst e1
    refine .inr (.inl ⟨by simpa using e2, ?_, ?_⟩)
    · rw [List.nil_append, fst_eq e2 (-1), fb e2]
    · rw [List.nil_append, List.nil_append]
      unfold pk
      rw [fst_cons, lst_cons e2]
  · subst e2
    refine .inr (.inr (.inl ⟨by simpa using e1, ?_, ?_, ?_⟩))
    · rw [List.append_nil]
      obtain ⟨x, hx, e⟩ := fst_mem e1
      rw [e]
      exact hd_ne (fun y hy => Ne.symm (hnn x (m1 x hx) y hy))
    · rw [List.append_nil, lst_eq e1 (-1), la e1]
    · rw [List.append_nil]
      unfold pk
      rw [lst_snoc, fst_app e1]
  · refine .inr (.inr (.inr ⟨by simp [e1], ?_, ?_, ?_⟩))
    · rw [fst_app e1]
      obtain ⟨x, hx, e⟩ := fst_mem e1
      rw [e]
      exact hd_ne (fun y hy => Ne.symm (hnn x (m1 x hx) y hy))
    · rw [lst_app' e2]
      obtain ⟨x, hx, e⟩ := lst_mem' e2
      rw [e]
      exact lst_ne (fun y hy => hnn y hy x (m2 x hx))
    · unfold pk
      rw [fst_app e1, fst_app e1, lst_app' (by simp), lst_app' e2, lst_cons e2]
/-- A key goes. -/
theorem shrink_cases (hr : Rises (L1 ++ (n, k) :: L2)) (hn : ((L1 ++ (n, k) :: L2).map (·.1)).Nodup) (l : Nat) :
    (sg (L1 ++ L2) l (pf l k) = [] ∧ fst' (sg (L1 ++ (n, k) :: L2) l (pf l k)) = n ∧ lst' (sg (L1 ++ (n, k) :: L2) l (pf l k)) = n) ∨
    (sg (L1 ++ L2) l (pf l k) ≠ [] ∧ fst' (sg (L1 ++ (n, k) :: L2) l (pf l k)) = n ∧ lst' (sg (L1 ++ (n, k) :: L2) l (pf l k)) ≠ n ∧ ∃ b : Nat, hd L2 (-1) = (b : Int) ∧ pk (sg (L1 ++ L2) l (pf l k)) = b * 4294967296 + lst' (sg (L1 ++ (n, k) :: L2) l (pf l k))) ∨
    (sg (L1 ++ L2) l (pf l k) ≠ [] ∧ fst' (sg (L1 ++ (n, k) :: L2) l (pf l k)) ≠ n ∧ lst' (sg (L1 ++ (n, k) :: L2) l (pf l k)) = n ∧ ∃ a : Nat, lst (-1) L1 = (a : Int) ∧ pk (sg (L1 ++ L2) l (pf l k)) = fst' (sg (L1 ++ (n, k) :: L2) l (pf l k)) * 4294967296 + a) ∨
    (sg (L1 ++ L2) l (pf l k) ≠ [] ∧ fst' (sg (L1 ++ (n, k) :: L2) l (pf l k)) ≠ n ∧ lst' (sg (L1 ++ (n, k) :: L2) l (pf l k)) ≠ n ∧ pk (sg (L1 ++ (n, k) :: L2) l (pf l k)) = pk (sg (L1 ++ L2) l (pf l k))) := by
  obtain ⟨r1, r2⟩ := rises_app hr
  have h1 : ∀ x ∈ L1, x.2 ≤ k := fun x hx => Nat.le_of_lt ((List.pairwise_append.1 hr).2.2 x hx (n, k) (by simp))
  have h2 : ∀ x ∈ L2, k ≤ x.2 := fun x hx => Nat.le_of_lt ((List.pairwise_cons.1 r2).1 x hx)
  have r2 : Rises L2 := (List.pairwise_cons.1 r2).2
  obtain ⟨_, hn2, hnn⟩ := nod_app hn
  rw [List.map_cons, List.nodup_cons] at hn2
  have ne1 : ∀ x ∈ L1, x.1 ≠ n := fun x hx => hnn x hx (n, k) (by simp)
  have ne2 : ∀ x ∈ L2, x.1 ≠ n := fun x hx e => hn2.1 (List.mem_map.2 ⟨x, hx, e⟩)
  have la := fun hne => last_sg (l := l) r1 h1 hne (-1)
  have fb := fun hne => first_sg (l := l) r2 h2 hne (-1)
  rw [sg_with, sg_app]
  have m1 : ∀ x ∈ sg L1 l (pf l k), x ∈ L1 := fun x hx => sg_sub hx
  have m2 : ∀ x ∈ sg L2 l (pf l k), x ∈ L2 := fun x hx => sg_sub hx
  generalize sg L1 l (pf l k) = S1 at *
  generalize sg L2 l (pf l k) = S2 at *
  by_cases e1 : S1 = [] <;> by_cases e2 : S2 = []
  · subst e1 e2
    exact .inl ⟨rfl, rfl, rfl⟩
  · subst e1
    refine .inr (.inl ⟨by simpa using e2, rfl, ?_, fst' S2, ?_, ?_⟩)
    · rw [List.nil_append, lst_cons e2]
      obtain ⟨x, hx, e⟩ := lst_mem' e2
      rw [e]
      exact ne2 x (m2 x hx)
    · rw [← fb e2, fst_eq e2 (-1)]
    · rw [List.nil_append, List.nil_append, lst_cons e2]
      rfl
  · subst e2
    refine .inr (.inr (.inl ⟨by simpa using e1, ?_, ?_, lst' S1, ?_, ?_⟩))
    · rw [fst_app e1]
      obtain ⟨x, hx, e⟩ := fst_mem e1
      rw [e]
      exact ne1 x (m1 x hx)
    · rw [lst_snoc]
    · rw [← la e1, lst_eq e1 (-1)]
    · rw [List.append_nil, fst_app e1]
      rfl
  · refine .inr (.inr (.inr ⟨by simp [e1], ?_, ?_, ?_⟩))
    · rw [fst_app e1]
      obtain ⟨x, hx, e⟩ := fst_mem e1
      rw [e]
      exact ne1 x (m1 x hx)
    · rw [lst_app' (by simp), lst_cons e2]
      obtain ⟨x, hx, e⟩ := lst_mem' e2
      rw [e]
      exact ne2 x (m2 x hx)
    · unfold pk
      rw [fst_app e1, fst_app e1, lst_app' (by simp), lst_app' e2, lst_cons e2]
end
/-- How many prefixes of a key are there: all up to so many bits. -/
def sc (L : LL) (k : Nat) : Nat := ((List.range 65).takeWhile fun l => decide (sg L l (pf l k) ≠ [])).length
theorem sc_le (L : LL) (k : Nat) : sc L k ≤ 65 := by
  have := (List.takeWhile_prefix (p := fun l => decide (sg L l (pf l k) ≠ [])) (l := List.range 65)).length_le
  simpa [sc] using this
theorem sc_yes {L : LL} {k l : Nat} (h : l < sc L k) : sg L l (pf l k) ≠ [] := by
  have h1 := List.all_eq_true.1 (List.all_takeWhile (l := List.range 65) (p := fun l => decide (sg L l (pf l k) ≠ []))) _ (List.getElem_mem h)
  have e : ((List.range 65).takeWhile fun l => decide (sg L l (pf l k) ≠ []))[l]'h = l := by
    rw [(List.takeWhile_prefix _).getElem h]
    simp
  rw [e] at h1
  exact of_decide_eq_true h1
theorem take_no (ls : List Nat) (P : Nat → Bool) (h : (ls.takeWhile P).length < ls.length) : P (ls[(ls.takeWhile P).length]'h) = false := by
  induction ls with
  | nil => simp at h
  | cons x ls ih =>
    cases hx : P x with
    | true =>
      have e : (List.takeWhile P (x :: ls)).length = (ls.takeWhile P).length + 1 := by rw [List.takeWhile_cons_of_pos (by simpa using hx)]; rfl
      have h2 : (ls.takeWhile P).length < ls.length := by rw [e] at h; simpa using h
      have := ih h2
      simp only [e, List.getElem_cons_succ]
      exact this
    | false =>
      have e : (List.takeWhile P (x :: ls)).length = 0 := by rw [List.takeWhile_cons_of_neg (by simp [hx])]; rfl
      simp only [e, List.getElem_cons_zero]
      exact hx
theorem sc_at {L : LL} {k : Nat} (h : sc L k < 65) : sg L (sc L k) (pf (sc L k) k) = [] := by
  have h1 := take_no (List.range 65) (fun l => decide (sg L l (pf l k) ≠ [])) (by simpa [sc] using h)
  have h2 : (List.range 65)[((List.range 65).takeWhile fun l => decide (sg L l (pf l k) ≠ [])).length]'(by simpa [sc] using h) = sc L k := by simp [sc]
  rw [h2] at h1
  exact Classical.not_not.1 (of_decide_eq_false h1)
theorem sg_less {L : LL} {k l m : Nat} (hlm : l ≤ m) (hm : m ≤ 64) (h : sg L m (pf m k) ≠ []) : sg L l (pf l k) ≠ [] := by
  obtain ⟨x, hx⟩ := List.exists_mem_of_ne_nil _ h
  obtain ⟨h1, h2⟩ := mem_sg.1 hx
  exact List.ne_nil_of_mem (mem_sg.2 ⟨h1, pf_up hlm hm h2⟩)
theorem sc_no {L : LL} {k l : Nat} (h : sc L k ≤ l) (hl : l ≤ 64) : sg L l (pf l k) = [] := by
  rcases Classical.em (sg L l (pf l k) = []) with h1 | h1
  · exact h1
  · exact absurd (sc_at (L := L) (k := k) (by omega)) (sg_less h hl h1)
theorem sc_all {L : LL} {k : Nat} : sc L k = 65 ↔ ∃ x ∈ L, x.2 = k := by
  constructor
  · intro h
    have h1 := sc_yes (L := L) (k := k) (l := 64) (by omega)
    obtain ⟨x, hx⟩ := List.exists_mem_of_ne_nil _ h1
    obtain ⟨h2, h3⟩ := mem_sg.1 hx
    rw [pf_all, pf_all] at h3
    exact ⟨x, h2, h3⟩
  · rintro ⟨x, hx, e⟩
    rcases Nat.lt_or_ge (sc L k) 65 with h | h
    · have h1 := sc_no (L := L) (k := k) (l := 64) (by omega) (Nat.le_refl _)
      have h2 : x ∈ sg L 64 (pf 64 k) := mem_sg.2 ⟨hx, by rw [pf_all, pf_all, e]⟩
      rw [h1] at h2
      cases h2
    · have := sc_le L k
      omega
theorem sc_zero {L : LL} {k : Nat} (hL : ∀ x ∈ L, x.2 < 18446744073709551616) (hk : k < 18446744073709551616) : sc L k = 0 ↔ L = [] := by
  constructor
  · intro h
    rcases Classical.em (L = []) with h1 | h1
    · exact h1
    · exfalso
      obtain ⟨x, hx⟩ := List.exists_mem_of_ne_nil _ h1
      have h2 := sc_no (L := L) (k := k) (l := 0) (by omega) (by omega)
      have h3 : x ∈ sg L 0 (pf 0 k) := mem_sg.2 ⟨hx, by rw [pf_zero (hL x hx), pf_zero hk]⟩
      rw [h2] at h3
      cases h3
  · rintro rfl
    rcases Nat.eq_zero_or_pos (sc [] k) with h | h
    · exact h
    · exact absurd rfl (sc_yes h)
/-- What is used with a key more. -/
theorem xfs_add {xs : List Nat} {L : LL} (hL : L.map (·.2) = xs) (hu : K.Up xs) {k : Nat} (hx : ∀ x ∈ xs, x < 18446744073709551616) (hk : k < 18446744073709551616) (hno : k ∉ xs) : ∀ j, j ≤ 65 → K.xfs (K.add xs k) j = K.xfs xs j + 1 + (j - min j (sc L k))
  | 0, _ => by
    show (K.add xs k).length = xs.length + 1 + _
    rw [T.add_len' hu, if_neg hno]
    omega
  | j + 1, hj => by
    have ih := xfs_add hL hu hx hk hno j (by omega)
    show K.xfs (K.add xs k) j + K.kinds (K.add xs k) j = K.xfs xs j + K.kinds xs j + 1 + _
    rw [ih]
    have hkd : K.kinds (K.add xs k) j = K.kinds xs j + if j < sc L k then 0 else 1 := by
      rcases Nat.eq_zero_or_pos j with h0 | h0
      · subst h0
        rw [T.kinds_zero, T.kinds_zero, if_neg (T.add_ne_nil xs k)]
        have hz := sc_zero (L := L) (k := k) (fun x hm => hx _ (by rw [← hL]; exact List.mem_map.2 ⟨x, hm, rfl⟩)) hk
        by_cases h1 : xs = []
        · have : L = [] := by rw [h1] at hL; simpa using hL
          have := hz.2 this
          rw [if_pos h1, if_neg (by omega)]
        · have : ¬ sc L k = 0 := fun h => h1 (by have := hz.1 h; rw [this] at hL; exact hL.symm)
          rw [if_neg h1, if_pos (by omega)]
      · rw [T.kinds_add hu k h0]
        congr 1
        have hiff : (∃ x ∈ xs, x / 2 ^ (64 - j) = k / 2 ^ (64 - j)) ↔ j < sc L k := by
          constructor
          · rintro ⟨x, hm, e⟩
            rw [← hL] at hm
            obtain ⟨y, hy, rfl⟩ := List.mem_map.1 hm
            rcases Nat.lt_or_ge j (sc L k) with h | h
            · exact h
            · have h1 := sc_no (L := L) (k := k) h (by omega)
              have h2 : y ∈ sg L j (pf j k) := mem_sg.2 ⟨hy, e⟩
              rw [h1] at h2
              cases h2
          · intro h
            obtain ⟨y, hy⟩ := List.exists_mem_of_ne_nil _ (sc_yes h)
            obtain ⟨h1, h2⟩ := mem_sg.1 hy
            exact ⟨y.2, by rw [← hL]; exact List.mem_map.2 ⟨y, h1, rfl⟩, h2⟩
        by_cases h : j < sc L k
        · rw [if_pos h, if_pos (hiff.2 h)]
        · rw [if_neg h, if_neg (fun h2 => h (hiff.1 h2))]
    rw [hkd]
    by_cases h : j < sc L k
    · rw [if_pos h]; omega
    · rw [if_neg h]; omega
theorem xfast_add {xs : List Nat} {L : LL} (hL : L.map (·.2) = xs) (hu : K.Up xs) {k : Nat} (hx : ∀ x ∈ xs, x < 18446744073709551616) (hk : k < 18446744073709551616) (hno : k ∉ xs) : K.xfast (K.add xs k) = K.xfast xs + 1 + (65 - sc L k) := by
  have h1 := xfs_add hL hu hx hk hno 65 (Nat.le_refl _)
  have h2 := sc_le L k
  unfold K.xfast
  rw [h1]
  omega
end X
end Go.Proofs.YtelfacchhclgnaaGreat
end
