
/- A table whole: what it keeps, told as a list of entries; Get; the text walked. -/
import Derived.Test.YtihhkdcgnnfkkaaHObj4
namespace Go.Proofs.Ytihhkdcgnnfkkaa.Hs
set_option maxRecDepth 4000
open Go.RowKit
namespace H
theorem found_yes {n : Nat} {hm : Key → Nat} {ps : List En} {k : Key} {v i d : Nat} {es : List (Key × Nat)} (I : Inv n hm ps) (s : Seek n hm ps k i d) (hk : (ge ps i).t = true → (ge ps i).k = k) (hp : (ents ps).Perm es) (hm : (k, v) ∈ es) :
    (ge ps i).t = true ∧ (ge ps i).k = k ∧ (ge ps i).v = v := by
  obtain ⟨j, hj, hjt, he⟩ := ents_mem.1 (hp.mem_iff.2 hm)
  have e1 : (ge ps j).k = k := (Prod.mk.inj he).1
  have e2 : (ge ps j).v = v := (Prod.mk.inj he).2
  cases ht : (ge ps i).t with
  | false => exact absurd e1 (seek_absent I s ht j hj hjt)
  | true =>
    have hj' : j < n := by rw [← I.len]; exact hj
    have := I.key i j s.scan.lt hj' ht hjt ((hk ht).trans e1.symm)
    subst this
    exact ⟨rfl, e1, e2⟩
theorem found_no {n : Nat} {ps : List En} {k : Key} {i : Nat} {es : List (Key × Nat)} (hl : ps.length = n) (hi : i < n) (hk : (ge ps i).t = true → (ge ps i).k = k) (hp : (ents ps).Perm es) (hm : ∀ x ∈ es, x.1 ≠ k) :
    (ge ps i).t = false := by
  cases ht : (ge ps i).t with
  | false => rfl
  | true => exact absurd (hk ht) (hm _ (hp.mem_iff.1 (ents_mem.2 ⟨i, by rw [hl]; exact hi, ht, rfl⟩)))
theorem tab_free {n : Nat} {ps : List En} {es : List (Key × Nat)} (hl : ps.length = n) (hp : (ents ps).Perm es) (h2 : 2 * es.length ≤ n) (h8 : 8 ≤ n) : ∃ f, f < n ∧ (ge ps f).t = false := by
  have := hp.length_eq
  obtain ⟨f, hf, ht⟩ := free_of (ps := ps) (by omega)
  exact ⟨f, by omega, ht⟩
theorem seek_probes {n : Nat} {hm : Key → Nat} {ps : List En} {k : Key} {i d : Nat} (hh : hm k < n) (s : Seek n hm ps k i d) : d + 1 ≤ n := by
  have := wy_lt hh s.scan.lt
  rw [s.scan.way] at this; omega
end H
/-- A table: its entries es, n places, its meter's calls cl. -/
def Tab (w : World) (P Q M seed n : Nat) (es : List (H.Key × Nat)) (pr cl : Nat) : Prop :=
  ∃ (ps : List H.En) (t p : Nat), Tb w P Q M seed es.length pr ps ∧ ps.length = n ∧ H.Inv n (hmN seed n) ps ∧ (H.ents ps).Perm es ∧ 2 * es.length ≤ n ∧ (8 < n → n < 8 * es.length) ∧ Mt w M 0 cl 0 t p ∧ t ≤ cl
/-- The blocks of a table. -/
def TF (P Q M j : Nat) : Prop := j = P ∨ j = Q ∨ j = M
theorem tb_ne_m {w : World} {P Q M seed c pr r cl s t p : Nat} {ps : List H.En} (a : Tb w P Q M seed c pr ps) (m : Mt w M r cl s t p) : P ≠ M ∧ Q ≠ M := by
  obtain ⟨_, _, _, _, _, m⟩ := m
  constructor
  · rintro rfl
    have h1 := a.row
    unfold TRow at h1
    exact row_ne h1 m (by decide) rfl
  · rintro rfl
    exact row_ne a.pl m (by decide) rfl
theorem Mt.but {w w' : World} {g r c s t p : Nat} {S : Nat → Prop} (h : Mt w g r c s t p) (hb : ButS w w' S) (hs : ¬ S g) : Mt w' g r c s t p := by
  have hl := h.lt
  obtain ⟨a1, a2, a3, a4, a5, h⟩ := h
  exact ⟨a1, a2, a3, a4, a5, (hb.block g hl hs).trans h⟩
theorem Tab.but {w w' : World} {P Q M seed n pr cl : Nat} {es : List (H.Key × Nat)} {S : Nat → Prop} (a : Tab w P Q M seed n es pr cl) (hb : ButS w w' S) (hs : ∀ j, TF P Q M j → ¬ S j) : Tab w' P Q M seed n es pr cl := by
  obtain ⟨ps, t, p, h1, h2, h3, h4, h5, h6, h7, h8⟩ := a
  exact ⟨ps, t, p, h1.but hb (hs _ (.inl rfl)) (hs _ (.inr (.inl rfl))), h2, h3, h4, h5, h6, h7.but hb (hs _ (.inr (.inr rfl))), h8⟩
theorem Tab.perm {w : World} {P Q M seed n pr cl : Nat} {es es' : List (H.Key × Nat)} (a : Tab w P Q M seed n es pr cl) (h : es.Perm es') : Tab w P Q M seed n es' pr cl := by
  obtain ⟨ps, t, p, h1, h2, h3, h4, h5, h6, h7, h8⟩ := a
  have hl := h.length_eq
  rw [hl] at h1 h5 h6
  exact ⟨ps, t, p, h1, h2, h3, h4.trans h, h5, h6, h7, h8⟩
theorem Tab.any {w : World} {P Q M seed n pr cl : Nat} {es : List (H.Key × Nat)} (a : Tab w P Q M seed n es pr cl) (cl' : Nat) : Tab w P Q M seed n es pr cl' := by
  obtain ⟨ps, t, p, h1, h2, h3, h4, h5, h6, h7, _⟩ := a
  exact ⟨ps, 0, p, h1, h2, h3, h4, h5, h6, h7.any, Nat.zero_le _⟩
/-- What a call leaves of a table. -/
def TStep (w : World) (P Q M seed n : Nat) (es' : List (H.Key × Nat)) (cl' : Nat) (w' : World) : Prop :=
  ∃ Q' n' pr', Tab w' P Q' M seed n' es' pr' cl' ∧ ButS w w' (TF P Q M) ∧ (Q' = Q ∨ w.heap.size ≤ Q') ∧ 1 ≤ pr' ∧ pr' ≤ n
def GotP (w : World) (P Q M seed n : Nat) (es : List (H.Key × Nat)) (cl v : Nat) (b : Bool) (e : Ending) (w' : World) : Prop :=
  e = .returned (.tuple #[.int .u64 (v : Int), .bool b]) ∧ TStep w P Q M seed n es (cl + 1) w'
set_option maxHeartbeats 1000000 in
theorem tab_get (w : World) (P Q M seed n pr cl : Nat) (es : List (H.Key × Nat)) (a : Tab w P Q M seed n es pr cl) (k : H.Key) (k1 : k.1 < 256) (hc : cl < 1000000) (v : Nat) (b : Bool) (hv : (b = true ∧ (k, v) ∈ es) ∨ (b = false ∧ v = 0 ∧ ∀ x ∈ es, x.1 ≠ k)) :
    Calls Try.prog 35 #[.pointer (some ⟨P, 0, none⟩), .agg #[.int .u8 (k.1 : Int), .int .u64 (k.2 : Int)]] w (GotP w P Q M seed n es cl v b) := by
  obtain ⟨ps, t, p, h1, h2, h3, h4, h5, h6, h7, h8⟩ := a
  have hl8 := h1.len
  have HF := Lib.hid (H.tab_free h2 h4 h5 (by omega))
  have hne := tb_ne_m h1 h7
  have b0 : Below w.heap.size w (w.alloc (.cells #[.int .u8 (k.1 : Int), .int .u64 (k.2 : Int)] 66)) := (Below.refl _ w).alloc (Nat.le_refl _) _
  have kb : KB (w.alloc (.cells #[.int .u8 (k.1 : Int), .int .u64 (k.2 : Int)] 66)) w.heap.size k := alloc_topI _ _
  have hMl := h7.lt
  have m1 := h7.below b0 hMl
  have t1 := h1.below b0 (Nat.le_refl _)
  have hmc := Lib.hid (m_call _ M 0 cl 0 t p m1 hc (by omega))
  have hc0 := t1.row.c0
  have hfi := fun w0 (a : Tb w0 P Q M seed es.length pr ps) => Lib.hid (t_find w0 P Q M seed es.length pr ps a k k1 (by rw [h2]; exact HF.out))
  have H1 := Lib.hid t1
  have HK := Lib.hid kb
  have HB := Lib.hid b0
  have H2 := Lib.hid h2
  have H3 := Lib.hid h3
  have H4 := Lib.hid h4
  have H56 := Lib.hid (And.intro h5 h6)
  have HV := Lib.hid hv
  have H8 := Lib.hid h8
  clear h1 h2 h3 h4 h5 h6 h7 h8 b0 kb m1 t1 hv HF
  rcases HV.out with ⟨rfl, hv⟩ | ⟨rfl, rfl, hv⟩
  · have hvH := Lib.hid hv
    clear hv
    go_enter Try.func35, Try.ntmps35
    go_wp2_with (first
      | (go_at_call 44; (with_reducible refine hmc.out.mono ?_); rintro e w2 ⟨rfl, hm2, hg2⟩
         have bM := ButS.of_grown (S := (· = M)) hg2 (fun j e => by cases e; rfl)
         have T2 := Lib.hid (H1.out.but bM hne.1 hne.2)
         have hK2 := HK.out.but bM (by omega)
         have kc0 := hK2.c0
         have kc1 := hK2.c1
         have HM2 := Lib.hid hm2
         have HB2 := Lib.hid bM
         clear hm2 hg2 bM hK2)
      | (go_at_call 36; (with_reducible refine (hfi _ T2.out).out.mono ?_); rintro e w3 ⟨i, d, rfl, ht3, hs3, hk3, hb3⟩
         have hfd := H.found_yes (by (rw [H2.out]; exact H3.out)) hs3 hk3 H4.out hvH.out
         have hil : i < ps.length := (by (rw [H2.out]; have := hs3.scan.lt; rw [H2.out] at this; exact this))
         obtain ⟨x0, x1, x2, x3⟩ := ht3.cellg i hil
         have q2 := ht3.row.c2
         rw [H2.out] at q2 hil
         obtain ⟨hft, hfk, hfv⟩ := hfd; rw [hfv] at x2; clear x0 x1 x3 hfk hfv
         have T3 := Lib.hid ht3
         have S3 := Lib.hid hs3
         have B3 := Lib.hid hb3
         clear ht3 hs3 hk3 hb3
         clear kc0 kc1))
    go_ret2
    have hpr := H.seek_probes (hmN_lt seed ps.length k (by omega)) S3.out
    rw [H2.out] at hpr
    refine ⟨rfl, Q, n, d + 1, ⟨ps, t + 1, _, T3.out, H2.out, H3.out, H4.out, H56.out.1, H56.out.2, HM2.out.but B3.out (Ne.symm hne.1), by have := H8.out; omega⟩, ?_, .inl rfl, by omega, hpr⟩
    exact ((ButS.of_below HB.out (Nat.le_refl _)).trans (HB2.out.mono (fun j _ h => .inr (.inr h)))).trans (B3.out.mono (fun j _ h => .inl h))

  · have hvH := Lib.hid hv
    clear hv
    go_enter Try.func35, Try.ntmps35
    go_wp2_with (first
      | (go_at_call 44; (with_reducible refine hmc.out.mono ?_); rintro e w2 ⟨rfl, hm2, hg2⟩
         have bM := ButS.of_grown (S := (· = M)) hg2 (fun j e => by cases e; rfl)
         have T2 := Lib.hid (H1.out.but bM hne.1 hne.2)
         have hK2 := HK.out.but bM (by omega)
         have kc0 := hK2.c0
         have kc1 := hK2.c1
         have HM2 := Lib.hid hm2
         have HB2 := Lib.hid bM
         clear hm2 hg2 bM hK2)
      | (go_at_call 36; (with_reducible refine (hfi _ T2.out).out.mono ?_); rintro e w3 ⟨i, d, rfl, ht3, hs3, hk3, hb3⟩
         have hfd := H.found_no H2.out (by (have := hs3.scan.lt; rw [H2.out] at this; exact this)) hk3 H4.out hvH.out
         have hil : i < ps.length := (by (rw [H2.out]; have := hs3.scan.lt; rw [H2.out] at this; exact this))
         obtain ⟨x0, x1, x2, x3⟩ := ht3.cellg i hil
         have q2 := ht3.row.c2
         rw [H2.out] at q2 hil
         clear x0 x1 x2 x3
         have T3 := Lib.hid ht3
         have S3 := Lib.hid hs3
         have B3 := Lib.hid hb3
         clear ht3 hs3 hk3 hb3
         clear kc0 kc1))
    go_ret2
    have hpr := H.seek_probes (hmN_lt seed ps.length k (by omega)) S3.out
    rw [H2.out] at hpr
    refine ⟨rfl, Q, n, d + 1, ⟨ps, t + 1, _, T3.out, H2.out, H3.out, H4.out, H56.out.1, H56.out.2, HM2.out.but B3.out (Ne.symm hne.1), by have := H8.out; omega⟩, ?_, .inl rfl, by omega, hpr⟩
    exact ((ButS.of_below HB.out (Nat.le_refl _)).trans (HB2.out.mono (fun j _ h => .inr (.inr h)))).trans (B3.out.mono (fun j _ h => .inl h))

end Go.Proofs.Ytihhkdcgnnfkkaa.Hs
