
/- A table is changed: Put; the text walked. -/
import Derived.Test.YtihhkdcgnnfkkaaHTab
namespace Go.Proofs.Ytihhkdcgnnfkkaa.Hs
set_option maxRecDepth 4000
open Go.RowKit
theorem Tb.setc {w : World} {P Q M seed c pr : Nat} {ps : List H.En} (a : Tb w P Q M seed c pr ps) (c' : Nat) : Tb (w.setCell ⟨P, 3, none⟩ (.int .i64 (c' : Int))) P Q M seed c' pr ps := by
  refine ⟨?_, ?_, a.pw, a.rng⟩
  · have := a.row
    unfold TRow at *
    have := set_heap this 3 (.int .i64 (c' : Int))
    simpa using this
  · exact (Below.heap_setCell w ⟨P, 3, none⟩ _ Q (fun e => a.ne e.symm)).trans a.pl
theorem Tb.storev {w : World} {P Q M seed c pr : Nat} {ps : List H.En} (a : Tb w P Q M seed c pr ps) (i : Nat) (hi : i < ps.length) (k : H.Key) (v : Nat) (hv : v < 18446744073709551616) (hk : (H.ge ps i).k = k) (ht : (H.ge ps i).t = true) :
    Tb (w.setCell ⟨Q, i * 4 + 2, none⟩ (.int .u64 (v : Int))) P Q M seed c pr (ps.set i ⟨k.1, k.2, v, true⟩) := by
  have hg := H.ge_get hi
  have he : (⟨ps[i].l, ps[i].p, v, ps[i].t⟩ : H.En) = ⟨k.1, k.2, v, true⟩ := by rw [← hg, ht, ← hk]
  refine ⟨by rw [List.length_set]; exact (Below.heap_setCell w ⟨Q, i * 4 + 2, none⟩ _ P a.ne).trans a.row, ?_, by rw [List.length_set]; exact a.pw, fun x hx => ?_⟩
  · have h := set_heap a.pl (i * 4 + 2) (.int .u64 (v : Int))
    rw [← he, ← ev_val ps i v hi]
    simpa using h
  · rcases List.mem_or_eq_of_mem_set hx with hx | rfl
    · exact a.rng x hx
    · have := a.rngg i hi
      rw [← hk]
      exact ⟨this.1, this.2.1, hv⟩
def PutP (w : World) (P Q M seed n : Nat) (es' : List (H.Key × Nat)) (cl : Nat) (b : Bool) (e : Ending) (w' : World) : Prop :=
  e = .returned (.bool b) ∧ TStep w P Q M seed n es' cl w'
set_option maxHeartbeats 1000000 in
theorem tab_put_yes (w : World) (P Q M seed n pr cl : Nat) (es r : List (H.Key × Nat)) (a : Tab w P Q M seed n es pr cl) (k : H.Key) (k1 : k.1 < 256) (v v0 : Nat) (hv : v < 18446744073709551616) (he : es.Perm ((k, v0) :: r)) :
    Calls Try.prog 32 #[.pointer (some ⟨P, 0, none⟩), .agg #[.int .u8 (k.1 : Int), .int .u64 (k.2 : Int)], .int .u64 (v : Int)] w (PutP w P Q M seed n ((k, v) :: r) cl false) := by
  replace a := a.perm he
  have hmem : (k, v0) ∈ (k, v0) :: r := List.mem_cons_self
  clear he
  obtain ⟨ps, t, p, h1, h2, h3, h4, h5, h6, h7, h8⟩ := a
  have hl8 := h1.len
  have HF := Lib.hid (H.tab_free h2 h4 h5 (by omega))
  have hne := tb_ne_m h1 h7
  have b0 : Below w.heap.size w (w.alloc (.cells #[.int .u8 (k.1 : Int), .int .u64 (k.2 : Int)] 66)) := (Below.refl _ w).alloc (Nat.le_refl _) _
  have kb : KB (w.alloc (.cells #[.int .u8 (k.1 : Int), .int .u64 (k.2 : Int)] 66)) w.heap.size k := alloc_topI _ _
  have kc0 := kb.c0
  have kc1 := kb.c1
  have hMl := h7.lt
  have t1 := h1.below b0 (Nat.le_refl _)
  have hfi := Lib.hid (t_find _ P Q M seed _ pr ps t1 k k1 (by rw [h2]; exact HF.out))
  have HM := Lib.hid (h7.below b0 hMl)
  have HB := Lib.hid b0
  have H2 := Lib.hid h2
  have H3 := Lib.hid h3
  have H4 := Lib.hid h4
  have H56 := Lib.hid (And.intro h5 h6)
  have H8 := Lib.hid h8
  have hmH := Lib.hid hmem
  clear h1 h2 h3 h4 h5 h6 h7 h8 b0 kb t1 HF hmem
  go_enter Try.func32, Try.ntmps32
  go_wp2_with (first
    | (go_at_call 36; (with_reducible refine hfi.out.mono ?_); rintro e w3 ⟨i, d, rfl, ht3, hs3, hk3, hb3⟩
       obtain ⟨hft, hfk, hfv⟩ := H.found_yes (by (rw [H2.out]; exact H3.out)) hs3 hk3 H4.out hmH.out
       have hil : i < ps.length := hs3.scan.lt
       obtain ⟨x0, x1, x2, x3⟩ := ht3.cellg i hil
       have f2 := ht3.qfr (i * 4 + 2)
       have q2 := ht3.row.c2
       rw [H2.out] at q2
       have hin : i < n := (by (rw [← H2.out]; exact hil))
       have HFK := Lib.hid hfk
       have HFV := Lib.hid hfv
       have T3 := Lib.hid ht3
       have S3 := Lib.hid hs3
       have B3 := Lib.hid hb3
       clear ht3 hs3 hk3 hb3 hfk hfv x0 x1 x3))
  go_ret
  have hpr := H.seek_probes (hmN_lt seed ps.length k (by omega)) S3.out
  rw [H2.out] at hpr
  have T4 := T3.out.storev i hil k v hv HFK.out hft
  have I4 := H.inv_over H3.out hin hft HFK.out v
  have hov := H.ents_over (⟨k.1, k.2, v, true⟩ : H.En) hil hft rfl
  rw [HFK.out, HFV.out] at hov
  have hp4 : (H.ents (ps.set i ⟨k.1, k.2, v, true⟩)).Perm ((k, v) :: r) := by
    have h1 := hov.trans (H4.out.cons _)
    exact List.Perm.cons_inv (h1.trans (List.Perm.swap _ _ _))
  have B4 := but_set' w3 Q (i * 4 + 2) (.int .u64 (v : Int)) (TF P Q M) (.inr (.inl rfl))
  refine ⟨rfl, Q, n, d + 1, ⟨_, t, p, T4, by rw [List.length_set]; exact H2.out, I4, hp4, H56.out.1, H56.out.2, (HM.out.but B3.out (Ne.symm hne.1)).but (but_set' w3 Q (i * 4 + 2) (.int .u64 (v : Int)) (· = Q) rfl) (Ne.symm hne.2), H8.out⟩, ?_, .inl rfl, by omega, hpr⟩
  exact ((ButS.of_below HB.out (Nat.le_refl _)).trans (B3.out.mono (fun j _ h => .inl h))).trans B4
/-- One entry more, at a free place behind its home. -/
theorem tab_put_end {w : World} {P Q M seed c pr n i d : Nat} {ts : List H.En} {es : List (H.Key × Nat)} {k : H.Key} {v cl t p : Nat} (T : Tb w P Q M seed c pr ts) (hl : ts.length = n) (I : H.Inv n (hmN seed n) ts) (hp : (H.ents ts).Perm es)
    (hm : Mt w M 0 cl 0 t p) (ht : t ≤ cl) (sc : H.Scan n (hmN seed n k) ts i d) (hf : (H.ge ts i).t = false) (hab : H.Absent ts k) (k1 : k.1 < 256) (k2 : k.2 < 18446744073709551616) (hv : v < 18446744073709551616)
    (hc : es.length = c) (h2 : 2 * (c + 1) ≤ n) (h8 : 8 < n → n < 8 * (c + 1)) :
    Tab ((put4 w Q i ⟨k.1, k.2, v, true⟩).drew.setCell ⟨P, 3, none⟩ (.int .i64 ((c + 1 : Nat) : Int))) P Q M seed n ((k, v) :: es) pr cl ∧ ButS w ((put4 w Q i ⟨k.1, k.2, v, true⟩).drew.setCell ⟨P, 3, none⟩ (.int .i64 ((c + 1 : Nat) : Int))) (fun x => x = P ∨ x = Q) := by
  have hil : i < ts.length := by rw [hl]; exact sc.lt
  have T2 := ((T.store i hil ⟨k.1, k.2, v, true⟩ ⟨k1, k2, hv⟩).drewN 1).setc (c + 1)
  have hne := tb_ne_m T hm
  have B2 : ButS w ((put4 w Q i ⟨k.1, k.2, v, true⟩).drew.setCell ⟨P, 3, none⟩ (.int .i64 ((c + 1 : Nat) : Int))) (fun x => x = P ∨ x = Q) :=
    ((put4_but w Q i ⟨k.1, k.2, v, true⟩ _ (.inr rfl)).drewN 1).trans (but_set' _ P 3 _ _ (.inl rfl))
  have hput := H.ents_put (⟨k.1, k.2, v, true⟩ : H.En) hil hf rfl
  refine ⟨⟨_, t, p, ?_, by rw [List.length_set]; exact hl, H.inv_put I (hmN_lt seed n k (by have := sc.lt; omega)) sc hab v, hput.trans (hp.cons _), ?_, ?_, hm.but B2 (fun h => by rcases h with h | h; exact hne.1 h.symm; exact hne.2 h.symm), ht⟩, B2⟩
  · rw [List.length_cons, hc]; exact T2
  · rw [List.length_cons, hc]; exact h2
  · rw [List.length_cons, hc]; exact h8
set_option maxHeartbeats 2000000 in
theorem tab_put_no (w : World) (P Q M seed n pr cl : Nat) (es : List (H.Key × Nat)) (a : Tab w P Q M seed n es pr cl) (k : H.Key) (k1 : k.1 < 256) (k2 : k.2 < 18446744073709551616) (v : Nat) (hv : v < 18446744073709551616) (he : ∀ x ∈ es, x.1 ≠ k) (hes : es.length < 1000000) :
    Calls Try.prog 32 #[.pointer (some ⟨P, 0, none⟩), .agg #[.int .u8 (k.1 : Int), .int .u64 (k.2 : Int)], .int .u64 (v : Int)] w (PutP w P Q M seed n ((k, v) :: es) cl true) := by
  obtain ⟨ps, t, p, h1, h2, h3, h4, h5, h6, h7, h8⟩ := a
  have hl8 := h1.len
  obtain ⟨q, hq, hq3, hqn⟩ := h1.pw
  have HF := Lib.hid (H.tab_free h2 h4 h5 (by omega))
  have hne := tb_ne_m h1 h7
  have hPl := h1.row.lt
  have hQl := h1.qlt
  have hPQ := h1.ne
  have b0 : Below w.heap.size w (w.alloc (.cells #[.int .u8 (k.1 : Int), .int .u64 (k.2 : Int)] 66)) := (Below.refl _ w).alloc (Nat.le_refl _) _
  have kb : KB (w.alloc (.cells #[.int .u8 (k.1 : Int), .int .u64 (k.2 : Int)] 66)) w.heap.size k := alloc_topI _ _
  have kc0 := kb.c0
  have kc1 := kb.c1
  have hMl := h7.lt
  have t1 := h1.below b0 (Nat.le_refl _)
  have hfi := Lib.hid (t_find _ P Q M seed _ pr ps t1 k k1 (by rw [h2]; exact HF.out))
  have HM := Lib.hid (h7.below b0 hMl)
  have HB := Lib.hid b0
  have HK := Lib.hid kb
  have H2 := Lib.hid h2
  have H3 := Lib.hid h3
  have H4 := Lib.hid h4
  have h5' := h5
  have H56 := Lib.hid (And.intro h5 h6)
  have H8 := Lib.hid h8
  have hmH := Lib.hid he
  have hqN := Lib.hid hqn
  have hn30 : n ≤ 8000008 := by omega
  have hn8 : 8 ≤ n := by omega
  clear h1 h2 h3 h4 h5 h6 h7 h8 b0 kb t1 HF he hqn
  generalize hcl : es.length = c at *
  have HC := Lib.hid hcl
  clear hcl
  have wc : IntKind.i64.wrap ((c : Int) + 1) = (c : Int) + 1 := IntWalk.i64_in _ (by omega)
  have wc2 : IntKind.i64.wrap (2 * ((c : Int) + 1)) = 2 * ((c : Int) + 1) := IntWalk.i64_in _ (by omega)
  by_cases hgr : n < 2 * (c + 1)
  · have d1 : decide ((n : Int) < 2 * ((c : Int) + 1)) = true := decide_eq_true (by omega)
    have hpw : 2 * n = 2 ^ (q + 1) := by rw [Nat.pow_succ, ← hqN.out, H2.out]; omega
    have hq30 : q + 1 ≤ 40 := by
      rcases Nat.lt_or_ge q 39 with h | h
      · omega
      · exfalso
        have : 2 ^ 39 ≤ 2 ^ q := Nat.pow_le_pow_right (by decide) h
        rw [← hqN.out, H2.out] at this
        omega
    have hmv := fun w0 pr0 (a : Tb w0 P Q M seed c pr0 ps) => Lib.hid (t_move w0 P Q M seed c pr0 ps a (by rw [H2.out]; exact H3.out) (2 * n) (q + 1) hpw hq30 (by omega) (by rw [H4.out.length_eq, HC.out]; omega))
    have hsz : ((2 * n : Nat) : Int) = 2 * (n : Int) := by omega
    rw [hsz] at hmv
    clear hsz
    have HPW := Lib.hid hpw
    clear hpw
    have wn2 : IntKind.i64.wrap (2 * (n : Int)) = 2 * (n : Int) := IntWalk.i64_in _ (by omega)
    go_enter Try.func32, Try.ntmps32
    go_wp2_with (first
      | (go_at_call 36; (with_reducible refine hfi.out.mono ?_); rintro e w3 ⟨i, d, rfl, ht3, hs3, hk3, hb3⟩
         have hft := H.found_no H2.out (by (have := hs3.scan.lt; rw [H2.out] at this; exact this)) hk3 H4.out hmH.out
         have q2 := ht3.row.c2
         have q3 := ht3.row.c3
         rw [H2.out] at q2
         have HAb := Lib.hid (H.seek_absent (by (rw [H2.out]; exact H3.out)) hs3 hft)
         have T3 := Lib.hid ht3
         have S3 := Lib.hid hs3
         have B3 := Lib.hid hb3
         have hK3 := HK.out.but hb3 (by omega)
         have K3 := Lib.hid hK3
         clear ht3 hs3 hk3 hb3 hK3))
    go_quiet (fail)
    go_wp2_with (first
      | (go_at_call 38; (with_reducible refine (hmv _ _ (T3.out.drewN _)).out.mono ?_); rintro e w4 ⟨ts, Q4, rfl, ht4, hl4, hi4, hp4, hQ4, hb4⟩
         have K4 := Lib.hid (KB.but (w := w3.drewN nq) K3.out hb4 (by omega))
         have kd0 := K4.out.c0
         have kd1 := K4.out.c1
         have T4 := Lib.hid ht4
         have L4 := Lib.hid hl4
         have I4 := Lib.hid hi4
         have P4 := Lib.hid hp4
         have B4 := Lib.hid hb4
         have hfr := Lib.hid (t_free w4 P Q4 M seed c _ ts ht4 k k1 (H.tab_free (es := H.ents ts) rfl (List.Perm.refl _) (by (rw [hp4.length_eq, H4.out.length_eq, HC.out, hl4]; omega)) (by omega)))
         clear ht4 hl4 hi4 hp4 hb4)
      | (go_at_call 43; (with_reducible refine hfr.out.mono ?_); rintro e w5 ⟨i5, d5, rfl, sc5, hf5, hb5⟩
         have T5 := Lib.hid (T4.out.below hb5 (Nat.le_refl _))
         have B5 := Lib.hid hb5
         obtain ⟨m0, m1, m2, m3⟩ := T5.out.cellg i5 sc5.lt
         have n0 := T5.out.qfr (i5 * 4)
         have n1 := T5.out.qfr (i5 * 4 + 1)
         have n2 := T5.out.qfr (i5 * 4 + 2)
         have n3 := T5.out.qfr (i5 * 4 + 3)
         have u2 := T5.out.row.c2
         have u3 := T5.out.row.c3
         have v3 := T5.out.row.fr 3
         rw [L4.out] at u2
         have hi5 : i5 < 2 * n := (by (rw [← L4.out]; exact sc5.lt))
         have hPQ5 := T5.out.ne
         have hK5 : KB w5 w.heap.size k := (hb5.block _ K4.out.lt).trans K4.out
         have ke0 := hK5.c0
         have ke1 := hK5.c1
         have SC5 := Lib.hid sc5
         clear hb5 sc5 hK5 kd0 kd1))
    go_region
    go_wp2
    go_ret
    have hM3 := HM.out.but B3.out (Ne.symm hne.1)
    have hM4 : Mt w4 M 0 cl 0 t p := Mt.but (w := w3.drewN nq) hM3 B4.out (Ne.symm hne.1)
    have hM5 := hM4.below B5.out hM4.lt
    have hAb4 : H.Absent ts k := by
      rw [H.absent_iff]
      intro x hx
      exact hmH.out x (H4.out.mem_iff.1 (P4.out.mem_iff.1 hx))
    have sc := SC5.out
    rw [L4.out] at sc
    have hend := tab_put_end T5.out L4.out I4.out (P4.out.trans H4.out) hM5 H8.out sc hf5 hAb4 k1 k2 hv HC.out (by omega) (by omega)
    have hpr := H.seek_probes (hmN_lt seed ps.length k (by omega)) S3.out
    rw [H2.out] at hpr
    have hBB : ButS w w5 (TF P Q M) := ((ButS.of_below HB.out (Nat.le_refl _)).trans (((B3.out.drewN nq).trans B4.out).mono (fun j _ h => .inl h))).trans (ButS.of_below B5.out (Nat.le_refl _))
    refine ⟨rfl, Q4, 2 * n, d + 1, hend.1, hBB.then hend.2 (fun j hj => ?_), ?_, by omega, hpr⟩
    · rcases hj with h | h
      · exact .inl (.inl h)
      · right
        have h1 : w3.heap.size ≤ Q4 := hQ4
        have h2 := B3.out.size
        have h3 := HB.out.size
        omega
    · right
      have h1 : w3.heap.size ≤ Q4 := hQ4
      have h2 := B3.out.size
      have h3 := HB.out.size
      omega
  · have d1 : decide ((n : Int) < 2 * ((c : Int) + 1)) = false := decide_eq_false (by omega)
    go_enter Try.func32, Try.ntmps32
    go_wp2_with (first
      | (go_at_call 36; (with_reducible refine hfi.out.mono ?_); rintro e w3 ⟨i, d, rfl, ht3, hs3, hk3, hb3⟩
         have hft := H.found_no H2.out (by (have := hs3.scan.lt; rw [H2.out] at this; exact this)) hk3 H4.out hmH.out
         have q2 := ht3.row.c2
         have q3 := ht3.row.c3
         have v3 := ht3.row.fr 3
         rw [H2.out] at q2
         obtain ⟨m0, m1, m2, m3⟩ := ht3.cellg i hs3.scan.lt
         have n0 := ht3.qfr (i * 4)
         have n1 := ht3.qfr (i * 4 + 1)
         have n2 := ht3.qfr (i * 4 + 2)
         have n3 := ht3.qfr (i * 4 + 3)
         have hin : i < n := (by (have := hs3.scan.lt; rw [H2.out] at this; exact this))
         have HAb := Lib.hid (H.seek_absent (by (rw [H2.out]; exact H3.out)) hs3 hft)
         have hK3 := HK.out.but hb3 (by omega)
         have ke0 := hK3.c0
         have ke1 := hK3.c1
         have T3 := Lib.hid ht3
         have S3 := Lib.hid hs3
         have B3 := Lib.hid hb3
         clear ht3 hs3 hk3 hb3 hK3 kc0 kc1))
    go_quiet (fail)
    go_wp2
    go_region
    go_wp2
    go_ret
    have hM3 := HM.out.but B3.out (Ne.symm hne.1)
    have hM4 : Mt (w3.drewN nq) M 0 cl 0 t p := hM3
    have sc := S3.out.scan
    rw [H2.out] at sc
    have hend := tab_put_end (T3.out.drewN nq) H2.out H3.out H4.out hM4 H8.out sc hft HAb.out k1 k2 hv HC.out (by omega) (fun h => by have := H56.out.2 h; omega)
    have hpr := H.seek_probes (hmN_lt seed ps.length k (by omega)) S3.out
    rw [H2.out] at hpr
    have hBB : ButS w (w3.drewN nq) (TF P Q M) := ((ButS.of_below HB.out (Nat.le_refl _)).trans ((B3.out.drewN nq).mono (fun j _ h => .inl h)))
    refine ⟨rfl, Q, n, d + 1, hend.1, hBB.trans (hend.2.mono (fun j _ hj => ?_)), .inl rfl, by omega, hpr⟩
    rcases hj with h | h
    · exact .inl h
    · exact .inr (.inl h)
end Go.Proofs.Ytihhkdcgnnfkkaa.Hs
