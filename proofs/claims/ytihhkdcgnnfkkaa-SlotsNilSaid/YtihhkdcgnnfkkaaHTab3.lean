
/- A table is changed: Drop; the text walked. -/
import Derived.Test.YtihhkdcgnnfkkaaHTab2
namespace Go.Proofs.Ytihhkdcgnnfkkaa.Hs
set_option maxRecDepth 4000
open Go.RowKit
set_option maxHeartbeats 1000000 in
theorem tab_drop_no (w : World) (P Q M seed n pr cl : Nat) (es : List (H.Key × Nat)) (a : Tab w P Q M seed n es pr cl) (k : H.Key) (k1 : k.1 < 256) (he : ∀ x ∈ es, x.1 ≠ k) :
    Calls Try.prog 24 #[.pointer (some ⟨P, 0, none⟩), .agg #[.int .u8 (k.1 : Int), .int .u64 (k.2 : Int)]] w (PutP w P Q M seed n es cl false) := by
  obtain ⟨ps, t, p, h1, h2, h3, h4, h5, h6, h7, h8⟩ := a
  have hl8 := h1.len
  have HF := Lib.hid (H.tab_free h2 h4 h5 (by omega))
  have hne := tb_ne_m h1 h7
  have b0 : Below w.heap.size w (w.alloc (.cells #[.int .u8 (k.1 : Int), .int .u64 (k.2 : Int)] 66)) := (Below.refl _ w).alloc (Nat.le_refl _) _
  have kb : KB (w.alloc (.cells #[.int .u8 (k.1 : Int), .int .u64 (k.2 : Int)] 66)) w.heap.size k := alloc_topI _ _
  have kc0 := kb.c0
  have kc1 := kb.c1
  have hMl := h7.lt
  have t1 := h1.below b0 (Nat.le_refl _)
  have hfi := Lib.hid (t_find _ P Q M seed _ pr ps t1 k k1 (by rw [h2]; exact HF.out))
  have HM := Lib.hid (h7.below b0 hMl)
  have HB := Lib.hid b0
  have H2 := Lib.hid h2
  have H3 := Lib.hid h3
  have H4 := Lib.hid h4
  have H56 := Lib.hid (And.intro h5 h6)
  have H8 := Lib.hid h8
  have hmH := Lib.hid he
  clear h1 h2 h3 h4 h5 h6 h7 h8 b0 kb t1 HF he
  go_enter Try.func24, Try.ntmps24
  go_wp2_with (first
    | (go_at_call 36; (with_reducible refine hfi.out.mono ?_); rintro e w3 ⟨i, d, rfl, ht3, hs3, hk3, hb3⟩
       have hft := H.found_no H2.out (by (have := hs3.scan.lt; rw [H2.out] at this; exact this)) hk3 H4.out hmH.out
       have T3 := Lib.hid ht3
       have S3 := Lib.hid hs3
       have B3 := Lib.hid hb3
       clear ht3 hs3 hk3 hb3))
  go_ret
  have hpr := H.seek_probes (hmN_lt seed ps.length k (by omega)) S3.out
  rw [H2.out] at hpr
  refine ⟨rfl, Q, n, d + 1, ⟨_, t, p, T3.out, H2.out, H3.out, H4.out, H56.out.1, H56.out.2, HM.out.but B3.out (Ne.symm hne.1), H8.out⟩, ?_, .inl rfl, by omega, hpr⟩
  exact (ButS.of_below HB.out (Nat.le_refl _)).trans (B3.out.mono (fun j _ h => .inl h))
set_option maxHeartbeats 2000000 in
theorem tab_drop_yes (w : World) (P Q M seed n pr cl : Nat) (es r : List (H.Key × Nat)) (a : Tab w P Q M seed n es pr cl) (k : H.Key) (k1 : k.1 < 256) (v0 : Nat) (he : es.Perm ((k, v0) :: r)) (hes : r.length < 1000000) :
    Calls Try.prog 24 #[.pointer (some ⟨P, 0, none⟩), .agg #[.int .u8 (k.1 : Int), .int .u64 (k.2 : Int)]] w (PutP w P Q M seed n r cl true) := by
  replace a := a.perm he
  have hmem : (k, v0) ∈ (k, v0) :: r := List.mem_cons_self
  clear he
  obtain ⟨ps, t, p, h1, h2, h3, h4, h5, h6, h7, h8⟩ := a
  rw [List.length_cons] at h1 h5 h6
  have hl8 := h1.len
  obtain ⟨q, hq, hq3, hqn⟩ := h1.pw
  have HF := Lib.hid (H.tab_free h2 h4 (by rw [List.length_cons]; exact h5) (by omega))
  have hne := tb_ne_m h1 h7
  have hPl := h1.row.lt
  have hQl := h1.qlt
  have hPQ := h1.ne
  have b0 : Below w.heap.size w (w.alloc (.cells #[.int .u8 (k.1 : Int), .int .u64 (k.2 : Int)] 66)) := (Below.refl _ w).alloc (Nat.le_refl _) _
  have kb : KB (w.alloc (.cells #[.int .u8 (k.1 : Int), .int .u64 (k.2 : Int)] 66)) w.heap.size k := alloc_topI _ _
  have kc0 := kb.c0
  have kc1 := kb.c1
  have hMl := h7.lt
  have t1 := h1.below b0 (Nat.le_refl _)
  have hfi := Lib.hid (t_find _ P Q M seed _ pr ps t1 k k1 (by rw [h2]; exact HF.out))
  have HM := Lib.hid (h7.below b0 hMl)
  have HB := Lib.hid b0
  have H2 := Lib.hid h2
  have H3 := Lib.hid h3
  have H4 := Lib.hid h4
  have h5' := h5
  have H56 := Lib.hid (And.intro h5 h6)
  have H8 := Lib.hid h8
  have hmH := Lib.hid hmem
  have hqN := Lib.hid hqn
  have hn30 : n ≤ 8000008 := by omega
  have hn8 : 8 ≤ n := by omega
  clear h1 h2 h3 h4 h5 h6 h7 h8 b0 kb t1 hqn hmem
  generalize hcl : r.length = c at *
  have HC := Lib.hid hcl
  clear hcl
  have wc : IntKind.i64.wrap (8 * (c : Int)) = 8 * (c : Int) := IntWalk.i64_in _ (by omega)
  go_enter Try.func24, Try.ntmps24
  go_wp2_with (first
    | (go_at_call 36; (with_reducible refine hfi.out.mono ?_); rintro e w3 ⟨i, d, rfl, ht3, hs3, hk3, hb3⟩
       obtain ⟨hft, hfk, hfv⟩ := H.found_yes (by (rw [H2.out]; exact H3.out)) hs3 hk3 H4.out hmH.out
       have hdp := hs3.scan.lt
       have hdl := H.wy_lt (hmN_lt seed ps.length k (by omega)) hdp
       rw [hs3.scan.way] at hdl
       have hcg := Lib.hid (t_close w3 P Q M seed (c + 1) (d + 1) ps ht3 (by (rw [H2.out]; exact H3.out)) i hs3.scan.lt hft (by (rw [H2.out]; exact HF.out)) (by omega))
       have HFK := Lib.hid hfk
       have HFV := Lib.hid hfv
       have T3 := Lib.hid ht3
       have S3 := Lib.hid hs3
       have B3 := Lib.hid hb3
       clear ht3 hs3 hk3 hb3 hfk hfv)
    | (go_at_call 37; (with_reducible refine hcg.out.mono ?_); rintro e w4 ⟨qs, j, rfl, ht4, hi4, hp4, hpr4, hb4⟩
       have u2 := ht4.row.c2
       have u3 := ht4.row.c3
       have f3 := ht4.row.fr 3
       have hl4 : qs.length = n := (by (rw [hi4.len]; exact H2.out))
       rw [hl4] at u2
       have T4 := Lib.hid ht4
       have I4 := Lib.hid hi4
       have P4 := Lib.hid hp4
       have R4 := Lib.hid hpr4
       have B4 := Lib.hid hb4
       have L4 := Lib.hid hl4
       clear ht4 hi4 hp4 hpr4 hb4 hl4))
  have hwi := H.ents_wipe H.z hdp hft rfl
  rw [HFK.out, HFV.out] at hwi
  have hr : (H.ents qs).Perm r := P4.out.trans (List.Perm.cons_inv (hwi.trans H4.out))
  have HR := Lib.hid hr
  have T5 := Lib.hid (T4.out.setc c)
  have I5 : H.Inv n (hmN seed n) qs := by have := I4.out; rw [H2.out] at this; exact this
  have HI5 := Lib.hid I5
  have hpr : d + 1 + j + 1 ≤ n := by
    have := R4.out _ d (hmN_lt seed ps.length k (by omega)) S3.out.scan
    rw [H2.out] at this; omega
  have hM4 := Lib.hid ((HM.out.but B3.out (Ne.symm hne.1)).but B4.out (fun h => by rcases h with h | h; exact hne.1 h.symm; exact hne.2 h.symm))
  have hB4 := Lib.hid (((ButS.of_below HB.out (Nat.le_refl _)).trans (B3.out.mono (T := TF P Q M) (fun j _ h => .inl h))).trans (B4.out.mono (fun j _ h => by rcases h with h | h; exact .inl h; exact .inr (.inl h))))
  have hB5 := Lib.hid (hB4.out.trans (but_set' w4 P 3 (.int .i64 (c : Int)) (TF P Q M) (.inl rfl)))
  have hM5 := Lib.hid (hM4.out.but (but_set' w4 P 3 (.int .i64 (c : Int)) (· = P) rfl) (Ne.symm hne.1))
  clear hwi hr I5 hft
  by_cases g8 : 8 < n
  · by_cases gs : 8 * c ≤ n
    · have d1 : decide (8 < (n : Int)) = true := decide_eq_true (by omega)
      have d2 : decide (8 * (c : Int) ≤ (n : Int)) = true := decide_eq_true (by omega)
      have d3 : decide (8 < n) = true := decide_eq_true g8
      have hq4 : 4 ≤ q := by
        rcases Nat.lt_or_ge q 4 with h | h
        · exfalso
          have h2 : 2 ^ q ≤ 2 ^ 3 := Nat.pow_le_pow_right (by decide) (by omega)
          rw [← hqN.out, H2.out] at h2
          omega
        · exact h
      have hpw : n / 2 = 2 ^ (q - 1) ∧ n = 2 * (n / 2) := by
        obtain ⟨m, rfl⟩ : ∃ m, q = m + 1 := ⟨q - 1, by omega⟩
        have := hqN.out
        rw [H2.out, Nat.pow_succ] at this
        rw [Nat.add_sub_cancel]
        omega
      have hpw16 : 8 ≤ n / 2 := by
        have h2 : 2 ^ 3 ≤ 2 ^ (q - 1) := Nat.pow_le_pow_right (by decide) (by omega)
        rw [hpw.1]; exact h2
      have hmv := fun N => Lib.hid (t_move ((w4.setCell ⟨P, 3, none⟩ (.int .i64 (c : Int))).drewN N) P Q M seed c (d + 1 + j + 1) qs (T5.out.drewN N) (by rw [L4.out]; exact HI5.out) (n / 2) (q - 1) hpw.1 (by omega) (by omega) (by rw [HR.out.length_eq, HC.out]; omega))
      have hsz : ((n / 2 : Nat) : Int) = (n : Int) / 2 := by omega
      rw [hsz] at hmv
      have HPW := Lib.hid hpw
      clear hsz hpw
      go_quiet (fail)
      go_wp2_with (first
        | (go_at_call 38; (with_reducible refine (hmv _).out.mono ?_); rintro e w6 ⟨ts, Q6, rfl, ht6, hl6, hi6, hp6, hQ6, hb6⟩
           have T6 := Lib.hid ht6
           have L6 := Lib.hid hl6
           have I6 := Lib.hid hi6
           have P6 := Lib.hid hp6
           have B6 := Lib.hid hb6
           clear ht6 hl6 hi6 hp6 hb6))
      go_ret
      have hM6 : Mt w6 M 0 cl 0 t p := Mt.but (r := 0) (c := cl) (s := 0) (t := t) (p := p) (w := (w4.setCell ⟨P, 3, none⟩ (.int .i64 (c : Int))).drewN nq) hM5.out B6.out (Ne.symm hne.1)
      refine ⟨rfl, Q6, n / 2, d + 1 + j + 1, ⟨ts, t, p, by rw [HC.out]; exact T6.out, L6.out, I6.out, P6.out.trans HR.out, by rw [HC.out]; omega, fun h => by rw [HC.out]; have := HPW.out.2; have := H56.out.2 g8; omega, hM6, H8.out⟩, ?_, .inr ?_, by omega, hpr⟩
      · exact (hB5.out.drewN nq).trans (B6.out.mono (fun j _ h => .inl h))
      · have h1 := hB5.out.size
        have h2 : (w4.setCell ⟨P, 3, none⟩ (.int .i64 (c : Int))).heap.size ≤ Q6 := hQ6
        omega
    · have d1 : decide (8 < (n : Int)) = true := decide_eq_true (by omega)
      have d2 : decide (8 * (c : Int) ≤ (n : Int)) = false := decide_eq_false (by omega)
      have d3 : decide (8 < n) = true := decide_eq_true g8
      go_quiet (fail)
      go_wp2
      go_ret
      exact ⟨rfl, Q, n, d + 1 + j + 1, ⟨qs, t, p, by rw [HC.out]; exact T5.out.drewN nq, L4.out, HI5.out, HR.out, by rw [HC.out]; omega, fun h => by rw [HC.out]; omega, hM5.out, H8.out⟩, hB5.out.drewN nq, .inl rfl, by omega, hpr⟩
  · have d1 : decide (8 < (n : Int)) = false := decide_eq_false (by omega)
    have d3 : decide (8 < n) = false := decide_eq_false g8
    go_quiet (fail)
    go_wp2
    go_ret
    exact ⟨rfl, Q, n, d + 1 + j + 1, ⟨qs, t, p, by rw [HC.out]; exact T5.out.drewN nq, L4.out, HI5.out, HR.out, by rw [HC.out]; omega, fun h => absurd h g8, hM5.out, H8.out⟩, hB5.out.drewN nq, .inl rfl, by omega, hpr⟩
end Go.Proofs.Ytihhkdcgnnfkkaa.Hs
