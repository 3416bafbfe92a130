
/- The law BucketParts, walked. -/
import Derived.Test.YtepnjolldbgglaaKbR
namespace Go.Proofs.Ytepnjolldbgglaa.Kb
open Go.RowKit
theorem bs_reads {w W W' : World} {S : List (Value × List Nat)} (h : BS w W S) {A : Option Addr} {c : Nat} {xs : List Nat} (hm : (Value.slice A xs.length c, xs) ∈ S) (hb : Below W.heap.size W W') : Reads W' W.heap.size 1 A xs.length (wv xs) := by
  have h1 := (kx_rhA (h.kx _ hm)).reads
  rw [hv_iz, iz_len] at h1
  exact h1.below hb
theorem up_step {l : List Nat} {i : Nat} (hi : 0 < i) (h : i < l.length) : K.Up (l.take (i + 1)) ↔ K.Up (l.take i) ∧ l[i - 1] < l[i] := by
  rw [List.take_succ_eq_append_getElem h]
  unfold K.Up
  rw [List.pairwise_append]
  constructor
  · rintro ⟨h1, _, h3⟩
    exact ⟨h1, h3 _ (List.mem_take_iff_getElem.2 ⟨i - 1, by omega, rfl⟩) _ (by simp)⟩
  · rintro ⟨h1, h2⟩
    refine ⟨h1, by simp, fun a ha b hb => ?_⟩
    rw [List.mem_singleton] at hb
    subst hb
    obtain ⟨j, hj, rfl⟩ := List.mem_take_iff_getElem.1 ha
    have hl : (l.take i).length = i := by rw [List.length_take]; omega
    rcases Nat.lt_or_ge j (i - 1) with e | e
    · have := (List.pairwise_iff_getElem.1 h1) j (i - 1) (by omega) (by omega) e
      rw [List.getElem_take, List.getElem_take] at this
      omega
    · obtain rfl : j = i - 1 := by omega
      exact h2
theorem bs_merge0 {w W : World} {S : List (Value × List Nat)} (h : BS w W S) : Calls Try.prog 23 #[.slice none 0 0] W fun e w' => e = .returned (.slice none 0 0) ∧ BS w w' S :=
  (b_merge_no W).mono fun _ _ ⟨h1, h2⟩ => ⟨h1, h2 ▸ h⟩
theorem bs_words3 {w W : World} {S : List (Value × List Nat)} (h : BS w W S) (A : Option Addr) (cp : Nat) (l : List Nat) (hr : Rw w w.heap.size A l) (hl : l.length ≤ 9223372036854775807) {zs : List Nat} (hz : l.take 100 = zs) :
    Calls Try.prog 7 #[.slice A l.length cp, .int .i64 100] W fun e w' => ∃ A' c', e = .returned (.slice A' zs.length c') ∧ BS w w' ((.slice A' zs.length c', zs) :: S) := bs_words h A cp l 100 hr hl (by omega) hz
set_option maxHeartbeats 16000000 in
set_option maxRecDepth 100000 in
theorem law_parts (A : Option Addr) (cp : Nat) (l : List Nat) (A' : Option Addr) (cp' : Nat) (m : List Nat) (w : World) (hr : Rw w w.heap.size A l) (hl : l.length ≤ 9223372036854775807) (hr' : Rw w w.heap.size A' m) (hl' : m.length ≤ 9223372036854775807) :
    Calls Try.prog 4 #[.slice A l.length cp, .slice A' m.length cp'] w fun e w' => e = .returned (.bool true) ∧ Below w.heap.size w w' := by
  obtain ⟨zs, hz⟩ : ∃ zs, l.take 100 = zs := ⟨_, rfl⟩
  obtain ⟨ts, ht⟩ : ∃ ts, m.take 100 = ts := ⟨_, rfl⟩
  have hwd : Hid (∀ W S, BS w W S → Calls Try.prog 7 #[.slice A l.length cp, .int .i64 100] W fun e w' => ∃ A' c', e = .returned (.slice A' zs.length c') ∧ BS w w' ((.slice A' zs.length c', zs) :: S)) := Lib.hid fun W S h => bs_words3 h A cp l hr hl hz
  have hwd2 : Hid (∀ W S, BS w W S → Calls Try.prog 7 #[.slice A' m.length cp', .int .i64 100] W fun e w' => ∃ A' c', e = .returned (.slice A' ts.length c') ∧ BS w w' ((.slice A' ts.length c', ts) :: S)) := Lib.hid fun W S h => bs_words3 h A' cp' m hr' hl' ht
  have hlz : zs.length ≤ 100 := by rw [← hz, List.length_take]; omega
  have hlt : ts.length ≤ 100 := by rw [← ht, List.length_take]; omega
  obtain ⟨xs, hxs⟩ : ∃ xs, K.off zs = xs := ⟨_, rfl⟩
  obtain ⟨ys, hys⟩ : ∃ ys, K.off ts = ys := ⟨_, rfl⟩
  have hux : K.Up xs := by rw [← hxs]; exact off_up' _
  have hlx : xs.length ≤ 100 := by rw [← hxs]; exact Nat.le_trans (off_len' _) hlz
  have hly : ys.length ≤ 100 := by rw [← hys]; exact Nat.le_trans (off_len' _) hlt
  obtain ⟨us, hus⟩ : ∃ us, K.off (xs ++ ys) = us := ⟨_, rfl⟩
  have huu : K.Up us := by rw [← hus]; exact off_up' _
  have hlu : us.length ≤ 200 := by rw [← hus]; exact Nat.le_trans (off_len' _) (by simp; omega)
  have hmu : Hid (∀ x, x ∈ us ↔ x ∈ xs ∨ x ∈ ys) := Lib.hid fun x => by rw [← hus, off_mem', List.mem_append]
  obtain ⟨h, hh⟩ : ∃ h, xs.length - xs.length / 2 = h := ⟨_, rfl⟩
  obtain ⟨a, ha⟩ : ∃ a, xs.take h = a := ⟨_, rfl⟩
  obtain ⟨b, hb⟩ : ∃ b, xs.drop h = b := ⟨_, rfl⟩
  have hla : a.length = h := by rw [← ha, List.length_take]; omega
  have hlb : b.length = xs.length - h := by rw [← hb, List.length_drop]
  have hab : Hid (a ++ b = xs) := Lib.hid (by rw [← ha, ← hb, List.take_append_drop])
  have habd : Hid (decide (a ++ b = xs) = true) := Lib.hid (decide_eq_true hab.out)
  have hmm : Hid (∀ x, x ∈ xs ↔ x ∈ a ∨ x ∈ b) := Lib.hid fun x => by rw [← List.mem_append, hab.out]
  have HT := Lib.hid (show xs.take (xs.length - xs.length / 2) = a by rw [hh]; exact ha)
  have HD := Lib.hid (show xs.drop (xs.length - xs.length / 2) = b by rw [hh]; exact hb)
  have hla2 : a.length ≤ 100 := by omega
  have hlb2 : b.length ≤ 100 := by omega
  obtain ⟨d, hd, hd01⟩ : ∃ d : Int, IntKind.i64.wrap ((a.length : Int) - (b.length : Int)) = d ∧ (d = 0 ∨ d = 1) := by
    refine ⟨(a.length : Int) - (b.length : Int), IntWalk.i64_in _ (by omega), by omega⟩
  obtain ⟨R, hR⟩ : ∃ R, decide (K.Up zs) = R := ⟨_, rfl⟩
  have HXS := Lib.hid hxs
  have HYS := Lib.hid hys
  have HUS := Lib.hid hus
  have HUX := Lib.hid hux
  have HUU := Lib.hid huu
  have HR := Lib.hid hR
  have S0 := Lib.hid (BS.start w)
  obtain ⟨i0, hi, hz0, hz1, hz2⟩ := info_parts u64_info
  clear hr hl hr' hl' hz ht hxs hys hux hus huu hh ha hb hla hlb hR
  rcases hd01 with rfl | rfl <;> (
    go_enter Try.func4, Try.ntmps4
    go_wp2_with (first
      | (go_at_call 6; (with_reducible refine (awake_any w).mono ?_); rintro e w1 ⟨rfl, hb1⟩; have HS := Lib.hid (S0.out.below hb1); clear hb1)
      | (go_at_call 7; (with_reducible refine (hwd.out _ _ HS.out).mono ?_); rintro e w2 ⟨A2, c2, rfl, h2⟩; replace HS := Lib.hid h2; clear h2)
      | (go_at_call 7; (with_reducible refine (hwd2.out _ _ HS.out).mono ?_); rintro e w3 ⟨A3, c3, rfl, h3⟩; replace HS := Lib.hid h3; clear h3)
      | (go_at_call 8; (with_reducible refine (bs_rof (v := .slice A2 zs.length c2) (xs := zs) (zs := xs) HS.out (by simp) (by omega) HXS.out).mono ?_); rintro e w4 ⟨A4, c4, rfl, h4⟩; replace HS := Lib.hid h4; clear h4)
      | (go_at_call 8; (with_reducible refine (bs_rof (v := .slice A3 ts.length c3) (xs := ts) (zs := ys) HS.out (by simp) (by omega) HYS.out).mono ?_); rintro e w5 ⟨A5, c5, rfl, h5⟩; replace HS := Lib.hid h5; clear h5)
      | (go_at_call 22; (with_reducible refine (bs_split (v := .slice A4 xs.length c4) (xs := xs) (a := a) (b := b) HS.out (by simp) (by omega) HT.out HD.out).mono ?_); rintro e w6 ⟨A6, c6, A7, c7, rfl, h6⟩; replace HS := Lib.hid h6; clear h6))
    go_loopw [10, 11] (fun vb vi wr => ∃ (i : Nat) (q : Bool), vb = .bool q ∧ vi = .int .i64 i ∧ 0 < i ∧ i ≤ zs.length + 1 ∧ Hid (decide (K.Up (zs.take i)) = q) ∧ Hid (BS w wr [(.slice A6 a.length c6, a), (.slice A7 b.length c7, b), (.slice A5 ys.length c5, ys), (.slice A4 xs.length c4, xs), (.slice A3 ts.length c3, ts), (.slice A2 zs.length c2, zs)])) (fun _ vi _ => zs.length + 1 - (intOf vi).toNat)
    case atStart => exact ⟨1, true, rfl, rfl, by omega, by omega, Lib.hid (by rw [decide_eq_true_iff]; cases zs <;> simp [K.Up]), HS⟩
    case round =>
      clear HS
      obtain ⟨i, q, rfl, rfl, h0i, hil, hQ, HS⟩ := hrel
      by_cases hlt : i < zs.length
      · have hi1 : i - 1 < zs.length := by omega
        obtain ⟨g, hA2, c01, c02⟩ : ∃ g, A2 = some ⟨g, 0, none⟩ ∧ wr.cell? ⟨g, i - 1, none⟩ = some (.int .u64 (zs[i - 1] : Nat)) ∧ wr.cell? ⟨g, i, none⟩ = some (.int .u64 (zs[i] : Nat)) := by
          rcases (HS.out.kx (.slice A2 zs.length c2, zs) (by simp)).form with ⟨e, e2⟩ | ⟨g, c', e, _, _, hc⟩
          · dsimp only at e2; rw [e2] at hlt; simp at hlt
          · dsimp only at e hc
            cases e
            exact ⟨g, rfl, hc (i - 1) hi1, hc i hlt⟩
        have hstep := Lib.hid (up_step h0i hlt)
        subst hA2
        obtain ⟨x, hx⟩ : ∃ x, x = zs[i - 1] := ⟨_, rfl⟩
        obtain ⟨y, hy⟩ : ∃ y, y = zs[i] := ⟨_, rfl⟩
        rw [← hx, ← hy] at hstep
        rw [← hx] at c01
        rw [← hy] at c02
        clear hx hy
        obtain ⟨j, rfl⟩ : ∃ j, i = j + 1 := ⟨i - 1, by omega⟩
        rw [Nat.add_sub_cancel] at c01
        have ej : ((j + 1 : Nat) : Int) - 1 = (j : Int) := by omega
        have ej2 : (j : Int) + 1 - 1 = (j : Int) := by omega
        have wj : IntKind.i64.wrap (j : Int) = (j : Int) := IntWalk.i64_in _ (by omega)
        have wj1 : IntKind.i64.wrap ((j : Int) + 1) = (j : Int) + 1 := IntWalk.i64_in _ (by omega)
        have wj2 : IntKind.i64.wrap ((j : Int) + 1 + 1) = (j : Int) + 1 + 1 := IntWalk.i64_in _ (by omega)
        have lj : j < zs.length := by omega
        have y2 : (0 : Int) ≤ (j : Int) + 1 := by omega
        have t2 : ((j : Int) + 1).toNat = j + 1 := by omega
        have hjz : (j : Int) < (zs.length : Int) := by omega
        have hjz2 : (j : Int) + 1 < (zs.length : Int) := by omega
        have hstop : Hid (∀ r : Bool, r = (q && decide (x < y)) → decide (K.Up (zs.take (j + 1 + 1))) = r) := Lib.hid fun r hr => by
          rw [hr, ← hQ.out, Bool.eq_iff_iff, decide_eq_true_iff, hstep.out, Bool.and_eq_true, decide_eq_true_iff, decide_eq_true_iff]
        clear hstep hi1
        cases q
        · go_wp2
          go_quiet (fail)
          go_wp2
          go_roundw
          case rel => exact ⟨j + 1 + 1, false, by first | rfl | simp, by go_num, by omega, by omega, Lib.hid (hstop.out _ (by simp)), Lib.hid (HS.out.drewN _)⟩
          case measure => simp [intOf]; omega
        · by_cases hxy : x < y
          · have hd1 : decide ((x : Int) < (y : Int)) = true := decide_eq_true (by omega)
            have hd2 : decide (x < y) = true := decide_eq_true hxy
            go_wp2
            go_quiet (fail)
            go_wp2
            go_roundw
            case rel => exact ⟨j + 1 + 1, true, by first | rfl | simp, by go_num, by omega, by omega, Lib.hid (hstop.out _ (by simp [hxy])), Lib.hid (HS.out.drewN _)⟩
            case measure => simp [intOf]; omega
          · have hd1 : decide ((x : Int) < (y : Int)) = false := decide_eq_false (by omega)
            have hd2 : decide (x < y) = false := decide_eq_false hxy
            go_wp2
            go_quiet (fail)
            go_wp2
            go_roundw
            case rel => exact ⟨j + 1 + 1, false, by first | rfl | simp, by go_num, by omega, by omega, Lib.hid (hstop.out _ (by simp [hxy])), Lib.hid (HS.out.drewN _)⟩
            case measure => simp [intOf]; omega
      · have hqR : Hid (decide (K.Up zs) = q) := Lib.hid (by rw [← hQ.out, List.take_of_length_le (by omega)])
        clear hQ
        cases q <;> (
          go_wp2_with (first
          | (at_builtin; refine wpList_append_any _ rfl (.tmp 52) (.tmp 53) 22 rfl wr.heap.size 23 i0 _ 1 8 Try.underlying22 hi hz0 hz1 hz2 rfl (by decide) (.slice (some ⟨wr.heap.size, 0, none⟩) 0 0) 0 [] (by rfl) (K.own_empty (K.alloc_top wr _)) wr.heap.size A4 xs.length c4 (wv xs) (by rfl) (bs_reads HS.out (A := A4) (c := c4) (xs := xs) (by simp) (bel_a _ _)) (K.wv_one xs) (by unfold maxLen; omega) (by omega) (by simp) ?_; intro v1 w8 hv1 hg1 _; rw [Nat.zero_add, List.nil_append] at hv1; obtain ⟨A8, c8, rfl⟩ := K.own_form hv1; have HB8 : Hid (Below wr.heap.size wr w8) := (K.grown_next (bel_a _ _) hg1 (fun g e => (by simp [Value.ownBlock] at e; omega))); have HV8 := Lib.hid hv1; have hz8 := HB8.out.size; clear hv1 hg1)
          | (at_builtin; refine wpList_append_any _ rfl (.tmp 54) (.tmp 55) 22 rfl wr.heap.size 23 i0 _ 1 8 Try.underlying22 hi hz0 hz1 hz2 rfl (by decide) (.slice A8 xs.length c8) xs.length (wv xs) (by rfl) HV8.out wr.heap.size A5 ys.length c5 (wv ys) (by rfl) (bs_reads HS.out (A := A5) (c := c5) (xs := ys) (by simp) HB8.out) (K.wv_one ys) (by unfold maxLen; omega) (by omega) hz8 ?_; intro v2 w9 hv2 hg2 _; obtain ⟨A9, c9, rfl⟩ := K.own_form hv2; have HB9 : Hid (Below wr.heap.size wr w9) := (K.grown_next HB8.out hg2 (fun g e => (K.own_lt HV8.out e).2)); have HK9 : Hid (KX w9 (.slice A9 (xs.length + ys.length) c9) (xs ++ ys)) := (K.kx_of (by rw [K.wv_app]; exact hv2) (by simp)); replace HS := Lib.hid (HS.out.push HB9.out HK9.out); clear hv2 hg2)
          | (at_builtin; refine wpList_append_any _ rfl (.tmp 57) (.tmp 58) 22 rfl w9.heap.size 23 i0 _ 1 8 Try.underlying22 hi hz0 hz1 hz2 rfl (by decide) (.slice (some ⟨w9.heap.size, 0, none⟩) 0 0) 0 [] (by rfl) (K.own_empty (K.alloc_top w9 _)) w9.heap.size A6 a.length c6 (wv a) (by rfl) (bs_reads HS.out (A := A6) (c := c6) (xs := a) (by simp) (bel_a _ _)) (K.wv_one a) (by unfold maxLen; omega) (by omega) (by simp) ?_; intro v1 w10 hv1 hg1 _; rw [Nat.zero_add, List.nil_append] at hv1; obtain ⟨A10, c10, rfl⟩ := K.own_form hv1; have HB10 : Hid (Below w9.heap.size w9 w10) := (K.grown_next (bel_a _ _) hg1 (fun g e => (by simp [Value.ownBlock] at e; omega))); have HV10 := Lib.hid hv1; have hz10 := HB10.out.size; clear hv1 hg1)
          | (at_builtin; refine wpList_append_any _ rfl (.tmp 59) (.tmp 60) 22 rfl w9.heap.size 23 i0 _ 1 8 Try.underlying22 hi hz0 hz1 hz2 rfl (by decide) (.slice A10 a.length c10) a.length (wv a) (by rfl) HV10.out w9.heap.size A7 b.length c7 (wv b) (by rfl) (bs_reads HS.out (A := A7) (c := c7) (xs := b) (by simp) HB10.out) (K.wv_one b) (by unfold maxLen; omega) (by omega) hz10 ?_; intro v2 w11 hv2 hg2 _; obtain ⟨A11, c11, rfl⟩ := K.own_form hv2; have HB11 : Hid (Below w9.heap.size w9 w11) := (K.grown_next HB10.out hg2 (fun g e => (K.own_lt HV10.out e).2)); have HK11 : Hid (KX w11 (.slice A11 (a.length + b.length) c11) (a ++ b)) := (K.kx_of (by rw [K.wv_app]; exact hv2) (by simp)); replace HS := Lib.hid (HS.out.push HB11.out HK11.out); clear hv2 hg2)
          | (go_at_call 17; (with_reducible refine (bs_same (v := .slice A11 (a.length + b.length) c11) (v2 := .slice A4 xs.length c4) (xs := a ++ b) (ys := xs) (f := true) (by first | exact HS.out | exact HS.out.drew | exact HS.out.drewN _) (by simp) (by simp) (by simp; omega) (by omega) habd.out).mono ?_); rintro e w13 ⟨rfl, h13⟩; replace HS := Lib.hid h13; clear h13)
          | (go_at_call 23; (with_reducible refine (bs_merge (v := .slice A4 xs.length c4) (v2 := .slice A5 ys.length c5) (xs := xs) (ys := ys) (zs := us) (by first | exact HS.out | exact HS.out.drew | exact HS.out.drewN _) (by simp) (by simp) (by omega) (by omega) HUU.out hmu.out).mono ?_); rintro e w14 ⟨A14, c14, rfl, h14⟩; replace HS := Lib.hid h14; clear h14)
          | (go_at_call 8; (with_reducible refine (bs_rof (v := .slice A9 (xs.length + ys.length) c9) (xs := xs ++ ys) (zs := us) (by first | exact HS.out | exact HS.out.drew | exact HS.out.drewN _) (by simp) (by simp; omega) HUS.out).mono ?_); rintro e w15 ⟨A15, c15, rfl, h15⟩; replace HS := Lib.hid h15; clear h15)
          | (go_at_call 17; (with_reducible refine (bs_same (v := .slice A14 us.length c14) (v2 := .slice A15 us.length c15) (xs := us) (ys := us) (f := true) (by first | exact HS.out | exact HS.out.drew | exact HS.out.drewN _) (by simp) (by simp) (by omega) (by omega) (by simp)).mono ?_); rintro e w16 ⟨rfl, h16⟩; replace HS := Lib.hid h16; clear h16)
          | (go_at_call 23; (with_reducible refine (bs_merge (v := .slice A6 a.length c6) (v2 := .slice A7 b.length c7) (xs := a) (ys := b) (zs := xs) (by first | exact HS.out | exact HS.out.drew | exact HS.out.drewN _) (by simp) (by simp) (by omega) (by omega) HUX.out hmm.out).mono ?_); rintro e w17 ⟨A17, c17, rfl, h17⟩; replace HS := Lib.hid h17; clear h17)
          | (go_at_call 17; (with_reducible refine (bs_same (v := .slice A17 xs.length c17) (v2 := .slice A4 xs.length c4) (xs := xs) (ys := xs) (f := true) (by first | exact HS.out | exact HS.out.drew | exact HS.out.drewN _) (by simp) (by simp) (by omega) (by omega) (by simp)).mono ?_); rintro e w18 ⟨rfl, h18⟩; replace HS := Lib.hid h18; clear h18)
          | (go_at_call 23; (with_reducible refine (bs_merge0 (by first | exact HS.out | exact HS.out.drew | exact HS.out.drewN _)).mono ?_); rintro e w19 ⟨rfl, h19⟩; replace HS := Lib.hid h19; clear h19)
          | (go_at_call 18; (with_reducible refine (bs_is (v := .slice A2 zs.length c2) (xs := zs) (by first | exact HS.out | exact HS.out.drew | exact HS.out.drewN _) (by simp) (by omega) hqR.out).mono ?_); rintro e w20 ⟨rfl, h20⟩; replace HS := Lib.hid h20; clear h20))
          go_ret
          exact ⟨rfl, HS.out.low⟩))
end Go.Proofs.Ytepnjolldbgglaa.Kb
