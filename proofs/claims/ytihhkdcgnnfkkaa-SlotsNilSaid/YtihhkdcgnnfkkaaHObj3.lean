
/- A gap is closed; the text walked. -/
import Derived.Test.YtihhkdcgnnfkkaaHObj2
namespace Go.Proofs.Ytihhkdcgnnfkkaa.Hs
set_option maxRecDepth 4000
open Go.RowKit
/-- An entry is laid into place i. -/
def put4 (w : World) (Q i : Nat) (e : H.En) : World :=
  (((w.setCell ⟨Q, i * 4, none⟩ (.int .u8 (e.l : Int))).setCell ⟨Q, i * 4 + 1, none⟩ (.int .u64 (e.p : Int))).setCell ⟨Q, i * 4 + 2, none⟩ (.int .u64 (e.v : Int))).setCell ⟨Q, i * 4 + 3, none⟩ (.bool e.t)
theorem put4_but (w : World) (Q i : Nat) (e : H.En) (S : Nat → Prop) (h : S Q) : ButS w (put4 w Q i e) S :=
  (((but_set' w Q _ _ S h).trans (but_set' _ Q _ _ S h)).trans (but_set' _ Q _ _ S h)).trans (but_set' _ Q _ _ S h)
theorem Tb.store {w : World} {P Q M seed c pr : Nat} {ps : List H.En} (a : Tb w P Q M seed c pr ps) (i : Nat) (hi : i < ps.length) (e : H.En) (he : e.l < 256 ∧ e.p < 18446744073709551616 ∧ e.v < 18446744073709551616) : Tb (put4 w Q i e) P Q M seed c pr (ps.set i e) := by
  have hb := put4_but w Q i e (· = Q) rfl
  refine ⟨by rw [List.length_set]; exact (hb.block P a.row.lt a.ne).trans a.row, ?_, by rw [List.length_set]; exact a.pw, fun x hx => ?_⟩
  · have h := set_heap (set_heap (set_heap (set_heap a.pl (i * 4) (.int .u8 (e.l : Int))) (i * 4 + 1) (.int .u64 (e.p : Int))) (i * 4 + 2) (.int .u64 (e.v : Int))) (i * 4 + 3) (.bool e.t)
    have hs := ev_set ps i e hi
    rw [← hs]
    simpa [put4] using h
  · rcases List.mem_or_eq_of_mem_set hx with hx | rfl
    · exact a.rng x hx
    · exact he
def ClosedP (w : World) (P Q M seed c pr : Nat) (ps : List H.En) (s : Nat) (e : Ending) (w' : World) : Prop :=
  ∃ (qs : List H.En) (j : Nat), e = .returned (.tuple #[]) ∧ Tb w' P Q M seed c (pr + j + 1) qs ∧ H.Inv ps.length (hmN seed ps.length) qs ∧ (H.ents qs).Perm (H.ents (ps.set s H.z)) ∧
    (∀ h d, h < ps.length → H.Scan ps.length h ps s d → d + (j + 1) + 1 ≤ ps.length) ∧ ButS w w' (fun x => x = P ∨ x = Q)
set_option maxHeartbeats 2000000 in
theorem t_close (w : World) (P Q M seed c pr : Nat) (ps : List H.En) (a : Tb w P Q M seed c pr ps) (I : H.Inv ps.length (hmN seed ps.length) ps) (s : Nat) (hs : s < ps.length) (hst : (H.ge ps s).t = true)
    (hf : ∃ f, f < ps.length ∧ (H.ge ps f).t = false) (hpr : pr ≤ ps.length) :
    Calls Try.prog 37 #[.pointer (some ⟨P, 0, none⟩), .int .i64 (s : Int)] w (ClosedP w P Q M seed c pr ps s) := by
  obtain ⟨q, hq, hq3, hn⟩ := a.pw
  have hl8 := a.len
  have hh : ∀ k, hmN seed ps.length k < ps.length := fun k => hmN_lt seed ps.length k (by omega)
  have hG := Lib.hid (H.gap_start I (by omega) hs hst)
  have hbe := Lib.hid (t_behind w P Q M seed ps.length c pr q a.row hn (by omega) s hs)
  have HA := Lib.hid a
  have HN := Lib.hid hn
  have HF := Lib.hid hf
  have HH := Lib.hid hh
  clear a hn hf I hst hh
  go_enter Try.func37, Try.ntmps37
  go_wp2_with (go_at_call 46; (with_reducible refine hbe.out.mono ?_); rintro e w' ⟨rfl, rfl⟩)
  go_loopw [1, 4] (fun ug ui wr => ∃ (g i j : Nat) (qs : List H.En), ug = .int .i64 (g : Int) ∧ ui = .int .i64 (i : Int) ∧ Hid (qs.length = ps.length) ∧ Hid (Tb wr P Q M seed c (pr + j) qs) ∧ Hid (H.Gap ps.length (hmN seed ps.length) ps s (qs.set g H.z) g i (j + 1)) ∧ Hid ((H.ents (qs.set g H.z)).Perm (H.ents (ps.set s H.z))) ∧ Hid (ButS w wr (fun x => x = P ∨ x = Q)))
    (fun _ ui _ => ps.length - H.wy ps.length s (intOf ui).toNat)
  case atStart => exact ⟨s, H.nx ps.length s, 0, ps, rfl, rfl, Lib.hid rfl, HA, hG, Lib.hid (List.Perm.refl _), Lib.hid (ButS.refl _ _)⟩
  case round =>
    obtain ⟨g, i, j, qs, rfl, rfl, HL, HT, HG, HP, HW⟩ := hrel
    clear hG hbe
    have hi := HG.out.ilt
    have hg := HG.out.glt
    have hne := HG.out.ne
    have hgi : H.ge (qs.set g H.z) i = H.ge qs i := H.ge_set_ne hne
    have hiq : i < qs.length := by rw [HL.out]; exact hi
    have hgq : g < qs.length := by rw [HL.out]; exact hg
    obtain ⟨x0, x1, x2, x3⟩ := HT.out.cellg i hiq
    have p2 := HT.out.row.c2
    obtain ⟨z0, z1, z2, z3⟩ := HT.out.cellg g hgq
    have g0 := HT.out.qfr (g * 4)
    have g1 := HT.out.qfr (g * 4 + 1)
    have g2 := HT.out.qfr (g * 4 + 2)
    have g3 := HT.out.qfr (g * 4 + 3)
    have hPQ := HT.out.ne
    have p4 := HT.out.row.c4
    have f4 := HT.out.row.fr 4
    have hjn : j + 1 < ps.length := by have := HG.out.way; have := H.wy_lt hs hi; omega
    have wd1 : IntKind.i64.wrap (((pr + j : Nat) : Int) + 1) = ((pr + j + 1 : Nat) : Int) := by rw [IntWalk.i64_in _ (by omega)]; omega
    rw [HL.out] at p2
    have HGI := Lib.hid hgi
    clear hgi
    cases ht : (H.ge qs i).t with
    | false =>
      rw [ht] at x3
      have HTt := Lib.hid ht
      clear ht x0 x1 x2
      generalize hL : ps.length = n at *
      have HLn := Lib.hid hL
      clear hL
      go_wp2
      refine bodyPost_ret (results_none rfl _ _ _) rfl ?_
      have T1 := HT.out.setp (pr + j + 1)
      rw [show ((pr + j + 1 : Nat) : Int) = (pr : Int) + (j : Int) + 1 by omega] at T1
      have T2 := T1.store g hgq H.z (by decide)
      have hfr : (H.ge (qs.set g H.z) i).t = false := by rw [HGI.out]; exact HTt.out
      refine ⟨qs.set g H.z, j, rfl, T2, ?_, HP.out, ?_, ?_⟩
      · rw [HLn.out]; exact HG.out.done HH.out hfr
      · rw [HLn.out]; exact fun h d hh sc => H.gap_probes HG.out hs hh sc hfr
      · exact (HW.out.trans (but_set' _ P _ _ _ (.inl rfl))).trans (put4_but _ Q g H.z _ (.inr rfl))
    | true =>
      rw [ht] at x3
      have HTt := Lib.hid ht
      have T1 := HT.out.setp (pr + j + 1)
      have hrng := HT.out.rngg i hiq
      have hqe : (H.ge qs i).t = (H.ge (qs.set g H.z) i).t := by rw [HGI.out]
      have hm1 := HG.out.more hs (by rw [HGI.out]; exact ht) HF.out
      have hms := Lib.hid (show ps.length - H.wy ps.length s (H.nx ps.length i) < ps.length - H.wy ps.length s i by
        rw [H.wy_nx hs (by rw [HG.out.way]; exact hm1)]; have := H.wy_lt hs hi; omega)
      have HE := Lib.hid (rfl : H.ge qs i = H.ge qs i)
      have r1 := hrng.1
      have hwg : H.wy ps.length g i < ps.length := H.wy_lt hg hi
      have hho := Lib.hid (t_home _ P Q M seed qs.length c (pr + j + 1) q T1.row (HL.out.trans HN.out) (by omega) (H.ge qs i).k hrng.1)
      have hwh : H.wy ps.length (hmN seed ps.length (H.ge qs i).k) i < ps.length := H.wy_lt (HH.out _) hi
      rw [show ((pr + j + 1 : Nat) : Int) = (pr : Int) + (j : Int) + 1 by omega] at T1 hho
      rw [HL.out] at hho
      have HT1 := Lib.hid T1
      have hrr : (H.ge qs i).l < 256 ∧ (H.ge qs i).p < 18446744073709551616 ∧ (H.ge qs i).v < 18446744073709551616 := hrng
      clear ht T1 hqe hrng
      have hst : (H.ge qs i).t = true := HTt.out
      have HST := Lib.hid hst
      clear hst
      generalize hee : H.ge qs i = ee at *
      have HEE := Lib.hid hee
      clear hee
      have HHk := Lib.hid (HH.out ee.k)
      by_cases hw : H.wy ps.length g i ≤ H.wy ps.length (hmN seed ps.length ee.k) i
      · have d1 : decide (H.wy ps.length g i ≤ H.wy ps.length (hmN seed ps.length ee.k) i) = true := decide_eq_true hw
        have d2 : decide ((H.wy ps.length g i : Int) ≤ (H.wy ps.length (hmN seed ps.length ee.k) i : Int)) = true := decide_eq_true (by omega)
        have HWy := Lib.hid hw
        clear hw
        generalize hL : ps.length = n at *
        have HLn := Lib.hid hL
        clear hL
        go_wp2_with (first
          | (go_at_call 45; (with_reducible refine hho.out.mono ?_); rintro e w2 ⟨rfl, hb2⟩
             have HT2 := Lib.hid (HT1.out.below hb2 (Nat.le_refl _))
             have HB2 := Lib.hid ((but_set' wr P 4 (.int .i64 ((pr : Int) + (j : Int) + 1)) (fun x => x = P ∨ x = Q) (.inl rfl)).trans (ButS.of_below hb2 (Nat.le_refl _)))
             have hwa := Lib.hid (t_way w2 P Q M seed qs.length c (pr + j + 1) q HT2.out.row (HL.out.trans HN.out) (by omega) (hmN seed n ee.k) i (by rw [HL.out]; exact HHk.out) hiq)
             have hwb := Lib.hid (t_way w2 P Q M seed qs.length c (pr + j + 1) q HT2.out.row (HL.out.trans HN.out) (by omega) g i hgq hiq)
             rw [HL.out] at hwa hwb
             obtain ⟨v0, v1, v2, v3⟩ := HT2.out.cellg i hiq
             rw [HEE.out] at v0 v1 v2 v3
             rw [HST.out] at v3
             obtain ⟨y0, y1, y2, y3⟩ := HT2.out.cellg g hgq
             have k0 := HT2.out.qfr (g * 4)
             have k1 := HT2.out.qfr (g * 4 + 1)
             have k2 := HT2.out.qfr (g * 4 + 2)
             have k3 := HT2.out.qfr (g * 4 + 3)
             have q2 := HT2.out.row.c2
             rw [HL.out] at q2
             have t3 := HT2.out.store g hgq ee hrr
             have hl3 : (qs.set g ee).length = n := by rw [List.length_set]; exact HL.out
             have hb3 := Lib.hid (t_behind (World.drew (put4 w2 Q g ee)) P Q M seed (qs.set g ee).length c (pr + j + 1) q t3.row (hl3.trans HN.out) (by omega) i (by omega))
             rw [hl3] at hb3
             have B3 := put4_but w2 Q g ee (fun x => x = P ∨ x = Q) (.inr rfl)
             unfold put4 at t3 hb3 B3
             rw [HST.out] at t3 hb3 B3
             have HT3 := Lib.hid t3
             have HB3 := Lib.hid B3
             have HL3 := Lib.hid hl3
             clear t3 hl3 B3
             clear hb2)
          | (go_at_call 46; (with_reducible refine hb3.out.mono ?_); rintro e w4 ⟨rfl, rfl⟩)
          | (go_at_call 47; (with_reducible refine hwa.out.mono ?_); rintro e w3 ⟨rfl, rfl⟩; clear hwa)
          | (go_at_call 47; (with_reducible refine hwb.out.mono ?_); rintro e w3 ⟨rfl, rfl⟩; clear hwb))
        go_region
        go_wp2_with (go_at_call 46; (with_reducible refine hb3.out.mono ?_); rintro e w4 ⟨rfl, rfl⟩)
        go_roundw
        case rel =>
          have hgm := HG.out.move hs HH.out (by rw [HGI.out]; exact HST.out) (by omega) (by rw [HGI.out]; exact HWy.out)
          have hge := H.gap_move_ents HG.out (by rw [HGI.out]; exact HST.out)
          rw [HGI.out, List.set_set] at hgm hge
          exact ⟨i, H.nx n i, j + 1, qs.set g ee, rfl, rfl, HL3, Lib.hid (HT3.out.drewN 1), Lib.hid hgm, Lib.hid (hge.trans HP.out), Lib.hid ((HW.out.trans (HB2.out.trans HB3.out)).drewN 1)⟩
        case measure => exact hms.out
      · have d1 : decide (H.wy ps.length g i ≤ H.wy ps.length (hmN seed ps.length ee.k) i) = false := decide_eq_false hw
        have d2 : decide ((H.wy ps.length g i : Int) ≤ (H.wy ps.length (hmN seed ps.length ee.k) i : Int)) = false := decide_eq_false (by omega)
        have HWy := Lib.hid hw
        clear hw
        generalize hL : ps.length = n at *
        have HLn := Lib.hid hL
        clear hL
        go_wp2_with (first
          | (go_at_call 45; (with_reducible refine hho.out.mono ?_); rintro e w2 ⟨rfl, hb2⟩
             have HT2 := Lib.hid (HT1.out.below hb2 (Nat.le_refl _))
             have HB2 := Lib.hid ((but_set' wr P 4 (.int .i64 ((pr : Int) + (j : Int) + 1)) (fun x => x = P ∨ x = Q) (.inl rfl)).trans (ButS.of_below hb2 (Nat.le_refl _)))
             have hwa := Lib.hid (t_way w2 P Q M seed qs.length c (pr + j + 1) q HT2.out.row (HL.out.trans HN.out) (by omega) (hmN seed n ee.k) i (by rw [HL.out]; exact HHk.out) hiq)
             have hwb := Lib.hid (t_way w2 P Q M seed qs.length c (pr + j + 1) q HT2.out.row (HL.out.trans HN.out) (by omega) g i hgq hiq)
             have hb3 := Lib.hid (t_behind w2 P Q M seed qs.length c (pr + j + 1) q HT2.out.row (HL.out.trans HN.out) (by omega) i hiq)
             rw [HL.out] at hwa hwb hb3
             clear hb2)
          | (go_at_call 47; (with_reducible refine hwa.out.mono ?_); rintro e w3 ⟨rfl, rfl⟩; clear hwa)
          | (go_at_call 47; (with_reducible refine hwb.out.mono ?_); rintro e w3 ⟨rfl, rfl⟩; clear hwb)
          | (go_at_call 46; (with_reducible refine hb3.out.mono ?_); rintro e w4 ⟨rfl, rfl⟩))
        go_roundw
        case rel =>
          have hgm := HG.out.stay hs HH.out (by rw [HGI.out]; exact HST.out) (by omega) (by rw [HGI.out]; exact HWy.out)
          exact ⟨g, H.nx n i, j + 1, qs, rfl, rfl, HL, HT2, Lib.hid hgm, HP, Lib.hid (HW.out.trans HB2.out)⟩
        case measure => exact hms.out
end Go.Proofs.Ytihhkdcgnnfkkaa.Hs
