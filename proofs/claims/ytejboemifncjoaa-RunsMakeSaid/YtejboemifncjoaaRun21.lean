
/- The law RunsMake; the text walked. -/
import Derived.Test.YtejboemifncjoaaRun20
namespace Go.Proofs.Ytejboemifncjoaa
open Go.RowKit
theorem gd_step {rs : List (Int × Int)} {k : Nat} (hk : k < rs.length) : (∀ i (h : i < rs.length), i < k + 1 → Gd rs i h) ↔ (∀ i (h : i < rs.length), i < k → Gd rs i h) ∧ Gd rs k hk := by
  constructor
  · exact fun h => ⟨fun i hi hik => h i hi (by omega), h k hk (by omega)⟩
  · rintro ⟨h1, h2⟩ i hi hik
    rcases Nat.lt_or_ge i k with e | e
    · exact h1 i hi e
    · obtain rfl : i = k := by omega
      exact h2
/-- What is kept while rows are written: the runs that came in, the list, and what it had. -/
structure LM (w0 W : World) (B : Nat) (Ar : Option Addr) (rs : List (Int × Int)) (Aa : Option Addr) (ps : List (Int × Int)) (Aw : Option Addr) (fs : List Int) : Prop where
  low : Below w0.heap.size w0 W
  wB : w0.heap.size ≤ B
  hB : B ≤ W.heap.size
  rr : Rq W w0.heap.size Ar rs
  ra : Rq W B Aa ps
  rw : Rh W B Aw fs
theorem LM.set {w0 W : World} {B : Nat} {Ar Aa Aw : Option Addr} {rs ps : List (Int × Int)} {fs : List Int} (h : LM w0 W B Ar rs Aa ps Aw fs) {g k : Nat} {u : Value} (hg : B ≤ g) : LM w0 (W.setCell ⟨g, k, none⟩ u) B Ar rs Aa ps Aw fs :=
  ⟨h.low.grown (set_grownB W g k u) h.low.size (fun g' e => by cases e; exact Nat.le_trans h.wB hg), h.wB, by have := h.hB; simp [World.setCell]; exact this, rq_other h.rr (Nat.le_trans h.wB hg), rq_other h.ra hg, rh_other h.rw hg⟩
set_option maxHeartbeats 40000000 in
set_option maxRecDepth 100000 in
theorem law_make (A : Option Addr) (cp : Nat) (xs : List Int) (Ar : Option Addr) (cr : Nat) (rs0 : List (Int × Int)) (f : Nat) (hf : f < 65536) (t : Nat) (ht : t < 65536) (w : World) (hr : Rh w w.heap.size A xs) (hl : xs.length ≤ 9223372036854775807) (hx : ∀ y ∈ xs, 0 ≤ y ∧ y ≤ 65535)
    (hrr : Rq w w.heap.size Ar rs0) (hlr : rs0.length ≤ 9223372036854775807) (hcr : rs0.length ≤ cr) (hxr : ∀ r ∈ rs0, (0 ≤ r.1 ∧ r.1 ≤ 65535) ∧ 0 ≤ r.2 ∧ r.2 ≤ 65535) :
    Calls Try.prog 5 #[.slice A xs.length cp, .slice Ar rs0.length cr, .int .u16 (f : Int), .int .u16 (t : Int)] w fun e w' => e = .returned (.bool true) ∧ Below w.heap.size w w' := by
  have hrH := Lib.hid hr
  have hxH : Hid (∀ y ∈ xs.take 300, 0 ≤ y ∧ y ≤ 65535) := fun y hy => hx y (List.mem_of_mem_take hy)
  have hfew : ∀ W, Rh W W.heap.size A xs → Hid (Calls Try.prog 20 #[.slice A xs.length cp, .int .i64 300] W fun e w' => ∃ A' c', e = .returned (.slice A' (xs.take 300).length c') ∧ Rh w' w'.heap.size A' (xs.take 300) ∧ Young W.heap.size A' ∧ Below W.heap.size W w') := fun W h => f_few A cp xs 300 W h hl (by decide)
  clear hr hx
  obtain ⟨ys, hys⟩ : ∃ ys, xs.take 300 = ys := ⟨_, rfl⟩
  have hl3 : ys.length ≤ 300 := by rw [← hys, List.length_take]; omega
  rw [hys] at hfew hxH
  clear hys
  have hfew2 : ∀ W A c, Rh W W.heap.size A ys → Hid (Calls Try.prog 20 #[.slice A ys.length c, .int .i64 300] W fun e w' => ∃ A' c', e = .returned (.slice A' ys.length c') ∧ Rh w' w'.heap.size A' ys ∧ Young W.heap.size A' ∧ Below W.heap.size W w') := fun W A c h => by
    have h1 := f_few A c ys 300 W h (by omega) (by decide)
    rw [List.take_of_length_le hl3] at h1
    exact h1
  obtain ⟨n, hn⟩ : ∃ n, n = ys.length := ⟨_, rfl⟩
  rw [← hn] at hfew hfew2 hl3
  have HN := Lib.hid hn
  have HF := Lib.hid hfew
  have HF2 := Lib.hid hfew2
  clear hn hfew hfew2
  obtain ⟨rs, hrs⟩ : ∃ rs, rs = rs0.take 20 := ⟨_, rfl⟩
  obtain ⟨m, hm⟩ : ∃ m, m = rs.length := ⟨_, rfl⟩
  have hm20 : m ≤ 20 := by rw [hm, hrs, List.length_take]; omega
  have hmin : min (rs0.length : Int) 20 = (m : Int) := by rw [hm, hrs, List.length_take]; omega
  have HRR : Hid (Rq w w.heap.size Ar rs) := Lib.hid (by rw [hrs]; exact rq_take hrr)
  have HXR : Hid (∀ r ∈ rs, (0 ≤ r.1 ∧ r.1 ≤ 65535) ∧ 0 ≤ r.2 ∧ r.2 ≤ 65535) := Lib.hid (fun r hr => by rw [hrs] at hr; exact hxr r (List.mem_of_mem_take hr))
  have hmN : m ≤ rs0.length := by rw [hm, hrs, List.length_take]; omega
  have HM := Lib.hid hm
  clear hrs hm hrr hxr
  generalize rs0.length = N at *
  obtain ⟨g1, g2⟩ := cut_h Ar N cr m (m : Int) rfl hmN hcr
  have hmi : (m : Int) ≤ (cr : Int) := by omega
  go_enter Try.func5, Try.ntmps5
  go_wp2_with (go_at_call 7; (with_reducible refine (awake_any w).mono ?_); rintro e w1 ⟨rfl, hb1⟩)
  have HB1 := Lib.hid hb1
  have R1 : Hid (Rh w1 w1.heap.size A xs) := Lib.hid ((hrH.out.below hb1 (Nat.le_refl _)).more hb1.size)
  clear hb1
  go_wp2_with (go_at_call 20; (with_reducible refine (HF.out w1 R1.out).out.mono ?_); rintro e w2 ⟨A2, c2, rfl, hr2, -, hb2⟩; replace hr2 := Lib.hid hr2; replace hb2 := Lib.hid hb2)
  have HB2 := Lib.hid (HB1.out.trans (hb2.out.mono HB1.out.size))
  clear hb2 R1 HF HB1
  go_wp2_with (go_at_call 20; (with_reducible refine (HF2.out w2 A2 c2 hr2.out).out.mono ?_); rintro e w3 ⟨A3, c3, rfl, hr3, -, hb3⟩; replace hr3 := Lib.hid hr3; replace hb3 := Lib.hid hb3)
  have HB3 := Lib.hid (HB2.out.trans (hb3.out.mono HB2.out.size))
  have R23 : Hid (Rh w3 w3.heap.size A2 ys) := Lib.hid ((hr2.out.below hb3.out (Nat.le_refl _)).more hb3.out.size)
  clear hb3 HB2 HF2 hr2
  have COF := Lib.hid (r_of w3 w3.heap.size n c3 A3 ys HN.out hr3.out (Nat.le_refl _) hxH.out (by omega))
  go_wp2_with (first
    | (go_at_call 21; (with_reducible refine COF.out.mono ?_); rintro e w4 ⟨va, qs, rfl, a1, a2, _, a3, a4⟩
       obtain ⟨Aa, ca, hva, ra, _⟩ := Rq.of_own a3
       subst hva
       obtain ⟨q, hq⟩ : ∃ q, qs.length = q := ⟨_, rfl⟩
       rw [hq]
       have HQ := Lib.hid hq
       have A1 := Lib.hid a1
       have AV := Lib.hid a2
       have RA := Lib.hid ra
       have HB4 := Lib.hid (HB3.out.trans (a4.mono HB3.out.size))
       have R24 : Hid (Rh w4 w4.heap.size A2 ys) := Lib.hid ((R23.out.below a4 (Nat.le_refl _)).more a4.size)
       have R34 : Hid (Rh w4 w4.heap.size A3 ys) := Lib.hid ((hr3.out.below a4 (Nat.le_refl _)).more a4.size)
       have CRO := Lib.hid (f_of A2 c2 ys w4 R24.out (by have := HN.out; omega) hxH.out)
       rw [← HN.out] at CRO
       clear a1 a2 a3 a4 ra hq COF HB3 R23 hr3)
    | (go_at_call 22; (with_reducible refine CRO.out.mono ?_); rintro e w5 ⟨g, k5, bs, rfl, s5, o5, _, b5⟩
       have HB5 := Lib.hid (HB4.out.trans (b5.mono HB4.out.size))
       have R25 : Hid (Rh w5 w5.heap.size A2 ys) := Lib.hid ((R24.out.below b5 (Nat.le_refl _)).more b5.size)
       have R35 : Hid (Rh w5 w5.heap.size A3 ys) := Lib.hid ((R34.out.below b5 (Nat.le_refl _)).more b5.size)
       have CSM := Lib.hid (r_same w5 w4.heap.size q ca g k5 Aa qs bs HQ.out.symm (RA.out.below b5 (Nat.le_refl _)) b5.size A1.out s5 (fun x => (o5.2 x).trans (AV.out x).symm))
       clear s5 o5 b5 CRO HB4 R24 R34 RA A1 AV)
    | (go_at_call 9; (with_reducible refine CSM.out.mono ?_); rintro e w6 ⟨rfl, b6⟩
       have HB6 := Lib.hid (HB5.out.trans (b6.mono HB5.out.size))
       have R26 : Hid (Rh w6 w6.heap.size A2 ys) := Lib.hid ((R25.out.below b6 (Nat.le_refl _)).more b6.size)
       have R36 : Hid (Rh w6 w6.heap.size A3 ys) := Lib.hid ((R35.out.below b6 (Nat.le_refl _)).more b6.size)
       have CS2 := Lib.hid (f_same A3 A2 c3 c2 ys ys w6 _ _ R36.out R26.out (by have := HN.out; omega) (by have := HN.out; omega))
       rw [decide_eq_true rfl, ← HN.out] at CS2
       clear b6 CSM HB5 R25 R35 HQ)
    | (go_at_call 23; (with_reducible refine CS2.out.mono ?_); rintro e w7 ⟨rfl, q7, rfl⟩))
  have HB7 : Hid (Below w.heap.size w (w6.drewN q7)) := Lib.hid (below_drewN HB6.out q7)
  have R27 : Hid (Rh (w6.drewN q7) (w6.drewN q7).heap.size A2 ys) := Lib.hid (R26.out.drew q7)
  clear R26 R36 CS2 HB6
  generalize w6.drewN q7 = w7 at *
  go_loopw [10, 44] (fun vr vi wr => ∃ (k : Nat) (b : Bool), k ≤ m ∧ vi = .int .i64 k ∧ vr = .bool b ∧ Hid (b = true ↔ ∀ i (h : i < rs.length), i < k → Gd rs i h) ∧ Hid (Below w7.heap.size w7 wr)) (fun _ vi _ => m - (intOf vi).toNat)
  case atStart => exact ⟨0, true, Nat.zero_le _, rfl, rfl, Lib.hid (iff_of_true rfl (fun i _ h => absurd h (by omega))), Lib.hid (Below.refl _ _)⟩
  case round =>
    obtain ⟨k, b, hk, rfl, rfl, HBB, HW⟩ := hrel
    by_cases hlt : k < m
    · have hkx : k < rs.length := by rw [← HM.out]; exact hlt
      have HRW : Hid (Rq wr w.heap.size Ar rs) := Lib.hid (HRR.out.below (HB7.out.trans (HW.out.mono HB7.out.size)) (Nat.le_refl _))
      obtain ⟨bk, off, hA, hbB, c1, d1⟩ := HRW.out.at hkx
      subst hA
      have hxk := HXR.out _ (List.getElem_mem hkx)
      have HGS := Lib.hid (gd_step hkx)
      have HGK : Hid (Gd rs k hkx ↔ rs[k].1 ≤ rs[k].2 ∧ (0 < k → (rs[k - 1]'(by omega)).2 + 2 ≤ rs[k].1)) := Lib.hid Iff.rfl
      obtain ⟨x, hx⟩ : ∃ x, x = rs[k] := ⟨_, rfl⟩
      rw [← hx] at c1 d1 hxk HGK
      clear hx
      obtain ⟨f0, t0⟩ := x
      simp only at c1 d1 hxk HGK
      have HWA := Lib.hid (HW.out.alloc HW.out.size (.cells #[.int .u16 f0, .int .u16 t0] 46))
      cases b
      · go_wp2
        go_quiet (fail)
        go_wp2
        go_roundw
        case rel => exact ⟨k + 1, false, by omega, by go_num, rfl, Lib.hid (by rw [HGS.out]; exact ⟨fun h => absurd h (by decide), fun h => HBB.out.2 h.1⟩), Lib.hid (by first | exact HWA.out | exact below_drewN HWA.out _)⟩
        case measure => simp [intOf]; omega
      · by_cases hft : f0 ≤ t0
        · have hdt : decide (f0 ≤ t0) = true := decide_eq_true hft
          by_cases hk0 : k = 0
          · have hkd3 : ((k : Int) == 0) = true := by rw [beq_iff_eq]; omega
            have HGK' : Hid (Gd rs k hkx) := Lib.hid (HGK.out.2 ⟨hft, fun h => by omega⟩)
            clear hk0
            go_wp2
            go_quiet (fail)
            go_wp2
            go_roundw
            case rel => exact ⟨k + 1, true, by omega, by go_num, rfl, Lib.hid (by rw [HGS.out]; exact ⟨fun _ => ⟨HBB.out.1 (by simp), HGK'.out⟩, fun _ => rfl⟩), Lib.hid (by first | exact HWA.out | exact below_drewN HWA.out _)⟩
            case measure => simp [intOf]; omega
          · obtain ⟨k', rfl⟩ : ∃ k', k = k' + 1 := ⟨k - 1, by omega⟩
            have hk'x : k' < rs.length := by omega
            obtain ⟨bk2, off2, hA2, _, c2', d2⟩ := HRW.out.at hk'x
            cases hA2
            have hxk2 := HXR.out _ (List.getElem_mem hk'x)
            have HGK2 : Hid (Gd rs (k' + 1) hkx ↔ f0 ≤ t0 ∧ rs[k'].2 + 2 ≤ f0) := Lib.hid (HGK.out.trans ⟨fun h => ⟨h.1, h.2 (by omega)⟩, fun h => ⟨h.1, fun _ => h.2⟩⟩)
            obtain ⟨y, hy⟩ : ∃ y, y = rs[k'] := ⟨_, rfl⟩
            rw [← hy] at c2' d2 hxk2 HGK2
            clear hy HGK
            obtain ⟨lf, lt⟩ := y
            simp only at c2' d2 hxk2 HGK2
            have hbw : bk < wr.heap.size := by have := HB7.out.size; have := HW.out.size; omega
            have c2A : (wr.alloc (.cells #[.int .u16 f0, .int .u16 t0] 46)).cell? ⟨bk, off + k' * 2 + 1, none⟩ = some (.int .u16 lt) := (((Below.refl wr.heap.size wr).alloc (Nat.le_refl _) (.cells #[.int .u16 f0, .int .u16 t0] 46)).cell (p := ⟨bk, off + k' * 2 + 1, none⟩) hbw).trans d2
            have wk : IntKind.i64.wrap (((k' + 1 : Nat) : Int) - 1) = (k' : Int) := by rw [IntWalk.i64_in _ (by omega)]; omega
            have wk2 : IntKind.i64.wrap ((k' : Int) + 1 - 1) = (k' : Int) := by rw [IntWalk.i64_in _ (by omega)]; omega
            have wk3 : IntKind.i64.wrap (k' : Int) = (k' : Int) := IntWalk.i64_in _ (by omega)
            have e0 : (((k' + 1 : Nat) : Int) == 0) = false := by rw [beq_eq_false_iff_ne]; omega
            have e00 : ((k' : Int) + 1 == 0) = false := by rw [beq_eq_false_iff_ne]; omega
            have wf0 : IntKind.i64.wrap f0 = f0 := IntWalk.i64_in _ (by omega)
            have wlt : IntKind.i64.wrap lt = lt := IntWalk.i64_in _ (by omega)
            have wlt2 : IntKind.i64.wrap (lt + 2) = lt + 2 := IntWalk.i64_in _ (by omega)
            have hi1 : (0 : Int) ≤ (k' : Int) := by omega
            have hi2 : (k' : Int) < (m : Int) := by omega
            have hi3 : k' < m := by omega
            obtain ⟨b', hb'⟩ : ∃ b', decide (lt + 2 ≤ f0) = b' := ⟨_, rfl⟩
            have HB' := Lib.hid hb'
            go_wp2
            go_quiet (fail)
            go_wp2
            go_roundw
            case rel => exact ⟨k' + 1 + 1, b', by omega, by go_num, rfl, Lib.hid (by rw [HGS.out, HGK2.out, ← HB'.out, decide_eq_true_eq]; exact ⟨fun h => ⟨HBB.out.1 (by simp), hft, h⟩, fun h => h.2.2⟩), Lib.hid (by first | exact HWA.out | exact below_drewN HWA.out _)⟩
            case measure => simp [intOf]; omega
        · have hdt : decide (f0 ≤ t0) = false := decide_eq_false hft
          have HFT := Lib.hid hft
          go_wp2
          go_quiet (fail)
          go_wp2
          go_roundw
          case rel => exact ⟨k + 1, false, by omega, by go_num, rfl, Lib.hid (by rw [HGS.out]; exact ⟨fun h => absurd h (by decide), fun h => False.elim (by have h1 := (HGK.out.1 h.2).1; have h2 := HFT.out; omega)⟩), Lib.hid (by first | exact HWA.out | exact below_drewN HWA.out _)⟩
          case measure => simp [intOf]; omega
    · have HBG : Hid (b = true ↔ GA rs) := Lib.hid (HBB.out.trans ⟨fun h k hk => h k hk (by have := HM.out; omega), fun h i hi _ => h i hi⟩)
      have HB8 : Hid (Below w.heap.size w wr) := Lib.hid (HB7.out.trans (HW.out.mono HB7.out.size))
      have R28 : Hid (Rh wr wr.heap.size A2 ys) := Lib.hid ((R27.out.below HW.out (Nat.le_refl _)).more HW.out.size)
      obtain ⟨w8, hw8⟩ : ∃ w8, w8 = wr := ⟨_, rfl⟩
      subst hw8
      clear HBB HW HB7 R27
      have COF2 := Lib.hid (r_of w8 w8.heap.size n c2 A2 ys HN.out R28.out (Nat.le_refl _) hxH.out (by omega))
      go_wp2_with (first
        | (go_at_call 21; (with_reducible refine COF2.out.mono ?_); rintro e w9 ⟨va, ps, rfl, a1, a2, _, a3, a4⟩
           obtain ⟨Ap, cpp, hva, ra, hpc⟩ := Rq.of_own a3
           subst hva
           have P1 := Lib.hid a1
           have RP := Lib.hid ra
           have HB9 := Lib.hid (HB8.out.trans (a4.mono HB8.out.size))
           have hpf := ok_flat a1
           have CLI := Lib.hid (r_list w9 w9.heap.size ps.length cpp Ap ps rfl ra (Nat.le_refl _) a1)
           obtain ⟨p, hp⟩ : ∃ p, ps.length = p := ⟨_, rfl⟩
           rw [hp] at CLI hpc
           rw [hp]
           have HPL := Lib.hid hp
           obtain ⟨L0, hL0⟩ : ∃ L0, (Rn.flat ps).length = L0 := ⟨_, rfl⟩
           rw [hL0] at hpf CLI
           have HL0 := Lib.hid hL0
           clear a1 a2 a3 a4 ra hp hL0 COF2)
        | (go_at_call 24; (with_reducible refine CLI.out.mono ?_); rintro e w10 ⟨vw, rfl, l1, l2⟩
           obtain ⟨Aw, cw, hvw, rw10, _⟩ := Rh.of_own (xs := Rn.flat ps) (by rw [HL0.out]; exact l1)
           rw [HL0.out] at hvw
           subst hvw
           have RW10 := Lib.hid rw10
           have RP10 := Lib.hid ((RP.out.below l2 (Nat.le_refl _)).more l2.size)
           have HB10 := Lib.hid (HB9.out.trans (l2.mono HB9.out.size))
           have CFI := Lib.hid (r_fill w10 w10.heap.size p cpp Ap ps (f : Int) (t : Int) HPL.out.symm RP10.out (Nat.le_refl _) P1.out hpc (by omega) (by omega))
           clear l1 l2 rw10 CLI HB9 RP)
        | (go_at_call 25; (with_reducible refine CFI.out.mono ?_); rintro e w11 ⟨vb, us, rfl, u1, u2, u3, u4⟩
           obtain ⟨Ab, cb, hvb, wb⟩ := WrR.of_own u3
           subst hvb
           have U4 := Lib.hid u4
           have WB := Lib.hid wb
           obtain ⟨nb, hnb⟩ : ∃ nb, us.length = nb := ⟨_, rfl⟩
           have hnb6 : nb ≤ 65536 := by rw [← hnb]; exact ok_len u1
           rw [hnb] at WB
           rw [hnb]
           have CWI := Lib.hid (r_wipe w11 w10.heap.size p cpp Ap ps (f : Int) (t : Int) HPL.out.symm (RP10.out.below u4 (Nat.le_refl _)) u4.size P1.out hpc (by omega) (by omega))
           clear u1 u2 u3 u4 wb hnb CFI)
        | (go_at_call 26; (with_reducible refine CWI.out.mono ?_); rintro e w12 ⟨vc, us, rfl, u1, u2, u3, u4⟩
           obtain ⟨Ac, cc, hvc, wc⟩ := WrR.of_own u3
           subst hvc
           have U5 := Lib.hid u4
           have WC := Lib.hid wc
           obtain ⟨nc, hnc⟩ : ∃ nc, us.length = nc := ⟨_, rfl⟩
           have hnc6 : nc ≤ 65536 := by rw [← hnc]; exact ok_len u1
           rw [hnc] at WC
           rw [hnc]
           clear u1 u2 u3 u4 wc hnc CWI))
      have Z1 : Hid (w10.heap.size ≤ w11.heap.size) := Lib.hid U4.out.size
      have HLK : Hid (LM w w12 w10.heap.size Ar rs Ap ps Aw (Rn.flat ps)) := Lib.hid (by
        have hb := U4.out.trans (U5.out.mono U4.out.size)
        exact ⟨HB10.out.trans (hb.mono HB10.out.size), HB10.out.size, hb.size, HRR.out.below (HB10.out.trans (hb.mono HB10.out.size)) (Nat.le_refl _), RP10.out.below hb (Nat.le_refl _), RW10.out.below hb (Nat.le_refl _)⟩)
      have WB12 := Lib.hid (WB.out.below U5.out (Nat.le_refl _))
      clear RP10 RW10 HB10 U4 U5 WB
      go_loopw [90] (fun vi wr => ∃ j : Nat, j ≤ nb ∧ vi = .int .i64 j ∧ Hid (LM w wr w10.heap.size Ar rs Ap ps Aw (Rn.flat ps)) ∧ Hid (WrR wr w10.heap.size w11.heap.size Ab nb) ∧ Hid (WrR wr w11.heap.size w12.heap.size Ac nc)) (fun vi _ => nb - (intOf vi).toNat)
      case atStart => exact ⟨0, Nat.zero_le _, rfl, HLK, WB12, WC⟩
      case round =>
        obtain ⟨j, hj, rfl, HLL, HWB, HWC⟩ := hrel
        by_cases hjl : j < nb
        · obtain ⟨gg, u, hA, hgB, hgE, hcell, hfz, hset⟩ := HWB.out.at hjl
          subst hA
          have HSET := Lib.hid hset
          have HG : Hid (w10.heap.size ≤ gg ∧ gg < w11.heap.size) := Lib.hid ⟨hgB, hgE⟩
          clear hset hgB hgE
          go_wp2
          go_roundw
          case rel => exact ⟨j + 1, by omega, by go_num, Lib.hid (HLL.out.set HG.out.1), Lib.hid (HSET.out _), Lib.hid (HWC.out.other (.inl HG.out.2))⟩
          case measure => simp [intOf]; omega
        · clear HLK WB12 WC
          go_wp2
          go_loopw [100] (fun vi wr => ∃ j : Nat, j ≤ nc ∧ vi = .int .i64 j ∧ Hid (LM w wr w10.heap.size Ar rs Ap ps Aw (Rn.flat ps)) ∧ Hid (WrR wr w11.heap.size w12.heap.size Ac nc)) (fun vi _ => nc - (intOf vi).toNat)
          case atStart => exact ⟨0, Nat.zero_le _, rfl, HLL, HWC⟩
          case round =>
            clear HLL HWB HWC
            obtain ⟨j, hj, rfl, HLL, HWC⟩ := hrel
            by_cases hjl : j < nc
            · obtain ⟨gg, u, hA, hgB, hgE, hcell, hfz, hset⟩ := HWC.out.at hjl
              subst hA
              have HSET := Lib.hid hset
              have HG : Hid (w10.heap.size ≤ gg) := Lib.hid (Nat.le_trans Z1.out hgB)
              clear hset hgB hgE
              go_wp2
              go_roundw
              case rel => exact ⟨j + 1, by omega, by go_num, Lib.hid (HLL.out.set HG.out), Lib.hid (HSET.out _)⟩
              case measure => simp [intOf]; omega
            · obtain ⟨w13, hw13⟩ : ∃ x, x = wr := ⟨_, rfl⟩
              subst hw13
              have CIS := Lib.hid (r_is w13 w.heap.size m cr Ar rs HM.out HLL.out.rr (Nat.le_trans HLL.out.wB HLL.out.hB) HXR.out (by omega) b HBG.out)
              have hwB := Nat.le_trans HLL.out.wB HLL.out.hB
              have CLI2 : Hid (∀ W, Below w13.heap.size w13 W → Calls Try.prog 24 #[.slice Ap p cpp] W fun e w' => ∃ A' c', e = .returned (.slice A' L0 c') ∧ Rh w' w'.heap.size A' (Rn.flat ps) ∧ Below w13.heap.size w13 w') := Lib.hid (fun W hW => by
                refine (r_list W w10.heap.size p cpp Ap ps HPL.out.symm (HLL.out.ra.below hW HLL.out.hB) (Nat.le_trans HLL.out.hB hW.size) P1.out).mono ?_
                rintro e w' ⟨v, rfl, h1, h2⟩
                obtain ⟨A', c', rfl, h3, _⟩ := Rh.of_own h1
                rw [HL0.out]
                exact ⟨A', c', rfl, h3, hW.trans (h2.mono hW.size)⟩)
              have CSA : Hid (∀ W A' c', Below w13.heap.size w13 W → Rh W W.heap.size A' (Rn.flat ps) → Calls Try.prog 23 #[.slice A' L0 c', .slice Aw L0 cw] W fun e w' => e = .returned (.bool true) ∧ Below w13.heap.size w13 w') := Lib.hid (fun W A' c' hW h1 => by
                have h3 := f_same A' Aw c' cw (Rn.flat ps) (Rn.flat ps) W _ _ h1 (HLL.out.rw.below hW HLL.out.hB) (by rw [HL0.out]; omega) (by rw [HL0.out]; omega)
                rw [decide_eq_true rfl, HL0.out] at h3
                refine h3.mono ?_
                rintro e w' ⟨rfl, q, rfl⟩
                exact ⟨rfl, below_drewN hW q⟩)
              have hb0 : (b == b) = true := by simp
              go_wp2_with (first
                | (go_at_call 27; (with_reducible refine CIS.out.mono ?_); rintro e w14 ⟨rfl, h14⟩; have LW := Lib.hid h14; clear h14 CIS)
                | (go_at_call 24; (with_reducible refine (CLI2.out _ LW.out).mono ?_); rintro e w15 ⟨A15, c15, rfl, r15, h15⟩; clear LW; have LW := Lib.hid h15; have R15 := Lib.hid r15; clear h15 r15)
                | (go_at_call 23; (with_reducible refine (CSA.out _ _ _ LW.out R15.out).mono ?_); rintro e w16 ⟨rfl, h16⟩; clear LW; have LW := Lib.hid h16; clear h16))
              go_ret
              exact ⟨by first | rfl | simp, HLL.out.low.trans (LW.out.mono hwB)⟩
end Go.Proofs.Ytejboemifncjoaa
