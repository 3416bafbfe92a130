/- The law TriePlays on what the methods must keep alone; the text walked. -/
import Derived.Test.YtiinefdpaiincaaMgG
namespace Go.Proofs.Ytiinefdpaiincaa
set_option maxRecDepth 4000
open Go.RowKit
section
variable {sh sn sm : Nat} {T : World → Nat → List Nat → Nat → Nat → (Nat → Prop) → Prop}
set_option maxRecDepth 100000 in
set_option maxHeartbeats 4000000 in
theorem law_set_plays (hTC : TC3 K.xfast 1 9 1 T) (sd : Nat) (hsd : sd < 18446744073709551616) (L : Nat) (hL : L < 65536) (A : Option Addr) (cp : Nat) (acts : List (Nat × Nat)) (st : Nat) (hst : st < 256) (w : World) (hr : Rk w w.heap.size A acts) (hlen : acts.length ≤ 9223372036854775807)
    (h5 : K.xfast [5] ≤ 4000) (h9 : K.xfast [5, 9] ≤ 4000) :
    Calls Try.prog 3 #[.int .u64 (sd : Int), .int .u16 (L : Int), .slice A acts.length cp, .int .u8 (st : Int)] w fun e w' => e = .returned (.bool true) ∧ Below w.heap.size w w' := by
  obtain ⟨len, hxl⟩ : ∃ len, acts.length = len := ⟨_, rfl⟩
  have HR := Lib.hid hr
  have HXL := Lib.hid hxl
  rw [hxl] at hlen
  rw [hxl]
  clear hr hxl
  obtain ⟨M, hM⟩ : ∃ M, L % 5000 = M := ⟨_, rfl⟩
  have hM2 : M < 5000 := by omega
  have q1 : (L : Int) % 5000 = (M : Int) := by omega
  have q2 : (L : Int).tmod 5000 = (M : Int) := by rw [Int.tmod_eq_emod_of_nonneg (by omega)]; exact q1
  have q3 : IntKind.i64.wrap (M : Int) = (M : Int) := IntWalk.i64_in _ (by omega)
  have q5 : IntKind.u16.wrap (M : Int) = (M : Int) := by simp [IntKind.wrap, IntKind.signed, IntKind.bits]; omega
  have haw := Lib.hid (law_awake hTC.toTC2 h5 h9 w)
  have hnew := Lib.hid (fun (W : World) (_ : Below w.heap.size w W) => hTC.new W sd hsd M (by omega))
  have hTCH := Lib.hid hTC
  clear hTC hM
  go_enter Try.func3, Try.ntmps3
  go_wp2_with (first
    | (go_at_call 7; (with_reducible refine haw.out.mono ?_); rintro e w1 ⟨rfl, hb1⟩; have HB1 := Lib.hid hb1; clear hb1)
    | (go_at_call 8; (with_reducible refine (hnew.out w1 HB1.out).mono ?_); rintro e w2 ⟨P, tk, O, rfl, ht, hb, ho⟩; have HI0 : Hid (PI T w w2 P M (.slice none 0 0) []) := (show PI T w w2 P M (.slice none 0 0) [] from ⟨KX.nil _, tk, O, ht, HB1.out.trans (hb.mono HB1.out.size), fun j hj => Nat.le_trans HB1.out.size (ho j hj), fun g e => by simp [Value.ownBlock] at e⟩); clear ht hb ho))
  go_loopw [12, 39] (fun v u wr => ∃ (j : Nat) (xs : List Nat), j ≤ len ∧ j ≤ 60 ∧ xs.length ≤ j ∧ u = .int .i64 (j : Int) ∧ Hid (PI T w wr P M v xs)) (fun _ u => fun _ => len - (intOf u).toNat)
  case atStart => exact ⟨0, [], by omega, by omega, by simp, rfl, HI0⟩
  case round =>
    obtain ⟨j, xs, hj, hj6, hxs, rfl, HI⟩ := hrel
    clear HI0
    obtain ⟨v, hv⟩ : ∃ v, v = u12 := ⟨_, rfl⟩
    subst hv
    have hbw : Below w.heap.size w wr := by
      obtain ⟨_, _, _, _, hb, _⟩ := HI.out
      exact hb
    have HBW := Lib.hid hbw
    by_cases hlt : j < len
    · have hT1 : decide ((j : Int) < (len : Int)) = true := decide_eq_true (by omega)
      have hT1' : decide (j < len) = true := decide_eq_true hlt
      obtain ⟨b, off, rfl, hb, ⟨x1, x2⟩, c0, c1⟩ := (HR.out.below hbw (Nat.le_refl _)).at_ (k := j) (by have := HXL.out; omega)
      have hik : (j : Int) < (len : Int) := by omega
      generalize acts[j]'(by have := HXL.out; omega) = x at *
      obtain ⟨d, k⟩ := x
      dsimp only at x1 x2 c0 c1
      have hbr : b < wr.heap.size := by have := hbw.size; omega
      clear hbw
      by_cases h60 : 60 ≤ j
      · have hT2 : decide ((60 : Int) ≤ (j : Int)) = true := decide_eq_true (by omega)
        have hT2' : decide (60 ≤ j) = true := decide_eq_true (by omega)
        have HQ0 : Hid (PI T w (wr.alloc (kacto d k)) P M v xs) := HI.out.below hTCH.out.toTC ((Below.refl _ wr).alloc (Nat.le_refl _) _)
        obtain ⟨wq, hwq⟩ : ∃ wq, wr.alloc (kacto d k) = wq := ⟨_, rfl⟩
        rw [hwq] at HQ0
        have HQ := HQ0
        have HWQ := Lib.hid hwq
        clear hwq HQ0
        obtain ⟨z, hz⟩ : ∃ z, st % 5 = z := ⟨_, rfl⟩
        have hz5 : z < 5 := by omega
        have r1 : (st : Int) % 5 = (z : Int) := by omega
        have r2 : (st : Int).tmod 5 = (z : Int) := by rw [Int.tmod_eq_emod_of_nonneg (by omega)]; exact r1
        have r3 : IntKind.i64.wrap (z : Int) = (z : Int) := IntWalk.i64_in _ (by omega)
        obtain ⟨kk, hkk⟩ : ∃ kk : Nat, 1 + (z : Int) = (kk : Int) := ⟨1 + z, by omega⟩
        have hk1 : 0 < kk := by omega
        have hk6 : kk ≤ 5 := by omega
        have r4 : IntKind.i64.wrap (kk : Int) = (kk : Int) := IntWalk.i64_in _ (by omega)
        have r5 : IntKind.u8.wrap (z : Int) = (z : Int) := by simp [IntKind.wrap, IntKind.signed, IntKind.bits]; omega
        obtain ⟨mm, hmm⟩ : ∃ mm, (xs.take kk).length = mm := ⟨_, rfl⟩
        have hmn : mm = min kk xs.length := by rw [← hmm, List.length_take]
        obtain ⟨hKq, tkq, Oq, hTq, hbq, _, _⟩ := HQ.out
        have HBQ := Lib.hid hbq
        have hsm := Lib.hid (fun (W : World) (h : Below wq.heap.size wq W) => law_same hTCH.out.toTC2 W P xs M tkq Oq (hTCH.out.toTC.below hTq h) (by omega) v xs (hKq.below h) (by omega))
        have hal := Lib.hid (fun (W : World) (h : Below wq.heap.size wq W) => hTCH.out.all W P xs M tkq Oq (hTCH.out.toTC.below hTq h) kk hk1 (by omega))
        have hli := Lib.hid (fun (W : World) (h : Below wq.heap.size wq W) => hTCH.out.limit W P xs M tkq Oq (hTCH.out.toTC.below hTq h))
        obtain ⟨A', c', hve, _⟩ := kx_rw hKq
        have hrw := Lib.hid (fun (W : World) (h : Below wq.heap.size wq W) => show Rw W W.heap.size A' (xs.take kk) from by
          obtain ⟨A2, c2, e, hr2⟩ := kx_rw (hKq.below h)
          rw [hve] at e
          injection e with e1 _ _
          subst e1
          intro hne
          obtain ⟨b2, off2, e2, e3, e4⟩ := hr2 (fun e => hne (by rw [e, List.take_nil]))
          exact ⟨b2, off2, e2, e3, fun q hq => by rw [List.getElem_take]; exact e4 q (by rw [List.length_take] at hq; omega)⟩)
        have hsk := Lib.hid (fun (W : World) (h : Below wq.heap.size wq W) (A1 : Option Addr) (c1 c2 : Nat) (h1 : Rw W W.heap.size A1 (xs.take kk)) => ref_samekeys A1 A' c1 c2 (xs.take kk) (xs.take kk) W _ _ h1 (hrw.out W h) (by rw [List.length_take]; omega) (by rw [List.length_take]; omega))
        simp only [decide_true] at hsm hsk
        rw [hmm] at hsk
        have HMM := Lib.hid hmm
        have HBd : Hid (Below wq.heap.size wq wq.drew) := below_drewN (Below.refl wq.heap.size wq) 1
        have HB0q := Lib.hid (Below.refl wq.heap.size wq)
        have hmi1 : min (xs.length : Int) (kk : Int) = (mm : Int) := by omega
        have hform := hKq.form
        clear hKq hTq hbq hrw hmm
        rcases hform with ⟨rfl, hes⟩ | ⟨g5, c5, rfl, hc5, hg5, _⟩
        · have hm0 : mm = 0 := by rw [hmn, hes]; simp
          subst hm0
          clear hmi1 hmn hes
          have hmi1 : min (0 : Int) (kk : Int) = 0 := by omega
          have e1 : (none : Option Addr) = A' := by injection hve
          subst e1
          clear hve
          go_wp2
          rw [HWQ.out]
          go_region_held3 (fun _ => True) (trivial) (first
            | (go_at_call 15; (with_reducible refine (hsm.out _ HBd.out).mono ?_); rintro e w7 ⟨rfl, hb7⟩; have HB7 := Lib.hid (HBd.out.trans (hb7.mono HBd.out.size)); clear hb7)
            | (go_at_call 17; (with_reducible refine (hal.out _ HB7.out).mono ?_); rintro e w8 ⟨v8, rfl, hk8, hb8⟩; have HB8 := Lib.hid (HB7.out.trans (hb8.mono HB7.out.size)); obtain ⟨A8, c8, rfl, hr8⟩ := kx_rw hk8; have HR8 := Lib.hid hr8; rw [HMM.out]; clear hk8 hb8 hr8)
            | (go_at_call 16; (with_reducible refine (hsk.out _ HB8.out A8 c8 _ HR8.out).mono ?_); rintro e w9 ⟨rfl, n9, rfl⟩; have HB9 := Lib.hid (below_drewN HB8.out n9))
            | (go_at_call 18; (with_reducible refine (hli.out _ HB9.out).mono ?_); rintro e w10 ⟨rfl, hb10⟩; have HB10 := Lib.hid (HB9.out.trans (hb10.mono HB9.out.size)); clear hb10))
          all_goals
            go_wp2
            go_ret
            exact ⟨rfl, HBQ.out.trans (HB10.out.mono HBQ.out.size)⟩
        · have hmi2 : (mm : Int) ≤ (c5 : Int) := by omega
          have hmi4 : mm ≤ c5 := by omega
          have hmi3 : (0 : Int) ≤ (mm : Int) := by omega
          clear hmn
          have e1 : some (⟨g5, 0, none⟩ : Addr) = A' := by injection hve
          subst e1
          clear hve
          go_wp2
          rw [HWQ.out]
          go_region_held3 (fun _ => True) (trivial) (first
            | (go_at_call 15; (with_reducible refine (hsm.out _ HBd.out).mono ?_); rintro e w7 ⟨rfl, hb7⟩; have HB7 := Lib.hid (HBd.out.trans (hb7.mono HBd.out.size)); clear hb7)
            | (go_at_call 17; (with_reducible refine (hal.out _ HB7.out).mono ?_); rintro e w8 ⟨v8, rfl, hk8, hb8⟩; have HB8 := Lib.hid (HB7.out.trans (hb8.mono HB7.out.size)); obtain ⟨A8, c8, rfl, hr8⟩ := kx_rw hk8; have HR8 := Lib.hid hr8; rw [HMM.out]; clear hk8 hb8 hr8)
            | (go_at_call 16; (with_reducible refine (hsk.out _ HB8.out A8 c8 _ HR8.out).mono ?_); rintro e w9 ⟨rfl, n9, rfl⟩; have HB9 := Lib.hid (below_drewN HB8.out n9))
            | (go_at_call 18; (with_reducible refine (hli.out _ HB9.out).mono ?_); rintro e w10 ⟨rfl, hb10⟩; have HB10 := Lib.hid (HB9.out.trans (hb10.mono HB9.out.size)); clear hb10))
          all_goals
            go_wp2
            go_ret
            exact ⟨rfl, HBQ.out.trans (HB10.out.mono HBQ.out.size)⟩
      · have hT2 : decide ((60 : Int) ≤ (j : Int)) = false := decide_eq_false (by omega)
        have hT2' : decide (60 ≤ j) = false := decide_eq_false (by omega)
        have hdo := Lib.hid (k_do (wr.alloc (kacto d k)) v xs (HI.out.1.below ((Below.refl _ wr).alloc (Nat.le_refl _) _)) (by omega) d k x1)
        have hld := Lib.hid (fun (W : World) (tk : Nat) (O : Nat → Prop) (hT : T W P xs M tk O) => law_do hTCH.out.toTC W P xs M tk O hT d k x1 x2)
        obtain ⟨E1, hE1⟩ : ∃ E1, K.doE xs d k = E1 := ⟨_, rfl⟩
        obtain ⟨ys, hys⟩ : ∃ ys, K.doL xs d k = ys := ⟨_, rfl⟩
        obtain ⟨E2, hE2⟩ : ∃ E2, K.loE K.xfast xs M d k = E2 := ⟨_, rfl⟩
        obtain ⟨zs, hzs⟩ : ∃ zs, K.loL K.xfast xs M d k = zs := ⟨_, rfl⟩
        rw [hE1, hys] at hdo
        rw [hE2, hzs] at hld
        have hstp := Lib.hid (fun W => law_steps W d x1)
        have HE1 := Lib.hid hE1
        have HE2 := Lib.hid hE2
        have HYS := Lib.hid hys
        have HZS := Lib.hid hzs
        obtain ⟨hk0, tk0, O0, hT0, hb0, hO0, hv0⟩ := HI.out
        have hld2 := Lib.hid (fun (w2 : World) (o : Obj) (hb2 : Below wr.heap.size wr w2) => hld.out (w2.alloc o) tk0 O0 (hTCH.out.toTC.below hT0 (hb2.trans ((Below.refl _ _).alloc hb2.size _))))
        have HK0 := Lib.hid hk0
        have HT0 := Lib.hid hT0
        have HO0 := Lib.hid hO0
        have HV0 := Lib.hid hv0
        clear hk0 hT0 hb0 hO0 hv0 hld hE1 hE2 hys hzs
        generalize K.doK xs d k = K1 at *
        generalize K.doY xs d k = Y1 at *
        generalize K.loS 1 9 1 d = most at *
        have hyl : ys.length ≤ 1000000 := by have := K.doL_len xs d k; rw [HYS.out] at this; omega
        have hzl : zs.length ≤ 1000000 := by have := K.loL_len K.xfast xs M d k; rw [HZS.out] at this; omega
        have hzj : zs.length ≤ j + 1 := by have := K.loL_len K.xfast xs M d k; rw [HZS.out] at this; omega
        have hcase : (¬ d % 9 < 2 ∧ E1 = E2 ∧ zs = ys) ∨ (d % 9 < 2 ∧ E1 ≠ 0 ∧ E1 = E2 ∧ zs = ys) ∨ (d % 9 < 2 ∧ E1 = 0 ∧ K.xfast ys ≤ M ∧ E2 = 0 ∧ zs = ys) ∨ (d % 9 < 2 ∧ E1 = 0 ∧ M < K.xfast ys ∧ E2 = 5 ∧ zs = xs) := by
          by_cases hc : d % 9 < 2 ∧ K.doE xs d k = 0 ∧ M < K.xfast (K.doL xs d k)
          · have h1 := K.step_full K.xfast xs M d k hc.1 hc.2.1 hc.2.2
            rw [HE1.out, HYS.out] at hc
            rw [HE2.out, HZS.out] at h1
            exact .inr (.inr (.inr ⟨hc.1, hc.2.1, hc.2.2, h1.1, h1.2⟩))
          · have h1 := K.step_else K.xfast xs M d k hc
            rw [HE1.out, HYS.out] at hc
            rw [HE1.out, HE2.out, HZS.out, HYS.out] at h1
            by_cases h2 : d % 9 < 2
            · by_cases h3 : E1 = 0
              · exact .inr (.inr (.inl ⟨h2, h3, by omega, by omega, h1.2⟩))
              · exact .inr (.inl ⟨h2, h3, h1.1.symm, h1.2⟩)
            · exact .inl ⟨h2, h1.1.symm, h1.2⟩
        clear HE1 HE2 HYS HZS
        rcases hcase with ⟨k1, rfl, rfl⟩ | ⟨k1, k2, rfl, rfl⟩ | ⟨k1, rfl, k3, rfl, rfl⟩ | ⟨k1, rfl, k3, rfl, rfl⟩
        · have hd9 : decide ((d : Int) % 9 < 2) = false := decide_eq_false (by omega)
          have hd9' : ¬ ((d : Int) % 9 < 2) := by omega
          go_wp2_with (first
            | (go_at_call 9; (with_reducible refine hdo.out.mono ?_); rintro e w2 ⟨v2, rfl, hk2, hb2, hv2⟩; have HK2 := Lib.hid hk2; have HB2 := Lib.hid hb2; have HV2 := Lib.hid hv2; have HB2' : Hid (Below wr.heap.size wr w2) := (((Below.refl _ wr).alloc (Nat.le_refl _) _).trans (hb2.mono (by simp))); have d0 : w2.cell? ⟨wr.heap.size, 0, none⟩ = some (.int .u8 (d : Int)) := cell_of_row _ _ 0 _ _ (0, 0) ((hb2.block wr.heap.size (by simp)).trans (K.alloc_top wr _)); have d1 : w2.cell? ⟨wr.heap.size, 1, none⟩ = some (.int .u64 (k : Int)) := cell_of_row _ _ 1 _ _ (0, 0) ((hb2.block wr.heap.size (by simp)).trans (K.alloc_top wr _)); have z1 : wr.heap.size < w2.heap.size := (by have := hb2.size; simp at this; omega); clear hk2 hb2 hv2)
            | (go_at_call 10; (with_reducible refine (hld2.out w2 _ HB2'.out).mono ?_); rintro e w4 hD; have HPR := Lib.hid (PR.of hTCH.out.toTC HK0.out HT0.out HBW.out HO0.out HV0.out HK2.out HB2.out HV2.out hD); obtain ⟨tk4, O4, rfl, _⟩ := hD; clear d0 d1 z1; have d0 : w4.cell? ⟨wr.heap.size, 0, none⟩ = some (.int .u8 (d : Int)) := cell_of_row _ _ 0 _ _ (0, 0) HPR.out.act; have e0 : w4.cell? ⟨w2.heap.size, 0, none⟩ = some (.int .i64 (E1 : Int)) := cell_of_row _ _ 0 _ _ (0, 0) HPR.out.want; have z1 : wr.heap.size < w4.heap.size := (by have := HPR.out.z1; have := HPR.out.z2; omega); have z2 : w2.heap.size < w4.heap.size := HPR.out.z2))
          have PS6 := Lib.hid (HPR.out.ps hTCH.out.toTC HK0.out HK2.out HBW.out.size v2 (.inr ⟨rfl, rfl⟩))
          clear d0 e0
          generalize w4.alloc (.cells #[.int .i64 (E1 : Int), .int .u64 (K1 : Int), .bool Y1] 34) = W6 at *
          obtain ⟨tk6, O6, hT6, htk6, hb6, hO6, hv6, hw6⟩ := PS6.out.set_
          obtain ⟨MP, hmp, hPlt, hPO, hmt⟩ := hTCH.out.taken W6 P zs M tk6 O6 hT6
          have hin : Hid (∀ W', Below W6.heap.size W6 W' → W'.cell? ⟨w2.heap.size, 0, none⟩ = some (.int .i64 (E1 : Int)) ∧ W'.cell? ⟨w2.heap.size, 1, none⟩ = some (.int .u64 (K1 : Int)) ∧ W'.cell? ⟨w2.heap.size, 2, none⟩ = some (.bool Y1) ∧ W'.cell? ⟨w4.heap.size, 0, none⟩ = some (.int .i64 (E1 : Int)) ∧ W'.cell? ⟨w4.heap.size, 1, none⟩ = some (.int .u64 (K1 : Int)) ∧ W'.cell? ⟨w4.heap.size, 2, none⟩ = some (.bool Y1) ∧ W'.cell? ⟨wr.heap.size, 0, none⟩ = some (.int .u8 (d : Int)) ∧ W'.cell? ⟨P, 0, none⟩ = some (.pointer (some ⟨MP, 0, none⟩))) := Lib.hid (fun W' hB => by
            have h := PS6.out.below hTCH.out.toTC hB
            exact ⟨cell_of_row _ _ 0 _ _ (0, 0) h.want, cell_of_row _ _ 1 _ _ (0, 0) h.want, cell_of_row _ _ 2 _ _ (0, 0) h.want, cell_of_row _ _ 0 _ _ (0, 0) h.got, cell_of_row _ _ 1 _ _ (0, 0) h.got, cell_of_row _ _ 2 _ _ (0, 0) h.got, cell_of_row _ _ 0 _ _ (0, 0) h.act, (hB.cell (p := ⟨P, 0, none⟩) hPlt).trans hmp⟩)
          have hus := Lib.hid (fun (W' : World) (hB : Below W6.heap.size W6 W') => hTCH.out.used W' P zs M tk6 O6 (hTCH.out.toTC.below hT6 hB))
          have htr := Lib.hid (fun (W' : World) (hB : Below W6.heap.size W6 W') => k_xfast W' v2 zs (PS6.out.lx.below hB) hzl)
          have hmt2 := Lib.hid (fun (W' : World) (hB : Below W6.heap.size W6 W') => by
            obtain ⟨MP2, hmp2, _, _, hmt3⟩ := hTCH.out.taken W' P zs M tk6 O6 (hTCH.out.toTC.below hT6 hB)
            have e := hmp2.symm.trans ((hB.cell (p := ⟨P, 0, none⟩) hPlt).trans hmp)
            simp at e
            subst e
            exact hmt3)
          have hup := (hTCH.out.up hT6).2.2
          have HPI : Hid (∀ W', Below W6.heap.size W6 W' → PI T w W' P M v2 zs) := Lib.hid (fun W' hB => by obtain ⟨a1, a2, a3, a4, a5, a6, a7⟩ := (PS6.out.below hTCH.out.toTC hB).set_; exact ⟨PS6.out.lx.below hB, a1, a2, a3, a5, a6, a7.1⟩)
          have g1 : decide ((M : Int) < ((K.xfast zs : Nat) : Int)) = false := decide_eq_false (by omega)
          have g1' : decide (M < K.xfast zs) = false := decide_eq_false (by omega)
          have g2' : decide (most < tk6) = false := decide_eq_false (by omega)
          have g2 : decide ((most : Int) < (tk6 : Int)) = false := decide_eq_false (by omega)
          have HB6 := Lib.hid (Below.refl W6.heap.size W6)
          have HBd : Hid (Below W6.heap.size W6 W6.drew) := below_drewN (Below.refl W6.heap.size W6) 1
          clear hT6 hb6 hO6 hv6 hw6 hmt hup hmp hPO
          generalize K.xfast zs = U at *
          go_region_held3 (fun W' => W'.cell? ⟨w2.heap.size, 0, none⟩ = some (.int .i64 (E1 : Int)) ∧ W'.cell? ⟨w2.heap.size, 1, none⟩ = some (.int .u64 (K1 : Int)) ∧ W'.cell? ⟨w2.heap.size, 2, none⟩ = some (.bool Y1) ∧ W'.cell? ⟨w4.heap.size, 0, none⟩ = some (.int .i64 (E1 : Int)) ∧ W'.cell? ⟨w4.heap.size, 1, none⟩ = some (.int .u64 (K1 : Int)) ∧ W'.cell? ⟨w4.heap.size, 2, none⟩ = some (.bool Y1) ∧ W'.cell? ⟨wr.heap.size, 0, none⟩ = some (.int .u8 (d : Int)) ∧ W'.cell? ⟨P, 0, none⟩ = some (.pointer (some ⟨MP, 0, none⟩))) (first | exact hin.out _ HB9.out | exact hin.out _ HB8.out | exact hin.out _ HB7.out | exact hin.out _ HB7b.out | exact hin.out _ HB7a.out | exact hin.out _ HB6.out | exact hin.out _ HBd.out) (first
            | (go_at_call 12; (with_reducible refine (hus.out _ HBd.out).mono ?_); rintro e w7 ⟨rfl, hb7⟩; have HB7a := Lib.hid (HBd.out.trans (hb7.mono HBd.out.size)); clear hb7)
            | (go_at_call 11; (with_reducible refine (htr.out _ HB7a.out).mono ?_); rintro e w8 ⟨rfl, hb8⟩; have HB7b := Lib.hid (HB7a.out.trans (hb8.mono HB7a.out.size)); clear hb8)
            | (go_at_call 12; (with_reducible refine (hus.out _ HB7b.out).mono ?_); rintro e w9 ⟨rfl, hb9⟩; have HB7 := Lib.hid (HB7b.out.trans (hb9.mono HB7b.out.size)); clear hb9)
            | (go_at_call 13; (with_reducible refine (hmt2.out _ HB7.out).mono ?_); rintro e w10 ⟨rfl, hb10⟩; have HB8 := Lib.hid (HB7.out.trans (hb10.mono HB7.out.size)); clear hb10)
            | (go_at_call 14; (with_reducible refine (hstp.out _).mono ?_); rintro e w11 ⟨rfl, rfl⟩; have HB9 := HB8))
          all_goals
            go_wp2
            go_roundw
            case rel => exact ⟨j + 1, zs, by omega, by omega, by omega, by go_num, Lib.hid (HPI.out _ HB9.out)⟩
            case measure => simp [intOf]; omega
        · have hd9 : decide ((d : Int) % 9 < 2) = true := decide_eq_true (by omega)
          have hd9' : (d : Int) % 9 < 2 := by omega
          have he9 : ((E1 : Int) == 0) = false := by rw [Bool.eq_false_iff]; intro e; rw [beq_iff_eq] at e; omega
          go_wp2_with (first
            | (go_at_call 9; (with_reducible refine hdo.out.mono ?_); rintro e w2 ⟨v2, rfl, hk2, hb2, hv2⟩; have HK2 := Lib.hid hk2; have HB2 := Lib.hid hb2; have HV2 := Lib.hid hv2; have HB2' : Hid (Below wr.heap.size wr w2) := (((Below.refl _ wr).alloc (Nat.le_refl _) _).trans (hb2.mono (by simp))); have d0 : w2.cell? ⟨wr.heap.size, 0, none⟩ = some (.int .u8 (d : Int)) := cell_of_row _ _ 0 _ _ (0, 0) ((hb2.block wr.heap.size (by simp)).trans (K.alloc_top wr _)); have d1 : w2.cell? ⟨wr.heap.size, 1, none⟩ = some (.int .u64 (k : Int)) := cell_of_row _ _ 1 _ _ (0, 0) ((hb2.block wr.heap.size (by simp)).trans (K.alloc_top wr _)); have z1 : wr.heap.size < w2.heap.size := (by have := hb2.size; simp at this; omega); clear hk2 hb2 hv2)
            | (go_at_call 10; (with_reducible refine (hld2.out w2 _ HB2'.out).mono ?_); rintro e w4 hD; have HPR := Lib.hid (PR.of hTCH.out.toTC HK0.out HT0.out HBW.out HO0.out HV0.out HK2.out HB2.out HV2.out hD); obtain ⟨tk4, O4, rfl, _⟩ := hD; clear d0 d1 z1; have d0 : w4.cell? ⟨wr.heap.size, 0, none⟩ = some (.int .u8 (d : Int)) := cell_of_row _ _ 0 _ _ (0, 0) HPR.out.act; have e0 : w4.cell? ⟨w2.heap.size, 0, none⟩ = some (.int .i64 (E1 : Int)) := cell_of_row _ _ 0 _ _ (0, 0) HPR.out.want; have z1 : wr.heap.size < w4.heap.size := (by have := HPR.out.z1; have := HPR.out.z2; omega); have z2 : w2.heap.size < w4.heap.size := HPR.out.z2))
          have PS6 := Lib.hid (HPR.out.ps hTCH.out.toTC HK0.out HK2.out HBW.out.size v2 (.inr ⟨rfl, rfl⟩))
          clear d0 e0
          generalize w4.alloc (.cells #[.int .i64 (E1 : Int), .int .u64 (K1 : Int), .bool Y1] 34) = W6 at *
          obtain ⟨tk6, O6, hT6, htk6, hb6, hO6, hv6, hw6⟩ := PS6.out.set_
          obtain ⟨MP, hmp, hPlt, hPO, hmt⟩ := hTCH.out.taken W6 P zs M tk6 O6 hT6
          have hin : Hid (∀ W', Below W6.heap.size W6 W' → W'.cell? ⟨w2.heap.size, 0, none⟩ = some (.int .i64 (E1 : Int)) ∧ W'.cell? ⟨w2.heap.size, 1, none⟩ = some (.int .u64 (K1 : Int)) ∧ W'.cell? ⟨w2.heap.size, 2, none⟩ = some (.bool Y1) ∧ W'.cell? ⟨w4.heap.size, 0, none⟩ = some (.int .i64 (E1 : Int)) ∧ W'.cell? ⟨w4.heap.size, 1, none⟩ = some (.int .u64 (K1 : Int)) ∧ W'.cell? ⟨w4.heap.size, 2, none⟩ = some (.bool Y1) ∧ W'.cell? ⟨wr.heap.size, 0, none⟩ = some (.int .u8 (d : Int)) ∧ W'.cell? ⟨P, 0, none⟩ = some (.pointer (some ⟨MP, 0, none⟩))) := Lib.hid (fun W' hB => by
            have h := PS6.out.below hTCH.out.toTC hB
            exact ⟨cell_of_row _ _ 0 _ _ (0, 0) h.want, cell_of_row _ _ 1 _ _ (0, 0) h.want, cell_of_row _ _ 2 _ _ (0, 0) h.want, cell_of_row _ _ 0 _ _ (0, 0) h.got, cell_of_row _ _ 1 _ _ (0, 0) h.got, cell_of_row _ _ 2 _ _ (0, 0) h.got, cell_of_row _ _ 0 _ _ (0, 0) h.act, (hB.cell (p := ⟨P, 0, none⟩) hPlt).trans hmp⟩)
          have hus := Lib.hid (fun (W' : World) (hB : Below W6.heap.size W6 W') => hTCH.out.used W' P zs M tk6 O6 (hTCH.out.toTC.below hT6 hB))
          have htr := Lib.hid (fun (W' : World) (hB : Below W6.heap.size W6 W') => k_xfast W' v2 zs (PS6.out.lx.below hB) hzl)
          have hmt2 := Lib.hid (fun (W' : World) (hB : Below W6.heap.size W6 W') => by
            obtain ⟨MP2, hmp2, _, _, hmt3⟩ := hTCH.out.taken W' P zs M tk6 O6 (hTCH.out.toTC.below hT6 hB)
            have e := hmp2.symm.trans ((hB.cell (p := ⟨P, 0, none⟩) hPlt).trans hmp)
            simp at e
            subst e
            exact hmt3)
          have hup := (hTCH.out.up hT6).2.2
          have HPI : Hid (∀ W', Below W6.heap.size W6 W' → PI T w W' P M v2 zs) := Lib.hid (fun W' hB => by obtain ⟨a1, a2, a3, a4, a5, a6, a7⟩ := (PS6.out.below hTCH.out.toTC hB).set_; exact ⟨PS6.out.lx.below hB, a1, a2, a3, a5, a6, a7.1⟩)
          have g1 : decide ((M : Int) < ((K.xfast zs : Nat) : Int)) = false := decide_eq_false (by omega)
          have g1' : decide (M < K.xfast zs) = false := decide_eq_false (by omega)
          have g2' : decide (most < tk6) = false := decide_eq_false (by omega)
          have g2 : decide ((most : Int) < (tk6 : Int)) = false := decide_eq_false (by omega)
          have HB6 := Lib.hid (Below.refl W6.heap.size W6)
          have HBd : Hid (Below W6.heap.size W6 W6.drew) := below_drewN (Below.refl W6.heap.size W6) 1
          clear hT6 hb6 hO6 hv6 hw6 hmt hup hmp hPO
          generalize K.xfast zs = U at *
          go_region_held3 (fun W' => W'.cell? ⟨w2.heap.size, 0, none⟩ = some (.int .i64 (E1 : Int)) ∧ W'.cell? ⟨w2.heap.size, 1, none⟩ = some (.int .u64 (K1 : Int)) ∧ W'.cell? ⟨w2.heap.size, 2, none⟩ = some (.bool Y1) ∧ W'.cell? ⟨w4.heap.size, 0, none⟩ = some (.int .i64 (E1 : Int)) ∧ W'.cell? ⟨w4.heap.size, 1, none⟩ = some (.int .u64 (K1 : Int)) ∧ W'.cell? ⟨w4.heap.size, 2, none⟩ = some (.bool Y1) ∧ W'.cell? ⟨wr.heap.size, 0, none⟩ = some (.int .u8 (d : Int)) ∧ W'.cell? ⟨P, 0, none⟩ = some (.pointer (some ⟨MP, 0, none⟩))) (first | exact hin.out _ HB9.out | exact hin.out _ HB8.out | exact hin.out _ HB7.out | exact hin.out _ HB7b.out | exact hin.out _ HB7a.out | exact hin.out _ HB6.out | exact hin.out _ HBd.out) (first
            | (go_at_call 12; (with_reducible refine (hus.out _ HBd.out).mono ?_); rintro e w7 ⟨rfl, hb7⟩; have HB7a := Lib.hid (HBd.out.trans (hb7.mono HBd.out.size)); clear hb7)
            | (go_at_call 11; (with_reducible refine (htr.out _ HB7a.out).mono ?_); rintro e w8 ⟨rfl, hb8⟩; have HB7b := Lib.hid (HB7a.out.trans (hb8.mono HB7a.out.size)); clear hb8)
            | (go_at_call 12; (with_reducible refine (hus.out _ HB7b.out).mono ?_); rintro e w9 ⟨rfl, hb9⟩; have HB7 := Lib.hid (HB7b.out.trans (hb9.mono HB7b.out.size)); clear hb9)
            | (go_at_call 13; (with_reducible refine (hmt2.out _ HB7.out).mono ?_); rintro e w10 ⟨rfl, hb10⟩; have HB8 := Lib.hid (HB7.out.trans (hb10.mono HB7.out.size)); clear hb10)
            | (go_at_call 14; (with_reducible refine (hstp.out _).mono ?_); rintro e w11 ⟨rfl, rfl⟩; have HB9 := HB8))
          all_goals
            go_wp2
            go_roundw
            case rel => exact ⟨j + 1, zs, by omega, by omega, by omega, by go_num, Lib.hid (HPI.out _ HB9.out)⟩
            case measure => simp [intOf]; omega
        · have hd9 : decide ((d : Int) % 9 < 2) = true := decide_eq_true (by omega)
          have hd9' : (d : Int) % 9 < 2 := by omega
          have ht9 : decide ((M : Int) < ((K.xfast zs : Nat) : Int)) = false := decide_eq_false (by omega)
          have ht9' : decide (M < K.xfast zs) = false := decide_eq_false (by omega)
          go_wp2_with (first
            | (go_at_call 9; (with_reducible refine hdo.out.mono ?_); rintro e w2 ⟨v2, rfl, hk2, hb2, hv2⟩; have HK2 := Lib.hid hk2; have HB2 := Lib.hid hb2; have HV2 := Lib.hid hv2; have HB2' : Hid (Below wr.heap.size wr w2) := (((Below.refl _ wr).alloc (Nat.le_refl _) _).trans (hb2.mono (by simp))); have d0 : w2.cell? ⟨wr.heap.size, 0, none⟩ = some (.int .u8 (d : Int)) := cell_of_row _ _ 0 _ _ (0, 0) ((hb2.block wr.heap.size (by simp)).trans (K.alloc_top wr _)); have d1 : w2.cell? ⟨wr.heap.size, 1, none⟩ = some (.int .u64 (k : Int)) := cell_of_row _ _ 1 _ _ (0, 0) ((hb2.block wr.heap.size (by simp)).trans (K.alloc_top wr _)); have z1 : wr.heap.size < w2.heap.size := (by have := hb2.size; simp at this; omega); clear hk2 hb2 hv2)
            | (go_at_call 10; (with_reducible refine (hld2.out w2 _ HB2'.out).mono ?_); rintro e w4 hD; have HPR := Lib.hid (PR.of hTCH.out.toTC HK0.out HT0.out HBW.out HO0.out HV0.out HK2.out HB2.out HV2.out hD); obtain ⟨tk4, O4, rfl, _⟩ := hD; clear d0 d1 z1; have d0 : w4.cell? ⟨wr.heap.size, 0, none⟩ = some (.int .u8 (d : Int)) := cell_of_row _ _ 0 _ _ (0, 0) HPR.out.act; have e0 : w4.cell? ⟨w2.heap.size, 0, none⟩ = some (.int .i64 0) := cell_of_row _ _ 0 _ _ (0, 0) HPR.out.want; have z1 : wr.heap.size < w4.heap.size := (by have := HPR.out.z1; have := HPR.out.z2; omega); have z2 : w2.heap.size < w4.heap.size := HPR.out.z2)
            | (go_at_call 11; (with_reducible refine (k_xfast _ v2 zs (HPR.out.next.below ((Below.refl _ _).alloc (Nat.le_refl _) _)) hyl).mono ?_); rintro e w5 ⟨rfl, hb5⟩; have HB5 := Lib.hid hb5; clear hb5 d0 e0; have PS5 := Lib.hid ((HPR.out.ps hTCH.out.toTC HK0.out HK2.out HBW.out.size v2 (.inr ⟨rfl, rfl⟩)).below hTCH.out.toTC HB5.out); have e0 := cell_of_row w5 _ 0 _ _ (0, 0) PS5.out.want; have f0 := frozen_of_row w5 _ 0 _ _ PS5.out.want; simp at e0))
          have PS6 := PS5
          clear e0 f0 PS5
          obtain ⟨W6, hW6⟩ : ∃ W6, W6 = w5 := ⟨_, rfl⟩
          subst hW6
          skip
          obtain ⟨tk6, O6, hT6, htk6, hb6, hO6, hv6, hw6⟩ := PS6.out.set_
          obtain ⟨MP, hmp, hPlt, hPO, hmt⟩ := hTCH.out.taken W6 P zs M tk6 O6 hT6
          have hin : Hid (∀ W', Below W6.heap.size W6 W' → W'.cell? ⟨w2.heap.size, 0, none⟩ = some (.int .i64 0) ∧ W'.cell? ⟨w2.heap.size, 1, none⟩ = some (.int .u64 (K1 : Int)) ∧ W'.cell? ⟨w2.heap.size, 2, none⟩ = some (.bool Y1) ∧ W'.cell? ⟨w4.heap.size, 0, none⟩ = some (.int .i64 0) ∧ W'.cell? ⟨w4.heap.size, 1, none⟩ = some (.int .u64 (K1 : Int)) ∧ W'.cell? ⟨w4.heap.size, 2, none⟩ = some (.bool Y1) ∧ W'.cell? ⟨wr.heap.size, 0, none⟩ = some (.int .u8 (d : Int)) ∧ W'.cell? ⟨P, 0, none⟩ = some (.pointer (some ⟨MP, 0, none⟩))) := Lib.hid (fun W' hB => by
            have h := PS6.out.below hTCH.out.toTC hB
            exact ⟨cell_of_row _ _ 0 _ _ (0, 0) h.want, cell_of_row _ _ 1 _ _ (0, 0) h.want, cell_of_row _ _ 2 _ _ (0, 0) h.want, cell_of_row _ _ 0 _ _ (0, 0) h.got, cell_of_row _ _ 1 _ _ (0, 0) h.got, cell_of_row _ _ 2 _ _ (0, 0) h.got, cell_of_row _ _ 0 _ _ (0, 0) h.act, (hB.cell (p := ⟨P, 0, none⟩) hPlt).trans hmp⟩)
          have hus := Lib.hid (fun (W' : World) (hB : Below W6.heap.size W6 W') => hTCH.out.used W' P zs M tk6 O6 (hTCH.out.toTC.below hT6 hB))
          have htr := Lib.hid (fun (W' : World) (hB : Below W6.heap.size W6 W') => k_xfast W' v2 zs (PS6.out.lx.below hB) hzl)
          have hmt2 := Lib.hid (fun (W' : World) (hB : Below W6.heap.size W6 W') => by
            obtain ⟨MP2, hmp2, _, _, hmt3⟩ := hTCH.out.taken W' P zs M tk6 O6 (hTCH.out.toTC.below hT6 hB)
            have e := hmp2.symm.trans ((hB.cell (p := ⟨P, 0, none⟩) hPlt).trans hmp)
            simp at e
            subst e
            exact hmt3)
          have hup := (hTCH.out.up hT6).2.2
          have HPI : Hid (∀ W', Below W6.heap.size W6 W' → PI T w W' P M v2 zs) := Lib.hid (fun W' hB => by obtain ⟨a1, a2, a3, a4, a5, a6, a7⟩ := (PS6.out.below hTCH.out.toTC hB).set_; exact ⟨PS6.out.lx.below hB, a1, a2, a3, a5, a6, a7.1⟩)
          have g1 : decide ((M : Int) < ((K.xfast zs : Nat) : Int)) = false := decide_eq_false (by omega)
          have g1' : decide (M < K.xfast zs) = false := decide_eq_false (by omega)
          have g2' : decide (most < tk6) = false := decide_eq_false (by omega)
          have g2 : decide ((most : Int) < (tk6 : Int)) = false := decide_eq_false (by omega)
          have HB6 := Lib.hid (Below.refl W6.heap.size W6)
          have HBd : Hid (Below W6.heap.size W6 W6.drew) := below_drewN (Below.refl W6.heap.size W6) 1
          clear hT6 hb6 hO6 hv6 hw6 hmt hup hmp hPO
          generalize K.xfast zs = U at *
          go_region_held3 (fun W' => W'.cell? ⟨w2.heap.size, 0, none⟩ = some (.int .i64 0) ∧ W'.cell? ⟨w2.heap.size, 1, none⟩ = some (.int .u64 (K1 : Int)) ∧ W'.cell? ⟨w2.heap.size, 2, none⟩ = some (.bool Y1) ∧ W'.cell? ⟨w4.heap.size, 0, none⟩ = some (.int .i64 0) ∧ W'.cell? ⟨w4.heap.size, 1, none⟩ = some (.int .u64 (K1 : Int)) ∧ W'.cell? ⟨w4.heap.size, 2, none⟩ = some (.bool Y1) ∧ W'.cell? ⟨wr.heap.size, 0, none⟩ = some (.int .u8 (d : Int)) ∧ W'.cell? ⟨P, 0, none⟩ = some (.pointer (some ⟨MP, 0, none⟩))) (first | exact hin.out _ HB9.out | exact hin.out _ HB8.out | exact hin.out _ HB7.out | exact hin.out _ HB7b.out | exact hin.out _ HB7a.out | exact hin.out _ HB6.out | exact hin.out _ HBd.out) (first
            | (go_at_call 12; (with_reducible refine (hus.out _ HBd.out).mono ?_); rintro e w7 ⟨rfl, hb7⟩; have HB7a := Lib.hid (HBd.out.trans (hb7.mono HBd.out.size)); clear hb7)
            | (go_at_call 11; (with_reducible refine (htr.out _ HB7a.out).mono ?_); rintro e w8 ⟨rfl, hb8⟩; have HB7b := Lib.hid (HB7a.out.trans (hb8.mono HB7a.out.size)); clear hb8)
            | (go_at_call 12; (with_reducible refine (hus.out _ HB7b.out).mono ?_); rintro e w9 ⟨rfl, hb9⟩; have HB7 := Lib.hid (HB7b.out.trans (hb9.mono HB7b.out.size)); clear hb9)
            | (go_at_call 13; (with_reducible refine (hmt2.out _ HB7.out).mono ?_); rintro e w10 ⟨rfl, hb10⟩; have HB8 := Lib.hid (HB7.out.trans (hb10.mono HB7.out.size)); clear hb10)
            | (go_at_call 14; (with_reducible refine (hstp.out _).mono ?_); rintro e w11 ⟨rfl, rfl⟩; have HB9 := HB8))
          all_goals
            go_wp2
            go_roundw
            case rel => exact ⟨j + 1, zs, by omega, by omega, by omega, by go_num, Lib.hid (HPI.out _ HB9.out)⟩
            case measure => simp [intOf]; omega
        · have hd9 : decide ((d : Int) % 9 < 2) = true := decide_eq_true (by omega)
          have hd9' : (d : Int) % 9 < 2 := by omega
          have ht9 : decide ((M : Int) < ((K.xfast ys : Nat) : Int)) = true := decide_eq_true (by omega)
          have ht9' : decide (M < K.xfast ys) = true := decide_eq_true (by omega)
          go_wp2_with (first
            | (go_at_call 9; (with_reducible refine hdo.out.mono ?_); rintro e w2 ⟨v2, rfl, hk2, hb2, hv2⟩; have HK2 := Lib.hid hk2; have HB2 := Lib.hid hb2; have HV2 := Lib.hid hv2; have HB2' : Hid (Below wr.heap.size wr w2) := (((Below.refl _ wr).alloc (Nat.le_refl _) _).trans (hb2.mono (by simp))); have d0 : w2.cell? ⟨wr.heap.size, 0, none⟩ = some (.int .u8 (d : Int)) := cell_of_row _ _ 0 _ _ (0, 0) ((hb2.block wr.heap.size (by simp)).trans (K.alloc_top wr _)); have d1 : w2.cell? ⟨wr.heap.size, 1, none⟩ = some (.int .u64 (k : Int)) := cell_of_row _ _ 1 _ _ (0, 0) ((hb2.block wr.heap.size (by simp)).trans (K.alloc_top wr _)); have z1 : wr.heap.size < w2.heap.size := (by have := hb2.size; simp at this; omega); clear hk2 hb2 hv2)
            | (go_at_call 10; (with_reducible refine (hld2.out w2 _ HB2'.out).mono ?_); rintro e w4 hD; have HPR := Lib.hid (PR.of hTCH.out.toTC HK0.out HT0.out HBW.out HO0.out HV0.out HK2.out HB2.out HV2.out hD); obtain ⟨tk4, O4, rfl, _⟩ := hD; clear d0 d1 z1; have d0 : w4.cell? ⟨wr.heap.size, 0, none⟩ = some (.int .u8 (d : Int)) := cell_of_row _ _ 0 _ _ (0, 0) HPR.out.act; have e0 : w4.cell? ⟨w2.heap.size, 0, none⟩ = some (.int .i64 0) := cell_of_row _ _ 0 _ _ (0, 0) HPR.out.want; have z1 : wr.heap.size < w4.heap.size := (by have := HPR.out.z1; have := HPR.out.z2; omega); have z2 : w2.heap.size < w4.heap.size := HPR.out.z2)
            | (go_at_call 11; (with_reducible refine (k_xfast _ v2 ys (HPR.out.next.below ((Below.refl _ _).alloc (Nat.le_refl _) _)) hyl).mono ?_); rintro e w5 ⟨rfl, hb5⟩; have HB5 := Lib.hid hb5; clear hb5 d0 e0; have PS5 := Lib.hid ((HPR.out.ps hTCH.out.toTC HK0.out HK2.out HBW.out.size v (.inl ⟨rfl, rfl⟩)).below hTCH.out.toTC HB5.out); have e0 := cell_of_row w5 _ 0 _ _ (0, 0) PS5.out.want; have f0 := frozen_of_row w5 _ 0 _ _ PS5.out.want; simp at e0))
          have PS6 : Hid (PS T w (w5.setCell ⟨w2.heap.size, 0, none⟩ (.int .i64 5)) P M d k wr.heap.size w2.heap.size w4.heap.size 5 K1 Y1 5 v zs most) := Lib.hid (PS5.out.set hTCH.out.toTC 5)
          clear e0 f0 PS5
          generalize w5.setCell ⟨w2.heap.size, 0, none⟩ (.int .i64 5) = W6 at *
          obtain ⟨tk6, O6, hT6, htk6, hb6, hO6, hv6, hw6⟩ := PS6.out.set_
          obtain ⟨MP, hmp, hPlt, hPO, hmt⟩ := hTCH.out.taken W6 P zs M tk6 O6 hT6
          have hin : Hid (∀ W', Below W6.heap.size W6 W' → W'.cell? ⟨w2.heap.size, 0, none⟩ = some (.int .i64 5) ∧ W'.cell? ⟨w2.heap.size, 1, none⟩ = some (.int .u64 (K1 : Int)) ∧ W'.cell? ⟨w2.heap.size, 2, none⟩ = some (.bool Y1) ∧ W'.cell? ⟨w4.heap.size, 0, none⟩ = some (.int .i64 5) ∧ W'.cell? ⟨w4.heap.size, 1, none⟩ = some (.int .u64 (K1 : Int)) ∧ W'.cell? ⟨w4.heap.size, 2, none⟩ = some (.bool Y1) ∧ W'.cell? ⟨wr.heap.size, 0, none⟩ = some (.int .u8 (d : Int)) ∧ W'.cell? ⟨P, 0, none⟩ = some (.pointer (some ⟨MP, 0, none⟩))) := Lib.hid (fun W' hB => by
            have h := PS6.out.below hTCH.out.toTC hB
            exact ⟨cell_of_row _ _ 0 _ _ (0, 0) h.want, cell_of_row _ _ 1 _ _ (0, 0) h.want, cell_of_row _ _ 2 _ _ (0, 0) h.want, cell_of_row _ _ 0 _ _ (0, 0) h.got, cell_of_row _ _ 1 _ _ (0, 0) h.got, cell_of_row _ _ 2 _ _ (0, 0) h.got, cell_of_row _ _ 0 _ _ (0, 0) h.act, (hB.cell (p := ⟨P, 0, none⟩) hPlt).trans hmp⟩)
          have hus := Lib.hid (fun (W' : World) (hB : Below W6.heap.size W6 W') => hTCH.out.used W' P zs M tk6 O6 (hTCH.out.toTC.below hT6 hB))
          have htr := Lib.hid (fun (W' : World) (hB : Below W6.heap.size W6 W') => k_xfast W' v zs (PS6.out.lx.below hB) hzl)
          have hmt2 := Lib.hid (fun (W' : World) (hB : Below W6.heap.size W6 W') => by
            obtain ⟨MP2, hmp2, _, _, hmt3⟩ := hTCH.out.taken W' P zs M tk6 O6 (hTCH.out.toTC.below hT6 hB)
            have e := hmp2.symm.trans ((hB.cell (p := ⟨P, 0, none⟩) hPlt).trans hmp)
            simp at e
            subst e
            exact hmt3)
          have hup := (hTCH.out.up hT6).2.2
          have HPI : Hid (∀ W', Below W6.heap.size W6 W' → PI T w W' P M v zs) := Lib.hid (fun W' hB => by obtain ⟨a1, a2, a3, a4, a5, a6, a7⟩ := (PS6.out.below hTCH.out.toTC hB).set_; exact ⟨PS6.out.lx.below hB, a1, a2, a3, a5, a6, a7.1⟩)
          have g1 : decide ((M : Int) < ((K.xfast zs : Nat) : Int)) = false := decide_eq_false (by omega)
          have g1' : decide (M < K.xfast zs) = false := decide_eq_false (by omega)
          have g2' : decide (most < tk6) = false := decide_eq_false (by omega)
          have g2 : decide ((most : Int) < (tk6 : Int)) = false := decide_eq_false (by omega)
          have HB6 := Lib.hid (Below.refl W6.heap.size W6)
          have HBd : Hid (Below W6.heap.size W6 W6.drew) := below_drewN (Below.refl W6.heap.size W6) 1
          clear hT6 hb6 hO6 hv6 hw6 hmt hup hmp hPO
          generalize K.xfast zs = U at *
          go_region_held3 (fun W' => W'.cell? ⟨w2.heap.size, 0, none⟩ = some (.int .i64 5) ∧ W'.cell? ⟨w2.heap.size, 1, none⟩ = some (.int .u64 (K1 : Int)) ∧ W'.cell? ⟨w2.heap.size, 2, none⟩ = some (.bool Y1) ∧ W'.cell? ⟨w4.heap.size, 0, none⟩ = some (.int .i64 5) ∧ W'.cell? ⟨w4.heap.size, 1, none⟩ = some (.int .u64 (K1 : Int)) ∧ W'.cell? ⟨w4.heap.size, 2, none⟩ = some (.bool Y1) ∧ W'.cell? ⟨wr.heap.size, 0, none⟩ = some (.int .u8 (d : Int)) ∧ W'.cell? ⟨P, 0, none⟩ = some (.pointer (some ⟨MP, 0, none⟩))) (first | exact hin.out _ HB9.out | exact hin.out _ HB8.out | exact hin.out _ HB7.out | exact hin.out _ HB7b.out | exact hin.out _ HB7a.out | exact hin.out _ HB6.out | exact hin.out _ HBd.out) (first
            | (go_at_call 12; (with_reducible refine (hus.out _ HBd.out).mono ?_); rintro e w7 ⟨rfl, hb7⟩; have HB7a := Lib.hid (HBd.out.trans (hb7.mono HBd.out.size)); clear hb7)
            | (go_at_call 11; (with_reducible refine (htr.out _ HB7a.out).mono ?_); rintro e w8 ⟨rfl, hb8⟩; have HB7b := Lib.hid (HB7a.out.trans (hb8.mono HB7a.out.size)); clear hb8)
            | (go_at_call 12; (with_reducible refine (hus.out _ HB7b.out).mono ?_); rintro e w9 ⟨rfl, hb9⟩; have HB7 := Lib.hid (HB7b.out.trans (hb9.mono HB7b.out.size)); clear hb9)
            | (go_at_call 13; (with_reducible refine (hmt2.out _ HB7.out).mono ?_); rintro e w10 ⟨rfl, hb10⟩; have HB8 := Lib.hid (HB7.out.trans (hb10.mono HB7.out.size)); clear hb10)
            | (go_at_call 14; (with_reducible refine (hstp.out _).mono ?_); rintro e w11 ⟨rfl, rfl⟩; have HB9 := HB8))
          all_goals
            go_wp2
            go_roundw
            case rel => exact ⟨j + 1, zs, by omega, by omega, by omega, by go_num, Lib.hid (HPI.out _ HB9.out)⟩
            case measure => simp [intOf]; omega
    · obtain rfl : j = len := by omega
      have hT1 : decide ((j : Int) < (j : Int)) = false := decide_eq_false (by omega)
      have HQ := HI
      obtain ⟨wq, hwq⟩ : ∃ wq, wq = wr := ⟨_, rfl⟩
      subst hwq
      obtain ⟨z, hz⟩ : ∃ z, st % 5 = z := ⟨_, rfl⟩
      have hz5 : z < 5 := by omega
      have r1 : (st : Int) % 5 = (z : Int) := by omega
      have r2 : (st : Int).tmod 5 = (z : Int) := by rw [Int.tmod_eq_emod_of_nonneg (by omega)]; exact r1
      have r3 : IntKind.i64.wrap (z : Int) = (z : Int) := IntWalk.i64_in _ (by omega)
      obtain ⟨kk, hkk⟩ : ∃ kk : Nat, 1 + (z : Int) = (kk : Int) := ⟨1 + z, by omega⟩
      have hk1 : 0 < kk := by omega
      have hk6 : kk ≤ 5 := by omega
      have r4 : IntKind.i64.wrap (kk : Int) = (kk : Int) := IntWalk.i64_in _ (by omega)
      have r5 : IntKind.u8.wrap (z : Int) = (z : Int) := by simp [IntKind.wrap, IntKind.signed, IntKind.bits]; omega
      obtain ⟨mm, hmm⟩ : ∃ mm, (xs.take kk).length = mm := ⟨_, rfl⟩
      have hmn : mm = min kk xs.length := by rw [← hmm, List.length_take]
      obtain ⟨hKq, tkq, Oq, hTq, hbq, _, _⟩ := HQ.out
      have HBQ := Lib.hid hbq
      have hsm := Lib.hid (fun (W : World) (h : Below wq.heap.size wq W) => law_same hTCH.out.toTC2 W P xs M tkq Oq (hTCH.out.toTC.below hTq h) (by omega) v xs (hKq.below h) (by omega))
      have hal := Lib.hid (fun (W : World) (h : Below wq.heap.size wq W) => hTCH.out.all W P xs M tkq Oq (hTCH.out.toTC.below hTq h) kk hk1 (by omega))
      have hli := Lib.hid (fun (W : World) (h : Below wq.heap.size wq W) => hTCH.out.limit W P xs M tkq Oq (hTCH.out.toTC.below hTq h))
      obtain ⟨A', c', hve, _⟩ := kx_rw hKq
      have hrw := Lib.hid (fun (W : World) (h : Below wq.heap.size wq W) => show Rw W W.heap.size A' (xs.take kk) from by
        obtain ⟨A2, c2, e, hr2⟩ := kx_rw (hKq.below h)
        rw [hve] at e
        injection e with e1 _ _
        subst e1
        intro hne
        obtain ⟨b2, off2, e2, e3, e4⟩ := hr2 (fun e => hne (by rw [e, List.take_nil]))
        exact ⟨b2, off2, e2, e3, fun q hq => by rw [List.getElem_take]; exact e4 q (by rw [List.length_take] at hq; omega)⟩)
      have hsk := Lib.hid (fun (W : World) (h : Below wq.heap.size wq W) (A1 : Option Addr) (c1 c2 : Nat) (h1 : Rw W W.heap.size A1 (xs.take kk)) => ref_samekeys A1 A' c1 c2 (xs.take kk) (xs.take kk) W _ _ h1 (hrw.out W h) (by rw [List.length_take]; omega) (by rw [List.length_take]; omega))
      simp only [decide_true] at hsm hsk
      rw [hmm] at hsk
      have HMM := Lib.hid hmm
      have HBd : Hid (Below wq.heap.size wq wq.drew) := below_drewN (Below.refl wq.heap.size wq) 1
      have HB0q := Lib.hid (Below.refl wq.heap.size wq)
      have hmi1 : min (xs.length : Int) (kk : Int) = (mm : Int) := by omega
      have hform := hKq.form
      clear hKq hTq hbq hrw hmm
      rcases hform with ⟨rfl, hes⟩ | ⟨g5, c5, rfl, hc5, hg5, _⟩
      · have hm0 : mm = 0 := by rw [hmn, hes]; simp
        subst hm0
        clear hmi1 hmn hes
        have hmi1 : min (0 : Int) (kk : Int) = 0 := by omega
        have e1 : (none : Option Addr) = A' := by injection hve
        subst e1
        clear hve
        go_wp2
        go_region_held3 (fun _ => True) (trivial) (first
          | (go_at_call 15; (with_reducible refine (hsm.out _ HBd.out).mono ?_); rintro e w7 ⟨rfl, hb7⟩; have HB7 := Lib.hid (HBd.out.trans (hb7.mono HBd.out.size)); clear hb7)
          | (go_at_call 17; (with_reducible refine (hal.out _ HB7.out).mono ?_); rintro e w8 ⟨v8, rfl, hk8, hb8⟩; have HB8 := Lib.hid (HB7.out.trans (hb8.mono HB7.out.size)); obtain ⟨A8, c8, rfl, hr8⟩ := kx_rw hk8; have HR8 := Lib.hid hr8; rw [HMM.out]; clear hk8 hb8 hr8)
          | (go_at_call 16; (with_reducible refine (hsk.out _ HB8.out A8 c8 _ HR8.out).mono ?_); rintro e w9 ⟨rfl, n9, rfl⟩; have HB9 := Lib.hid (below_drewN HB8.out n9))
          | (go_at_call 18; (with_reducible refine (hli.out _ HB9.out).mono ?_); rintro e w10 ⟨rfl, hb10⟩; have HB10 := Lib.hid (HB9.out.trans (hb10.mono HB9.out.size)); clear hb10))
        all_goals
          go_wp2
          go_ret
          exact ⟨rfl, HBQ.out.trans (HB10.out.mono HBQ.out.size)⟩
      · have hmi2 : (mm : Int) ≤ (c5 : Int) := by omega
        have hmi4 : mm ≤ c5 := by omega
        have hmi3 : (0 : Int) ≤ (mm : Int) := by omega
        clear hmn
        have e1 : some (⟨g5, 0, none⟩ : Addr) = A' := by injection hve
        subst e1
        clear hve
        go_wp2
        go_region_held3 (fun _ => True) (trivial) (first
          | (go_at_call 15; (with_reducible refine (hsm.out _ HBd.out).mono ?_); rintro e w7 ⟨rfl, hb7⟩; have HB7 := Lib.hid (HBd.out.trans (hb7.mono HBd.out.size)); clear hb7)
          | (go_at_call 17; (with_reducible refine (hal.out _ HB7.out).mono ?_); rintro e w8 ⟨v8, rfl, hk8, hb8⟩; have HB8 := Lib.hid (HB7.out.trans (hb8.mono HB7.out.size)); obtain ⟨A8, c8, rfl, hr8⟩ := kx_rw hk8; have HR8 := Lib.hid hr8; rw [HMM.out]; clear hk8 hb8 hr8)
          | (go_at_call 16; (with_reducible refine (hsk.out _ HB8.out A8 c8 _ HR8.out).mono ?_); rintro e w9 ⟨rfl, n9, rfl⟩; have HB9 := Lib.hid (below_drewN HB8.out n9))
          | (go_at_call 18; (with_reducible refine (hli.out _ HB9.out).mono ?_); rintro e w10 ⟨rfl, hb10⟩; have HB10 := Lib.hid (HB9.out.trans (hb10.mono HB9.out.size)); clear hb10))
        all_goals
          go_wp2
          go_ret
          exact ⟨rfl, HBQ.out.trans (HB10.out.mono HBQ.out.size)⟩
end
end Go.Proofs.Ytiinefdpaiincaa
