
/- The law BucketAsks, walked. -/
import Derived.Test.YtepnjolldbgglaaKbQ
namespace Go.Proofs.Ytepnjolldbgglaa.Kb
open Go.RowKit
theorem BS.rebase {w W : World} {S : List (Value × List Nat)} (h : BS w W S) : BS W W S := ⟨Below.refl _ _, h.kx⟩
theorem drop_len' {xs : List Nat} (hu : K.Up xs) (k : Nat) : (K.drop xs k).length ≤ xs.length := by
  have := M.up_len (iz_up (K.drop_up hu k)) (xs := iz xs) (fun y hy => by
    obtain ⟨j, hj, rfl⟩ := iz_mem.1 hy
    exact iz_mem'.2 ((K.drop_mem hu k j).1 hj).2)
  simpa using this
set_option maxHeartbeats 16000000 in
set_option maxRecDepth 100000 in
theorem law_asks (A : Option Addr) (cp : Nat) (l : List Nat) (k : Nat) (w : World) (hr : Rw w w.heap.size A l) (hl : l.length ≤ 9223372036854775807) :
    Calls Try.prog 3 #[.slice A l.length cp, .int .u64 (k : Int)] w fun e w' => e = .returned (.bool true) ∧ Below w.heap.size w w' := by
  obtain ⟨zs0, hz0⟩ : ∃ zs0, l.take 140 = zs0 := ⟨_, rfl⟩
  have hwd : Hid (∀ W, BS w W [] → Calls Try.prog 7 #[.slice A l.length cp, .int .i64 140] W fun e w' => ∃ A' c', e = .returned (.slice A' zs0.length c') ∧ BS w w' [(.slice A' zs0.length c', zs0)]) := Lib.hid fun W h => bs_words h A cp l 140 hr hl (by omega) hz0
  have hl0 : zs0.length ≤ 140 := by rw [← hz0, List.length_take]; omega
  obtain ⟨xs, hxs⟩ : ∃ xs, K.off zs0 = xs := ⟨_, rfl⟩
  have hux : K.Up xs := by rw [← hxs]; exact off_up' _
  have hlx : xs.length ≤ 140 := by rw [← hxs]; exact Nat.le_trans (off_len' _) hl0
  have hmx : Hid (∀ x, x ∈ xs ↔ x ∈ zs0) := Lib.hid fun x => by rw [← hxs]; exact off_mem' _ x
  obtain ⟨ys, hys⟩ : ∃ ys, K.add xs k = ys := ⟨_, rfl⟩
  have hly : ys.length ≤ 141 := by rw [← hys]; exact Nat.le_trans (K.add_len xs k) (by omega)
  obtain ⟨zs, hzs⟩ : ∃ zs, K.drop xs k = zs := ⟨_, rfl⟩
  have hlz : zs.length ≤ 140 := by rw [← hzs]; exact Nat.le_trans (drop_len' hux k) hlx
  obtain ⟨fi, hfi⟩ : ∃ i, K.fi xs k = i := ⟨_, rfl⟩
  obtain ⟨f, hf⟩ : ∃ f, K.fo xs k = f := ⟨_, rfl⟩
  obtain ⟨f', hf'⟩ : ∃ f', (!f) = f' := ⟨_, rfl⟩
  obtain ⟨nx, hnx⟩ : ∃ a, K.nx xs k = a := ⟨_, rfl⟩
  obtain ⟨nb, hnb⟩ : ∃ a, K.nxb xs k = a := ⟨_, rfl⟩
  obtain ⟨pv, hpv⟩ : ∃ a, K.pv xs k = a := ⟨_, rfl⟩
  obtain ⟨pb, hpb⟩ : ∃ a, K.pvb xs k = a := ⟨_, rfl⟩
  have HXS := Lib.hid hxs
  have HYS := Lib.hid hys
  have HZS := Lib.hid hzs
  have HFI := Lib.hid hfi
  have HF := Lib.hid hf
  have HF' : Hid ((!K.fo xs k) = f') := Lib.hid (by rw [hf]; exact hf')
  have HNX := Lib.hid hnx
  have HNB := Lib.hid hnb
  have HPV := Lib.hid hpv
  have HPB := Lib.hid hpb
  have HUX := Lib.hid hux
  have HIS := Lib.hid (show decide (K.Up xs) = true from decide_eq_true hux)
  have S0 := Lib.hid (BS.start w)
  clear hr hl hxs hux hys hzs hfi hf hnx hnb hpv hpb hz0
  have ex : ((nx : Int) == (nx : Int)) = true := by simp
  have ep : ((pv : Int) == (pv : Int)) = true := by simp
  have en : (nb == nb) = true := by simp
  have eq : (pb == pb) = true := by simp
  cases f <;> cases f' <;> first
  | (simp at hf'; done)
  | (
    clear hf'
    go_enter Try.func3, Try.ntmps3
    go_wp2_with (first
      | (go_at_call 6; (with_reducible refine (awake_any w).mono ?_); rintro e w1 ⟨rfl, hb1⟩; have HS := Lib.hid (S0.out.below hb1); clear hb1)
      | (go_at_call 7; (with_reducible refine (hwd.out _ HS.out).mono ?_); rintro e w2 ⟨A2, c2, rfl, h2⟩; replace HS := Lib.hid h2; clear h2)
      | (go_at_call 8; (with_reducible refine (bs_rof (xs := zs0) (zs := xs) HS.out (by simp) (by omega) HXS.out).mono ?_); rintro e w3 ⟨A3, c3, rfl, h3⟩; replace HS := Lib.hid h3; clear h3)
      | (go_at_call 9; (with_reducible refine (bs_of (xs := zs0) (zs := xs) HS.out (by simp) (by omega) HUX.out hmx.out).mono ?_); rintro e w4 ⟨A4, c4, rfl, h4⟩; replace HS := Lib.hid h4; clear h4)
      | (go_at_call 7; (with_reducible refine (bs_words2 (v := .slice A4 xs.length c4) (xs := xs) HS.out (by simp) (by omega)).mono ?_); rintro e w5 ⟨A5, c5, rfl, h5⟩; replace HS := Lib.hid h5; clear h5)
      | (go_at_call 10; (with_reducible refine (bs_rfind (v := .slice A3 xs.length c3) (xs := xs) HS.out (by simp) (by omega) k HFI.out HF.out).mono ?_); rintro e w6 ⟨rfl, h6⟩; replace HS := Lib.hid h6; clear h6
         have HK : Hid (LK w w6 w6.heap.size A4 A5 xs) := Lib.hid ⟨HS.out.low, HS.out.low.size, Nat.le_refl _, kx_rhA (HS.out.kx (.slice A4 xs.length c4, xs) (by simp)), kx_rhA (HS.out.kx (.slice A5 xs.length c5, xs) (by simp))⟩)
      | (go_at_call 11; (with_reducible refine (bs_add2 (v := .slice A4 xs.length c4) (xs := xs) (ys := ys) HS.out (by simp) HUX.out (by omega) k HF'.out HYS.out).mono ?_); rintro e w7 ⟨A7, c7, rfl, h7, r7, b7⟩; replace HS := Lib.hid h7; have HW7 := Lib.hid r7; replace HK := Lib.hid (HK.out.below b7); have H67 := Lib.hid b7.size; clear h7 r7 b7)
      | (go_at_call 12; (with_reducible refine (bs_drop2 (v := .slice A4 xs.length c4) (xs := xs) (ys := zs) HS.out (by simp) HUX.out (by omega) k HF.out HZS.out).mono ?_); rintro e w8 ⟨A8, c8, rfl, h8, r8, b8⟩; replace HS := Lib.hid h8.rebase; have HW8 := Lib.hid r8; replace HK := Lib.hid (HK.out.below b8); replace HW7 := Lib.hid (HW7.out.below b8 (Nat.le_refl _)); have H78 := Lib.hid b8.size; clear h8 r8 b8)
      | (go_at_call 13; (with_reducible refine (bs_next (v := .slice A4 xs.length c4) (xs := xs) HS.out (by simp) HUX.out (by omega) k HNX.out HNB.out).mono ?_); rintro e w9 ⟨rfl, h9⟩; replace HS := Lib.hid h9; clear h9)
      | (go_at_call 14; (with_reducible refine (bs_rnext (v := .slice A3 xs.length c3) (xs := xs) HS.out (by simp) (by omega) k HNX.out HNB.out).mono ?_); rintro e w10 ⟨rfl, h10⟩; replace HS := Lib.hid h10; clear h10)
      | (go_at_call 15; (with_reducible refine (bs_prev (v := .slice A4 xs.length c4) (xs := xs) HS.out (by simp) HUX.out (by omega) k HPV.out HPB.out).mono ?_); rintro e w11 ⟨rfl, h11⟩; replace HS := Lib.hid h11; clear h11)
      | (go_at_call 16; (with_reducible refine (bs_rprev (v := .slice A3 xs.length c3) (xs := xs) HS.out (by simp) (by omega) k HPV.out HPB.out).mono ?_); rintro e w12 ⟨rfl, h12⟩; replace HS := Lib.hid h12; clear h12)
      | (go_at_call 17; (with_reducible refine (bs_same (v := .slice A4 xs.length c4) (v2 := .slice A3 xs.length c3) (xs := xs) (ys := xs) (f := true) (by first | exact HS.out | exact HS.out.drew | exact HS.out.drewN _) (by simp) (by simp) (by omega) (by omega) (by simp)).mono ?_); rintro e w13 ⟨rfl, h13⟩; replace HS := Lib.hid h13; clear h13)
      | (go_at_call 18; (with_reducible refine (bs_is (v := .slice A4 xs.length c4) (xs := xs) (by first | exact HS.out | exact HS.out.drew | exact HS.out.drewN _) (by simp) (by omega) HIS.out).mono ?_); rintro e w14 ⟨rfl, h14⟩; replace HS := Lib.hid h14; clear h14)
      | (go_at_call 19; (with_reducible refine (bs_has (v := .slice A4 xs.length c4) (xs := xs) (by first | exact HS.out | exact HS.out.drew | exact HS.out.drewN _) (by simp) HUX.out (by omega) k HF.out).mono ?_); rintro e w15 ⟨rfl, h15⟩; replace HS := Lib.hid h15; clear h15)
      | (go_at_call 20; (with_reducible refine (bs_radd (v := .slice A3 xs.length c3) (xs := xs) (ys := ys) (by first | exact HS.out | exact HS.out.drew | exact HS.out.drewN _) (by simp) (by omega) k HYS.out).mono ?_); rintro e w16 ⟨A16, c16, rfl, h16⟩; replace HS := Lib.hid h16; clear h16)
      | (go_at_call 17; (with_reducible refine (bs_same (v := .slice A7 ys.length c7) (v2 := .slice A16 ys.length c16) (xs := ys) (ys := ys) (f := true) (by first | exact HS.out | exact HS.out.drew | exact HS.out.drewN _) (by simp) (by simp) (by omega) (by omega) (by simp)).mono ?_); rintro e w17 ⟨rfl, h17⟩; replace HS := Lib.hid h17; clear h17)
      | (go_at_call 21; (with_reducible refine (bs_rdrop (v := .slice A3 xs.length c3) (xs := xs) (ys := zs) (by first | exact HS.out | exact HS.out.drew | exact HS.out.drewN _) (by simp) (by omega) k HZS.out).mono ?_); rintro e w18 ⟨A18, c18, rfl, h18⟩; replace HS := Lib.hid h18; clear h18)
      | (go_at_call 17; (with_reducible refine (bs_same (v := .slice A8 zs.length c8) (v2 := .slice A18 zs.length c18) (xs := zs) (ys := zs) (f := true) (by first | exact HS.out | exact HS.out.drew | exact HS.out.drewN _) (by simp) (by simp) (by omega) (by omega) (by simp)).mono ?_); rintro e w19 ⟨rfl, h19⟩; replace HS := Lib.hid h19; clear h19))
    replace HK := Lib.hid (HK.out.below HS.out.low)
    replace HW7 := Lib.hid (HW7.out.below HS.out.low H78.out)
    replace HW8 := Lib.hid (HW8.out.below HS.out.low (Nat.le_refl _))
    clear HS
    go_loopw [138] (fun vi wr => ∃ j : Nat, j ≤ ys.length ∧ vi = .int .i64 j ∧ Hid (LK w wr w6.heap.size A4 A5 xs) ∧ Hid (Wr wr w6.heap.size w7.heap.size A7 ys.length) ∧ Hid (Wr wr w7.heap.size w8.heap.size A8 zs.length)) (fun vi _ => ys.length - (intOf vi).toNat)
    case atStart => exact ⟨0, Nat.zero_le _, rfl, HK, HW7, HW8⟩
    case round =>
      clear HK HW7 HW8
      obtain ⟨j, hj, rfl, HL, HWB, HWD⟩ := hrel
      by_cases hjl : j < ys.length
      · obtain ⟨g, x, hA, hgB, hgE, hcell, hfz, hset⟩ := HWB.out.at hjl
        subst hA
        have HSET := Lib.hid hset
        have HG : Hid (w6.heap.size ≤ g ∧ g < w7.heap.size) := Lib.hid ⟨hgB, hgE⟩
        clear hset hgB hgE
        go_wp2
        go_roundw
        case rel => exact ⟨j + 1, by omega, by go_num, Lib.hid (HL.out.set HG.out.1), Lib.hid (HSET.out _), Lib.hid (HWD.out.other (.inl HG.out.2))⟩
        case measure => simp [intOf]; omega
      · go_wp2
        go_loopw [150] (fun vi wr => ∃ j : Nat, j ≤ zs.length ∧ vi = .int .i64 j ∧ Hid (LK w wr w6.heap.size A4 A5 xs) ∧ Hid (Wr wr w7.heap.size w8.heap.size A8 zs.length)) (fun vi _ => zs.length - (intOf vi).toNat)
        case atStart => exact ⟨0, Nat.zero_le _, rfl, HL, HWD⟩
        case round =>
          clear HL HWB HWD
          obtain ⟨j, hj, rfl, HL, HWD⟩ := hrel
          by_cases hjl : j < zs.length
          · obtain ⟨g, x, hA, hgB, hgE, hcell, hfz, hset⟩ := HWD.out.at hjl
            subst hA
            have HSET := Lib.hid hset
            have HG : Hid (w6.heap.size ≤ g) := Lib.hid (by have := H67.out; omega)
            clear hset hgB hgE
            go_wp2
            go_roundw
            case rel => exact ⟨j + 1, by omega, by go_num, Lib.hid (HL.out.set HG.out), Lib.hid (HSET.out _)⟩
            case measure => simp [intOf]; omega
          · go_wp2_with (go_at_call 17; (with_reducible refine (lk_same HL.out (by omega)).mono ?_); rintro e w20 ⟨rfl, h20⟩; replace h20 := Lib.hid h20)
            go_ret
            exact ⟨rfl, h20.out⟩)
end Go.Proofs.Ytepnjolldbgglaa.Kb
