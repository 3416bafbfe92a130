
/- runs.Wipe; the text walked. -/
import Derived.Test.YtejboemifncjoaaRun12
namespace Go.Proofs.Ytejboemifncjoaa
open Go.RowKit
theorem cuts_take {f t : Int} {ws : List (Int × Int)} {k : Nat} (h : k < ws.length) : Rn.cuts f t (ws.take (k + 1)) = Rn.cuts f t (ws.take k) ++ Rn.cut f t ws[k] := by
  rw [List.take_succ_eq_append_getElem h]
  unfold Rn.cuts
  rw [List.flatMap_append]
  simp
theorem cuts_len (f t : Int) (ws : List (Int × Int)) : (Rn.cuts f t ws).length ≤ 2 * ws.length := by
  induction ws with
  | nil => exact Nat.le_refl _
  | cons r ws ih =>
    show (Rn.cut f t r ++ Rn.cuts f t ws).length ≤ _
    have : (Rn.cut f t r).length ≤ 2 := by unfold Rn.cut; split <;> split <;> simp
    rw [List.length_append, List.length_cons]
    omega
set_option maxHeartbeats 8000000 in
set_option maxRecDepth 100000 in
theorem r_wipe (w : World) (B n c : Nat) (A : Option Addr) (rs : List (Int × Int)) (f t : Int) (hn : n = rs.length) (hr : Rq w B A rs) (hB : B ≤ w.heap.size) (hg : Rn.Ok rs) (hc : n ≤ c) (hf : 0 ≤ f ∧ f ≤ 65535) (ht : 0 ≤ t ∧ t ≤ 65535) :
    Calls Try.prog 26 #[.slice A n c, .int .u16 f, .int .u16 t] w (ResP w fun x => Rn.V rs x ∧ ¬ (f ≤ x ∧ x ≤ t)) := by
  obtain ⟨i0, hi, hz0, hz1, hz2⟩ : ∃ ti, Try.prog.info? 46 = some ti ∧ ti.zero = some (.agg #[.int .u16 0, .int .u16 0]) ∧ ti.size = 2 ∧ ti.bytes = 4 := ⟨_, rfl, rfl, rfl, rfl⟩
  have few : n ≤ 65536 := by rw [hn]; exact ok_len hg
  by_cases hft : t < f
  · have HC := Lib.hid (r_clone w B n c A rs hn hr hB (by omega))
    have HX := Lib.hid hft
    have HN := Lib.hid hn
    have HG := Lib.hid hg
    clear hn hr hB hg hc few
    go_enter Try.func26, Try.ntmps26
    go_wp2_with (go_at_call 39; (with_reducible refine HC.out.mono ?_); rintro e w2 ⟨v, rfl, h1, h2⟩; replace h1 := Lib.hid h1; replace h2 := Lib.hid h2)
    go_ret
    exact ⟨v, rs, rfl, HG.out, fun x => ⟨fun h => ⟨h, fun h => by have := HX.out; omega⟩, fun h => h.1⟩, by rw [← HN.out]; exact h1.out, h2.out⟩
  · have w1 : IntKind.i64.wrap f = f := IntWalk.i64_in _ (by omega)
    have w2' : IntKind.i64.wrap t = t := IntWalk.i64_in _ (by omega)
    have HP := Lib.hid (r_parts w B n c A rs f t hn hr hB hg hc (by omega))
    have HN := Lib.hid hn
    have HR := Lib.hid hr
    have HB := Lib.hid hB
    have HG := Lib.hid hg
    clear hn hr hB hg
    go_enter Try.func26, Try.ntmps26
    go_wp2_with (go_at_call 36; (with_reducible refine HP.out.mono ?_); rintro e w2 ⟨i, j, A2, c2, A3, c3, rfl, hPP⟩; replace hPP := Lib.hid hPP)
    have hij := hPP.out.ij
    have hjn := hPP.out.jn
    have SP := Lib.hid (split3 (rs := rs) hij)
    have HWL : Hid (((rs.take j).drop i).length = j - i) := Lib.hid (by rw [List.length_drop, List.length_take]; have := HN.out; omega)
    have R2 := Lib.hid hPP.out.r2
    have P2 := Lib.hid hPP.out.p2
    have GW : Hid (∀ r, r ∈ (rs.take j).drop i → Rn.Good r) := Lib.hid (fun r hr => HG.out.1 r (List.mem_of_mem_take (List.mem_of_mem_drop hr)))
    obtain ⟨ws, hws⟩ : ∃ ws, ws = (rs.take j).drop i := ⟨_, rfl⟩
    rw [← hws] at HWL R2 P2 SP GW
    clear hws
    obtain ⟨q, hq⟩ : ∃ q, j - i = q := ⟨_, rfl⟩
    rw [hq] at HWL
    rw [hq]
    have hq6 : q ≤ 65536 := by omega
    clear hq HP
    go_loopw [10, 30] (fun vl vi wr => ∃ (k : Nat), k ≤ q ∧ vi = .int .i64 k ∧ Hid (wr.ownsRow w2.heap.size 46 2 vl (Rn.cuts f t (ws.take k)).length (rv (Rn.cuts f t (ws.take k)))) ∧ Hid (Below w2.heap.size w2 wr)) (fun _ vi _ => q - (intOf vi).toNat)
    case atStart => exact ⟨0, Nat.zero_le _, rfl, Lib.hid ⟨rfl, .inl ⟨rfl, rfl⟩⟩, Lib.hid (Below.refl _ _)⟩
    case round =>
      obtain ⟨k, hk, rfl, HO, HW⟩ := hrel
      obtain ⟨vl, hvl⟩ : ∃ v, v = u10 := ⟨_, rfl⟩
      subst hvl
      obtain ⟨cuts0, hc0⟩ : ∃ c0, Rn.cuts f t (ws.take k) = c0 := ⟨_, rfl⟩
      have hm2 := cuts_len f t (ws.take k)
      rw [hc0] at HO hm2
      rw [List.length_take] at hm2
      obtain ⟨m, hm⟩ : ∃ m, cuts0.length = m := ⟨_, rfl⟩
      rw [hm] at hm2
      have HM := Lib.hid hm
      have HO2 : Hid (wr.ownsRow w2.heap.size 46 2 vl m (rv cuts0)) := Lib.hid (by rw [← hm]; exact HO.out)
      obtain ⟨Al, cl, rfl⟩ := own_slice HO2.out
      have hm3 : m ≤ 131072 := by omega
      have hws : w2.heap.size ≤ wr.heap.size := HW.out.size
      clear hm HO hm2
      by_cases hlt : k < q
      · have hkw : k < ws.length := by rw [HWL.out]; exact hlt
        obtain ⟨b, off, hA, _, c1, c2'⟩ := (R2.out.below HW.out (Nat.le_trans HB.out hPP.out.low.size)).at hkw
        subst hA
        have HCS := Lib.hid (cuts_take (f := f) (t := t) hkw)
        rw [hc0] at HCS
        have hgd := GW.out _ (List.getElem_mem hkw)
        unfold Rn.Good at hgd
        obtain ⟨x, hx⟩ : ∃ x, x = ws[k] := ⟨_, rfl⟩
        rw [← hx] at c1 c2' HCS hgd
        clear hx hc0
        obtain ⟨a, b'⟩ := x
        simp only at c1 c2' hgd
        by_cases h1 : a < f
        · by_cases h2 : t < b'
          · have HCU : Hid (Rn.cuts f t (ws.take (k + 1)) = cuts0 ++ [(a, f - 1)] ++ [(t + 1, b')]) := Lib.hid (by rw [HCS.out]; unfold Rn.cut; rw [if_pos h1, if_pos h2]; simp)
            have w5 : IntKind.u16.wrap (f - 1) = f - 1 := u16_in (by omega) (by omega)
            have HOW := Lib.hid ((HO2.out.alloc (.cells #[.int .u16 a, .int .u16 b'] 46)).alloc (.cells #[.int .u16 a, .int .u16 (f - 1)] 46))
            go_wp2_with (at_builtin; refine wpList_append_own _ rfl _ _ 24 rfl w2.heap.size 46 i0 (.agg #[.int .u16 0, .int .u16 0]) 2 4 Try.underlying24 hi hz0 hz1 hz2 rfl (by decide) _ _ _ rfl HOW.out ⟨_, 0, none⟩ 1 1 [.int .u16 a, .int .u16 (f - 1)] rfl rfl ?e1 ?e2 ?e3 ?e4 ?e5 ?_)
            try (case e1 => exact news2' _ _ (by simp) _ _ _)
            case e2 => first | exact fun u hu => int_one hu | exact ⟨rfl, rfl⟩
            case e3 => unfold maxLen; omega
            case e4 => omega
            case e5 => first | (simp; omega) | omega
            intro v3 w3 hown3 hgrow3 _
            have HON := Lib.hid (own_more HM.out.symm hown3)
            have HWN : Hid (Below w2.heap.size w2 w3) := Lib.hid (Below.grown (show Below w2.heap.size w2 _ from (HW.out.alloc HW.out.size _).alloc (by simp; omega) _) hgrow3 (by simp; omega) (fun g hg => (HOW.out.lt g hg).1))
            obtain ⟨bx0, bx1⟩ := box_kept HO2.out hgrow3
            clear hown3 hgrow3 HOW HO2
            have w6 : IntKind.u16.wrap (t + 1) = t + 1 := u16_in (by omega) (by omega)
            have hz3 : w2.heap.size ≤ w3.heap.size := HWN.out.size
            obtain ⟨cuts1, hcu1⟩ : ∃ c1, cuts0 ++ [(a, f - 1)] = c1 := ⟨_, rfl⟩
            have HM3 : Hid (m + 1 = cuts1.length) := Lib.hid (by rw [← hcu1, List.length_append, HM.out]; rfl)
            have HO3 : Hid (w3.ownsRow w2.heap.size 46 2 v3 (m + 1) (rv cuts1)) := Lib.hid (by have h := HON.out; rw [hcu1, ← HM3.out] at h; exact h)
            rw [hcu1] at HCU
            clear hcu1 HON
            obtain ⟨A3', c3', rfl⟩ := own_slice HO3.out
            have HOW3 := Lib.hid (HO3.out.alloc (.cells #[.int .u16 (t + 1), .int .u16 b'] 46))
            go_wp2_with (at_builtin; refine wpList_append_own _ rfl _ _ 24 rfl w2.heap.size 46 i0 (.agg #[.int .u16 0, .int .u16 0]) 2 4 Try.underlying24 hi hz0 hz1 hz2 rfl (by decide) _ _ _ rfl HOW3.out ⟨_, 0, none⟩ 1 1 [.int .u16 (t + 1), .int .u16 b'] rfl rfl ?g1 ?g2 ?g3 ?g4 ?g5 ?_)
            try (case g1 => exact news2' _ _ (by simp) _ _ _)
            case g2 => first | exact fun u hu => int_one hu | exact ⟨rfl, rfl⟩
            case g3 => unfold maxLen; omega
            case g4 => omega
            case g5 => first | (simp; omega) | omega
            intro v4 w4 hown4 hgrow4 _
            have HON4 := Lib.hid (own_more HM3.out hown4)
            have HWN4 : Hid (Below w2.heap.size w2 w4) := Lib.hid (Below.grown (show Below w2.heap.size w2 _ from HWN.out.alloc hz3 _) hgrow4 (by simp; omega) (fun g hg => (HOW3.out.lt g hg).1))
            clear hown4 hgrow4 HOW3 HO3
            go_wp2
            go_roundw
            case rel => exact ⟨k + 1, by omega, by go_num, Lib.hid (by rw [HCU.out]; exact HON4.out), HWN4⟩
            case measure => simp [intOf]; omega
          · have HCU : Hid (Rn.cuts f t (ws.take (k + 1)) = cuts0 ++ [(a, f - 1)]) := Lib.hid (by rw [HCS.out]; unfold Rn.cut; rw [if_pos h1, if_neg h2]; simp)
            have w5 : IntKind.u16.wrap (f - 1) = f - 1 := u16_in (by omega) (by omega)
            have HOW := Lib.hid ((HO2.out.alloc (.cells #[.int .u16 a, .int .u16 b'] 46)).alloc (.cells #[.int .u16 a, .int .u16 (f - 1)] 46))
            go_wp2_with (at_builtin; refine wpList_append_own _ rfl _ _ 24 rfl w2.heap.size 46 i0 (.agg #[.int .u16 0, .int .u16 0]) 2 4 Try.underlying24 hi hz0 hz1 hz2 rfl (by decide) _ _ _ rfl HOW.out ⟨_, 0, none⟩ 1 1 [.int .u16 a, .int .u16 (f - 1)] rfl rfl ?i1 ?i2 ?i3 ?i4 ?i5 ?_)
            try (case i1 => exact news2' _ _ (by simp) _ _ _)
            case i2 => first | exact fun u hu => int_one hu | exact ⟨rfl, rfl⟩
            case i3 => unfold maxLen; omega
            case i4 => omega
            case i5 => first | (simp; omega) | omega
            intro v3 w3 hown3 hgrow3 _
            have HON := Lib.hid (own_more HM.out.symm hown3)
            have HWN : Hid (Below w2.heap.size w2 w3) := Lib.hid (Below.grown (show Below w2.heap.size w2 _ from (HW.out.alloc HW.out.size _).alloc (by simp; omega) _) hgrow3 (by simp; omega) (fun g hg => (HOW.out.lt g hg).1))
            obtain ⟨bx0, bx1⟩ := box_kept HO2.out hgrow3
            clear hown3 hgrow3 HOW HO2
            go_wp2
            go_roundw
            case rel => exact ⟨k + 1, by omega, by go_num, Lib.hid (by rw [HCU.out]; exact HON.out), HWN⟩
            case measure => simp [intOf]; omega
        · by_cases h2 : t < b'
          · have HCU : Hid (Rn.cuts f t (ws.take (k + 1)) = cuts0 ++ [(t + 1, b')]) := Lib.hid (by rw [HCS.out]; unfold Rn.cut; rw [if_neg h1, if_pos h2]; simp)
            have w6 : IntKind.u16.wrap (t + 1) = t + 1 := u16_in (by omega) (by omega)
            have HOW := Lib.hid ((HO2.out.alloc (.cells #[.int .u16 a, .int .u16 b'] 46)).alloc (.cells #[.int .u16 (t + 1), .int .u16 b'] 46))
            go_wp2_with (at_builtin; refine wpList_append_own _ rfl _ _ 24 rfl w2.heap.size 46 i0 (.agg #[.int .u16 0, .int .u16 0]) 2 4 Try.underlying24 hi hz0 hz1 hz2 rfl (by decide) _ _ _ rfl HOW.out ⟨_, 0, none⟩ 1 1 [.int .u16 (t + 1), .int .u16 b'] rfl rfl ?h1 ?h2 ?h3 ?h4 ?h5 ?_)
            try (case h1 => exact news2' _ _ (by simp) _ _ _)
            case h2 => first | exact fun u hu => int_one hu | exact ⟨rfl, rfl⟩
            case h3 => unfold maxLen; omega
            case h4 => omega
            case h5 => first | (simp; omega) | omega
            intro v3 w3 hown3 hgrow3 _
            have HON := Lib.hid (own_more HM.out.symm hown3)
            have HWN : Hid (Below w2.heap.size w2 w3) := Lib.hid (Below.grown (show Below w2.heap.size w2 _ from (HW.out.alloc HW.out.size _).alloc (by simp; omega) _) hgrow3 (by simp; omega) (fun g hg => (HOW.out.lt g hg).1))
            clear hown3 hgrow3 HOW HO2
            go_wp2
            go_roundw
            case rel => exact ⟨k + 1, by omega, by go_num, Lib.hid (by rw [HCU.out]; exact HON.out), HWN⟩
            case measure => simp [intOf]; omega
          · have HCU : Hid (Rn.cuts f t (ws.take (k + 1)) = cuts0) := Lib.hid (by rw [HCS.out]; unfold Rn.cut; rw [if_neg h1, if_neg h2]; simp)
            go_wp2
            go_roundw
            case rel => exact ⟨k + 1, by omega, by go_num, Lib.hid (by rw [HCU.out]; exact (by rw [HM.out]; exact HO2.out.alloc _)), Lib.hid (HW.out.alloc HW.out.size _)⟩
            case measure => simp [intOf]; omega
      · have hkq : ws.take k = ws := List.take_of_length_le (by rw [HWL.out]; omega)
        rw [hkq] at hc0
        have HC0 := Lib.hid hc0
        clear hkq hc0
        have hBs : B ≤ w2.heap.size := Nat.le_trans HB.out hPP.out.low.size
        have hBw : B ≤ wr.heap.size := Nat.le_trans hBs HW.out.size
        have RL : Rq wr wr.heap.size Al cuts0 := by
          obtain ⟨A', c', e1, e2, _⟩ := Rq.of_own (rs := cuts0) (by rw [HM.out]; exact HO2.out)
          cases e1
          exact e2
        have h3 := cat_three wr wr.heap.size i c m cl (n - j) c3 A Al A3 (rs.take i) cuts0 (rs.drop j)
          (by rw [List.length_take]; have := HN.out; omega) HM.out.symm (by rw [List.length_drop, HN.out])
          ((rq_take (((HR.out.below hPP.out.low HB.out).below HW.out hBs))).more hBw) RL ((hPP.out.r3.below HW.out hBs).more hBw) (Nat.le_refl _) (by omega) (by omega) (by omega)
        have HC := Lib.hid h3
        have FO := Lib.hid (Rn.wipe_ok (aa := rs.take i) (ws := ws) (bs := rs.drop j) (f := f) (t := t) (by rw [SP.out]; exact HG.out) (by omega) hPP.out.p1 hPP.out.p3 P2.out)
        rw [HC0.out] at FO
        clear h3 hBs hBw RL HO2
        go_wp2_with (go_at_call 40; (with_reducible refine HC.out.mono ?_); rintro e w5 ⟨v, rfl, h1, h2⟩; replace h1 := Lib.hid h1; replace h2 := Lib.hid h2)
        go_ret
        have hlow := hPP.out.low.trans (HW.out.mono hPP.out.low.size)
        exact ⟨v, _, rfl, FO.out.1, fun x => by rw [FO.out.2 x, SP.out], own_low h1.out hlow.size, hlow.trans (h2.out.mono hlow.size)⟩
end Go.Proofs.Ytejboemifncjoaa
