
/- runs.Rank and Select; the texts walked. -/
import Derived.Test.YtejboemifncjoaaRun24
namespace Go.Proofs.Ytejboemifncjoaa
open Go.RowKit
theorem rank_at {xs : List Int} {v : Int} {i : Nat} (hi : i ≤ xs.length) (h1 : ∀ k (h : k < xs.length), k < i → xs[k] < v) (h2 : ∀ k (h : k < xs.length), i ≤ k → v ≤ xs[k]) : M.rRank xs v = i := by
  unfold M.rRank
  have e1 : (xs.take i).filter (fun x => decide (x < v)) = xs.take i := List.filter_eq_self.2 fun x hx => by
    rw [List.mem_take_iff_getElem] at hx
    obtain ⟨k, hk, rfl⟩ := hx
    simpa using h1 k (by omega) (by omega)
  have e2 : (xs.drop i).filter (fun x => decide (x < v)) = [] := List.filter_eq_nil_iff.2 fun x hx => by
    rw [List.mem_drop_iff_getElem] at hx
    obtain ⟨k, hk, rfl⟩ := hx
    have := h2 (i + k) (by omega) (by omega)
    simp; omega
  conv => lhs; rw [← List.take_append_drop i xs]
  rw [List.filter_append, e1, e2]
  simp; omega
theorem rank_app (xs ys : List Int) (v : Int) : M.rRank (xs ++ ys) v = M.rRank xs v + M.rRank ys v := by
  unfold M.rRank
  rw [List.filter_append, List.length_append]
theorem rank_low {xs : List Int} {v : Int} (h : ∀ x ∈ xs, x < v) : M.rRank xs v = xs.length := by
  unfold M.rRank
  rw [List.filter_eq_self.2 fun x hx => decide_eq_true (h x hx)]
theorem rank_high {xs : List Int} {v : Int} (h : ∀ x ∈ xs, v ≤ x) : M.rRank xs v = 0 := by
  unfold M.rRank
  rw [List.filter_eq_nil_iff.2 fun x hx => by have := h x hx; simp; omega]
  rfl
theorem rank_nums {f t v : Int} (h1 : f ≤ v) (h2 : v ≤ t) : M.rRank (Rn.nums (f, t)) v = (v - f).toNat := by
  have hl : (Rn.nums (f, t)).length = (t - f + 1).toNat := Rn.nums_len (f, t)
  refine rank_at (by rw [hl]; omega) (fun k hk h => ?_) (fun k hk h => ?_)
  · rw [nums_at]; omega
  · rw [nums_at]; omega
theorem flat_app (rs qs : List (Int × Int)) : Rn.flat (rs ++ qs) = Rn.flat rs ++ Rn.flat qs := List.flatMap_append
section
variable (w : World) (B n c : Nat) (A : Option Addr) (rs : List (Int × Int)) (hn : n = rs.length) (hr : Rq w B A rs) (hB : B ≤ w.heap.size) (hg : Rn.Ok rs)
include hn hr hB hg
set_option maxHeartbeats 8000000 in
set_option maxRecDepth 100000 in
theorem r_rank (v : Int) (hc : n ≤ c) (hv : 0 ≤ v ∧ v ≤ 65535) : Calls Try.prog 17 #[.slice A n c, .int .u16 v] w fun e w' => e = .returned (.int .i64 (M.rRank (Rn.flat rs) v : Nat)) ∧ Below w.heap.size w w' := by
  have HP := Lib.hid (r_parts w B n c A rs v v hn hr hB hg hc (by rw [hn]; exact Nat.le_trans (ok_len hg) (by omega)))
  have wv : IntKind.i64.wrap v = v := IntWalk.i64_in _ (by omega)
  have HN := Lib.hid hn
  have HG := Lib.hid hg
  have HB := Lib.hid hB
  have HR := Lib.hid hr
  clear hn hr hB hg hc
  go_enter Try.func17, Try.ntmps17
  go_wp2_with (fail)
  (with_reducible refine HP.out.mono ?_)
  rintro e w2 ⟨i, j, A2, c2, A3, c3, rfl, hPP⟩
  have HPP := Lib.hid hPP
  have hlen : Hid (((rs.take j).drop i).length = j - i) := Lib.hid (by rw [List.length_drop, List.length_take]; have := hPP.jn; have := HN.out; omega)
  have hlen1 : Hid ((rs.take i).length = i) := Lib.hid (by rw [List.length_take]; have := hPP.ij; have := hPP.jn; have := HN.out; omega)
  have hn6 : n ≤ 65536 := by rw [HN.out]; exact ok_len HG.out
  have hjn := hPP.jn
  have hij := hPP.ij
  have HFL : Hid (Rn.flat rs = Rn.flat (rs.take i) ++ Rn.flat ((rs.take j).drop i) ++ Rn.flat (rs.drop j)) := Lib.hid (by rw [← flat_app, ← flat_app, split3 hij])
  obtain ⟨q, hq⟩ : ∃ q, j - i = q := ⟨_, rfl⟩
  rw [hq] at hlen
  rw [hq]
  have hq6 : q ≤ 65536 := by omega
  have R2 := Lib.hid hPP.r2
  have P2 := Lib.hid hPP.p2
  have GW : Hid (∀ r, r ∈ (rs.take j).drop i → Rn.Good r) := Lib.hid (fun r hr => HG.out.1 r (List.mem_of_mem_take (List.mem_of_mem_drop hr)))
  have OKI : Hid (Rn.Ok (rs.take i)) := Lib.hid (HG.out.sub (List.take_sublist _ _))
  have hfr := ok_flat HG.out
  have HFR := Lib.hid hfr
  have hal := ok_flat OKI.out
  have CLN := Lib.hid (r_len w2 B i c A (rs.take i) hlen1.out.symm (rq_take (HR.out.below hPP.low HB.out)) (Nat.le_trans HB.out hPP.low.size) OKI.out.1 (by omega) (by omega))
  obtain ⟨L0, hL0⟩ : ∃ L0, (Rn.flat (rs.take i)).length = L0 := ⟨_, rfl⟩
  rw [hL0] at CLN hal
  have HL0 := Lib.hid hL0
  obtain ⟨ws, hws⟩ : ∃ ws, ws = (rs.take j).drop i := ⟨_, rfl⟩
  rw [← hws] at hlen HFL R2 P2 GW
  clear hPP hq HP hws hL0 hfr
  go_wp2_with (go_at_call 29; (with_reducible refine CLN.out.mono ?_); rintro e w3 ⟨rfl, h3⟩; replace h3 := Lib.hid h3)
  have HW3 := Lib.hid (HPP.out.low.trans (h3.out.mono HPP.out.low.size))
  have R23 := Lib.hid (R2.out.below h3.out (Nat.le_trans HB.out HPP.out.low.size))
  have HB3 : Hid (B ≤ w3.heap.size) := Lib.hid (Nat.le_trans HB.out HW3.out.size)
  have HRT : Hid (M.rRank (Rn.flat rs) v = L0 + M.rRank (Rn.flat ws) v) := Lib.hid (by
    rw [HFL.out, rank_app, rank_app, rank_low (xs := Rn.flat (rs.take i)) (fun x hx => by
      obtain ⟨r, hr, e1, e2⟩ := Rn.mem_flat.1 hx
      have := HPP.out.p1 r hr; omega), rank_high (xs := Rn.flat (rs.drop j)) (fun x hx => by
      obtain ⟨r, hr, e1, e2⟩ := Rn.mem_flat.1 hx
      have := HPP.out.p3 r hr; omega), HL0.out, Nat.add_zero])
  have HMX : Hid (∀ k, L0 + M.rRank (Rn.flat (ws.take k)) v ≤ 65536) := Lib.hid (fun k => by
    have h1 : M.rRank (Rn.flat (ws.take k)) v ≤ (Rn.flat (ws.take k)).length := List.length_filter_le _ _
    have h2 := flat_le (rs := ws) (k := k)
    have h4 := HFR.out
    rw [HFL.out, List.length_append, List.length_append, HL0.out] at h4
    omega)
  clear CLN HFL HR HG OKI h3 R2
  go_loopw [8, 25] (fun vn vi wr => ∃ k : Nat, k ≤ q ∧ vi = .int .i64 k ∧ vn = .int .i64 ((L0 + M.rRank (Rn.flat (ws.take k)) v : Nat) : Int) ∧ Hid (Below w3.heap.size w3 wr)) (fun _ vi _ => q - (intOf vi).toNat)
  case atStart => exact ⟨0, Nat.zero_le _, rfl, rfl, Lib.hid (Below.refl _ _)⟩
  case round =>
    obtain ⟨k, hk, rfl, rfl, HW⟩ := hrel
    by_cases hlt : k < q
    · have hkx : k < ws.length := by rw [hlen.out]; exact hlt
      obtain ⟨b, off, hA, _, c1, c2'⟩ := (R23.out.below HW.out HB3.out).at hkx
      subst hA
      have g := GW.out _ (List.getElem_mem hkx)
      have p2 := P2.out _ (List.getElem_mem hkx)
      unfold Rn.Good at g
      have HS := Lib.hid (Rn.flat_take hkx)
      have HM1 := Lib.hid (HMX.out (k + 1))
      obtain ⟨x, hx⟩ : ∃ x, x = ws[k] := ⟨_, rfl⟩
      rw [← hx] at c1 c2' g p2 HS
      clear hx
      obtain ⟨f, t⟩ := x
      simp only at c1 c2' g p2
      have HRN : Hid (M.rRank (Rn.flat (ws.take (k + 1))) v = M.rRank (Rn.flat (ws.take k)) v + (v - f).toNat) := Lib.hid (by rw [HS.out, rank_app, rank_nums p2.2 p2.1])
      obtain ⟨q1, hq1⟩ : ∃ q1, M.rRank (Rn.flat (ws.take (k + 1))) v = q1 := ⟨_, rfl⟩
      obtain ⟨q0, hq0⟩ : ∃ q0, M.rRank (Rn.flat (ws.take k)) v = q0 := ⟨_, rfl⟩
      rw [hq1] at HM1 HRN
      rw [hq0] at HRN
      rw [hq0]
      have HQ1 := Lib.hid hq1
      have hs := HRN.out
      have hm := HM1.out
      have w1 : IntKind.u16.wrap (v - f) = v - f := u16_in (by omega) (by omega)
      have w2' : IntKind.i64.wrap (v - f) = v - f := IntWalk.i64_in _ (by omega)
      have w3' : IntKind.i64.wrap (((L0 + q0 : Nat) : Int) + (v - f)) = ((L0 + q1 : Nat) : Int) := by rw [IntWalk.i64_in _ (by omega)]; omega
      have w4' : IntKind.i64.wrap ((L0 : Int) + (q0 : Int) + (v - f)) = ((L0 : Int) + (q1 : Int)) := by rw [IntWalk.i64_in _ (by omega)]; omega
      clear hq0 hq1 hs hm
      go_wp2
      go_roundw
      case rel => exact ⟨k + 1, by omega, by go_num, by rw [HQ1.out]; first | rfl | simp, Lib.hid (HW.out.alloc HW.out.size _)⟩
      case measure => simp [intOf]; omega
    · have hkn : ws.take k = ws := List.take_of_length_le (by rw [hlen.out]; omega)
      rw [hkn]
      clear hkn
      go_wp2
      go_ret
      exact ⟨by rw [HRT.out]; rfl, HW3.out.trans (HW.out.mono HW3.out.size)⟩
set_option maxHeartbeats 8000000 in
set_option maxRecDepth 100000 in
theorem r_select (K : Int) (hK : K ≤ 9223372036854775807) : Calls Try.prog 19 #[.slice A n c, .int .i64 K] w fun e w' => ∃ (x : Int) (b : Bool), e = .returned (.tuple #[.int .u16 x, .bool b]) ∧ 0 ≤ x ∧ x ≤ 65535 ∧ (if b then x else -1) = M.rSel (Rn.flat rs) K ∧ Below w.heap.size w w' := by
  have few : n ≤ 65536 := by rw [hn]; exact ok_len hg
  have HR := Lib.hid hr
  have HN := Lib.hid hn
  have HG := Lib.hid hg
  have HKM := Lib.hid hK
  clear hr hn hg hK
  by_cases hK0 : K < 0
  · have d1 : decide (K < 0) = true := decide_eq_true hK0
    have HK := Lib.hid hK0
    clear hK0
    go_enter Try.func19, Try.ntmps19
    go_wp2
    go_ret2
    exact ⟨0, false, rfl, by omega, by omega, by unfold M.rSel; rw [if_pos HK.out]; rfl, Below.refl _ _⟩
  · obtain ⟨k0, rfl⟩ : ∃ k0 : Nat, K = (k0 : Int) := ⟨K.toNat, by omega⟩
    have HSL : Hid (M.rSel (Rn.flat rs) (k0 : Int) = ((Rn.flat rs)[k0]?).getD (-1)) := Lib.hid (by unfold M.rSel; rw [if_neg (by omega)]; rfl)
    have d1 : decide ((k0 : Int) < 0) = false := decide_eq_false (by omega)
    clear hK0
    go_enter Try.func19, Try.ntmps19
    go_wp2
    go_loopw [1, 13] (fun vk vi wr => ∃ (j k : Nat), j ≤ n ∧ vi = .int .i64 j ∧ vk = .int .i64 (k : Int) ∧ Hid (k + (Rn.flat (rs.take j)).length = k0) ∧ Hid (Below w.heap.size w wr)) (fun _ vi _ => n - (intOf vi).toNat)
    case atStart => exact ⟨0, k0, Nat.zero_le _, rfl, rfl, Lib.hid rfl, Lib.hid (Below.refl _ _)⟩
    case round =>
      obtain ⟨j, k, hj, rfl, rfl, HK, HW⟩ := hrel
      by_cases hlt : j < n
      · have hjx : j < rs.length := by rw [← HN.out]; exact hlt
        obtain ⟨b, off, hA, _, c1, c2'⟩ := (HR.out.below HW.out hB).at hjx
        subst hA
        have g := HG.out.1 _ (List.getElem_mem hjx)
        unfold Rn.Good at g
        have HS := Lib.hid (Rn.flat_take hjx)
        have HT : Hid (Rn.flat rs = Rn.flat (rs.take (j + 1)) ++ Rn.flat (rs.drop (j + 1))) := Lib.hid (by rw [← flat_app, List.take_append_drop])
        obtain ⟨x, hx⟩ : ∃ x, x = rs[j] := ⟨_, rfl⟩
        rw [← hx] at c1 c2' g HS
        clear hx
        obtain ⟨f, t⟩ := x
        simp only at c1 c2' g
        have HNL : Hid ((Rn.nums (f, t)).length = (t - f + 1).toNat) := Lib.hid (Rn.nums_len (f, t))
        have w1 : IntKind.i64.wrap (t - f + 1) = t - f + 1 := IntWalk.i64_in _ (by omega)
        have HWA := Lib.hid ((HW.out.alloc HW.out.size (.cells #[.int .u16 f, .int .u16 t] 46)).alloc (by have := HW.out.size; simp; omega) (.cells #[.int .u16 f, .int .u16 t] 46))
        by_cases hkn : (k : Int) < t - f + 1
        · have d2 : decide ((k : Int) < t - f + 1) = true := decide_eq_true hkn
          have w2' : IntKind.u16.wrap (k : Int) = (k : Int) := u16_in (by omega) (by omega)
          have w3' : IntKind.u16.wrap (f + (k : Int)) = f + (k : Int) := u16_in (by omega) (by omega)
          have HRES : Hid (M.rSel (Rn.flat rs) (k0 : Int) = f + (k : Int)) := Lib.hid (by
            have hkl : k < (Rn.nums (f, t)).length := by rw [HNL.out]; omega
            have hk0 := HK.out
            rw [HSL.out, HT.out, HS.out, List.getElem?_append_left (by rw [List.length_append]; omega), List.getElem?_append_right (by omega), show k0 - (Rn.flat (rs.take j)).length = k by omega, List.getElem?_eq_getElem hkl, nums_at]
            rfl)
          have hfk : 0 ≤ f + (k : Int) ∧ f + (k : Int) ≤ 65535 := by omega
          go_wp2
          go_ret2
          exact ⟨f + (k : Int), true, rfl, hfk.1, hfk.2, by rw [if_pos rfl, HRES.out], HWA.out⟩
        · have d2 : decide ((k : Int) < t - f + 1) = false := decide_eq_false hkn
          obtain ⟨k1, hk1⟩ : ∃ k1 : Nat, (k1 : Int) = (k : Int) - (t - f + 1) := ⟨((k : Int) - (t - f + 1)).toNat, by omega⟩
          have HK1 : Hid (k1 + (Rn.flat (rs.take (j + 1))).length = k0) := Lib.hid (by rw [HS.out, List.length_append, HNL.out]; have := HK.out; omega)
          have w2' : IntKind.i64.wrap ((k : Int) - (t - f + 1)) = (k1 : Int) := by rw [IntWalk.i64_in _ (by have h1 := HKM.out; have h2 := HK.out; omega)]; omega
          clear hk1 hkn
          go_wp2
          go_roundw
          case rel => exact ⟨j + 1, k1, by omega, by go_num, rfl, HK1, HWA⟩
          case measure => simp [intOf]; omega
      · have hjn : rs.take j = rs := List.take_of_length_le (by rw [← HN.out]; omega)
        have HRES : Hid (M.rSel (Rn.flat rs) (k0 : Int) = -1) := Lib.hid (by
          have hk0 := HK.out
          rw [hjn] at hk0
          rw [HSL.out, List.getElem?_eq_none (by omega)]
          rfl)
        clear hjn
        go_wp2
        go_ret2
        exact ⟨0, false, rfl, by omega, by omega, by rw [HRES.out]; rfl, HW.out⟩
end
end Go.Proofs.Ytejboemifncjoaa
