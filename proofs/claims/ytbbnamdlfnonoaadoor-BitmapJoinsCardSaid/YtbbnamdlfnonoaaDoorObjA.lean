
/- Fill and Wipe, the text walked. -/
import Derived.Test.YtbbnamdlfnonoaaDoorObj9
import Derived.Test.YtbbnamdlfnonoaaDoorSMath3
import Derived.Deep.RegionHeld3
namespace Go.Proofs.YtbbnamdlfnonoaaDoor
open Go.RowKit
theorem xor64 (x y : Nat) (hx : x < 18446744073709551616) (hy : y < 18446744073709551616) : x ^^^ y < 18446744073709551616 := Nat.xor_lt_two_pow (n := 64) hx hy
/-- What Fill and Wipe leave: the words are laid, as many were changed. -/
def Filled (o : Bool) (w : World) (s h : Nat) (ws : List Nat) (i j : Int) (e : Ending) (w' : World) : Prop :=
  ∃ (us : List Nat) (n : Nat), e = .returned (.int .i64 (n : Int)) ∧ Laid o ws us i j ∧ (if o then n + (sl ws).length = (sl us).length else n + (sl us).length = (sl ws).length) ∧ St w' s h us ∧ w.grownBy w' (some h)
set_option maxHeartbeats 1000000 in
theorem s_change_fill (w : World) (s h : Nat) (ws : List Nat) (a : St w s h ws) (i j : Int) (hi : i ≤ 9223372036854775807) :
    Calls Tryd.prog 75 #[.pointer (some ⟨s, 0, none⟩), .int .i64 i, .int .i64 j, .func (.func 76) #[] #[]] w fun e w' =>
      Filled true w s h ws i j e w' := by
  have hb := Lib.hid (s_bits w s h ws a)
  have hle := a.2.2.2
  have ha := Lib.hid a
  have hne := a.ne
  clear a
  have q1 : 0 ≤ max i 0 / 64 := by omega
  have q3 : IntKind.i64.wrap ((max i 0).tdiv 64) = max i 0 / 64 := IntWalk.i64_quo _ _ (by omega)
  have q4 : IntKind.i64.wrap (max i 0 / 64) = max i 0 / 64 := IntWalk.i64_in _ (by omega)
  have q7 : max i 0 / 64 * 64 ≤ max i 0 := by omega
  have q8 : max i 0 ≤ 9223372036854775807 := by omega
  have q9 : 0 ≤ max i 0 := by omega
  generalize max i 0 / 64 = q at *
  obtain ⟨q, rfl⟩ : ∃ k : Nat, q = (k : Int) := ⟨q.toNat, by omega⟩
  have hfin0 : ∀ (us : List Nat) (k : Nat), Done true ws us (max i 0) (min j ((64 * ws.length : Nat) : Int)) k → min j ((64 * ws.length : Nat) : Int) ≤ (k : Int) * 64 → Laid true ws us i j := fun us k h hk => h.laid hk
  have hB1 : ((64 * ws.length : Nat) : Int) ≤ 64 * (ws.length : Int) := by omega
  have hB2 : 64 * (ws.length : Int) ≤ ((64 * ws.length : Nat) : Int) := by omega
  generalize ((64 * ws.length : Nat) : Int) = B at *
  have hJ : min j B ≤ B := by omega
  have hfin := Lib.hid hfin0
  clear hfin0
  go_enter Tryd.func75, Tryd.ntmps75
  go_wp2_with (go_at_call 67; (with_reducible refine hb.out.mono ?_); rintro e w' ⟨rfl, rfl⟩)
  generalize max i 0 = m at *
  generalize min j B = t at *
  go_loopw [9, 10] (fun v a wr => ∃ (k c : Nat) (us : List Nat), (k ≤ ws.length ∨ k = q) ∧ c ≤ 64 * k ∧ a = .int .i64 k ∧ v = .int .i64 c ∧ us.length = ws.length ∧ Hid (Done true ws us m t k) ∧ Hid (c + (sl ws).length = (sl us).length) ∧ Hid (St wr s h us) ∧ Hid (w.grownBy wr (some h))) (fun _ a _ => ws.length - (intOf a).toNat)
  case atStart => exact ⟨q, 0, ws, by omega, by omega, rfl, rfl, rfl, Done.start true ws m t q (by omega), Nat.zero_add _, ha, ⟨rfl, rfl, rfl, Nat.le_refl _, fun _ _ _ => rfl⟩⟩
  case round =>
    obtain ⟨k, c, us, hk, hck, rfl, rfl, hul, hD, hC, hS, hG⟩ := hrel
    have wk2 : IntKind.i64.wrap ((k : Int) * 64) = (k : Int) * 64 := IntWalk.i64_in _ (by omega)
    by_cases hlt : (k : Int) * 64 < t
    · have hkn : k < us.length := by omega
      have hc := hS.out.head
      have hw := hS.out.cell k hkn
      have hx := hS.out.word k hkn
      have hf := hS.out.frozen k
      have hT : decide ((k : Int) * 64 < t) = true := decide_eq_true hlt
      have wk : IntKind.i64.wrap (k : Int) = (k : Int) := IntWalk.i64_in _ (by omega)
      have wk3 : IntKind.i64.wrap (m - (k : Int) * 64) = m - (k : Int) * 64 := IntWalk.i64_in _ (by omega)
      have wk4 : IntKind.i64.wrap (t - (k : Int) * 64) = t - (k : Int) * 64 := IntWalk.i64_in _ (by omega)
      have k0 : 0 ≤ (k : Int) := by omega
      have k1 : (k : Int) < (us.length : Int) := by omega
      have k2 : (k : Int).toNat = k := by omega
      have hD2 := Lib.hid (hD.out.or_step hkn)
      have hC2 : Hid (c + (M.bl (us[k] ^^^ (us[k] ||| M.mask (m - (k : Int) * 64) (t - (k : Int) * 64)))).length + (sl ws).length = (sl (us.set k (us[k] ||| M.mask (m - (k : Int) * 64) (t - (k : Int) * 64)))).length) := by
        show _ = _
        have e1 := sl_len_set (us[k] ||| M.mask (m - (k : Int) * 64) (t - (k : Int) * 64)) hkn
        have e2 := cnt_or us[k] (M.mask (m - (k : Int) * 64) (t - (k : Int) * 64))
        have e3 := hC.out
        omega
      clear hD hC
      have hm := M.mask_lt (m - (k : Int) * 64) (t - (k : Int) * 64)
      have hbm := fun w0 => Lib.hid (bit_mask (m - (k : Int) * 64) (t - (k : Int) * 64) w0)
      generalize M.mask (m - (k : Int) * 64) (t - (k : Int) * 64) = mk at *
      generalize us[k] = x at *
      have hcf := fun w0 => Lib.hid (c_fill w0 x mk hx hm)
      have hy : x ||| mk < 18446744073709551616 := M.or_lt hx hm
      have hS2 : Hid (∀ N, St ((wr.drewN N).setCell ⟨h, k, none⟩ (.int .u64 ((x ||| mk : Nat) : Int))) s h (us.set k (x ||| mk))) := fun N => (hS.out.drew N).store k _ hy
      have hG2 : Hid (∀ N M, w.grownBy (((wr.drewN N).setCell ⟨h, k, none⟩ (.int .u64 ((x ||| mk : Nat) : Int))).drewN M) (some h)) := fun N M => by
        have g1 := hG.out
        have g2 := g1.trans (set_grown wr h k (.int .u64 ((x ||| mk : Nat) : Int)))
        exact ⟨g2.os, g2.tape, g2.output, g2.size, g2.block⟩
      have hcs : ∀ N, ((wr.drewN N).setCell ⟨h, k, none⟩ (.int .u64 ((x ||| mk : Nat) : Int))).cell? ⟨s, 0, none⟩ = some (.slice (some ⟨h, 0, none⟩) ws.length ws.length) := fun N => by
        have := (hS2.out N).head
        rwa [List.length_set, hul] at this
      have hws : ∀ N, ((wr.drewN N).setCell ⟨h, k, none⟩ (.int .u64 ((x ||| mk : Nat) : Int))).cell? ⟨h, k, none⟩ = some (.int .u64 ((x ||| mk : Nat) : Int)) := fun N => by
        have := (hS2.out N).cell k (by rw [List.length_set]; exact hkn)
        rwa [List.getElem_set_self] at this
      have hfs : ∀ N, ((wr.drewN N).setCell ⟨h, k, none⟩ (.int .u64 ((x ||| mk : Nat) : Int))).frozen? ⟨h, k, none⟩ = false := fun N => (hS2.out N).frozen k
      have hxor : bits .xor .u64 (x : Int) ((x ||| mk : Nat) : Int) = ((x ^^^ (x ||| mk) : Nat) : Int) := u64_xor_nat _ _ hx hy
      have hcn : Hid (∀ w0, Calls Tryd.prog 46 #[.int .u64 ((x ^^^ (x ||| mk) : Nat) : Int)] w0 fun e w' => e = .returned (.int .i64 ((M.bl (x ^^^ (x ||| mk))).length : Nat)) ∧ w0 = w') := fun w0 => bit_count _ (xor64 _ _ hx hy) w0
      have hbl : (M.bl (x ^^^ (x ||| mk))).length ≤ 64 := by
        unfold M.bl
        exact Nat.le_trans (List.length_filter_le _ _) (by rw [List.length_range]; exact Nat.le_refl _)
      rw [hul] at hc k1
      go_wp2_with (first
        | (go_at_call 87; (with_reducible refine (hbm _).out.mono ?_); rintro e w' ⟨rfl, N2, rfl⟩)
        | (go_at_call 76; (with_reducible refine (hcf _).out.mono ?_); rintro e w' ⟨rfl, rfl⟩))
      go_region_held3 (fun w' => w'.cell? ⟨s, 0, none⟩ = some (.slice (some ⟨h, 0, none⟩) ws.length ws.length) ∧ w'.frozen? ⟨h, k, none⟩ = false) (first | exact ⟨hcs _, hfs _⟩ | go_keep)
        (first
        | (go_at_call 87; refine (hbm _).out.mono ?_; rintro e w' ⟨rfl, N2, rfl⟩)
        | (go_at_call 76; refine (hcf _).out.mono ?_; rintro e w' ⟨rfl, rfl⟩))
      go_wp2_with (go_at_call 46; (with_reducible refine (hcn.out _).mono ?_); rintro e w' ⟨rfl, rfl⟩)
      exact ⟨⟨k + 1, c + (M.bl (x ^^^ (x ||| mk))).length, us.set k (x ||| mk), by omega, by omega, by go_num, by go_num, by rw [List.length_set]; exact hul, hD2, hC2, hS2.out _, hG2.out _ 0⟩, by simp [intOf]; omega⟩
    · have hT : decide ((k : Int) * 64 < t) = false := decide_eq_false hlt
      go_wp2
      refine bodyPost_ret (results_tmp (t := 8) rfl _ _ _) rfl ?_
      exact ⟨us, c, rfl, hfin.out us k hD.out (by omega), hC.out, hS.out, hG.out⟩

set_option maxHeartbeats 1000000 in
theorem s_change_wipe (w : World) (s h : Nat) (ws : List Nat) (a : St w s h ws) (i j : Int) (hi : i ≤ 9223372036854775807) :
    Calls Tryd.prog 75 #[.pointer (some ⟨s, 0, none⟩), .int .i64 i, .int .i64 j, .func (.func 77) #[] #[]] w fun e w' =>
      Filled false w s h ws i j e w' := by
  have hb := Lib.hid (s_bits w s h ws a)
  have hle := a.2.2.2
  have ha := Lib.hid a
  have hne := a.ne
  clear a
  have q1 : 0 ≤ max i 0 / 64 := by omega
  have q3 : IntKind.i64.wrap ((max i 0).tdiv 64) = max i 0 / 64 := IntWalk.i64_quo _ _ (by omega)
  have q4 : IntKind.i64.wrap (max i 0 / 64) = max i 0 / 64 := IntWalk.i64_in _ (by omega)
  have q7 : max i 0 / 64 * 64 ≤ max i 0 := by omega
  have q8 : max i 0 ≤ 9223372036854775807 := by omega
  have q9 : 0 ≤ max i 0 := by omega
  generalize max i 0 / 64 = q at *
  obtain ⟨q, rfl⟩ : ∃ k : Nat, q = (k : Int) := ⟨q.toNat, by omega⟩
  have hfin0 : ∀ (us : List Nat) (k : Nat), Done false ws us (max i 0) (min j ((64 * ws.length : Nat) : Int)) k → min j ((64 * ws.length : Nat) : Int) ≤ (k : Int) * 64 → Laid false ws us i j := fun us k h hk => h.laid hk
  have hB1 : ((64 * ws.length : Nat) : Int) ≤ 64 * (ws.length : Int) := by omega
  have hB2 : 64 * (ws.length : Int) ≤ ((64 * ws.length : Nat) : Int) := by omega
  generalize ((64 * ws.length : Nat) : Int) = B at *
  have hJ : min j B ≤ B := by omega
  have hfin := Lib.hid hfin0
  clear hfin0
  go_enter Tryd.func75, Tryd.ntmps75
  go_wp2_with (go_at_call 67; (with_reducible refine hb.out.mono ?_); rintro e w' ⟨rfl, rfl⟩)
  generalize max i 0 = m at *
  generalize min j B = t at *
  go_loopw [9, 10] (fun v a wr => ∃ (k c : Nat) (us : List Nat), (k ≤ ws.length ∨ k = q) ∧ c ≤ 64 * k ∧ a = .int .i64 k ∧ v = .int .i64 c ∧ us.length = ws.length ∧ Hid (Done false ws us m t k) ∧ Hid (c + (sl us).length = (sl ws).length) ∧ Hid (St wr s h us) ∧ Hid (w.grownBy wr (some h))) (fun _ a _ => ws.length - (intOf a).toNat)
  case atStart => exact ⟨q, 0, ws, by omega, by omega, rfl, rfl, rfl, Done.start false ws m t q (by omega), Nat.zero_add _, ha, ⟨rfl, rfl, rfl, Nat.le_refl _, fun _ _ _ => rfl⟩⟩
  case round =>
    obtain ⟨k, c, us, hk, hck, rfl, rfl, hul, hD, hC, hS, hG⟩ := hrel
    have wk2 : IntKind.i64.wrap ((k : Int) * 64) = (k : Int) * 64 := IntWalk.i64_in _ (by omega)
    by_cases hlt : (k : Int) * 64 < t
    · have hkn : k < us.length := by omega
      have hc := hS.out.head
      have hw := hS.out.cell k hkn
      have hx := hS.out.word k hkn
      have hf := hS.out.frozen k
      have hT : decide ((k : Int) * 64 < t) = true := decide_eq_true hlt
      have wk : IntKind.i64.wrap (k : Int) = (k : Int) := IntWalk.i64_in _ (by omega)
      have wk3 : IntKind.i64.wrap (m - (k : Int) * 64) = m - (k : Int) * 64 := IntWalk.i64_in _ (by omega)
      have wk4 : IntKind.i64.wrap (t - (k : Int) * 64) = t - (k : Int) * 64 := IntWalk.i64_in _ (by omega)
      have k0 : 0 ≤ (k : Int) := by omega
      have k1 : (k : Int) < (us.length : Int) := by omega
      have k2 : (k : Int).toNat = k := by omega
      have hD2 := Lib.hid (hD.out.and_step hkn)
      have hC2 : Hid (c + (M.bl (us[k] ^^^ (us[k] &&& (18446744073709551615 - M.mask (m - (k : Int) * 64) (t - (k : Int) * 64))))).length + (sl (us.set k (us[k] &&& (18446744073709551615 - M.mask (m - (k : Int) * 64) (t - (k : Int) * 64))))).length = (sl ws).length) := by
        show _ = _
        have e1 := sl_len_set (us[k] &&& (18446744073709551615 - M.mask (m - (k : Int) * 64) (t - (k : Int) * 64))) hkn
        have e2 := cnt_and us[k] (18446744073709551615 - M.mask (m - (k : Int) * 64) (t - (k : Int) * 64))
        have e3 := hC.out
        omega
      clear hD hC
      have hm := M.mask_lt (m - (k : Int) * 64) (t - (k : Int) * 64)
      have hbm := fun w0 => Lib.hid (bit_mask (m - (k : Int) * 64) (t - (k : Int) * 64) w0)
      generalize M.mask (m - (k : Int) * 64) (t - (k : Int) * 64) = mk at *
      generalize us[k] = x at *
      have hcf := fun w0 => Lib.hid (c_wipe w0 x mk hx hm)
      have hy : x &&& (18446744073709551615 - mk) < 18446744073709551616 := Nat.lt_of_le_of_lt Nat.and_le_left hx
      have hS2 : Hid (∀ N, St ((wr.drewN N).setCell ⟨h, k, none⟩ (.int .u64 ((x &&& (18446744073709551615 - mk) : Nat) : Int))) s h (us.set k (x &&& (18446744073709551615 - mk)))) := fun N => (hS.out.drew N).store k _ hy
      have hG2 : Hid (∀ N M, w.grownBy (((wr.drewN N).setCell ⟨h, k, none⟩ (.int .u64 ((x &&& (18446744073709551615 - mk) : Nat) : Int))).drewN M) (some h)) := fun N M => by
        have g1 := hG.out
        have g2 := g1.trans (set_grown wr h k (.int .u64 ((x &&& (18446744073709551615 - mk) : Nat) : Int)))
        exact ⟨g2.os, g2.tape, g2.output, g2.size, g2.block⟩
      have hcs : ∀ N, ((wr.drewN N).setCell ⟨h, k, none⟩ (.int .u64 ((x &&& (18446744073709551615 - mk) : Nat) : Int))).cell? ⟨s, 0, none⟩ = some (.slice (some ⟨h, 0, none⟩) ws.length ws.length) := fun N => by
        have := (hS2.out N).head
        rwa [List.length_set, hul] at this
      have hws : ∀ N, ((wr.drewN N).setCell ⟨h, k, none⟩ (.int .u64 ((x &&& (18446744073709551615 - mk) : Nat) : Int))).cell? ⟨h, k, none⟩ = some (.int .u64 ((x &&& (18446744073709551615 - mk) : Nat) : Int)) := fun N => by
        have := (hS2.out N).cell k (by rw [List.length_set]; exact hkn)
        rwa [List.getElem_set_self] at this
      have hfs : ∀ N, ((wr.drewN N).setCell ⟨h, k, none⟩ (.int .u64 ((x &&& (18446744073709551615 - mk) : Nat) : Int))).frozen? ⟨h, k, none⟩ = false := fun N => (hS2.out N).frozen k
      have hxor : bits .xor .u64 (x : Int) ((x &&& (18446744073709551615 - mk) : Nat) : Int) = ((x ^^^ (x &&& (18446744073709551615 - mk)) : Nat) : Int) := u64_xor_nat _ _ hx hy
      have hcn : Hid (∀ w0, Calls Tryd.prog 46 #[.int .u64 ((x ^^^ (x &&& (18446744073709551615 - mk)) : Nat) : Int)] w0 fun e w' => e = .returned (.int .i64 ((M.bl (x ^^^ (x &&& (18446744073709551615 - mk)))).length : Nat)) ∧ w0 = w') := fun w0 => bit_count _ (xor64 _ _ hx hy) w0
      have hbl : (M.bl (x ^^^ (x &&& (18446744073709551615 - mk)))).length ≤ 64 := by
        unfold M.bl
        exact Nat.le_trans (List.length_filter_le _ _) (by rw [List.length_range]; exact Nat.le_refl _)
      rw [hul] at hc k1
      go_wp2_with (first
        | (go_at_call 87; (with_reducible refine (hbm _).out.mono ?_); rintro e w' ⟨rfl, N2, rfl⟩)
        | (go_at_call 77; (with_reducible refine (hcf _).out.mono ?_); rintro e w' ⟨rfl, rfl⟩))
      go_region_held3 (fun w' => w'.cell? ⟨s, 0, none⟩ = some (.slice (some ⟨h, 0, none⟩) ws.length ws.length) ∧ w'.frozen? ⟨h, k, none⟩ = false) (first | exact ⟨hcs _, hfs _⟩ | go_keep)
        (first
        | (go_at_call 87; refine (hbm _).out.mono ?_; rintro e w' ⟨rfl, N2, rfl⟩)
        | (go_at_call 77; refine (hcf _).out.mono ?_; rintro e w' ⟨rfl, rfl⟩))
      go_wp2_with (go_at_call 46; (with_reducible refine (hcn.out _).mono ?_); rintro e w' ⟨rfl, rfl⟩)
      exact ⟨⟨k + 1, c + (M.bl (x ^^^ (x &&& (18446744073709551615 - mk)))).length, us.set k (x &&& (18446744073709551615 - mk)), by omega, by omega, by go_num, by go_num, by rw [List.length_set]; exact hul, hD2, hC2, hS2.out _, hG2.out _ 0⟩, by simp [intOf]; omega⟩
    · have hT : decide ((k : Int) * 64 < t) = false := decide_eq_false hlt
      go_wp2
      refine bodyPost_ret (results_tmp (t := 8) rfl _ _ _) rfl ?_
      exact ⟨us, c, rfl, hfin.out us k hD.out (by omega), hC.out, hS.out, hG.out⟩


theorem s_fill (w : World) (s h : Nat) (ws : List Nat) (a : St w s h ws) (i j : Int) (hi : i ≤ 9223372036854775807) :
    Calls Tryd.prog 53 #[.pointer (some ⟨s, 0, none⟩), .int .i64 i, .int .i64 j] w (Filled true w s h ws i j) := by
  have hc := Lib.hid (s_change_fill w s h ws a i j hi)
  clear a
  go_enter Tryd.func53, Tryd.ntmps53
  go_wp2_with (go_at_call 75; refine hc.out.mono ?_; rintro e w' ⟨us, n, rfl, h1, h2, h3, h4⟩)
  go_ret
  exact ⟨us, n, rfl, h1, h2, h3, h4⟩
theorem s_wipe (w : World) (s h : Nat) (ws : List Nat) (a : St w s h ws) (i j : Int) (hi : i ≤ 9223372036854775807) :
    Calls Tryd.prog 54 #[.pointer (some ⟨s, 0, none⟩), .int .i64 i, .int .i64 j] w (Filled false w s h ws i j) := by
  have hc := Lib.hid (s_change_wipe w s h ws a i j hi)
  clear a
  go_enter Tryd.func54, Tryd.ntmps54
  go_wp2_with (go_at_call 75; refine hc.out.mono ?_; rintro e w' ⟨us, n, rfl, h1, h2, h3, h4⟩)
  go_ret
  exact ⟨us, n, rfl, h1, h2, h3, h4⟩
end Go.Proofs.YtbbnamdlfnonoaaDoor
