
/- The law RoomTells, case by case; the text walked. -/
import Derived.Test.YtagdicbakcildaaDoorR3
namespace Go.Proofs.YtagdicbakcildaaDoor
open Go.RowKit
theorem beq_self (a : Int) : (a == a) = true := by simp
theorem bd_dec {t : Int} (h1 : 1 ≤ t) (h5 : t ≤ 5) (k : Nat) (hk : 2 ≤ k ∧ k ≤ 5) : decide (0 < ((M.bd t k : Nat) : Int)) = true ∧ decide (0 < M.bd t k) = true := by
  have := M.bd_steps h1 h5
  have hk : k = 2 ∨ k = 3 ∨ k = 4 ∨ k = 5 := by omega
  rcases hk with rfl | rfl | rfl | rfl <;> exact ⟨decide_eq_true (by omega), decide_eq_true (by omega)⟩
set_option maxRecDepth 100000 in
set_option maxHeartbeats 8000000 in
theorem tells_a (t n l : Int) (hl2 : l < 9223372036854775808) (t1 : t < 1) (A : Option Addr) (c : Nat) (xs : List Int) (hxl : xs.length ≤ 9223372036854775807) (w : World) (hr : Rd w w.heap.size A xs) (h : BT w) :
    Calls Tryd.prog 3 #[.int .i64 t, .int .i64 n, .int .i64 l, .slice A xs.length c] w fun e w' => e = .returned (.bool true) ∧ Below w.heap.size w w' := by
  have HT := Lib.hid h
  obtain ⟨ys, hys⟩ : ∃ ys, xs.take 9 = ys := ⟨_, rfl⟩
  obtain ⟨m, hm⟩ : ∃ m, ys.length = m := ⟨_, rfl⟩
  have hm9 : m ≤ 9 := by rw [← hm, ← hys, List.length_take]; omega
  have HR := Lib.hid hr
  have HI : Hid (∀ W, Below w.heap.size w W → Calls Tryd.prog 9 #[.slice A xs.length c, .int .i64 9] W fun e w' => ∃ A' c', e = .returned (.slice A' m c') ∧ Rd w' w'.heap.size A' ys ∧ Fr W.heap.size A' ∧ Below W.heap.size W w') := Lib.hid fun W hW => by
    have := ref_ints A c xs 9 W ((hr.below hW (Nat.le_refl _)).more hW.size) hxl (by omega)
    rw [hys, hm] at this
    exact this
  have HYL := Lib.hid hm
  have HMT := Lib.hid fun (t : Int) W (hW : Below w.heap.size w W) => most_any t l hl2 W (h.below hW)
  have HFT := Lib.hid fun (A : Option Addr) (c : Nat) W (hW : Below w.heap.size w W) (hR : Rd W W.heap.size A ys) => fits_any l hl2 A c ys m hm W W.heap.size (Nat.le_refl _) hR (by omega) (h.below hW)
  have hX := M.nd_no (t := t) (n := n) (by omega)
  have hng := M.n_bad hX
  have HNE : Hid (∀ W, Below w.heap.size w W → Calls Tryd.prog 6 #[.int .i64 t, .int .i64 n] W fun e w' => e = .returned (.tuple #[.int .i64 0, .int .i64 1]) ∧ Below W.heap.size W w') := Lib.hid fun W hW => by
    have := need_any t n W (h.below hW)
    rw [hng.1, hng.2] at this
    exact this
  have HRN : Hid (∀ W, Calls Tryd.prog 7 #[.int .i64 t, .int .i64 n] W fun e w' => e = .returned (.int .i64 (-1)) ∧ Below W.heap.size W w') := Lib.hid fun W => by
    have := ref_need t n W
    rw [hX] at this
    exact this
  clear hng hX
  have hme : M.mo t l = 0 ∧ M.me t l = 1 := ⟨by unfold M.mo; rw [if_pos (by omega)], by unfold M.me; rw [if_pos (by omega)]⟩
  have HMO : Hid (∀ W, Below w.heap.size w W → Calls Tryd.prog 8 #[.int .i64 t, .int .i64 l] W fun e w' => e = .returned (.tuple #[.int .i64 0, .int .i64 1]) ∧ Below W.heap.size W w') := Lib.hid fun W hW => by
    have := most_any t l hl2 W (h.below hW)
    rw [hme.1, hme.2] at this
    exact this
  clear hme
  have hz : ∀ k, k < 6 → M.bd t k = 0 := fun k hk => M.bd_no (by omega) k hk
  have HST : Hid (∀ W, Below w.heap.size w W → Calls Tryd.prog 10 #[.int .i64 t] W fun e w' => e = .returned (.tuple #[.int .i64 0, .int .i64 0, .int .i64 0]) ∧ Below W.heap.size W w') := Lib.hid fun W hW => by
    have := steps_any t W (h.below hW)
    rw [hz 2 (by omega), hz 3 (by omega), hz 4 (by omega)] at this
    exact this
  have HDE : Hid (∀ W, Below w.heap.size w W → Calls Tryd.prog 12 #[.int .i64 t] W fun e w' => e = .returned (.int .i64 0) ∧ Below W.heap.size W w') := Lib.hid fun W hW => by
    have := depth_any t W (h.below hW)
    rw [hz 5 (by omega)] at this
    exact this
  have s1 : decide (1 ≤ t) = false := decide_eq_false (by omega)
  clear hz
  have HB0 := Lib.hid (Below.refl w.heap.size w)
  clear hr h hys hm t1
  generalize xs.length = len at *
  go_enter Tryd.func3, Tryd.ntmps3
  go_wp2_with (first
    | (go_at_call 9; (with_reducible refine (HI.out _ HB4.out).mono ?_); rintro e W7 ⟨A7, c7, rfl, hrd, _, hb⟩; have HRD := Lib.hid hrd; clear hrd; have HB7 := Lib.hid (HB4.out.trans (hb.mono HB4.out.size)); clear hb)
    | (go_at_call 8; (with_reducible refine (HMO.out _ HB3.out).mono ?_); rintro e W4 ⟨rfl, hb⟩; have HB4 := Lib.hid (HB3.out.trans (hb.mono HB3.out.size)); clear hb)
    | (go_at_call 7; (with_reducible refine (HRN.out _).mono ?_); rintro e W3 ⟨rfl, hb⟩; have HB3 := Lib.hid (HB2.out.trans (hb.mono HB2.out.size)); clear hb)
    | (go_at_call 6; (with_reducible refine (HNE.out _ HB1.out).mono ?_); rintro e W2 ⟨rfl, hb⟩; have HB2 := Lib.hid (HB1.out.trans (hb.mono HB1.out.size)); clear hb)
    | (go_at_call 5; (with_reducible refine (awake_any _ (HT.out.below HB0.out)).mono ?_); rintro e W1 ⟨rfl, hb⟩; have HB1 := Lib.hid (HB0.out.trans (hb.mono HB0.out.size)); clear hb))
  go_loopw [15, 121] (fun v i wr => ∃ k : Nat, k ≤ m ∧ i = .int .i64 k ∧ v = .int .i64 (M.ft l (ys.take k)) ∧ Hid (Below W7.heap.size W7 wr)) (fun _ i _ => m - (intOf i).toNat)
  case atStart => exact ⟨0, by omega, rfl, rfl, Lib.hid (Below.refl _ _)⟩
  case round =>
    obtain ⟨k, hk, rfl, rfl, HBr⟩ := hrel
    have HB8 := Lib.hid (HB7.out.trans (HBr.out.mono HB7.out.size))
    by_cases hlt : k < m
    · have hlt' : k < ys.length := by rw [HYL.out]; exact hlt
      obtain ⟨b1, off, rfl, hc⟩ := (HRD.out.below HBr.out (Nat.le_refl _)).at hlt'
      have d0 : (k : Int) < (m : Int) := by omega
      have wk : IntKind.i64.wrap ((k : Int) + 1) = (k : Int) + 1 := IntWalk.i64_in _ (by omega)
      have hs : M.ft l (ys.take (k + 1)) = min (M.ft l (ys.take k)) (M.mo ys[k] l) := by rw [take_snoc hlt', M.ft_snoc]
      have HS := Lib.hid hs
      clear hs
      generalize ys[k] = t9 at *
      generalize M.ft l (ys.take k) = f0 at *
      go_wp2_with (go_at_call 8; (with_reducible refine (HMT.out t9 _ HB8.out).mono ?_); rintro e w2 ⟨rfl, hb⟩; have HB9 := Lib.hid hb; clear hb)
      go_roundw
      case rel => exact ⟨k + 1, by omega, by go_num, by rw [HS.out], Lib.hid (HBr.out.trans (HB9.out.mono HBr.out.size))⟩
      case measure => simp [intOf]; omega
    · have hkm : k = m := by omega
      have e1 : ys.take k = ys := List.take_of_length_le (by rw [HYL.out]; omega)
      rw [e1, hkm]
      have HRF := Lib.hid ((HRD.out.below HBr.out (Nat.le_refl _)).more HBr.out.size)
      obtain ⟨F, hF⟩ : ∃ F, M.ft l ys = F := ⟨_, rfl⟩
      rw [hF]
      have HFF : Hid (∀ W, Below wr.heap.size wr W → Calls Tryd.prog 11 #[.int .i64 l, .slice A7 m c7] W fun e w' => e = .returned (.int .i64 F) ∧ Below W.heap.size W w') := Lib.hid fun W hW => by
        have := HFT.out A7 c7 W (HB8.out.trans (hW.mono HB8.out.size)) ((HRF.out.below hW (Nat.le_refl _)).more hW.size)
        rw [hF] at this
        exact this
      have f1 := beq_self F
      clear hF e1 hlt hk hkm
      have HBA0 := Lib.hid (Below.refl wr.heap.size wr)
      go_wp2_with (first
        | (go_at_call 12; (with_reducible refine (HDE.out _ (HB8.out.trans (HBA2.out.mono HB8.out.size))).mono ?_); rintro e WA3 ⟨rfl, hb⟩; have HBA3 := Lib.hid (HBA2.out.trans (hb.mono HBA2.out.size)); clear hb)
        | (go_at_call 11; (with_reducible refine (HFF.out _ HBA1.out).mono ?_); rintro e WA2 ⟨rfl, hb⟩; have HBA2 := Lib.hid (HBA1.out.trans (hb.mono HBA1.out.size)); clear hb)
        | (go_at_call 10; (with_reducible refine (HST.out _ (HB8.out.trans (HBA0.out.mono HB8.out.size))).mono ?_); rintro e WA1 ⟨rfl, hb⟩; have HBA1 := Lib.hid (HBA0.out.trans (hb.mono HBA0.out.size)); clear hb))
      go_ret
      exact ⟨by simp, HB8.out.trans (HBA3.out.mono HB8.out.size)⟩
set_option maxRecDepth 100000 in
set_option maxHeartbeats 8000000 in
theorem tells_b (t n l : Int) (hl2 : l < 9223372036854775808) (t5 : 5 < t) (A : Option Addr) (c : Nat) (xs : List Int) (hxl : xs.length ≤ 9223372036854775807) (w : World) (hr : Rd w w.heap.size A xs) (h : BT w) :
    Calls Tryd.prog 3 #[.int .i64 t, .int .i64 n, .int .i64 l, .slice A xs.length c] w fun e w' => e = .returned (.bool true) ∧ Below w.heap.size w w' := by
  have HT := Lib.hid h
  obtain ⟨ys, hys⟩ : ∃ ys, xs.take 9 = ys := ⟨_, rfl⟩
  obtain ⟨m, hm⟩ : ∃ m, ys.length = m := ⟨_, rfl⟩
  have hm9 : m ≤ 9 := by rw [← hm, ← hys, List.length_take]; omega
  have HR := Lib.hid hr
  have HI : Hid (∀ W, Below w.heap.size w W → Calls Tryd.prog 9 #[.slice A xs.length c, .int .i64 9] W fun e w' => ∃ A' c', e = .returned (.slice A' m c') ∧ Rd w' w'.heap.size A' ys ∧ Fr W.heap.size A' ∧ Below W.heap.size W w') := Lib.hid fun W hW => by
    have := ref_ints A c xs 9 W ((hr.below hW (Nat.le_refl _)).more hW.size) hxl (by omega)
    rw [hys, hm] at this
    exact this
  have HYL := Lib.hid hm
  have HMT := Lib.hid fun (t : Int) W (hW : Below w.heap.size w W) => most_any t l hl2 W (h.below hW)
  have HFT := Lib.hid fun (A : Option Addr) (c : Nat) W (hW : Below w.heap.size w W) (hR : Rd W W.heap.size A ys) => fits_any l hl2 A c ys m hm W W.heap.size (Nat.le_refl _) hR (by omega) (h.below hW)
  have hX := M.nd_no (t := t) (n := n) (by omega)
  have hng := M.n_bad hX
  have HNE : Hid (∀ W, Below w.heap.size w W → Calls Tryd.prog 6 #[.int .i64 t, .int .i64 n] W fun e w' => e = .returned (.tuple #[.int .i64 0, .int .i64 1]) ∧ Below W.heap.size W w') := Lib.hid fun W hW => by
    have := need_any t n W (h.below hW)
    rw [hng.1, hng.2] at this
    exact this
  have HRN : Hid (∀ W, Calls Tryd.prog 7 #[.int .i64 t, .int .i64 n] W fun e w' => e = .returned (.int .i64 (-1)) ∧ Below W.heap.size W w') := Lib.hid fun W => by
    have := ref_need t n W
    rw [hX] at this
    exact this
  clear hng hX
  have hme : M.mo t l = 0 ∧ M.me t l = 1 := ⟨by unfold M.mo; rw [if_pos (by omega)], by unfold M.me; rw [if_pos (by omega)]⟩
  have HMO : Hid (∀ W, Below w.heap.size w W → Calls Tryd.prog 8 #[.int .i64 t, .int .i64 l] W fun e w' => e = .returned (.tuple #[.int .i64 0, .int .i64 1]) ∧ Below W.heap.size W w') := Lib.hid fun W hW => by
    have := most_any t l hl2 W (h.below hW)
    rw [hme.1, hme.2] at this
    exact this
  clear hme
  have hz : ∀ k, k < 6 → M.bd t k = 0 := fun k hk => M.bd_no (by omega) k hk
  have HST : Hid (∀ W, Below w.heap.size w W → Calls Tryd.prog 10 #[.int .i64 t] W fun e w' => e = .returned (.tuple #[.int .i64 0, .int .i64 0, .int .i64 0]) ∧ Below W.heap.size W w') := Lib.hid fun W hW => by
    have := steps_any t W (h.below hW)
    rw [hz 2 (by omega), hz 3 (by omega), hz 4 (by omega)] at this
    exact this
  have HDE : Hid (∀ W, Below w.heap.size w W → Calls Tryd.prog 12 #[.int .i64 t] W fun e w' => e = .returned (.int .i64 0) ∧ Below W.heap.size W w') := Lib.hid fun W hW => by
    have := depth_any t W (h.below hW)
    rw [hz 5 (by omega)] at this
    exact this
  have s1 : decide (1 ≤ t) = true := decide_eq_true (by omega)
  have s2 : decide (t ≤ 5) = false := decide_eq_false (by omega)
  clear hz
  have HB0 := Lib.hid (Below.refl w.heap.size w)
  clear hr h hys hm t5
  generalize xs.length = len at *
  go_enter Tryd.func3, Tryd.ntmps3
  go_wp2_with (first
    | (go_at_call 9; (with_reducible refine (HI.out _ HB4.out).mono ?_); rintro e W7 ⟨A7, c7, rfl, hrd, _, hb⟩; have HRD := Lib.hid hrd; clear hrd; have HB7 := Lib.hid (HB4.out.trans (hb.mono HB4.out.size)); clear hb)
    | (go_at_call 8; (with_reducible refine (HMO.out _ HB3.out).mono ?_); rintro e W4 ⟨rfl, hb⟩; have HB4 := Lib.hid (HB3.out.trans (hb.mono HB3.out.size)); clear hb)
    | (go_at_call 7; (with_reducible refine (HRN.out _).mono ?_); rintro e W3 ⟨rfl, hb⟩; have HB3 := Lib.hid (HB2.out.trans (hb.mono HB2.out.size)); clear hb)
    | (go_at_call 6; (with_reducible refine (HNE.out _ HB1.out).mono ?_); rintro e W2 ⟨rfl, hb⟩; have HB2 := Lib.hid (HB1.out.trans (hb.mono HB1.out.size)); clear hb)
    | (go_at_call 5; (with_reducible refine (awake_any _ (HT.out.below HB0.out)).mono ?_); rintro e W1 ⟨rfl, hb⟩; have HB1 := Lib.hid (HB0.out.trans (hb.mono HB0.out.size)); clear hb))
  go_loopw [15, 121] (fun v i wr => ∃ k : Nat, k ≤ m ∧ i = .int .i64 k ∧ v = .int .i64 (M.ft l (ys.take k)) ∧ Hid (Below W7.heap.size W7 wr)) (fun _ i _ => m - (intOf i).toNat)
  case atStart => exact ⟨0, by omega, rfl, rfl, Lib.hid (Below.refl _ _)⟩
  case round =>
    obtain ⟨k, hk, rfl, rfl, HBr⟩ := hrel
    have HB8 := Lib.hid (HB7.out.trans (HBr.out.mono HB7.out.size))
    by_cases hlt : k < m
    · have hlt' : k < ys.length := by rw [HYL.out]; exact hlt
      obtain ⟨b1, off, rfl, hc⟩ := (HRD.out.below HBr.out (Nat.le_refl _)).at hlt'
      have d0 : (k : Int) < (m : Int) := by omega
      have wk : IntKind.i64.wrap ((k : Int) + 1) = (k : Int) + 1 := IntWalk.i64_in _ (by omega)
      have hs : M.ft l (ys.take (k + 1)) = min (M.ft l (ys.take k)) (M.mo ys[k] l) := by rw [take_snoc hlt', M.ft_snoc]
      have HS := Lib.hid hs
      clear hs
      generalize ys[k] = t9 at *
      generalize M.ft l (ys.take k) = f0 at *
      go_wp2_with (go_at_call 8; (with_reducible refine (HMT.out t9 _ HB8.out).mono ?_); rintro e w2 ⟨rfl, hb⟩; have HB9 := Lib.hid hb; clear hb)
      go_roundw
      case rel => exact ⟨k + 1, by omega, by go_num, by rw [HS.out], Lib.hid (HBr.out.trans (HB9.out.mono HBr.out.size))⟩
      case measure => simp [intOf]; omega
    · have hkm : k = m := by omega
      have e1 : ys.take k = ys := List.take_of_length_le (by rw [HYL.out]; omega)
      rw [e1, hkm]
      have HRF := Lib.hid ((HRD.out.below HBr.out (Nat.le_refl _)).more HBr.out.size)
      obtain ⟨F, hF⟩ : ∃ F, M.ft l ys = F := ⟨_, rfl⟩
      rw [hF]
      have HFF : Hid (∀ W, Below wr.heap.size wr W → Calls Tryd.prog 11 #[.int .i64 l, .slice A7 m c7] W fun e w' => e = .returned (.int .i64 F) ∧ Below W.heap.size W w') := Lib.hid fun W hW => by
        have := HFT.out A7 c7 W (HB8.out.trans (hW.mono HB8.out.size)) ((HRF.out.below hW (Nat.le_refl _)).more hW.size)
        rw [hF] at this
        exact this
      have f1 := beq_self F
      clear hF e1 hlt hk hkm
      have HBA0 := Lib.hid (Below.refl wr.heap.size wr)
      go_wp2_with (first
        | (go_at_call 12; (with_reducible refine (HDE.out _ (HB8.out.trans (HBA2.out.mono HB8.out.size))).mono ?_); rintro e WA3 ⟨rfl, hb⟩; have HBA3 := Lib.hid (HBA2.out.trans (hb.mono HBA2.out.size)); clear hb)
        | (go_at_call 11; (with_reducible refine (HFF.out _ HBA1.out).mono ?_); rintro e WA2 ⟨rfl, hb⟩; have HBA2 := Lib.hid (HBA1.out.trans (hb.mono HBA1.out.size)); clear hb)
        | (go_at_call 10; (with_reducible refine (HST.out _ (HB8.out.trans (HBA0.out.mono HB8.out.size))).mono ?_); rintro e WA1 ⟨rfl, hb⟩; have HBA1 := Lib.hid (HBA0.out.trans (hb.mono HBA0.out.size)); clear hb))
      go_ret
      exact ⟨by simp, HB8.out.trans (HBA3.out.mono HB8.out.size)⟩
set_option maxRecDepth 100000 in
set_option maxHeartbeats 8000000 in
theorem tells_c (t n l : Int) (hl2 : l < 9223372036854775808) (t1 : 1 ≤ t) (t5 : t ≤ 5) (hnb : n < 0 ∨ 262144 < n) (hl0 : l < 0) (A : Option Addr) (c : Nat) (xs : List Int) (hxl : xs.length ≤ 9223372036854775807) (w : World) (hr : Rd w w.heap.size A xs) (h : BT w) :
    Calls Tryd.prog 3 #[.int .i64 t, .int .i64 n, .int .i64 l, .slice A xs.length c] w fun e w' => e = .returned (.bool true) ∧ Below w.heap.size w w' := by
  have HT := Lib.hid h
  obtain ⟨ys, hys⟩ : ∃ ys, xs.take 9 = ys := ⟨_, rfl⟩
  obtain ⟨m, hm⟩ : ∃ m, ys.length = m := ⟨_, rfl⟩
  have hm9 : m ≤ 9 := by rw [← hm, ← hys, List.length_take]; omega
  have HR := Lib.hid hr
  have HI : Hid (∀ W, Below w.heap.size w W → Calls Tryd.prog 9 #[.slice A xs.length c, .int .i64 9] W fun e w' => ∃ A' c', e = .returned (.slice A' m c') ∧ Rd w' w'.heap.size A' ys ∧ Fr W.heap.size A' ∧ Below W.heap.size W w') := Lib.hid fun W hW => by
    have := ref_ints A c xs 9 W ((hr.below hW (Nat.le_refl _)).more hW.size) hxl (by omega)
    rw [hys, hm] at this
    exact this
  have HYL := Lib.hid hm
  have HMT := Lib.hid fun (t : Int) W (hW : Below w.heap.size w W) => most_any t l hl2 W (h.below hW)
  have HFT := Lib.hid fun (A : Option Addr) (c : Nat) W (hW : Below w.heap.size w W) (hR : Rd W W.heap.size A ys) => fits_any l hl2 A c ys m hm W W.heap.size (Nat.le_refl _) hR (by omega) (h.below hW)
  have hX := M.nd_no (t := t) (n := n) (by omega)
  have hng := M.n_bad hX
  have HNE : Hid (∀ W, Below w.heap.size w W → Calls Tryd.prog 6 #[.int .i64 t, .int .i64 n] W fun e w' => e = .returned (.tuple #[.int .i64 0, .int .i64 1]) ∧ Below W.heap.size W w') := Lib.hid fun W hW => by
    have := need_any t n W (h.below hW)
    rw [hng.1, hng.2] at this
    exact this
  have HRN : Hid (∀ W, Calls Tryd.prog 7 #[.int .i64 t, .int .i64 n] W fun e w' => e = .returned (.int .i64 (-1)) ∧ Below W.heap.size W w') := Lib.hid fun W => by
    have := ref_need t n W
    rw [hX] at this
    exact this
  clear hng hX
  have r5 : decide (0 ≤ l) = false := decide_eq_false (by omega)
  have hme : M.mo t l = 0 ∧ M.me t l = 1 := ⟨by unfold M.mo; rw [if_pos (by omega)], by unfold M.me; rw [if_pos (by omega)]⟩
  have HMO : Hid (∀ W, Below w.heap.size w W → Calls Tryd.prog 8 #[.int .i64 t, .int .i64 l] W fun e w' => e = .returned (.tuple #[.int .i64 0, .int .i64 1]) ∧ Below W.heap.size W w') := Lib.hid fun W hW => by
    have := most_any t l hl2 W (h.below hW)
    rw [hme.1, hme.2] at this
    exact this
  clear hme
  obtain ⟨P, hP⟩ : ∃ P : Int, ((M.bd t 2 : Nat) : Int) = P := ⟨_, rfl⟩
  obtain ⟨Q, hQ⟩ : ∃ P : Int, ((M.bd t 3 : Nat) : Int) = P := ⟨_, rfl⟩
  obtain ⟨S, hS⟩ : ∃ P : Int, ((M.bd t 4 : Nat) : Int) = P := ⟨_, rfl⟩
  obtain ⟨D, hD⟩ : ∃ P : Int, ((M.bd t 5 : Nat) : Int) = P := ⟨_, rfl⟩
  have p0 : decide (0 < P) = true := by rw [← hP]; exact (bd_dec t1 t5 2 (by omega)).1
  have p1 : decide (0 < Q) = true := by rw [← hQ]; exact (bd_dec t1 t5 3 (by omega)).1
  have p2 : decide (0 < S) = true := by rw [← hS]; exact (bd_dec t1 t5 4 (by omega)).1
  have p3 : decide (0 < D) = true := by rw [← hD]; exact (bd_dec t1 t5 5 (by omega)).1
  have HST : Hid (∀ W, Below w.heap.size w W → Calls Tryd.prog 10 #[.int .i64 t] W fun e w' => e = .returned (.tuple #[.int .i64 P, .int .i64 Q, .int .i64 S]) ∧ Below W.heap.size W w') := Lib.hid fun W hW => by
    have := steps_any t W (h.below hW)
    rw [hP, hQ, hS] at this
    exact this
  have HDE : Hid (∀ W, Below w.heap.size w W → Calls Tryd.prog 12 #[.int .i64 t] W fun e w' => e = .returned (.int .i64 D) ∧ Below W.heap.size W w') := Lib.hid fun W hW => by
    have := depth_any t W (h.below hW)
    rw [hD] at this
    exact this
  have s1 : decide (1 ≤ t) = true := decide_eq_true t1
  have s2 : decide (t ≤ 5) = true := decide_eq_true t5
  clear hP hQ hS hD
  have HB0 := Lib.hid (Below.refl w.heap.size w)
  clear hr h hys hm t1 t5 hnb hl0
  generalize xs.length = len at *
  go_enter Tryd.func3, Tryd.ntmps3
  go_wp2_with (first
    | (go_at_call 9; (with_reducible refine (HI.out _ HB4.out).mono ?_); rintro e W7 ⟨A7, c7, rfl, hrd, _, hb⟩; have HRD := Lib.hid hrd; clear hrd; have HB7 := Lib.hid (HB4.out.trans (hb.mono HB4.out.size)); clear hb)
    | (go_at_call 8; (with_reducible refine (HMO.out _ HB3.out).mono ?_); rintro e W4 ⟨rfl, hb⟩; have HB4 := Lib.hid (HB3.out.trans (hb.mono HB3.out.size)); clear hb)
    | (go_at_call 7; (with_reducible refine (HRN.out _).mono ?_); rintro e W3 ⟨rfl, hb⟩; have HB3 := Lib.hid (HB2.out.trans (hb.mono HB2.out.size)); clear hb)
    | (go_at_call 6; (with_reducible refine (HNE.out _ HB1.out).mono ?_); rintro e W2 ⟨rfl, hb⟩; have HB2 := Lib.hid (HB1.out.trans (hb.mono HB1.out.size)); clear hb)
    | (go_at_call 5; (with_reducible refine (awake_any _ (HT.out.below HB0.out)).mono ?_); rintro e W1 ⟨rfl, hb⟩; have HB1 := Lib.hid (HB0.out.trans (hb.mono HB0.out.size)); clear hb))
  go_loopw [15, 121] (fun v i wr => ∃ k : Nat, k ≤ m ∧ i = .int .i64 k ∧ v = .int .i64 (M.ft l (ys.take k)) ∧ Hid (Below W7.heap.size W7 wr)) (fun _ i _ => m - (intOf i).toNat)
  case atStart => exact ⟨0, by omega, rfl, rfl, Lib.hid (Below.refl _ _)⟩
  case round =>
    obtain ⟨k, hk, rfl, rfl, HBr⟩ := hrel
    have HB8 := Lib.hid (HB7.out.trans (HBr.out.mono HB7.out.size))
    by_cases hlt : k < m
    · have hlt' : k < ys.length := by rw [HYL.out]; exact hlt
      obtain ⟨b1, off, rfl, hc⟩ := (HRD.out.below HBr.out (Nat.le_refl _)).at hlt'
      have d0 : (k : Int) < (m : Int) := by omega
      have wk : IntKind.i64.wrap ((k : Int) + 1) = (k : Int) + 1 := IntWalk.i64_in _ (by omega)
      have hs : M.ft l (ys.take (k + 1)) = min (M.ft l (ys.take k)) (M.mo ys[k] l) := by rw [take_snoc hlt', M.ft_snoc]
      have HS := Lib.hid hs
      clear hs
      generalize ys[k] = t9 at *
      generalize M.ft l (ys.take k) = f0 at *
      go_wp2_with (go_at_call 8; (with_reducible refine (HMT.out t9 _ HB8.out).mono ?_); rintro e w2 ⟨rfl, hb⟩; have HB9 := Lib.hid hb; clear hb)
      go_roundw
      case rel => exact ⟨k + 1, by omega, by go_num, by rw [HS.out], Lib.hid (HBr.out.trans (HB9.out.mono HBr.out.size))⟩
      case measure => simp [intOf]; omega
    · have hkm : k = m := by omega
      have e1 : ys.take k = ys := List.take_of_length_le (by rw [HYL.out]; omega)
      rw [e1, hkm]
      have HRF := Lib.hid ((HRD.out.below HBr.out (Nat.le_refl _)).more HBr.out.size)
      obtain ⟨F, hF⟩ : ∃ F, M.ft l ys = F := ⟨_, rfl⟩
      rw [hF]
      have HFF : Hid (∀ W, Below wr.heap.size wr W → Calls Tryd.prog 11 #[.int .i64 l, .slice A7 m c7] W fun e w' => e = .returned (.int .i64 F) ∧ Below W.heap.size W w') := Lib.hid fun W hW => by
        have := HFT.out A7 c7 W (HB8.out.trans (hW.mono HB8.out.size)) ((HRF.out.below hW (Nat.le_refl _)).more hW.size)
        rw [hF] at this
        exact this
      have f1 := beq_self F
      clear hF e1 hlt hk hkm
      have HBA0 := Lib.hid (Below.refl wr.heap.size wr)
      go_wp2_with (first
        | (go_at_call 12; (with_reducible refine (HDE.out _ (HB8.out.trans (HBA2.out.mono HB8.out.size))).mono ?_); rintro e WA3 ⟨rfl, hb⟩; have HBA3 := Lib.hid (HBA2.out.trans (hb.mono HBA2.out.size)); clear hb)
        | (go_at_call 11; (with_reducible refine (HFF.out _ HBA1.out).mono ?_); rintro e WA2 ⟨rfl, hb⟩; have HBA2 := Lib.hid (HBA1.out.trans (hb.mono HBA1.out.size)); clear hb)
        | (go_at_call 10; (with_reducible refine (HST.out _ (HB8.out.trans (HBA0.out.mono HB8.out.size))).mono ?_); rintro e WA1 ⟨rfl, hb⟩; have HBA1 := Lib.hid (HBA0.out.trans (hb.mono HBA0.out.size)); clear hb))
      go_ret
      exact ⟨by simp, HB8.out.trans (HBA3.out.mono HB8.out.size)⟩
set_option maxRecDepth 100000 in
set_option maxHeartbeats 8000000 in
theorem tells_d (t n l : Int) (hl2 : l < 9223372036854775808) (t1 : 1 ≤ t) (t5 : t ≤ 5) (hn0 : 0 ≤ n) (hn1 : n ≤ 262144) (hl0 : l < 0) (A : Option Addr) (c : Nat) (xs : List Int) (hxl : xs.length ≤ 9223372036854775807) (w : World) (hr : Rd w w.heap.size A xs) (h : BT w) :
    Calls Tryd.prog 3 #[.int .i64 t, .int .i64 n, .int .i64 l, .slice A xs.length c] w fun e w' => e = .returned (.bool true) ∧ Below w.heap.size w w' := by
  have HT := Lib.hid h
  obtain ⟨ys, hys⟩ : ∃ ys, xs.take 9 = ys := ⟨_, rfl⟩
  obtain ⟨m, hm⟩ : ∃ m, ys.length = m := ⟨_, rfl⟩
  have hm9 : m ≤ 9 := by rw [← hm, ← hys, List.length_take]; omega
  have HR := Lib.hid hr
  have HI : Hid (∀ W, Below w.heap.size w W → Calls Tryd.prog 9 #[.slice A xs.length c, .int .i64 9] W fun e w' => ∃ A' c', e = .returned (.slice A' m c') ∧ Rd w' w'.heap.size A' ys ∧ Fr W.heap.size A' ∧ Below W.heap.size W w') := Lib.hid fun W hW => by
    have := ref_ints A c xs 9 W ((hr.below hW (Nat.le_refl _)).more hW.size) hxl (by omega)
    rw [hys, hm] at this
    exact this
  have HYL := Lib.hid hm
  have HMT := Lib.hid fun (t : Int) W (hW : Below w.heap.size w W) => most_any t l hl2 W (h.below hW)
  have HFT := Lib.hid fun (A : Option Addr) (c : Nat) W (hW : Below w.heap.size w W) (hR : Rd W W.heap.size A ys) => fits_any l hl2 A c ys m hm W W.heap.size (Nat.le_refl _) hR (by omega) (h.below hW)
  obtain ⟨X, hX⟩ : ∃ X, M.nd t n = X := ⟨_, rfl⟩
  have hXp := M.nd_pos t1 t5 hn0 hn1
  have hng := M.n_good hXp.1
  have HNE : Hid (∀ W, Below w.heap.size w W → Calls Tryd.prog 6 #[.int .i64 t, .int .i64 n] W fun e w' => e = .returned (.tuple #[.int .i64 X, .int .i64 0]) ∧ Below W.heap.size W w') := Lib.hid fun W hW => by
    have := need_any t n W (h.below hW)
    rw [hng.1, hng.2, hX] at this
    exact this
  have HRN : Hid (∀ W, Calls Tryd.prog 7 #[.int .i64 t, .int .i64 n] W fun e w' => e = .returned (.int .i64 X) ∧ Below W.heap.size W w') := Lib.hid fun W => by
    have := ref_need t n W
    rw [hX] at this
    exact this
  have q0 : decide (0 ≤ X) = true := decide_eq_true (by rw [← hX]; exact hXp.1)
  have q1 := beq_self X
  clear hng hXp hX
  have r5 : decide (0 ≤ l) = false := decide_eq_false (by omega)
  have hme : M.mo t l = 0 ∧ M.me t l = 1 := ⟨by unfold M.mo; rw [if_pos (by omega)], by unfold M.me; rw [if_pos (by omega)]⟩
  have HMO : Hid (∀ W, Below w.heap.size w W → Calls Tryd.prog 8 #[.int .i64 t, .int .i64 l] W fun e w' => e = .returned (.tuple #[.int .i64 0, .int .i64 1]) ∧ Below W.heap.size W w') := Lib.hid fun W hW => by
    have := most_any t l hl2 W (h.below hW)
    rw [hme.1, hme.2] at this
    exact this
  clear hme
  obtain ⟨P, hP⟩ : ∃ P : Int, ((M.bd t 2 : Nat) : Int) = P := ⟨_, rfl⟩
  obtain ⟨Q, hQ⟩ : ∃ P : Int, ((M.bd t 3 : Nat) : Int) = P := ⟨_, rfl⟩
  obtain ⟨S, hS⟩ : ∃ P : Int, ((M.bd t 4 : Nat) : Int) = P := ⟨_, rfl⟩
  obtain ⟨D, hD⟩ : ∃ P : Int, ((M.bd t 5 : Nat) : Int) = P := ⟨_, rfl⟩
  have p0 : decide (0 < P) = true := by rw [← hP]; exact (bd_dec t1 t5 2 (by omega)).1
  have p1 : decide (0 < Q) = true := by rw [← hQ]; exact (bd_dec t1 t5 3 (by omega)).1
  have p2 : decide (0 < S) = true := by rw [← hS]; exact (bd_dec t1 t5 4 (by omega)).1
  have p3 : decide (0 < D) = true := by rw [← hD]; exact (bd_dec t1 t5 5 (by omega)).1
  have HST : Hid (∀ W, Below w.heap.size w W → Calls Tryd.prog 10 #[.int .i64 t] W fun e w' => e = .returned (.tuple #[.int .i64 P, .int .i64 Q, .int .i64 S]) ∧ Below W.heap.size W w') := Lib.hid fun W hW => by
    have := steps_any t W (h.below hW)
    rw [hP, hQ, hS] at this
    exact this
  have HDE : Hid (∀ W, Below w.heap.size w W → Calls Tryd.prog 12 #[.int .i64 t] W fun e w' => e = .returned (.int .i64 D) ∧ Below W.heap.size W w') := Lib.hid fun W hW => by
    have := depth_any t W (h.below hW)
    rw [hD] at this
    exact this
  have s1 : decide (1 ≤ t) = true := decide_eq_true t1
  have s2 : decide (t ≤ 5) = true := decide_eq_true t5
  clear hP hQ hS hD
  have HB0 := Lib.hid (Below.refl w.heap.size w)
  clear hr h hys hm t1 t5 hn0 hn1 hl0
  generalize xs.length = len at *
  go_enter Tryd.func3, Tryd.ntmps3
  go_wp2_with (first
    | (go_at_call 9; (with_reducible refine (HI.out _ HB4.out).mono ?_); rintro e W7 ⟨A7, c7, rfl, hrd, _, hb⟩; have HRD := Lib.hid hrd; clear hrd; have HB7 := Lib.hid (HB4.out.trans (hb.mono HB4.out.size)); clear hb)
    | (go_at_call 8; (with_reducible refine (HMO.out _ HB3.out).mono ?_); rintro e W4 ⟨rfl, hb⟩; have HB4 := Lib.hid (HB3.out.trans (hb.mono HB3.out.size)); clear hb)
    | (go_at_call 7; (with_reducible refine (HRN.out _).mono ?_); rintro e W3 ⟨rfl, hb⟩; have HB3 := Lib.hid (HB2.out.trans (hb.mono HB2.out.size)); clear hb)
    | (go_at_call 6; (with_reducible refine (HNE.out _ HB1.out).mono ?_); rintro e W2 ⟨rfl, hb⟩; have HB2 := Lib.hid (HB1.out.trans (hb.mono HB1.out.size)); clear hb)
    | (go_at_call 5; (with_reducible refine (awake_any _ (HT.out.below HB0.out)).mono ?_); rintro e W1 ⟨rfl, hb⟩; have HB1 := Lib.hid (HB0.out.trans (hb.mono HB0.out.size)); clear hb))
  go_loopw [15, 121] (fun v i wr => ∃ k : Nat, k ≤ m ∧ i = .int .i64 k ∧ v = .int .i64 (M.ft l (ys.take k)) ∧ Hid (Below W7.heap.size W7 wr)) (fun _ i _ => m - (intOf i).toNat)
  case atStart => exact ⟨0, by omega, rfl, rfl, Lib.hid (Below.refl _ _)⟩
  case round =>
    obtain ⟨k, hk, rfl, rfl, HBr⟩ := hrel
    have HB8 := Lib.hid (HB7.out.trans (HBr.out.mono HB7.out.size))
    by_cases hlt : k < m
    · have hlt' : k < ys.length := by rw [HYL.out]; exact hlt
      obtain ⟨b1, off, rfl, hc⟩ := (HRD.out.below HBr.out (Nat.le_refl _)).at hlt'
      have d0 : (k : Int) < (m : Int) := by omega
      have wk : IntKind.i64.wrap ((k : Int) + 1) = (k : Int) + 1 := IntWalk.i64_in _ (by omega)
      have hs : M.ft l (ys.take (k + 1)) = min (M.ft l (ys.take k)) (M.mo ys[k] l) := by rw [take_snoc hlt', M.ft_snoc]
      have HS := Lib.hid hs
      clear hs
      generalize ys[k] = t9 at *
      generalize M.ft l (ys.take k) = f0 at *
      go_wp2_with (go_at_call 8; (with_reducible refine (HMT.out t9 _ HB8.out).mono ?_); rintro e w2 ⟨rfl, hb⟩; have HB9 := Lib.hid hb; clear hb)
      go_roundw
      case rel => exact ⟨k + 1, by omega, by go_num, by rw [HS.out], Lib.hid (HBr.out.trans (HB9.out.mono HBr.out.size))⟩
      case measure => simp [intOf]; omega
    · have hkm : k = m := by omega
      have e1 : ys.take k = ys := List.take_of_length_le (by rw [HYL.out]; omega)
      rw [e1, hkm]
      have HRF := Lib.hid ((HRD.out.below HBr.out (Nat.le_refl _)).more HBr.out.size)
      obtain ⟨F, hF⟩ : ∃ F, M.ft l ys = F := ⟨_, rfl⟩
      rw [hF]
      have HFF : Hid (∀ W, Below wr.heap.size wr W → Calls Tryd.prog 11 #[.int .i64 l, .slice A7 m c7] W fun e w' => e = .returned (.int .i64 F) ∧ Below W.heap.size W w') := Lib.hid fun W hW => by
        have := HFT.out A7 c7 W (HB8.out.trans (hW.mono HB8.out.size)) ((HRF.out.below hW (Nat.le_refl _)).more hW.size)
        rw [hF] at this
        exact this
      have f1 := beq_self F
      clear hF e1 hlt hk hkm
      have HBA0 := Lib.hid (Below.refl wr.heap.size wr)
      go_wp2_with (first
        | (go_at_call 12; (with_reducible refine (HDE.out _ (HB8.out.trans (HBA2.out.mono HB8.out.size))).mono ?_); rintro e WA3 ⟨rfl, hb⟩; have HBA3 := Lib.hid (HBA2.out.trans (hb.mono HBA2.out.size)); clear hb)
        | (go_at_call 11; (with_reducible refine (HFF.out _ HBA1.out).mono ?_); rintro e WA2 ⟨rfl, hb⟩; have HBA2 := Lib.hid (HBA1.out.trans (hb.mono HBA1.out.size)); clear hb)
        | (go_at_call 10; (with_reducible refine (HST.out _ (HB8.out.trans (HBA0.out.mono HB8.out.size))).mono ?_); rintro e WA1 ⟨rfl, hb⟩; have HBA1 := Lib.hid (HBA0.out.trans (hb.mono HBA0.out.size)); clear hb))
      go_ret
      exact ⟨by simp, HB8.out.trans (HBA3.out.mono HB8.out.size)⟩
set_option maxRecDepth 100000 in
set_option maxHeartbeats 8000000 in
theorem tells_e (t n l : Int) (hl2 : l < 9223372036854775808) (t1 : 1 ≤ t) (t5 : t ≤ 5) (hnb : n < 0 ∨ 262144 < n) (hl0 : 0 ≤ l) (hlt : ¬ M.mo t l < 262144) (A : Option Addr) (c : Nat) (xs : List Int) (hxl : xs.length ≤ 9223372036854775807) (w : World) (hr : Rd w w.heap.size A xs) (h : BT w) :
    Calls Tryd.prog 3 #[.int .i64 t, .int .i64 n, .int .i64 l, .slice A xs.length c] w fun e w' => e = .returned (.bool true) ∧ Below w.heap.size w w' := by
  have HT := Lib.hid h
  obtain ⟨ys, hys⟩ : ∃ ys, xs.take 9 = ys := ⟨_, rfl⟩
  obtain ⟨m, hm⟩ : ∃ m, ys.length = m := ⟨_, rfl⟩
  have hm9 : m ≤ 9 := by rw [← hm, ← hys, List.length_take]; omega
  have HR := Lib.hid hr
  have HI : Hid (∀ W, Below w.heap.size w W → Calls Tryd.prog 9 #[.slice A xs.length c, .int .i64 9] W fun e w' => ∃ A' c', e = .returned (.slice A' m c') ∧ Rd w' w'.heap.size A' ys ∧ Fr W.heap.size A' ∧ Below W.heap.size W w') := Lib.hid fun W hW => by
    have := ref_ints A c xs 9 W ((hr.below hW (Nat.le_refl _)).more hW.size) hxl (by omega)
    rw [hys, hm] at this
    exact this
  have HYL := Lib.hid hm
  have HMT := Lib.hid fun (t : Int) W (hW : Below w.heap.size w W) => most_any t l hl2 W (h.below hW)
  have HFT := Lib.hid fun (A : Option Addr) (c : Nat) W (hW : Below w.heap.size w W) (hR : Rd W W.heap.size A ys) => fits_any l hl2 A c ys m hm W W.heap.size (Nat.le_refl _) hR (by omega) (h.below hW)
  have hX := M.nd_no (t := t) (n := n) (by omega)
  have hng := M.n_bad hX
  have HNE : Hid (∀ W, Below w.heap.size w W → Calls Tryd.prog 6 #[.int .i64 t, .int .i64 n] W fun e w' => e = .returned (.tuple #[.int .i64 0, .int .i64 1]) ∧ Below W.heap.size W w') := Lib.hid fun W hW => by
    have := need_any t n W (h.below hW)
    rw [hng.1, hng.2] at this
    exact this
  have HRN : Hid (∀ W, Calls Tryd.prog 7 #[.int .i64 t, .int .i64 n] W fun e w' => e = .returned (.int .i64 (-1)) ∧ Below W.heap.size W w') := Lib.hid fun W => by
    have := ref_need t n W
    rw [hX] at this
    exact this
  clear hng hX
  obtain ⟨b, hb⟩ : ∃ b, M.mo t l = b := ⟨_, rfl⟩
  have hb0 := M.mo_range t l
  have hbf := M.mo_fit t1 t5 hl0
  have hme : M.me t l = 0 := by unfold M.me; rw [if_neg (by omega)]
  have HMO : Hid (∀ W, Below w.heap.size w W → Calls Tryd.prog 8 #[.int .i64 t, .int .i64 l] W fun e w' => e = .returned (.tuple #[.int .i64 b, .int .i64 0]) ∧ Below W.heap.size W w') := Lib.hid fun W hW => by
    have := most_any t l hl2 W (h.below hW)
    rw [hme, hb] at this
    exact this
  rw [hb] at hb0 hbf hlt
  obtain ⟨Y, hY⟩ : ∃ Y, M.nd t b = Y := ⟨_, rfl⟩
  obtain ⟨Z, hZ⟩ : ∃ Z, M.nd t (b + 1) = Z := ⟨_, rfl⟩
  have HRY : Hid (∀ W, Calls Tryd.prog 7 #[.int .i64 t, .int .i64 b] W fun e w' => e = .returned (.int .i64 Y) ∧ Below W.heap.size W w') := Lib.hid fun W => by
    have := ref_need t b W
    rw [hY] at this
    exact this
  have HRZ : Hid (∀ W, Calls Tryd.prog 7 #[.int .i64 t, .int .i64 (b + 1)] W fun e w' => e = .returned (.int .i64 Z) ∧ Below W.heap.size W w') := Lib.hid fun W => by
    have := ref_need t (b + 1) W
    rw [hZ] at this
    exact this
  rw [hY, hZ] at hbf
  have r0 : decide (262144 < b) = false := decide_eq_false (by omega)
  have r1 : decide (l < Y) = false := decide_eq_false (by omega)
  have r2 : decide (b < 262144) = false := decide_eq_false hlt
  have r3 : IntKind.i64.wrap (b + 1) = b + 1 := IntWalk.i64_in _ (by omega)
  have r5 : decide (0 ≤ l) = true := decide_eq_true hl0
  clear hb hb0 hbf hme hY hZ hlt hl0
  obtain ⟨P, hP⟩ : ∃ P : Int, ((M.bd t 2 : Nat) : Int) = P := ⟨_, rfl⟩
  obtain ⟨Q, hQ⟩ : ∃ P : Int, ((M.bd t 3 : Nat) : Int) = P := ⟨_, rfl⟩
  obtain ⟨S, hS⟩ : ∃ P : Int, ((M.bd t 4 : Nat) : Int) = P := ⟨_, rfl⟩
  obtain ⟨D, hD⟩ : ∃ P : Int, ((M.bd t 5 : Nat) : Int) = P := ⟨_, rfl⟩
  have p0 : decide (0 < P) = true := by rw [← hP]; exact (bd_dec t1 t5 2 (by omega)).1
  have p1 : decide (0 < Q) = true := by rw [← hQ]; exact (bd_dec t1 t5 3 (by omega)).1
  have p2 : decide (0 < S) = true := by rw [← hS]; exact (bd_dec t1 t5 4 (by omega)).1
  have p3 : decide (0 < D) = true := by rw [← hD]; exact (bd_dec t1 t5 5 (by omega)).1
  have HST : Hid (∀ W, Below w.heap.size w W → Calls Tryd.prog 10 #[.int .i64 t] W fun e w' => e = .returned (.tuple #[.int .i64 P, .int .i64 Q, .int .i64 S]) ∧ Below W.heap.size W w') := Lib.hid fun W hW => by
    have := steps_any t W (h.below hW)
    rw [hP, hQ, hS] at this
    exact this
  have HDE : Hid (∀ W, Below w.heap.size w W → Calls Tryd.prog 12 #[.int .i64 t] W fun e w' => e = .returned (.int .i64 D) ∧ Below W.heap.size W w') := Lib.hid fun W hW => by
    have := depth_any t W (h.below hW)
    rw [hD] at this
    exact this
  have s1 : decide (1 ≤ t) = true := decide_eq_true t1
  have s2 : decide (t ≤ 5) = true := decide_eq_true t5
  clear hP hQ hS hD
  have HB0 := Lib.hid (Below.refl w.heap.size w)
  clear hr h hys hm t1 t5 hnb
  generalize xs.length = len at *
  go_enter Tryd.func3, Tryd.ntmps3
  go_wp2_with (first
    | (go_at_call 9; (with_reducible refine (HI.out _ HB5.out).mono ?_); rintro e W7 ⟨A7, c7, rfl, hrd, _, hb⟩; have HRD := Lib.hid hrd; clear hrd; have HB7 := Lib.hid (HB5.out.trans (hb.mono HB5.out.size)); clear hb)
    | (go_at_call 7; (with_reducible refine (HRY.out _).mono ?_); rintro e W5 ⟨rfl, hb⟩; have HB5 := Lib.hid (HB4.out.trans (hb.mono HB4.out.size)); clear hb)
    | (go_at_call 8; (with_reducible refine (HMO.out _ HB3.out).mono ?_); rintro e W4 ⟨rfl, hb⟩; have HB4 := Lib.hid (HB3.out.trans (hb.mono HB3.out.size)); clear hb)
    | (go_at_call 7; (with_reducible refine (HRN.out _).mono ?_); rintro e W3 ⟨rfl, hb⟩; have HB3 := Lib.hid (HB2.out.trans (hb.mono HB2.out.size)); clear hb)
    | (go_at_call 6; (with_reducible refine (HNE.out _ HB1.out).mono ?_); rintro e W2 ⟨rfl, hb⟩; have HB2 := Lib.hid (HB1.out.trans (hb.mono HB1.out.size)); clear hb)
    | (go_at_call 5; (with_reducible refine (awake_any _ (HT.out.below HB0.out)).mono ?_); rintro e W1 ⟨rfl, hb⟩; have HB1 := Lib.hid (HB0.out.trans (hb.mono HB0.out.size)); clear hb))
  go_loopw [15, 121] (fun v i wr => ∃ k : Nat, k ≤ m ∧ i = .int .i64 k ∧ v = .int .i64 (M.ft l (ys.take k)) ∧ Hid (Below W7.heap.size W7 wr)) (fun _ i _ => m - (intOf i).toNat)
  case atStart => exact ⟨0, by omega, rfl, rfl, Lib.hid (Below.refl _ _)⟩
  case round =>
    obtain ⟨k, hk, rfl, rfl, HBr⟩ := hrel
    have HB8 := Lib.hid (HB7.out.trans (HBr.out.mono HB7.out.size))
    by_cases hlt : k < m
    · have hlt' : k < ys.length := by rw [HYL.out]; exact hlt
      obtain ⟨b1, off, rfl, hc⟩ := (HRD.out.below HBr.out (Nat.le_refl _)).at hlt'
      have d0 : (k : Int) < (m : Int) := by omega
      have wk : IntKind.i64.wrap ((k : Int) + 1) = (k : Int) + 1 := IntWalk.i64_in _ (by omega)
      have hs : M.ft l (ys.take (k + 1)) = min (M.ft l (ys.take k)) (M.mo ys[k] l) := by rw [take_snoc hlt', M.ft_snoc]
      have HS := Lib.hid hs
      clear hs
      generalize ys[k] = t9 at *
      generalize M.ft l (ys.take k) = f0 at *
      go_wp2_with (go_at_call 8; (with_reducible refine (HMT.out t9 _ HB8.out).mono ?_); rintro e w2 ⟨rfl, hb⟩; have HB9 := Lib.hid hb; clear hb)
      go_roundw
      case rel => exact ⟨k + 1, by omega, by go_num, by rw [HS.out], Lib.hid (HBr.out.trans (HB9.out.mono HBr.out.size))⟩
      case measure => simp [intOf]; omega
    · have hkm : k = m := by omega
      have e1 : ys.take k = ys := List.take_of_length_le (by rw [HYL.out]; omega)
      rw [e1, hkm]
      have HRF := Lib.hid ((HRD.out.below HBr.out (Nat.le_refl _)).more HBr.out.size)
      obtain ⟨F, hF⟩ : ∃ F, M.ft l ys = F := ⟨_, rfl⟩
      rw [hF]
      have HFF : Hid (∀ W, Below wr.heap.size wr W → Calls Tryd.prog 11 #[.int .i64 l, .slice A7 m c7] W fun e w' => e = .returned (.int .i64 F) ∧ Below W.heap.size W w') := Lib.hid fun W hW => by
        have := HFT.out A7 c7 W (HB8.out.trans (hW.mono HB8.out.size)) ((HRF.out.below hW (Nat.le_refl _)).more hW.size)
        rw [hF] at this
        exact this
      have f1 := beq_self F
      clear hF e1 hlt hk hkm
      have HBA0 := Lib.hid (Below.refl wr.heap.size wr)
      go_wp2_with (first
        | (go_at_call 12; (with_reducible refine (HDE.out _ (HB8.out.trans (HBA2.out.mono HB8.out.size))).mono ?_); rintro e WA3 ⟨rfl, hb⟩; have HBA3 := Lib.hid (HBA2.out.trans (hb.mono HBA2.out.size)); clear hb)
        | (go_at_call 11; (with_reducible refine (HFF.out _ HBA1.out).mono ?_); rintro e WA2 ⟨rfl, hb⟩; have HBA2 := Lib.hid (HBA1.out.trans (hb.mono HBA1.out.size)); clear hb)
        | (go_at_call 10; (with_reducible refine (HST.out _ (HB8.out.trans (HBA0.out.mono HB8.out.size))).mono ?_); rintro e WA1 ⟨rfl, hb⟩; have HBA1 := Lib.hid (HBA0.out.trans (hb.mono HBA0.out.size)); clear hb))
      go_ret
      exact ⟨by simp, HB8.out.trans (HBA3.out.mono HB8.out.size)⟩
set_option maxRecDepth 100000 in
set_option maxHeartbeats 8000000 in
theorem tells_f (t n l : Int) (hl2 : l < 9223372036854775808) (t1 : 1 ≤ t) (t5 : t ≤ 5) (hnb : n < 0 ∨ 262144 < n) (hl0 : 0 ≤ l) (hlt : M.mo t l < 262144) (A : Option Addr) (c : Nat) (xs : List Int) (hxl : xs.length ≤ 9223372036854775807) (w : World) (hr : Rd w w.heap.size A xs) (h : BT w) :
    Calls Tryd.prog 3 #[.int .i64 t, .int .i64 n, .int .i64 l, .slice A xs.length c] w fun e w' => e = .returned (.bool true) ∧ Below w.heap.size w w' := by
  have HT := Lib.hid h
  obtain ⟨ys, hys⟩ : ∃ ys, xs.take 9 = ys := ⟨_, rfl⟩
  obtain ⟨m, hm⟩ : ∃ m, ys.length = m := ⟨_, rfl⟩
  have hm9 : m ≤ 9 := by rw [← hm, ← hys, List.length_take]; omega
  have HR := Lib.hid hr
  have HI : Hid (∀ W, Below w.heap.size w W → Calls Tryd.prog 9 #[.slice A xs.length c, .int .i64 9] W fun e w' => ∃ A' c', e = .returned (.slice A' m c') ∧ Rd w' w'.heap.size A' ys ∧ Fr W.heap.size A' ∧ Below W.heap.size W w') := Lib.hid fun W hW => by
    have := ref_ints A c xs 9 W ((hr.below hW (Nat.le_refl _)).more hW.size) hxl (by omega)
    rw [hys, hm] at this
    exact this
  have HYL := Lib.hid hm
  have HMT := Lib.hid fun (t : Int) W (hW : Below w.heap.size w W) => most_any t l hl2 W (h.below hW)
  have HFT := Lib.hid fun (A : Option Addr) (c : Nat) W (hW : Below w.heap.size w W) (hR : Rd W W.heap.size A ys) => fits_any l hl2 A c ys m hm W W.heap.size (Nat.le_refl _) hR (by omega) (h.below hW)
  have hX := M.nd_no (t := t) (n := n) (by omega)
  have hng := M.n_bad hX
  have HNE : Hid (∀ W, Below w.heap.size w W → Calls Tryd.prog 6 #[.int .i64 t, .int .i64 n] W fun e w' => e = .returned (.tuple #[.int .i64 0, .int .i64 1]) ∧ Below W.heap.size W w') := Lib.hid fun W hW => by
    have := need_any t n W (h.below hW)
    rw [hng.1, hng.2] at this
    exact this
  have HRN : Hid (∀ W, Calls Tryd.prog 7 #[.int .i64 t, .int .i64 n] W fun e w' => e = .returned (.int .i64 (-1)) ∧ Below W.heap.size W w') := Lib.hid fun W => by
    have := ref_need t n W
    rw [hX] at this
    exact this
  clear hng hX
  obtain ⟨b, hb⟩ : ∃ b, M.mo t l = b := ⟨_, rfl⟩
  have hb0 := M.mo_range t l
  have hbf := M.mo_fit t1 t5 hl0
  have hme : M.me t l = 0 := by unfold M.me; rw [if_neg (by omega)]
  have HMO : Hid (∀ W, Below w.heap.size w W → Calls Tryd.prog 8 #[.int .i64 t, .int .i64 l] W fun e w' => e = .returned (.tuple #[.int .i64 b, .int .i64 0]) ∧ Below W.heap.size W w') := Lib.hid fun W hW => by
    have := most_any t l hl2 W (h.below hW)
    rw [hme, hb] at this
    exact this
  rw [hb] at hb0 hbf hlt
  obtain ⟨Y, hY⟩ : ∃ Y, M.nd t b = Y := ⟨_, rfl⟩
  obtain ⟨Z, hZ⟩ : ∃ Z, M.nd t (b + 1) = Z := ⟨_, rfl⟩
  have HRY : Hid (∀ W, Calls Tryd.prog 7 #[.int .i64 t, .int .i64 b] W fun e w' => e = .returned (.int .i64 Y) ∧ Below W.heap.size W w') := Lib.hid fun W => by
    have := ref_need t b W
    rw [hY] at this
    exact this
  have HRZ : Hid (∀ W, Calls Tryd.prog 7 #[.int .i64 t, .int .i64 (b + 1)] W fun e w' => e = .returned (.int .i64 Z) ∧ Below W.heap.size W w') := Lib.hid fun W => by
    have := ref_need t (b + 1) W
    rw [hZ] at this
    exact this
  rw [hY, hZ] at hbf
  have r0 : decide (262144 < b) = false := decide_eq_false (by omega)
  have r1 : decide (l < Y) = false := decide_eq_false (by omega)
  have r2 : decide (b < 262144) = true := decide_eq_true hlt
  have r3 : IntKind.i64.wrap (b + 1) = b + 1 := IntWalk.i64_in _ (by omega)
  have r4 : decide (Z ≤ l) = false := decide_eq_false (by have := hbf.2 hlt; omega)
  have r5 : decide (0 ≤ l) = true := decide_eq_true hl0
  clear hb hb0 hbf hme hY hZ hlt hl0
  obtain ⟨P, hP⟩ : ∃ P : Int, ((M.bd t 2 : Nat) : Int) = P := ⟨_, rfl⟩
  obtain ⟨Q, hQ⟩ : ∃ P : Int, ((M.bd t 3 : Nat) : Int) = P := ⟨_, rfl⟩
  obtain ⟨S, hS⟩ : ∃ P : Int, ((M.bd t 4 : Nat) : Int) = P := ⟨_, rfl⟩
  obtain ⟨D, hD⟩ : ∃ P : Int, ((M.bd t 5 : Nat) : Int) = P := ⟨_, rfl⟩
  have p0 : decide (0 < P) = true := by rw [← hP]; exact (bd_dec t1 t5 2 (by omega)).1
  have p1 : decide (0 < Q) = true := by rw [← hQ]; exact (bd_dec t1 t5 3 (by omega)).1
  have p2 : decide (0 < S) = true := by rw [← hS]; exact (bd_dec t1 t5 4 (by omega)).1
  have p3 : decide (0 < D) = true := by rw [← hD]; exact (bd_dec t1 t5 5 (by omega)).1
  have HST : Hid (∀ W, Below w.heap.size w W → Calls Tryd.prog 10 #[.int .i64 t] W fun e w' => e = .returned (.tuple #[.int .i64 P, .int .i64 Q, .int .i64 S]) ∧ Below W.heap.size W w') := Lib.hid fun W hW => by
    have := steps_any t W (h.below hW)
    rw [hP, hQ, hS] at this
    exact this
  have HDE : Hid (∀ W, Below w.heap.size w W → Calls Tryd.prog 12 #[.int .i64 t] W fun e w' => e = .returned (.int .i64 D) ∧ Below W.heap.size W w') := Lib.hid fun W hW => by
    have := depth_any t W (h.below hW)
    rw [hD] at this
    exact this
  have s1 : decide (1 ≤ t) = true := decide_eq_true t1
  have s2 : decide (t ≤ 5) = true := decide_eq_true t5
  clear hP hQ hS hD
  have HB0 := Lib.hid (Below.refl w.heap.size w)
  clear hr h hys hm t1 t5 hnb
  generalize xs.length = len at *
  go_enter Tryd.func3, Tryd.ntmps3
  go_wp2_with (first
    | (go_at_call 9; (with_reducible refine (HI.out _ HB6.out).mono ?_); rintro e W7 ⟨A7, c7, rfl, hrd, _, hb⟩; have HRD := Lib.hid hrd; clear hrd; have HB7 := Lib.hid (HB6.out.trans (hb.mono HB6.out.size)); clear hb)
    | (go_at_call 7; (with_reducible refine (HRZ.out _).mono ?_); rintro e W6 ⟨rfl, hb⟩; have HB6 := Lib.hid (HB5.out.trans (hb.mono HB5.out.size)); clear hb)
    | (go_at_call 7; (with_reducible refine (HRY.out _).mono ?_); rintro e W5 ⟨rfl, hb⟩; have HB5 := Lib.hid (HB4.out.trans (hb.mono HB4.out.size)); clear hb)
    | (go_at_call 8; (with_reducible refine (HMO.out _ HB3.out).mono ?_); rintro e W4 ⟨rfl, hb⟩; have HB4 := Lib.hid (HB3.out.trans (hb.mono HB3.out.size)); clear hb)
    | (go_at_call 7; (with_reducible refine (HRN.out _).mono ?_); rintro e W3 ⟨rfl, hb⟩; have HB3 := Lib.hid (HB2.out.trans (hb.mono HB2.out.size)); clear hb)
    | (go_at_call 6; (with_reducible refine (HNE.out _ HB1.out).mono ?_); rintro e W2 ⟨rfl, hb⟩; have HB2 := Lib.hid (HB1.out.trans (hb.mono HB1.out.size)); clear hb)
    | (go_at_call 5; (with_reducible refine (awake_any _ (HT.out.below HB0.out)).mono ?_); rintro e W1 ⟨rfl, hb⟩; have HB1 := Lib.hid (HB0.out.trans (hb.mono HB0.out.size)); clear hb))
  go_loopw [15, 121] (fun v i wr => ∃ k : Nat, k ≤ m ∧ i = .int .i64 k ∧ v = .int .i64 (M.ft l (ys.take k)) ∧ Hid (Below W7.heap.size W7 wr)) (fun _ i _ => m - (intOf i).toNat)
  case atStart => exact ⟨0, by omega, rfl, rfl, Lib.hid (Below.refl _ _)⟩
  case round =>
    obtain ⟨k, hk, rfl, rfl, HBr⟩ := hrel
    have HB8 := Lib.hid (HB7.out.trans (HBr.out.mono HB7.out.size))
    by_cases hlt : k < m
    · have hlt' : k < ys.length := by rw [HYL.out]; exact hlt
      obtain ⟨b1, off, rfl, hc⟩ := (HRD.out.below HBr.out (Nat.le_refl _)).at hlt'
      have d0 : (k : Int) < (m : Int) := by omega
      have wk : IntKind.i64.wrap ((k : Int) + 1) = (k : Int) + 1 := IntWalk.i64_in _ (by omega)
      have hs : M.ft l (ys.take (k + 1)) = min (M.ft l (ys.take k)) (M.mo ys[k] l) := by rw [take_snoc hlt', M.ft_snoc]
      have HS := Lib.hid hs
      clear hs
      generalize ys[k] = t9 at *
      generalize M.ft l (ys.take k) = f0 at *
      go_wp2_with (go_at_call 8; (with_reducible refine (HMT.out t9 _ HB8.out).mono ?_); rintro e w2 ⟨rfl, hb⟩; have HB9 := Lib.hid hb; clear hb)
      go_roundw
      case rel => exact ⟨k + 1, by omega, by go_num, by rw [HS.out], Lib.hid (HBr.out.trans (HB9.out.mono HBr.out.size))⟩
      case measure => simp [intOf]; omega
    · have hkm : k = m := by omega
      have e1 : ys.take k = ys := List.take_of_length_le (by rw [HYL.out]; omega)
      rw [e1, hkm]
      have HRF := Lib.hid ((HRD.out.below HBr.out (Nat.le_refl _)).more HBr.out.size)
      obtain ⟨F, hF⟩ : ∃ F, M.ft l ys = F := ⟨_, rfl⟩
      rw [hF]
      have HFF : Hid (∀ W, Below wr.heap.size wr W → Calls Tryd.prog 11 #[.int .i64 l, .slice A7 m c7] W fun e w' => e = .returned (.int .i64 F) ∧ Below W.heap.size W w') := Lib.hid fun W hW => by
        have := HFT.out A7 c7 W (HB8.out.trans (hW.mono HB8.out.size)) ((HRF.out.below hW (Nat.le_refl _)).more hW.size)
        rw [hF] at this
        exact this
      have f1 := beq_self F
      clear hF e1 hlt hk hkm
      have HBA0 := Lib.hid (Below.refl wr.heap.size wr)
      go_wp2_with (first
        | (go_at_call 12; (with_reducible refine (HDE.out _ (HB8.out.trans (HBA2.out.mono HB8.out.size))).mono ?_); rintro e WA3 ⟨rfl, hb⟩; have HBA3 := Lib.hid (HBA2.out.trans (hb.mono HBA2.out.size)); clear hb)
        | (go_at_call 11; (with_reducible refine (HFF.out _ HBA1.out).mono ?_); rintro e WA2 ⟨rfl, hb⟩; have HBA2 := Lib.hid (HBA1.out.trans (hb.mono HBA1.out.size)); clear hb)
        | (go_at_call 10; (with_reducible refine (HST.out _ (HB8.out.trans (HBA0.out.mono HB8.out.size))).mono ?_); rintro e WA1 ⟨rfl, hb⟩; have HBA1 := Lib.hid (HBA0.out.trans (hb.mono HBA0.out.size)); clear hb))
      go_ret
      exact ⟨by simp, HB8.out.trans (HBA3.out.mono HB8.out.size)⟩
set_option maxRecDepth 100000 in
set_option maxHeartbeats 8000000 in
theorem tells_g (t n l : Int) (hl2 : l < 9223372036854775808) (t1 : 1 ≤ t) (t5 : t ≤ 5) (hn0 : 0 ≤ n) (hn1 : n ≤ 262144) (hl0 : 0 ≤ l) (hlt : ¬ M.mo t l < 262144) (A : Option Addr) (c : Nat) (xs : List Int) (hxl : xs.length ≤ 9223372036854775807) (w : World) (hr : Rd w w.heap.size A xs) (h : BT w) :
    Calls Tryd.prog 3 #[.int .i64 t, .int .i64 n, .int .i64 l, .slice A xs.length c] w fun e w' => e = .returned (.bool true) ∧ Below w.heap.size w w' := by
  have HT := Lib.hid h
  obtain ⟨ys, hys⟩ : ∃ ys, xs.take 9 = ys := ⟨_, rfl⟩
  obtain ⟨m, hm⟩ : ∃ m, ys.length = m := ⟨_, rfl⟩
  have hm9 : m ≤ 9 := by rw [← hm, ← hys, List.length_take]; omega
  have HR := Lib.hid hr
  have HI : Hid (∀ W, Below w.heap.size w W → Calls Tryd.prog 9 #[.slice A xs.length c, .int .i64 9] W fun e w' => ∃ A' c', e = .returned (.slice A' m c') ∧ Rd w' w'.heap.size A' ys ∧ Fr W.heap.size A' ∧ Below W.heap.size W w') := Lib.hid fun W hW => by
    have := ref_ints A c xs 9 W ((hr.below hW (Nat.le_refl _)).more hW.size) hxl (by omega)
    rw [hys, hm] at this
    exact this
  have HYL := Lib.hid hm
  have HMT := Lib.hid fun (t : Int) W (hW : Below w.heap.size w W) => most_any t l hl2 W (h.below hW)
  have HFT := Lib.hid fun (A : Option Addr) (c : Nat) W (hW : Below w.heap.size w W) (hR : Rd W W.heap.size A ys) => fits_any l hl2 A c ys m hm W W.heap.size (Nat.le_refl _) hR (by omega) (h.below hW)
  obtain ⟨X, hX⟩ : ∃ X, M.nd t n = X := ⟨_, rfl⟩
  have hXp := M.nd_pos t1 t5 hn0 hn1
  have hng := M.n_good hXp.1
  have HNE : Hid (∀ W, Below w.heap.size w W → Calls Tryd.prog 6 #[.int .i64 t, .int .i64 n] W fun e w' => e = .returned (.tuple #[.int .i64 X, .int .i64 0]) ∧ Below W.heap.size W w') := Lib.hid fun W hW => by
    have := need_any t n W (h.below hW)
    rw [hng.1, hng.2, hX] at this
    exact this
  have HRN : Hid (∀ W, Calls Tryd.prog 7 #[.int .i64 t, .int .i64 n] W fun e w' => e = .returned (.int .i64 X) ∧ Below W.heap.size W w') := Lib.hid fun W => by
    have := ref_need t n W
    rw [hX] at this
    exact this
  have q0 : decide (0 ≤ X) = true := decide_eq_true (by rw [← hX]; exact hXp.1)
  have q1 := beq_self X
  clear hng hXp hX
  obtain ⟨b, hb⟩ : ∃ b, M.mo t l = b := ⟨_, rfl⟩
  have hb0 := M.mo_range t l
  have hbf := M.mo_fit t1 t5 hl0
  have hme : M.me t l = 0 := by unfold M.me; rw [if_neg (by omega)]
  have HMO : Hid (∀ W, Below w.heap.size w W → Calls Tryd.prog 8 #[.int .i64 t, .int .i64 l] W fun e w' => e = .returned (.tuple #[.int .i64 b, .int .i64 0]) ∧ Below W.heap.size W w') := Lib.hid fun W hW => by
    have := most_any t l hl2 W (h.below hW)
    rw [hme, hb] at this
    exact this
  rw [hb] at hb0 hbf hlt
  obtain ⟨Y, hY⟩ : ∃ Y, M.nd t b = Y := ⟨_, rfl⟩
  obtain ⟨Z, hZ⟩ : ∃ Z, M.nd t (b + 1) = Z := ⟨_, rfl⟩
  have HRY : Hid (∀ W, Calls Tryd.prog 7 #[.int .i64 t, .int .i64 b] W fun e w' => e = .returned (.int .i64 Y) ∧ Below W.heap.size W w') := Lib.hid fun W => by
    have := ref_need t b W
    rw [hY] at this
    exact this
  have HRZ : Hid (∀ W, Calls Tryd.prog 7 #[.int .i64 t, .int .i64 (b + 1)] W fun e w' => e = .returned (.int .i64 Z) ∧ Below W.heap.size W w') := Lib.hid fun W => by
    have := ref_need t (b + 1) W
    rw [hZ] at this
    exact this
  rw [hY, hZ] at hbf
  have r0 : decide (262144 < b) = false := decide_eq_false (by omega)
  have r1 : decide (l < Y) = false := decide_eq_false (by omega)
  have r2 : decide (b < 262144) = false := decide_eq_false hlt
  have r3 : IntKind.i64.wrap (b + 1) = b + 1 := IntWalk.i64_in _ (by omega)
  have r5 : decide (0 ≤ l) = true := decide_eq_true hl0
  clear hb hb0 hbf hme hY hZ hlt hl0
  obtain ⟨P, hP⟩ : ∃ P : Int, ((M.bd t 2 : Nat) : Int) = P := ⟨_, rfl⟩
  obtain ⟨Q, hQ⟩ : ∃ P : Int, ((M.bd t 3 : Nat) : Int) = P := ⟨_, rfl⟩
  obtain ⟨S, hS⟩ : ∃ P : Int, ((M.bd t 4 : Nat) : Int) = P := ⟨_, rfl⟩
  obtain ⟨D, hD⟩ : ∃ P : Int, ((M.bd t 5 : Nat) : Int) = P := ⟨_, rfl⟩
  have p0 : decide (0 < P) = true := by rw [← hP]; exact (bd_dec t1 t5 2 (by omega)).1
  have p1 : decide (0 < Q) = true := by rw [← hQ]; exact (bd_dec t1 t5 3 (by omega)).1
  have p2 : decide (0 < S) = true := by rw [← hS]; exact (bd_dec t1 t5 4 (by omega)).1
  have p3 : decide (0 < D) = true := by rw [← hD]; exact (bd_dec t1 t5 5 (by omega)).1
  have HST : Hid (∀ W, Below w.heap.size w W → Calls Tryd.prog 10 #[.int .i64 t] W fun e w' => e = .returned (.tuple #[.int .i64 P, .int .i64 Q, .int .i64 S]) ∧ Below W.heap.size W w') := Lib.hid fun W hW => by
    have := steps_any t W (h.below hW)
    rw [hP, hQ, hS] at this
    exact this
  have HDE : Hid (∀ W, Below w.heap.size w W → Calls Tryd.prog 12 #[.int .i64 t] W fun e w' => e = .returned (.int .i64 D) ∧ Below W.heap.size W w') := Lib.hid fun W hW => by
    have := depth_any t W (h.below hW)
    rw [hD] at this
    exact this
  have s1 : decide (1 ≤ t) = true := decide_eq_true t1
  have s2 : decide (t ≤ 5) = true := decide_eq_true t5
  clear hP hQ hS hD
  have HB0 := Lib.hid (Below.refl w.heap.size w)
  clear hr h hys hm t1 t5 hn0 hn1
  generalize xs.length = len at *
  go_enter Tryd.func3, Tryd.ntmps3
  go_wp2_with (first
    | (go_at_call 9; (with_reducible refine (HI.out _ HB5.out).mono ?_); rintro e W7 ⟨A7, c7, rfl, hrd, _, hb⟩; have HRD := Lib.hid hrd; clear hrd; have HB7 := Lib.hid (HB5.out.trans (hb.mono HB5.out.size)); clear hb)
    | (go_at_call 7; (with_reducible refine (HRY.out _).mono ?_); rintro e W5 ⟨rfl, hb⟩; have HB5 := Lib.hid (HB4.out.trans (hb.mono HB4.out.size)); clear hb)
    | (go_at_call 8; (with_reducible refine (HMO.out _ HB3.out).mono ?_); rintro e W4 ⟨rfl, hb⟩; have HB4 := Lib.hid (HB3.out.trans (hb.mono HB3.out.size)); clear hb)
    | (go_at_call 7; (with_reducible refine (HRN.out _).mono ?_); rintro e W3 ⟨rfl, hb⟩; have HB3 := Lib.hid (HB2.out.trans (hb.mono HB2.out.size)); clear hb)
    | (go_at_call 6; (with_reducible refine (HNE.out _ HB1.out).mono ?_); rintro e W2 ⟨rfl, hb⟩; have HB2 := Lib.hid (HB1.out.trans (hb.mono HB1.out.size)); clear hb)
    | (go_at_call 5; (with_reducible refine (awake_any _ (HT.out.below HB0.out)).mono ?_); rintro e W1 ⟨rfl, hb⟩; have HB1 := Lib.hid (HB0.out.trans (hb.mono HB0.out.size)); clear hb))
  go_loopw [15, 121] (fun v i wr => ∃ k : Nat, k ≤ m ∧ i = .int .i64 k ∧ v = .int .i64 (M.ft l (ys.take k)) ∧ Hid (Below W7.heap.size W7 wr)) (fun _ i _ => m - (intOf i).toNat)
  case atStart => exact ⟨0, by omega, rfl, rfl, Lib.hid (Below.refl _ _)⟩
  case round =>
    obtain ⟨k, hk, rfl, rfl, HBr⟩ := hrel
    have HB8 := Lib.hid (HB7.out.trans (HBr.out.mono HB7.out.size))
    by_cases hlt : k < m
    · have hlt' : k < ys.length := by rw [HYL.out]; exact hlt
      obtain ⟨b1, off, rfl, hc⟩ := (HRD.out.below HBr.out (Nat.le_refl _)).at hlt'
      have d0 : (k : Int) < (m : Int) := by omega
      have wk : IntKind.i64.wrap ((k : Int) + 1) = (k : Int) + 1 := IntWalk.i64_in _ (by omega)
      have hs : M.ft l (ys.take (k + 1)) = min (M.ft l (ys.take k)) (M.mo ys[k] l) := by rw [take_snoc hlt', M.ft_snoc]
      have HS := Lib.hid hs
      clear hs
      generalize ys[k] = t9 at *
      generalize M.ft l (ys.take k) = f0 at *
      go_wp2_with (go_at_call 8; (with_reducible refine (HMT.out t9 _ HB8.out).mono ?_); rintro e w2 ⟨rfl, hb⟩; have HB9 := Lib.hid hb; clear hb)
      go_roundw
      case rel => exact ⟨k + 1, by omega, by go_num, by rw [HS.out], Lib.hid (HBr.out.trans (HB9.out.mono HBr.out.size))⟩
      case measure => simp [intOf]; omega
    · have hkm : k = m := by omega
      have e1 : ys.take k = ys := List.take_of_length_le (by rw [HYL.out]; omega)
      rw [e1, hkm]
      have HRF := Lib.hid ((HRD.out.below HBr.out (Nat.le_refl _)).more HBr.out.size)
      obtain ⟨F, hF⟩ : ∃ F, M.ft l ys = F := ⟨_, rfl⟩
      rw [hF]
      have HFF : Hid (∀ W, Below wr.heap.size wr W → Calls Tryd.prog 11 #[.int .i64 l, .slice A7 m c7] W fun e w' => e = .returned (.int .i64 F) ∧ Below W.heap.size W w') := Lib.hid fun W hW => by
        have := HFT.out A7 c7 W (HB8.out.trans (hW.mono HB8.out.size)) ((HRF.out.below hW (Nat.le_refl _)).more hW.size)
        rw [hF] at this
        exact this
      have f1 := beq_self F
      clear hF e1 hlt hk hkm
      have HBA0 := Lib.hid (Below.refl wr.heap.size wr)
      go_wp2_with (first
        | (go_at_call 12; (with_reducible refine (HDE.out _ (HB8.out.trans (HBA2.out.mono HB8.out.size))).mono ?_); rintro e WA3 ⟨rfl, hb⟩; have HBA3 := Lib.hid (HBA2.out.trans (hb.mono HBA2.out.size)); clear hb)
        | (go_at_call 11; (with_reducible refine (HFF.out _ HBA1.out).mono ?_); rintro e WA2 ⟨rfl, hb⟩; have HBA2 := Lib.hid (HBA1.out.trans (hb.mono HBA1.out.size)); clear hb)
        | (go_at_call 10; (with_reducible refine (HST.out _ (HB8.out.trans (HBA0.out.mono HB8.out.size))).mono ?_); rintro e WA1 ⟨rfl, hb⟩; have HBA1 := Lib.hid (HBA0.out.trans (hb.mono HBA0.out.size)); clear hb))
      go_ret
      exact ⟨by simp, HB8.out.trans (HBA3.out.mono HB8.out.size)⟩
set_option maxRecDepth 100000 in
set_option maxHeartbeats 8000000 in
theorem tells_h (t n l : Int) (hl2 : l < 9223372036854775808) (t1 : 1 ≤ t) (t5 : t ≤ 5) (hn0 : 0 ≤ n) (hn1 : n ≤ 262144) (hl0 : 0 ≤ l) (hlt : M.mo t l < 262144) (A : Option Addr) (c : Nat) (xs : List Int) (hxl : xs.length ≤ 9223372036854775807) (w : World) (hr : Rd w w.heap.size A xs) (h : BT w) :
    Calls Tryd.prog 3 #[.int .i64 t, .int .i64 n, .int .i64 l, .slice A xs.length c] w fun e w' => e = .returned (.bool true) ∧ Below w.heap.size w w' := by
  have HT := Lib.hid h
  obtain ⟨ys, hys⟩ : ∃ ys, xs.take 9 = ys := ⟨_, rfl⟩
  obtain ⟨m, hm⟩ : ∃ m, ys.length = m := ⟨_, rfl⟩
  have hm9 : m ≤ 9 := by rw [← hm, ← hys, List.length_take]; omega
  have HR := Lib.hid hr
  have HI : Hid (∀ W, Below w.heap.size w W → Calls Tryd.prog 9 #[.slice A xs.length c, .int .i64 9] W fun e w' => ∃ A' c', e = .returned (.slice A' m c') ∧ Rd w' w'.heap.size A' ys ∧ Fr W.heap.size A' ∧ Below W.heap.size W w') := Lib.hid fun W hW => by
    have := ref_ints A c xs 9 W ((hr.below hW (Nat.le_refl _)).more hW.size) hxl (by omega)
    rw [hys, hm] at this
    exact this
  have HYL := Lib.hid hm
  have HMT := Lib.hid fun (t : Int) W (hW : Below w.heap.size w W) => most_any t l hl2 W (h.below hW)
  have HFT := Lib.hid fun (A : Option Addr) (c : Nat) W (hW : Below w.heap.size w W) (hR : Rd W W.heap.size A ys) => fits_any l hl2 A c ys m hm W W.heap.size (Nat.le_refl _) hR (by omega) (h.below hW)
  obtain ⟨X, hX⟩ : ∃ X, M.nd t n = X := ⟨_, rfl⟩
  have hXp := M.nd_pos t1 t5 hn0 hn1
  have hng := M.n_good hXp.1
  have HNE : Hid (∀ W, Below w.heap.size w W → Calls Tryd.prog 6 #[.int .i64 t, .int .i64 n] W fun e w' => e = .returned (.tuple #[.int .i64 X, .int .i64 0]) ∧ Below W.heap.size W w') := Lib.hid fun W hW => by
    have := need_any t n W (h.below hW)
    rw [hng.1, hng.2, hX] at this
    exact this
  have HRN : Hid (∀ W, Calls Tryd.prog 7 #[.int .i64 t, .int .i64 n] W fun e w' => e = .returned (.int .i64 X) ∧ Below W.heap.size W w') := Lib.hid fun W => by
    have := ref_need t n W
    rw [hX] at this
    exact this
  have q0 : decide (0 ≤ X) = true := decide_eq_true (by rw [← hX]; exact hXp.1)
  have q1 := beq_self X
  clear hng hXp hX
  obtain ⟨b, hb⟩ : ∃ b, M.mo t l = b := ⟨_, rfl⟩
  have hb0 := M.mo_range t l
  have hbf := M.mo_fit t1 t5 hl0
  have hme : M.me t l = 0 := by unfold M.me; rw [if_neg (by omega)]
  have HMO : Hid (∀ W, Below w.heap.size w W → Calls Tryd.prog 8 #[.int .i64 t, .int .i64 l] W fun e w' => e = .returned (.tuple #[.int .i64 b, .int .i64 0]) ∧ Below W.heap.size W w') := Lib.hid fun W hW => by
    have := most_any t l hl2 W (h.below hW)
    rw [hme, hb] at this
    exact this
  rw [hb] at hb0 hbf hlt
  obtain ⟨Y, hY⟩ : ∃ Y, M.nd t b = Y := ⟨_, rfl⟩
  obtain ⟨Z, hZ⟩ : ∃ Z, M.nd t (b + 1) = Z := ⟨_, rfl⟩
  have HRY : Hid (∀ W, Calls Tryd.prog 7 #[.int .i64 t, .int .i64 b] W fun e w' => e = .returned (.int .i64 Y) ∧ Below W.heap.size W w') := Lib.hid fun W => by
    have := ref_need t b W
    rw [hY] at this
    exact this
  have HRZ : Hid (∀ W, Calls Tryd.prog 7 #[.int .i64 t, .int .i64 (b + 1)] W fun e w' => e = .returned (.int .i64 Z) ∧ Below W.heap.size W w') := Lib.hid fun W => by
    have := ref_need t (b + 1) W
    rw [hZ] at this
    exact this
  rw [hY, hZ] at hbf
  have r0 : decide (262144 < b) = false := decide_eq_false (by omega)
  have r1 : decide (l < Y) = false := decide_eq_false (by omega)
  have r2 : decide (b < 262144) = true := decide_eq_true hlt
  have r3 : IntKind.i64.wrap (b + 1) = b + 1 := IntWalk.i64_in _ (by omega)
  have r4 : decide (Z ≤ l) = false := decide_eq_false (by have := hbf.2 hlt; omega)
  have r5 : decide (0 ≤ l) = true := decide_eq_true hl0
  clear hb hb0 hbf hme hY hZ hlt hl0
  obtain ⟨P, hP⟩ : ∃ P : Int, ((M.bd t 2 : Nat) : Int) = P := ⟨_, rfl⟩
  obtain ⟨Q, hQ⟩ : ∃ P : Int, ((M.bd t 3 : Nat) : Int) = P := ⟨_, rfl⟩
  obtain ⟨S, hS⟩ : ∃ P : Int, ((M.bd t 4 : Nat) : Int) = P := ⟨_, rfl⟩
  obtain ⟨D, hD⟩ : ∃ P : Int, ((M.bd t 5 : Nat) : Int) = P := ⟨_, rfl⟩
  have p0 : decide (0 < P) = true := by rw [← hP]; exact (bd_dec t1 t5 2 (by omega)).1
  have p1 : decide (0 < Q) = true := by rw [← hQ]; exact (bd_dec t1 t5 3 (by omega)).1
  have p2 : decide (0 < S) = true := by rw [← hS]; exact (bd_dec t1 t5 4 (by omega)).1
  have p3 : decide (0 < D) = true := by rw [← hD]; exact (bd_dec t1 t5 5 (by omega)).1
  have HST : Hid (∀ W, Below w.heap.size w W → Calls Tryd.prog 10 #[.int .i64 t] W fun e w' => e = .returned (.tuple #[.int .i64 P, .int .i64 Q, .int .i64 S]) ∧ Below W.heap.size W w') := Lib.hid fun W hW => by
    have := steps_any t W (h.below hW)
    rw [hP, hQ, hS] at this
    exact this
  have HDE : Hid (∀ W, Below w.heap.size w W → Calls Tryd.prog 12 #[.int .i64 t] W fun e w' => e = .returned (.int .i64 D) ∧ Below W.heap.size W w') := Lib.hid fun W hW => by
    have := depth_any t W (h.below hW)
    rw [hD] at this
    exact this
  have s1 : decide (1 ≤ t) = true := decide_eq_true t1
  have s2 : decide (t ≤ 5) = true := decide_eq_true t5
  clear hP hQ hS hD
  have HB0 := Lib.hid (Below.refl w.heap.size w)
  clear hr h hys hm t1 t5 hn0 hn1
  generalize xs.length = len at *
  go_enter Tryd.func3, Tryd.ntmps3
  go_wp2_with (first
    | (go_at_call 9; (with_reducible refine (HI.out _ HB6.out).mono ?_); rintro e W7 ⟨A7, c7, rfl, hrd, _, hb⟩; have HRD := Lib.hid hrd; clear hrd; have HB7 := Lib.hid (HB6.out.trans (hb.mono HB6.out.size)); clear hb)
    | (go_at_call 7; (with_reducible refine (HRZ.out _).mono ?_); rintro e W6 ⟨rfl, hb⟩; have HB6 := Lib.hid (HB5.out.trans (hb.mono HB5.out.size)); clear hb)
    | (go_at_call 7; (with_reducible refine (HRY.out _).mono ?_); rintro e W5 ⟨rfl, hb⟩; have HB5 := Lib.hid (HB4.out.trans (hb.mono HB4.out.size)); clear hb)
    | (go_at_call 8; (with_reducible refine (HMO.out _ HB3.out).mono ?_); rintro e W4 ⟨rfl, hb⟩; have HB4 := Lib.hid (HB3.out.trans (hb.mono HB3.out.size)); clear hb)
    | (go_at_call 7; (with_reducible refine (HRN.out _).mono ?_); rintro e W3 ⟨rfl, hb⟩; have HB3 := Lib.hid (HB2.out.trans (hb.mono HB2.out.size)); clear hb)
    | (go_at_call 6; (with_reducible refine (HNE.out _ HB1.out).mono ?_); rintro e W2 ⟨rfl, hb⟩; have HB2 := Lib.hid (HB1.out.trans (hb.mono HB1.out.size)); clear hb)
    | (go_at_call 5; (with_reducible refine (awake_any _ (HT.out.below HB0.out)).mono ?_); rintro e W1 ⟨rfl, hb⟩; have HB1 := Lib.hid (HB0.out.trans (hb.mono HB0.out.size)); clear hb))
  go_loopw [15, 121] (fun v i wr => ∃ k : Nat, k ≤ m ∧ i = .int .i64 k ∧ v = .int .i64 (M.ft l (ys.take k)) ∧ Hid (Below W7.heap.size W7 wr)) (fun _ i _ => m - (intOf i).toNat)
  case atStart => exact ⟨0, by omega, rfl, rfl, Lib.hid (Below.refl _ _)⟩
  case round =>
    obtain ⟨k, hk, rfl, rfl, HBr⟩ := hrel
    have HB8 := Lib.hid (HB7.out.trans (HBr.out.mono HB7.out.size))
    by_cases hlt : k < m
    · have hlt' : k < ys.length := by rw [HYL.out]; exact hlt
      obtain ⟨b1, off, rfl, hc⟩ := (HRD.out.below HBr.out (Nat.le_refl _)).at hlt'
      have d0 : (k : Int) < (m : Int) := by omega
      have wk : IntKind.i64.wrap ((k : Int) + 1) = (k : Int) + 1 := IntWalk.i64_in _ (by omega)
      have hs : M.ft l (ys.take (k + 1)) = min (M.ft l (ys.take k)) (M.mo ys[k] l) := by rw [take_snoc hlt', M.ft_snoc]
      have HS := Lib.hid hs
      clear hs
      generalize ys[k] = t9 at *
      generalize M.ft l (ys.take k) = f0 at *
      go_wp2_with (go_at_call 8; (with_reducible refine (HMT.out t9 _ HB8.out).mono ?_); rintro e w2 ⟨rfl, hb⟩; have HB9 := Lib.hid hb; clear hb)
      go_roundw
      case rel => exact ⟨k + 1, by omega, by go_num, by rw [HS.out], Lib.hid (HBr.out.trans (HB9.out.mono HBr.out.size))⟩
      case measure => simp [intOf]; omega
    · have hkm : k = m := by omega
      have e1 : ys.take k = ys := List.take_of_length_le (by rw [HYL.out]; omega)
      rw [e1, hkm]
      have HRF := Lib.hid ((HRD.out.below HBr.out (Nat.le_refl _)).more HBr.out.size)
      obtain ⟨F, hF⟩ : ∃ F, M.ft l ys = F := ⟨_, rfl⟩
      rw [hF]
      have HFF : Hid (∀ W, Below wr.heap.size wr W → Calls Tryd.prog 11 #[.int .i64 l, .slice A7 m c7] W fun e w' => e = .returned (.int .i64 F) ∧ Below W.heap.size W w') := Lib.hid fun W hW => by
        have := HFT.out A7 c7 W (HB8.out.trans (hW.mono HB8.out.size)) ((HRF.out.below hW (Nat.le_refl _)).more hW.size)
        rw [hF] at this
        exact this
      have f1 := beq_self F
      clear hF e1 hlt hk hkm
      have HBA0 := Lib.hid (Below.refl wr.heap.size wr)
      go_wp2_with (first
        | (go_at_call 12; (with_reducible refine (HDE.out _ (HB8.out.trans (HBA2.out.mono HB8.out.size))).mono ?_); rintro e WA3 ⟨rfl, hb⟩; have HBA3 := Lib.hid (HBA2.out.trans (hb.mono HBA2.out.size)); clear hb)
        | (go_at_call 11; (with_reducible refine (HFF.out _ HBA1.out).mono ?_); rintro e WA2 ⟨rfl, hb⟩; have HBA2 := Lib.hid (HBA1.out.trans (hb.mono HBA1.out.size)); clear hb)
        | (go_at_call 10; (with_reducible refine (HST.out _ (HB8.out.trans (HBA0.out.mono HB8.out.size))).mono ?_); rintro e WA1 ⟨rfl, hb⟩; have HBA1 := Lib.hid (HBA0.out.trans (hb.mono HBA0.out.size)); clear hb))
      go_ret
      exact ⟨by simp, HB8.out.trans (HBA3.out.mono HB8.out.size)⟩
theorem law_tells (t n l : Int) (hl2 : l < 9223372036854775808) (A : Option Addr) (c : Nat) (xs : List Int) (hxl : xs.length ≤ 9223372036854775807) (w : World) (hr : Rd w w.heap.size A xs) (h : BT w) :
    Calls Tryd.prog 3 #[.int .i64 t, .int .i64 n, .int .i64 l, .slice A xs.length c] w fun e w' => e = .returned (.bool true) ∧ Below w.heap.size w w' := by
  by_cases t1 : t < 1
  · exact tells_a t n l hl2 t1 A c xs hxl w hr h
  · by_cases t5 : 5 < t
    · exact tells_b t n l hl2 t5 A c xs hxl w hr h
    · have t1 : 1 ≤ t := by omega
      have t5 : t ≤ 5 := by omega
      by_cases hn : n < 0 ∨ 262144 < n
      · by_cases hl : l < 0
        · exact tells_c t n l hl2 t1 t5 hn hl A c xs hxl w hr h
        · by_cases hlt : M.mo t l < 262144
          · exact tells_f t n l hl2 t1 t5 hn (by omega) hlt A c xs hxl w hr h
          · exact tells_e t n l hl2 t1 t5 hn (by omega) hlt A c xs hxl w hr h
      · by_cases hl : l < 0
        · exact tells_d t n l hl2 t1 t5 (by omega) (by omega) hl A c xs hxl w hr h
        · by_cases hlt : M.mo t l < 262144
          · exact tells_h t n l hl2 t1 t5 (by omega) (by omega) (by omega) hlt A c xs hxl w hr h
          · exact tells_g t n l hl2 t1 t5 (by omega) (by omega) (by omega) hlt A c xs hxl w hr h
end Go.Proofs.YtagdicbakcildaaDoor
