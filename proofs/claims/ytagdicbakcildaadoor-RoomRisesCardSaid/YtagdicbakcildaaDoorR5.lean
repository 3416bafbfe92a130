
/- The law RoomRises; the text walked. -/
import Derived.Test.YtagdicbakcildaaDoorR3
namespace Go.Proofs.YtagdicbakcildaaDoor
open Go.RowKit
namespace M
theorem nd_mono {t p q : Int} (h1 : 1 ≤ t) (h5 : t ≤ 5) (h0 : 0 ≤ p) (h : p ≤ q) (hq : q ≤ 262144) : nd t p ≤ nd t q := by
  rcases bd_yes h1 h5 with ⟨_, e1, e2⟩ | ⟨_, e1, e2⟩ | ⟨_, e1, e2⟩ | ⟨_, e1, e2⟩ | ⟨_, e1, e2⟩ <;>
  · unfold nd
    rw [e1, e2]
    (repeat' split) <;> omega
theorem na_is {t p : Int} (h1 : 1 ≤ t) (h5 : t ≤ 5) (h0 : 0 ≤ p) (hq : p ≤ 262144) : na t p = nd t p := (n_good (nd_pos h1 h5 h0 hq).1).1
theorem mo_mono {t l k : Int} (h1 : 1 ≤ t) (h5 : t ≤ 5) (h0 : 0 ≤ l) (h : l ≤ k) : mo t l ≤ mo t k := by
  rcases bd_yes h1 h5 with ⟨_, e1, e2⟩ | ⟨_, e1, e2⟩ | ⟨_, e1, e2⟩ | ⟨_, e1, e2⟩ | ⟨_, e1, e2⟩ <;>
  · unfold mo
    rw [e1, e2]
    (repeat' split) <;> omega
theorem ft_le {t l : Int} (h1 : 1 ≤ t) (h5 : t ≤ 5) : ft l [1, 2, 3, 4, 5] ≤ mo t l := by
  have e : ft l [1, 2, 3, 4, 5] = min (min (min (min (min 262144 (mo 1 l)) (mo 2 l)) (mo 3 l)) (mo 4 l)) (mo 5 l) := rfl
  rw [e]
  have : t = 1 ∨ t = 2 ∨ t = 3 ∨ t = 4 ∨ t = 5 := by omega
  rcases this with rfl | rfl | rfl | rfl | rfl <;> omega
end M
theorem ref_clampR (n m : Int) (w : World) : Calls Tryd.prog 13 #[.int .i64 n, .int .i64 m] w fun e w' => e = .returned (.int .i64 (max (min n m) 0)) ∧ w = w' := by
  go_enter Tryd.func13, Tryd.ntmps13
  go_wp2
  all_goals
    go_ret
    exact ⟨rfl, rfl⟩
theorem five_rd (W : World) : Rd (W.alloc (.cells #[.int .i64 1, .int .i64 2, .int .i64 3, .int .i64 4, .int .i64 5] 3)) (W.alloc (.cells #[.int .i64 1, .int .i64 2, .int .i64 3, .int .i64 4, .int .i64 5] 3)).heap.size (some ⟨W.heap.size, 0, none⟩) [1, 2, 3, 4, 5] := fun _ => by
  refine ⟨W.heap.size, 0, rfl, by simp, fun k hk => ?_⟩
  have : k = 0 ∨ k = 1 ∨ k = 2 ∨ k = 3 ∨ k = 4 := by simp at hk; omega
  rcases this with rfl | rfl | rfl | rfl | rfl <;> simp
set_option maxRecDepth 100000 in
set_option maxHeartbeats 8000000 in
theorem law_rises (tag : Nat) (htag : tag < 256) (n0 m0 l0 : Int) (w : World) (h : BT w) :
    Calls Tryd.prog 4 #[.int .u8 (tag : Int), .int .i64 n0, .int .i64 m0, .int .i64 l0] w fun e w' => e = .returned (.bool true) ∧ Below w.heap.size w w' := by
  have HT := Lib.hid h
  obtain ⟨r, hr⟩ : ∃ r, tag % 5 = r := ⟨_, rfl⟩
  have hr4 : r ≤ 4 := by omega
  have t1 : (tag : Int).tmod 5 = (r : Int) := by rw [Int.tmod_eq_emod_of_nonneg (by omega)]; omega
  have t2 : (tag : Int) % 5 = (r : Int) := by omega
  have t3 : IntKind.u8.wrap (r : Int) = (r : Int) := IntWalk.u8_in _ (by omega)
  have t4 : IntKind.i64.wrap (r : Int) = (r : Int) := IntWalk.i64_in _ (by omega)
  obtain ⟨t, ht⟩ : ∃ t : Int, 1 + (r : Int) = t := ⟨_, rfl⟩
  have t5 : IntKind.i64.wrap (1 + (r : Int)) = t := by rw [← ht]; exact IntWalk.i64_in _ (by omega)
  have u1 : 1 ≤ t := by omega
  have u5 : t ≤ 5 := by omega
  obtain ⟨n, hn⟩ : ∃ n : Int, max (min n0 1000) 0 = n := ⟨_, rfl⟩
  obtain ⟨m, hm⟩ : ∃ n : Int, max (min m0 1000) 0 = n := ⟨_, rfl⟩
  obtain ⟨l, hl⟩ : ∃ n : Int, max (min l0 100000) 0 = n := ⟨_, rfl⟩
  have HC1 : Hid (∀ W, Calls Tryd.prog 13 #[.int .i64 n0, .int .i64 1000] W fun e w' => e = .returned (.int .i64 n) ∧ W = w') := Lib.hid fun W => by
    have := ref_clampR n0 1000 W
    rw [hn] at this
    exact this
  have HC2 : Hid (∀ W, Calls Tryd.prog 13 #[.int .i64 m0, .int .i64 1000] W fun e w' => e = .returned (.int .i64 m) ∧ W = w') := Lib.hid fun W => by
    have := ref_clampR m0 1000 W
    rw [hm] at this
    exact this
  have HC3 : Hid (∀ W, Calls Tryd.prog 13 #[.int .i64 l0, .int .i64 100000] W fun e w' => e = .returned (.int .i64 l) ∧ W = w') := Lib.hid fun W => by
    have := ref_clampR l0 100000 W
    rw [hl] at this
    exact this
  have b1 : 0 ≤ n ∧ n ≤ 1000 := by omega
  have b2 : 0 ≤ m ∧ m ≤ 1000 := by omega
  have b3 : 0 ≤ l ∧ l ≤ 100000 := by omega
  obtain ⟨p, hp⟩ : ∃ p : Int, min n m = p := ⟨_, rfl⟩
  obtain ⟨q, hq⟩ : ∃ p : Int, max n m = p := ⟨_, rfl⟩
  obtain ⟨e, he⟩ : ∃ p : Int, M.ft l [1, 2, 3, 4, 5] = p := ⟨_, rfl⟩
  have he0 := M.ft_range l [1, 2, 3, 4, 5]
  have hel := M.ft_le (l := l) u1 u5
  rw [he] at he0 hel
  have k1 : M.na t p ≤ M.na t q := by
    rw [M.na_is u1 u5 (by omega) (by omega), M.na_is u1 u5 (by omega) (by omega)]
    exact M.nd_mono u1 u5 (by omega) (by omega) (by omega)
  have k2 : M.mo t l ≤ M.mo t (l + m) := M.mo_mono u1 u5 b3.1 (by omega)
  have k4 : M.na t e ≤ l := by
    rw [M.na_is u1 u5 (by omega) (by omega)]
    have := M.nd_mono u1 u5 he0.1 hel (M.mo_range t l).2
    have := (M.mo_fit u1 u5 b3.1).1
    omega
  have g1 : decide (M.na t p ≤ M.na t q) = true := decide_eq_true k1
  have g2 : decide (M.mo t l ≤ M.mo t (l + m)) = true := decide_eq_true k2
  have g3 : decide (e ≤ M.mo t l) = true := decide_eq_true hel
  have g4 : decide (M.na t e ≤ l) = true := decide_eq_true k4
  have x1 : IntKind.i64.wrap (l + m) = l + m := IntWalk.i64_in _ (by omega)
  have HFI : Hid (∀ W, Below w.heap.size w W → Calls Tryd.prog 11 #[.int .i64 l, .slice (some ⟨W.heap.size, 0, none⟩) 5 5] (W.alloc (.cells #[.int .i64 1, .int .i64 2, .int .i64 3, .int .i64 4, .int .i64 5] 3)) fun e2 w' => e2 = .returned (.int .i64 e) ∧ Below w.heap.size w w') := Lib.hid fun W hW => by
    have hb := hW.alloc hW.size (.cells #[.int .i64 1, .int .i64 2, .int .i64 3, .int .i64 4, .int .i64 5] 3)
    have := fits_any l (by omega) _ 5 [1, 2, 3, 4, 5] 5 rfl _ _ (Nat.le_refl _) (five_rd W) (by omega) (h.below hb)
    rw [he] at this
    exact this.mono fun e2 w' ⟨a, c⟩ => ⟨a, hb.trans (c.mono hb.size)⟩
  have HL : Hid (l < 9223372036854775808 ∧ l + m < 9223372036854775808) := Lib.hid (by omega)
  have HB0 := Lib.hid (Below.refl w.heap.size w)
  clear hn hm hl b1 b2 b3 he he0 hel k1 k2 k4 u1 u5 hr h hr4 ht
  go_enter Tryd.func4, Tryd.ntmps4
  go_wp2_with (first
    | (go_at_call 6; (with_reducible refine (need_any t e _ (HT.out.below HB6.out)).mono ?_); rintro e2 W7 ⟨rfl, hb⟩; have HB7 := Lib.hid (HB6.out.trans (hb.mono HB6.out.size)); clear hb)
    | (go_at_call 11; (with_reducible refine (HFI.out _ HB5.out).mono ?_); rintro e2 W6 ⟨rfl, hb⟩; have HB6 := Lib.hid hb; clear hb)
    | (go_at_call 8; (with_reducible refine (most_any t (l + m) HL.out.2 _ (HT.out.below HB4.out)).mono ?_); rintro e2 W5 ⟨rfl, hb⟩; have HB5 := Lib.hid (HB4.out.trans (hb.mono HB4.out.size)); clear hb)
    | (go_at_call 8; (with_reducible refine (most_any t l HL.out.1 _ (HT.out.below HB3.out)).mono ?_); rintro e2 W4 ⟨rfl, hb⟩; have HB4 := Lib.hid (HB3.out.trans (hb.mono HB3.out.size)); clear hb)
    | (go_at_call 6; (with_reducible refine (need_any t q _ (HT.out.below HB2.out)).mono ?_); rintro e2 W3 ⟨rfl, hb⟩; have HB3 := Lib.hid (HB2.out.trans (hb.mono HB2.out.size)); clear hb)
    | (go_at_call 6; (with_reducible refine (need_any t p _ (HT.out.below HB1.out)).mono ?_); rintro e2 W2 ⟨rfl, hb⟩; have HB2 := Lib.hid (HB1.out.trans (hb.mono HB1.out.size)); clear hb)
    | (go_at_call 13; (with_reducible refine (HC3.out _).mono ?_); rintro e2 Wc ⟨rfl, rfl⟩; skip)
    | (go_at_call 13; (with_reducible refine (HC2.out _).mono ?_); rintro e2 Wc ⟨rfl, rfl⟩; skip)
    | (go_at_call 13; (with_reducible refine (HC1.out _).mono ?_); rintro e2 Wc ⟨rfl, rfl⟩; skip)
    | (go_at_call 5; (with_reducible refine (awake_any _ (HT.out.below HB0.out)).mono ?_); rintro e2 W1 ⟨rfl, hb⟩; have HB1 := Lib.hid (HB0.out.trans (hb.mono HB0.out.size)); clear hb))
  go_ret
  exact ⟨by simp, HB7.out⟩
end Go.Proofs.YtagdicbakcildaaDoor
