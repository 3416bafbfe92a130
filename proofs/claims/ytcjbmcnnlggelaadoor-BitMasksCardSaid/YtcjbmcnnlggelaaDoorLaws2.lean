/- The other law functions of words: BitAsks, BitSets, BitMasks, BitRest: each returns true at every input, the text walked over the contracts. -/
import Derived.Test.YtcjbmcnnlggelaaDoorLaws
import Derived.Test.YtcjbmcnnlggelaaDoorMath2
namespace Go.Proofs.YtcjbmcnnlggelaaDoor
open Go.RowKit

set_option maxHeartbeats 4000000 in
theorem law_asks (x : Nat) (hx : x < 18446744073709551616) (i k : Int) (hi : -9223372036854775808 ≤ i) (w : World) (hT : Tab w) :
    Calls Tryd.prog 3 #[.int .u64 (x : Int), .int .i64 i, .int .i64 k] w fun e w' => e = .returned (.bool true) ∧ Below w.heap.size w w' := by
  have hlen := M.bz_le x
  have hl : (M.bz x).length ≤ 4611686018427387904 := by omega
  have e1 := (M.bz_len x).symm
  have e2 := M.sel_zero x
  have e3 := M.sel_last x
  go_enter Tryd.func3, Tryd.ntmps3
  go_wp2_with (first
    | (go_at_call 10; refine (awake_any _ hT).mono ?_; rintro e w1 ⟨rfl, hb1⟩; have hT1 := hT.below hb1 hT.pos)
    | (go_at_call 11; refine (ref_list x hx _).mono ?_; rintro e w2 ⟨A, c, rfl, hr, hb2⟩; have hT2 := hT1.below hb2 hT1.pos)
    | (go_at_call 12; refine (bit_get _ hx _ _).mono ?_; rintro e w' ⟨rfl, rfl⟩)
    | (go_at_call 13; refine (ref_has _ _ (M.bz x) _ _ _ hr hl).mono ?_; rintro e w' ⟨rfl, rfl⟩)
    | (go_at_call 14; refine (bit_next _ hx _ _ hT2).mono ?_; rintro e w' ⟨rfl, n1, rfl⟩)
    | (go_at_call 15; refine (ref_next _ _ (M.bz x) _ _ _ (hr.drew _) hl).mono ?_; rintro e w' ⟨rfl, rfl⟩)
    | (go_at_call 16; refine (bit_prev _ hx _ hi _).mono ?_; rintro e w' ⟨rfl, n2, rfl⟩)
    | (go_at_call 17; refine (ref_prev _ _ (M.bz x) _ _ _ (hr.drew _) hl).mono ?_; rintro e w' ⟨rfl, rfl⟩)
    | (go_at_call 18; refine (bit_rank _ hx _ _).mono ?_; rintro e w' ⟨rfl, n3, rfl⟩)
    | (go_at_call 19; refine (ref_rank _ _ (M.bz x) _ _ _ (hr.drew _) hl).mono ?_; rintro e w' ⟨rfl, rfl⟩)
    | (go_at_call 20; refine (bit_select _ hx _ _ (hT2.drew _)).mono ?_; rintro e w' ⟨rfl, rfl⟩)
    | (go_at_call 21; refine (ref_select _ _ (M.bz x) _ _ _ (hr.drew _) hl).mono ?_; rintro e w' ⟨rfl, rfl⟩)
    | (go_at_call 22; refine (bit_count _ hx _).mono ?_; rintro e w' ⟨rfl, rfl⟩)
    | (go_at_call 23; refine (bit_low _ hx _ (hT2.drew _)).mono ?_; rintro e w' ⟨rfl, rfl⟩)
    | (go_at_call 24; refine (bit_high _ hx _).mono ?_; rintro e w' ⟨rfl, rfl⟩))
  go_ret
  exact ⟨rfl, below_drewN (hb1.trans (hb2.mono hb1.size)) _⟩

set_option maxHeartbeats 4000000 in
theorem law_sets (x : Nat) (hx : x < 18446744073709551616) (i : Int) (w : World) (hT : Tab w) :
    Calls Tryd.prog 4 #[.int .u64 (x : Int), .int .i64 i] w fun e w' => e = .returned (.bool true) ∧ Below w.heap.size w w' := by
  by_cases hout : i < 0 ∨ 63 < i
  · have ho := M.one_none i (by omega)
    have e1 : x ||| M.one i = x := by rw [ho, Nat.or_zero]
    have e2 : x &&& (18446744073709551615 - M.one i) = x := by rw [ho]; exact M.and_full x hx
    clear ho
    have d : (decide (i < 0) || decide (63 < i)) = true := by simpa using hout
    by_cases hn : i < 0
    all_goals
      go_enter Tryd.func4, Tryd.ntmps4
      go_wp2_with (first
        | (go_at_call 10; refine (awake_any _ hT).mono ?_; rintro e w1 ⟨rfl, hb1⟩)
        | (go_at_call 11; refine (ref_list x hx _).mono ?_; rintro e w2 ⟨A, c, rfl, hr, hb2⟩)
        | (go_at_call 25; refine (bit_set _ hx _ _).mono ?_; rintro e w' ⟨rfl, rfl⟩)
        | (go_at_call 26; refine (bit_clear _ hx _ _).mono ?_; rintro e w' ⟨rfl, rfl⟩))
      go_ret
      exact ⟨rfl, hb1.trans (hb2.mono hb1.size)⟩
  · have h0 : 0 ≤ i := by omega
    have h1 : i < 64 := by omega
    have hlen := M.bz_le x
    have hU := M.or_lt hx (M.one_lt i)
    have hD : x &&& (18446744073709551615 - M.one i) < 18446744073709551616 := Nat.lt_of_le_of_lt Nat.and_le_left hx
    have sU := M.bz_set x i h0 h1
    have sD := M.bz_clear x i h0 h1
    have e3 := M.set_clear x hx i
    have e4 := M.clear_set x hx i
    generalize hUx : x ||| M.one i = U at *
    generalize hDx : x &&& (18446744073709551615 - M.one i) = D at *
    have lU := M.bz_le U
    have lD := M.bz_le D
    have dU : decide (M.bz U = M.add (M.bz x) i) = true := by simp [sU]
    have dD : decide (M.bz D = M.drop (M.bz x) i) = true := by simp [sD]
    have tU : (M.add (M.bz x) i).length ≤ 64 := by rw [← sU]; exact lU
    have tD : (M.drop (M.bz x) i).length ≤ 64 := by rw [← sD]; exact lD
    have hs := M.bz_sorted x
    have hsH := Lib.hid hs
    clear hs sU sD
    go_enter Tryd.func4, Tryd.ntmps4
    go_wp2_with (first
      | (go_at_call 10; refine (awake_any _ hT).mono ?_; rintro e w1 ⟨rfl, hb1⟩)
      | (go_at_call 11; (with_reducible refine (ref_list x hx _).mono ?_); rintro e w2 ⟨A, c, rfl, hr, hb2⟩)
      | (go_at_call 11; (with_reducible refine (ref_list U hU _).mono ?_); rintro e w3 ⟨A3, c3, rfl, hr3, hb3⟩; have hrx := (hr.below hb3 (Nat.le_refl _)).more hb3.size)
      | (go_at_call 28; refine (ref_add _ _ (M.bz x) _ _ hrx (by omega) hsH.out).mono ?_; rintro e w4 ⟨A4, c4, rfl, hr4, hb4⟩; have hrx4 := (hrx.below hb4 (Nat.le_refl _)).more hb4.size; have hr34 := hr3.below hb4 (Nat.le_refl _))
      | (go_at_call 27; (with_reducible refine (ref_same _ _ _ _ (M.bz U) (M.add (M.bz x) i) _ _ _ hr34 hr4 (by omega) (by omega)).mono ?_); rintro e w' ⟨rfl, n1, rfl⟩)
      | (go_at_call 11; (with_reducible refine (ref_list D hD _).mono ?_); rintro e w5 ⟨A5, c5, rfl, hr5, hb5⟩; have hrx5 := ((hrx4.drew n1).below hb5 (Nat.le_refl _)).more hb5.size)
      | (go_at_call 29; refine (ref_drop _ _ (M.bz x) _ _ hrx5 (by omega)).mono ?_; rintro e w6 ⟨A6, c6, rfl, hr6, hb6⟩; have hr56 := hr5.below hb6 (Nat.le_refl _))
      | (go_at_call 27; (with_reducible refine (ref_same _ _ _ _ (M.bz D) (M.drop (M.bz x) i) _ _ _ hr56 hr6 (by omega) (by omega)).mono ?_); rintro e w' ⟨rfl, n2, rfl⟩)
      | (go_at_call 25; (with_reducible refine (bit_set x hx _ _).mono ?_); rintro e w' ⟨rfl, rfl⟩)
      | (go_at_call 26; (with_reducible refine (bit_clear x hx _ _).mono ?_); rintro e w' ⟨rfl, rfl⟩)
      | (go_at_call 26; (with_reducible refine (bit_clear U hU _ _).mono ?_); rintro e w' ⟨rfl, rfl⟩)
      | (go_at_call 25; (with_reducible refine (bit_set D hD _ _).mono ?_); rintro e w' ⟨rfl, rfl⟩))
    go_ret
    refine ⟨rfl, below_drewN ?_ _⟩
    have q2 := hb1.trans (hb2.mono hb1.size)
    have q3 := q2.trans (hb3.mono q2.size)
    have q4 := below_drewN (q3.trans (hb4.mono q3.size)) n1
    have q5 := q4.trans (hb5.mono q4.size)
    exact q5.trans (hb6.mono q5.size)

set_option maxHeartbeats 4000000 in
theorem law_masks (f t : Int) (w : World) (hT : Tab w) :
    Calls Tryd.prog 6 #[.int .i64 f, .int .i64 t] w fun e w' => e = .returned (.bool true) ∧ Below w.heap.size w w' := by
  have hm := M.mask_lt f t
  have hlen := M.bz_le (M.mask f t)
  have hl : (M.bz (M.mask f t)).length ≤ 4611686018427387904 := by omega
  go_enter Tryd.func6, Tryd.ntmps6
  go_wp2_with (first
    | (go_at_call 10; refine (awake_any _ hT).mono ?_; rintro e w1 ⟨rfl, hb1⟩)
    | (go_at_call 30; refine (bit_mask _ _ _).mono ?_; rintro e w' ⟨rfl, n1, rfl⟩)
    | (go_at_call 11; refine (ref_list _ hm _).mono ?_; rintro e w2 ⟨A, c, rfl, hr, hb2⟩))
  go_loop [6, 7] (fun n i => ∃ k : Nat, k ≤ 64 ∧ i = .int .i64 k ∧ n = .int .i64 (M.cntm f t k : Nat)) (fun _ i => 64 - (intOf i).toNat)
  case atStart => exact ⟨0, by omega, rfl, rfl⟩
  case round =>
    obtain ⟨k, hk, rfl, rfl⟩ := hrel
    have hle := M.cntm_le f t k
    by_cases hlt : k < 64
    · have hs := Lib.hid (M.cntm_succ f t k)
      by_cases h1 : f ≤ (k : Int)
      · by_cases h2 : (k : Int) < t
        · have hsel := M.sel_mask f t k hlt ⟨h1, h2⟩
          have hs2 : Hid (M.cntm f t (k + 1) = M.cntm f t k + 1) := by
            show M.cntm f t (k + 1) = M.cntm f t k + 1
            rw [hs.out, if_pos ⟨h1, h2⟩]
          clear hs
          go_wp2_with (go_at_call 21; refine (ref_select _ _ (M.bz (M.mask f t)) _ _ _ hr hl).mono ?_; rintro e w' ⟨rfl, rfl⟩)
          go_round
          case rel => exact ⟨k + 1, by omega, by go_num, by rw [hs2.out]; go_num⟩
          case measure => simp [intOf]; omega
        · have hs2 : Hid (M.cntm f t (k + 1) = M.cntm f t k) := by
            show M.cntm f t (k + 1) = M.cntm f t k
            rw [hs.out, if_neg (by omega)]; rfl
          clear hs
          go_wp2
          go_round
          case rel => exact ⟨k + 1, by omega, by go_num, by rw [hs2.out]⟩
          case measure => simp [intOf]; omega
      · have hs2 : Hid (M.cntm f t (k + 1) = M.cntm f t k) := by
          show M.cntm f t (k + 1) = M.cntm f t k
          rw [hs.out, if_neg (by omega)]; rfl
        clear hs
        go_wp2
        go_round
        case rel => exact ⟨k + 1, by omega, by go_num, by rw [hs2.out]⟩
        case measure => simp [intOf]; omega
    · obtain rfl : k = 64 := by omega
      have e1 := (M.len_mask f t).symm
      go_wp2
      go_ret
      exact ⟨rfl, (below_drewN hb1 _).trans (hb2.mono hb1.size)⟩
end Go.Proofs.YtcjbmcnnlggelaaDoor
