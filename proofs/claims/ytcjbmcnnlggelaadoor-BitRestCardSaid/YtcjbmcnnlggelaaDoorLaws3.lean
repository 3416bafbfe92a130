/- The law function BitRest: it returns true at every input, the text walked over the contracts. -/
import Derived.Test.YtcjbmcnnlggelaaDoorLaws
import Derived.Test.YtcjbmcnnlggelaaDoorMath2
namespace Go.Proofs.YtcjbmcnnlggelaaDoor
open Go.RowKit

theorem ref_clamp (i m : Int) (w : World) : Calls Tryd.prog 39 #[.int .i64 i, .int .i64 m] w fun e w' => e = .returned (.int .i64 (max (min i m) 0)) ∧ w = w' := by
  go_enter Tryd.func39, Tryd.ntmps39
  go_wp2
  go_ret
  exact ⟨ret_int (by omega), rfl⟩

set_option maxHeartbeats 800000 in
theorem law_rest (x : Nat) (hx : x < 18446744073709551616) (i : Int) (w : World) (hT : Tab w) :
    Calls Tryd.prog 9 #[.int .u64 (x : Int), .int .i64 i] w fun e w' => e = .returned (.bool true) ∧ Below w.heap.size w w' := by
  have hc : max (min i 64) 0 = (M.clamp i : Int) := by unfold M.clamp; omega
  have hcl : M.clamp i ≤ 64 := by unfold M.clamp; omega
  have hR := M.rest_lt x
  have hrank := M.rank_rest x hx i
  have hlen := M.len_rest x hx
  have hxor : bits BinOp.xor IntKind.u64 (if IntKind.u64.signed = true then -1 else IntKind.u64.max) (x : Int) = (M.rest x : Nat) := by
    rw [← M.xor_full x hx]; exact u64_xor_nat 18446744073709551615 x (by decide) hx
  have k1 := Lib.hid (M.next_rest_at x hx i)
  have k2 := Lib.hid (M.next_rest_none x hx i)
  have s1 : ((M.rRank (M.bz x) i : Nat) : Int) + ((M.rRank (M.bz (M.rest x)) i : Nat) : Int) = (M.clamp i : Nat) := by omega
  have s2 : (((M.bl x).length : Nat) : Int) + (((M.bl (M.rest x)).length : Nat) : Int) = 64 := by omega
  have b1 : M.rRank (M.bz x) i ≤ 64 := by omega
  have b2 : M.rRank (M.bz (M.rest x)) i ≤ 64 := by omega
  have b3 : (M.bl x).length ≤ 64 := by omega
  have b4 : (M.bl (M.rest x)).length ≤ 64 := by omega
  clear hrank hlen
  go_enter Tryd.func9, Tryd.ntmps9
  go_wp2_with (first
    | (go_at_call 10; refine (awake_any _ hT).mono ?_; rintro e w1 ⟨rfl, hb1⟩; have hT1 := hT.below hb1 hT.pos)
    | (go_at_call 39; refine (ref_clamp _ _ _).mono ?_; rintro e w' ⟨rfl, rfl⟩)
    | (go_at_call 14; (with_reducible refine (bit_next (M.rest x) hR _ _ hT1).mono ?_); rintro e w' ⟨rfl, n1, rfl⟩)
    | (go_at_call 18; (with_reducible refine (bit_rank x hx _ _).mono ?_); rintro e w' ⟨rfl, n3, rfl⟩)
    | (go_at_call 18; (with_reducible refine (bit_rank (M.rest x) hR _ _).mono ?_); rintro e w' ⟨rfl, n4, rfl⟩)
    | (go_at_call 22; (with_reducible refine (bit_count x hx _).mono ?_); rintro e w' ⟨rfl, rfl⟩)
    | (go_at_call 22; (with_reducible refine (bit_count (M.rest x) hR _).mono ?_); rintro e w' ⟨rfl, rfl⟩))
  go_loop [8] (fun i' => ∃ k : Nat, k ≤ 64 ∧ M.clamp i ≤ k ∧ i' = .int .i64 k ∧ Hid (∀ j, M.clamp i ≤ j → j < k → x.testBit j = true)) (fun i => 64 - (intOf i).toNat)
  case atStart => exact ⟨M.clamp i, by omega, by omega, rfl, fun j h1 h2 => by omega⟩
  case round =>
    obtain ⟨k, hk, hck, rfl, hset⟩ := hrel
    by_cases hlt : k < 64
    · have hbit := M.has_bit x k hlt
      cases hb : x.testBit k
      · rw [hb] at hbit
        have hn := k1.out k hck hlt hset.out hb
        clear hb
        go_wp2_with (go_at_call 12; refine (bit_get x hx _ _).mono ?_; rintro e w' ⟨rfl, rfl⟩)
        go_ret
        exact ⟨rfl, below_drewN hb1 _⟩
      · rw [hb] at hbit
        have hset2 : Hid (∀ j, M.clamp i ≤ j → j < k + 1 → x.testBit j = true) := fun j h1 h2 => by
          by_cases e : j = k
          · subst e; exact hb
          · exact hset.out j h1 (by omega)
        clear hb
        go_wp2_with (go_at_call 12; refine (bit_get x hx _ _).mono ?_; rintro e w' ⟨rfl, rfl⟩)
        go_round
        case rel => exact ⟨k + 1, by omega, by omega, by go_num, hset2⟩
        case measure => simp [intOf]; omega
    · obtain rfl : k = 64 := by omega
      have hn := k2.out hset.out
      go_wp2
      go_ret
      exact ⟨rfl, below_drewN hb1 _⟩
end Go.Proofs.YtcjbmcnnlggelaaDoor
