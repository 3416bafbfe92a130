
/- The number in front of bytes: number; the text walked. -/
import Derived.Test.YtclaejaicjmohaaD5
import Derived.WalkMore
namespace Go.Proofs.Ytclaejaicjmohaa
set_option maxRecDepth 20000
open Go.RowKit
namespace E
theorem ofInt_u64 (a : Nat) (ha : a < 18446744073709551616) : (BitVec.ofInt 64 (a : Int)).toNat = a := by
  rw [BitVec.ofInt_natCast, BitVec.toNat_ofNat]; exact Nat.mod_eq_of_lt (by omega)
theorem u64_or_nat (a b : Nat) (ha : a < 18446744073709551616) (hb : b < 18446744073709551616) : bits .or .u64 (a : Int) (b : Int) = ((a ||| b : Nat) : Int) := by
  have hx : a ||| b < 2 ^ 64 := Nat.or_lt_two_pow (by omega) (by omega)
  show IntKind.u64.wrap ((BitVec.ofInt 64 (a : Int) ||| BitVec.ofInt 64 (b : Int)).toNat : Int) = _
  rw [BitVec.toNat_or, ofInt_u64 a ha, ofInt_u64 b hb]
  exact wrap_u64_small (by omega) (by omega)
theorem or_val {V r i L : Nat} (hV : V < 128 ^ i) (hr : r < 2 ^ L) (hL : L + 7 * i ≤ 64) : bits BinOp.or IntKind.u64 (V : Int) (IntKind.u64.wrap ((r : Int) * 2 ^ (7 * i))) = ((V + 128 ^ i * r : Nat) : Int) := by
  rw [p128] at hV ⊢
  have h3 : 2 ^ (7 * i) * r + 2 ^ (7 * i) ≤ 2 ^ (7 * i) * 2 ^ L := by
    rw [← Nat.mul_succ]
    exact Nat.mul_le_mul_left _ hr
  rw [← Nat.pow_add] at h3
  have h4 : 2 ^ (7 * i + L) ≤ 2 ^ 64 := Nat.pow_le_pow_right (by omega) (by omega)
  have e : ((r : Int) * 2 ^ (7 * i)) = ((2 ^ (7 * i) * r : Nat) : Int) := by simp [Int.mul_comm]
  have hp : 0 < 2 ^ (7 * i) := Nat.pow_pos (by omega)
  rw [e, wrap_u64_small (by omega) (by omega), u64_or_nat _ _ (by omega) (by omega)]
  congr 1
  rw [Nat.or_comm, ← Nat.two_pow_add_eq_or_of_lt hV]
  omega
theorem bel2 (w : World) (n : Nat) : Below w.heap.size w (w.drewN n) := below_drewN (Below.refl _ _) n
theorem Rb.drew {w : World} {B : Nat} {A : Option Addr} {xs : List Nat} (h : Rb w B A xs) (n : Nat) : Rb (w.drewN n) B A xs := h
set_option maxRecDepth 100000 in
set_option maxHeartbeats 4000000 in
theorem read_any (w : World) (B : Nat) (A : Option Addr) (c : Nat) (bs : List Nat) (l : Nat) (hl : bs.length = l) (hl2 : l ≤ 1000000000) (hb : ∀ x ∈ bs, x < 256) (hr : Rb w B A bs) :
    Calls Try.prog 26 #[.slice A l c] w fun e w' => ∃ n k : Nat, e = .returned (.tuple #[.int .u64 (n : Int), .int .i64 (k : Int)]) ∧ Rd bs n k ∧ Below w.heap.size w w' := by
  have HL := Lib.hid hl
  have HB := Lib.hid hb
  clear hb hl
  go_enter Try.func26, Try.ntmps26
  go_wp2
  go_step3
  go_wp2
  go_step3
  go_wp2
  go_loopw [4, 10] (fun v j wr => ∃ (i q : Nat), i ≤ l ∧ i ≤ 10 ∧ j = .int .i64 i ∧ v = .int .u64 (val (bs.take i) : Nat) ∧ wr = w.drewN q ∧ Hid (∀ (j : Nat) (hj : j < bs.length), j < i → 128 ≤ bs[j])) (fun _ j _ => l - (intOf j).toNat)
  case atStart => exact ⟨0, 0, by omega, by omega, rfl, rfl, rfl, Lib.hid (fun j hj h => absurd h (by omega))⟩
  case round =>
    obtain ⟨i, q, hi, hi10, rfl, rfl, rfl, HI⟩ := hrel
    by_cases hlt : i < l
    · have hlt' : i < bs.length := by rw [HL.out]; exact hlt
      obtain ⟨b1, off, rfl, _, hc⟩ := (hr.drew q).at hlt'
      have d0 : decide ((i : Int) < (l : Int)) = true := decide_eq_true (by omega)
      have wi : IntKind.i64.wrap ((i : Int) + 1) = (i : Int) + 1 := IntWalk.i64_in _ (by omega)
      have hb := HB.out bs[i] (List.getElem_mem hlt')
      obtain ⟨b, hbb⟩ : ∃ b, bs[i] = b := ⟨_, rfl⟩
      rw [hbb] at hc hb
      obtain ⟨r, hr1⟩ : ∃ r, b % 128 = r := ⟨_, rfl⟩
      have x1 : (b : Int) % 128 = (r : Int) := by omega
      have x2 : (b : Int).tmod 128 = (r : Int) := by rw [Int.tmod_eq_emod_of_nonneg (by omega)]; omega
      have hr128 : r < 128 := by omega
      have x3 : IntKind.u8.wrap (r : Int) = (r : Int) := IntWalk.u8_in _ (by omega)
      have x4 : IntKind.u64.wrap (r : Int) = (r : Int) := wrap_u64_small (by omega) (by omega)
      obtain ⟨hL1, hL2, hL3⟩ := bl_bound 7 r (by omega) (by omega)
      obtain ⟨L, hL⟩ : ∃ L, Lib.bitLen r = L := ⟨_, rfl⟩
      have HC : Hid (∀ W, Calls Try.prog 33 #[.int .u64 (r : Int)] W fun e w' => e = .returned (.int .i64 (L : Int)) ∧ W = w') := Lib.hid fun W => by
        have := len64_any (r : Int) W (by omega) (by omega)
        rw [Int.toNat_natCast, hL] at this
        exact this
      rw [hL] at hL1 hL2 hL3
      have x5 : IntKind.i64.wrap (7 * (i : Int)) = 7 * (i : Int) := IntWalk.i64_in _ (by omega)
      have x6 : IntKind.i64.wrap ((L : Int) + 7 * (i : Int)) = (L : Int) + 7 * (i : Int) := IntWalk.i64_in _ (by omega)
      have HHI : ∀ (j : Nat) (hj : j < bs.length), j < i → 128 ≤ bs[j] := HI.out
      by_cases c1 : 64 < L + 7 * i
      · have d1 : decide ((64 : Int) < (L : Int) + 7 * (i : Int)) = true := decide_eq_true (by omega)
        have HR := Lib.hid (rd_big (L := L) HHI hlt' (by rw [hbb, hr1]; exact hL2) (by omega))
        generalize hval : val (bs.take i) = V at *
        clear hL1 hL2 hL3 hL HI HHI hval hr1 hb hbb c1
        go_wp2_with (go_at_call 33; (with_reducible refine (HC.out _).mono ?_); rintro e w2 ⟨rfl, rfl⟩)
        (try rw [Exit.noGoto_ret])
        go_ret2
        exact ⟨0, 0, rfl, HR.out, bel2 _ _⟩
      · have d1 : decide ((64 : Int) < (L : Int) + 7 * (i : Int)) = false := decide_eq_false (by omega)
        by_cases c2 : b = 0 ∧ 0 < i
        · obtain ⟨rfl, c2⟩ := c2
          have d3 : decide ((0 : Int) < (i : Int)) = true := decide_eq_true (by omega)
          have d4 : decide (0 < i) = true := decide_eq_true c2
          have HR := Lib.hid (rd_nought HHI hlt' hbb c2)
          obtain rfl : r = 0 := by omega
          have HC0 : Hid (∀ W, Calls Try.prog 33 #[.int .u64 0] W fun e w' => e = .returned (.int .i64 (L : Int)) ∧ W = w') := Lib.hid HC.out
          generalize hval : val (bs.take i) = V at *
          clear hL1 hL2 hL3 hL HI HHI hval hr1 hb hbb c1
          go_wp2_with (go_at_call 33; (with_reducible refine (HC0.out _).mono ?_); rintro e w2 ⟨rfl, rfl⟩)
          (try rw [Exit.noGoto_ret])
          go_ret2
          exact ⟨0, 0, rfl, HR.out, bel2 _ _⟩
        · have hV := val_lt (bs.take i)
          rw [List.length_take, Nat.min_eq_left (by omega)] at hV
          have hor := or_val hV hL1 (by omega)
          by_cases c3 : b < 128
          · have hrb : r = b := by omega
            have HR := Lib.hid (rd_yes (L := L) HHI HB.out hlt' (by rw [hbb, ← hrb]; exact hL1) (by omega) (by rw [hbb]; exact c3) (by rw [hbb]; omega))
            have d5 : decide ((b : Int) < 128) = true := decide_eq_true (by omega)
            have d6 : decide (b < 128) = true := decide_eq_true c3
            rw [hbb, ← hrb] at HR
            have hi9 : i ≤ 9 := by omega
            generalize val (bs.take i) = V at *
            generalize 128 ^ i * r = Y at *
            clear hL1 hL2 hL3 hL HI HHI hr1 hbb c1 hV c3 hrb
            by_cases c4 : b = 0
            · have c5 : ¬ 0 < i := fun h => c2 ⟨c4, h⟩
              have d2 : ((b : Int) == 0) = true := beq_iff_eq.2 (by omega)
              have d3 : decide ((0 : Int) < (i : Int)) = false := decide_eq_false (by omega)
              have d4 : decide (0 < i) = false := decide_eq_false c5
              clear c2 c4 c5
              go_wp2_with (go_at_call 33; (with_reducible refine (HC.out _).mono ?_); rintro e w2 ⟨rfl, rfl⟩)
              (try rw [Exit.noGoto_ret])
              go_ret2
              exact ⟨V + Y, i + 1, by first | rfl | simp, HR.out, bel2 _ _⟩
            · have d2 : ((b : Int) == 0) = false := beq_eq_false_iff_ne.2 (by omega)
              clear c2 c4
              go_wp2_with (go_at_call 33; (with_reducible refine (HC.out _).mono ?_); rintro e w2 ⟨rfl, rfl⟩)
              (try rw [Exit.noGoto_ret])
              go_ret2
              exact ⟨V + Y, i + 1, by first | rfl | simp, HR.out, bel2 _ _⟩
          · have d2 : ((b : Int) == 0) = false := beq_eq_false_iff_ne.2 (by omega)
            have d3 : decide ((b : Int) < 128) = false := decide_eq_false (by omega)
            have d4 : decide (b < 128) = false := decide_eq_false (by omega)
            have hnext : val (bs.take (i + 1)) = val (bs.take i) + 128 ^ i * r := by
              rw [List.take_succ_eq_append_getElem hlt', val_snoc, List.length_take, Nat.min_eq_left (by omega), hbb, hr1]
            have HN := Lib.hid hnext
            have HI2 : Hid (∀ (j : Nat) (hj : j < bs.length), j < i + 1 → 128 ≤ bs[j]) := Lib.hid (fun j hj h => by
              rcases Nat.lt_or_ge j i with h1 | h1
              · exact HHI j hj h1
              · have : j = i := by omega
                subst this
                omega)
            have hi9 : i ≤ 9 := by omega
            generalize val (bs.take i) = V at *
            clear hL1 hL2 hL3 hL HI HHI hr1 hbb c1 hV c3 hnext c2
            generalize 128 ^ i * r = Y at *
            go_wp2_with (go_at_call 33; (with_reducible refine (HC.out _).mono ?_); rintro e w2 ⟨rfl, rfl⟩)
            go_roundw
            case rel => exact ⟨i + 1, q, by omega, by omega, by go_num, by rw [HN.out]; first | rw [hor] | simp, rfl, HI2⟩
            case measure => simp [intOf]; omega
    · have hil : i = l := by omega
      have HR := Lib.hid (rd_end (p := bs) (fun j hj => HI.out j hj (by have := HL.out; omega)))
      have d0 : decide ((i : Int) < (l : Int)) = false := decide_eq_false (by omega)
      generalize val (bs.take i) = V at *
      go_wp2
      (try rw [Exit.noGoto_ret])
      go_ret2
      exact ⟨0, 0, rfl, HR.out, bel2 _ _⟩
end E
end Go.Proofs.Ytclaejaicjmohaa
