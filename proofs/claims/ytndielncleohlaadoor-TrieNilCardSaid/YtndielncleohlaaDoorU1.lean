
/- The trie's small functions: digit, key, child; the texts walked. -/
import Derived.Test.YtndielncleohlaaDoorQ2
import Derived.Test.YtndielncleohlaaDoorT2
namespace Go.Proofs.YtndielncleohlaaDoor
set_option maxRecDepth 40000
open Go.RowKit
namespace T
theorem pow64 (l : Nat) (hl : l ≤ 10) : 64 ^ (11 - (l + 1)) = 2 ^ (6 * (10 - l)) := by
  rw [show (64 : Nat) = 2 ^ 6 from rfl, ← Nat.pow_mul]
  congr 1
  omega
theorem dig_eq (l k : Nat) (hl : l ≤ 10) : dig l k = (k / 2 ^ (6 * (10 - l))) &&& 63 := by
  unfold dig pre
  rw [pow64 l hl]
  exact (Nat.and_two_pow_sub_one_eq_mod _ 6).symm
end T
set_option maxHeartbeats 1000000 in
theorem t_digit (w : World) (k l : Nat) (hk : k < 18446744073709551616) (hl : l ≤ 10) :
    Calls Tryd.prog 64 #[.int .u64 (k : Int), .int .i64 (l : Int)] w fun e w' => e = .returned (.int .i64 ((T.dig l k : Nat) : Int)) ∧ w = w' := by
  have hE := Lib.hid (T.dig_eq l k hl)
  have hlt := T.dig_lt l k
  have q1 : IntKind.i64.wrap (10 - (l : Int)) = ((10 - l : Nat) : Int) := by rw [IntWalk.i64_in _ (by omega)]; omega
  have q2 : IntKind.i64.wrap (6 * ((10 - l : Nat) : Int)) = ((6 * (10 - l) : Nat) : Int) := by rw [IntWalk.i64_in _ (by omega)]; omega
  have q3 : bits .and .u64 ((k : Int) / 2 ^ (6 * (10 - l))) 63 = ((T.dig l k : Nat) : Int) := by
    have e : ((k : Int) / 2 ^ (6 * (10 - l))) = ((k / 2 ^ (6 * (10 - l)) : Nat) : Int) := by simp
    have h2 : k / 2 ^ (6 * (10 - l)) < 18446744073709551616 := Nat.lt_of_le_of_lt (Nat.div_le_self _ _) hk
    rw [hE.out, e]
    exact u64_and_nat _ 63 h2 (by decide)
  generalize T.dig l k = d at *
  go_enter Tryd.func64, Tryd.ntmps64
  go_wp2
  go_ret
  exact ⟨rfl, rfl⟩
namespace T
theorem key_eq (le d : Nat) (h : le < 18446744073709551616) (hd : d < 64) : (le &&& (18446744073709551615 - 63)) ||| d = pre 10 le * 64 + d := by
  have e1 : le &&& (18446744073709551615 - 63) = 2 ^ 6 * (le / 2 ^ 6) := by
    refine Nat.eq_of_testBit_eq fun i => ?_
    rw [Nat.testBit_and, Nat.testBit_two_pow_mul, Nat.testBit_div_two_pow]
    have e2 : (18446744073709551615 - 63 : Nat) = 2 ^ 6 * (2 ^ 58 - 1) := by decide
    rw [e2, Nat.testBit_two_pow_mul, Nat.testBit_two_pow_sub_one]
    by_cases h6 : 6 ≤ i
    · rw [show i - 6 + 6 = i by omega]
      by_cases h58 : i - 6 < 58
      · simp [h6, h58]
      · have : le.testBit i = false := Nat.testBit_lt_two_pow (Nat.lt_of_lt_of_le h (by
          have : (18446744073709551616 : Nat) = 2 ^ 64 := by decide
          rw [this]
          exact Nat.pow_le_pow_right (by decide) (by omega)))
        simp [h6, h58, this]
    · simp [h6]
  rw [e1, ← Nat.two_pow_add_eq_or_of_lt (by simpa using hd)]
  unfold pre
  simp
  omega
end T
/-- A call that makes memory and answers a number. -/
def RetB (w : World) (v : Value) (e : Ending) (w' : World) : Prop := e = .returned v ∧ Below w.heap.size w w'
set_option maxHeartbeats 1000000 in
theorem t_key (w : World) (W : Nat) (A : Option Addr) (n c ks le gr d : Nat) (hle : le < 18446744073709551616) (hd : d < 64) :
    Calls Tryd.prog 59 #[ndv W A n c ks le gr, .int .i64 (d : Int)] w (RetB w (.int .u64 ((T.pre 10 le * 64 + d : Nat) : Int))) := by
  have hE := Lib.hid (T.key_eq le d hle hd)
  have q1 : bits .andNot .u64 (le : Int) 63 = ((le &&& (18446744073709551615 - 63) : Nat) : Int) := u64_andNot_nat le 63 hle (by decide)
  have h2 : (le &&& (18446744073709551615 - 63)) < 18446744073709551616 := Nat.lt_of_le_of_lt Nat.and_le_left hle
  have q2 : bits .or .u64 ((le &&& (18446744073709551615 - 63) : Nat) : Int) (d : Int) = ((T.pre 10 le * 64 + d : Nat) : Int) := by
    rw [u64_or_nat _ d h2 (by omega), hE.out]
  generalize (le &&& (18446744073709551615 - 63)) = b at *
  generalize T.pre 10 le * 64 + d = r at *
  go_enter Tryd.func59, Tryd.ntmps59
  go_wp2
  go_ret
  exact ⟨rfl, (Below.refl _ w).alloc (Nat.le_refl _) _⟩
set_option maxHeartbeats 1000000 in
theorem t_child (w : World) (W : Nat) (A : Option Addr) (ch : List Nat) (c ks le gr d : Nat) (hW : W < 18446744073709551616) (hd : d < 64) (hown : w.ownsRow 0 3 1 (.slice A ch.length c) ch.length (iw ch)) (hr : K.fi (M.bl W) d < ch.length) (hl : ch.length ≤ 64) :
    Calls Tryd.prog 69 #[ndv W A ch.length c ks le gr, .int .i64 (d : Int)] w (RetB w (.int .i64 ((ch[K.fi (M.bl W) d]'hr : Nat) : Int))) := by
  obtain ⟨g, rfl⟩ := own_some hown (by omega)
  have hb : Below w.heap.size w (w.alloc (ndo W (some ⟨g, 0, none⟩) ch.length c ks le gr)) := (Below.refl _ w).alloc (Nat.le_refl _) _
  have ho2 := (K.Chg.of_below (O := fun _ => False) hb).own hown (fun _ _ h => h)
  have hc := ho2.cellAt (K.fi (M.bl W) d) (by omega)
  have he : (iw ch)[K.fi (M.bl W) d]? = some (.int .i64 ((ch[K.fi (M.bl W) d]'hr : Nat) : Int)) := by simp [hr]
  rw [he] at hc
  have hrk := fun N => Lib.hid (bit_rank W hW (d : Int) ((w.alloc (ndo W (some ⟨g, 0, none⟩) ch.length c ks le gr)).drewN N))
  rw [T.rank_fi] at hrk
  have k1 : ((K.fi (M.bl W) d : Nat) : Int) < (ch.length : Int) := by omega
  clear ho2 he hown
  generalize ch[K.fi (M.bl W) d]'hr = z at *
  generalize K.fi (M.bl W) d = r at *
  generalize ch.length = n at *
  have HB := Lib.hid hb
  clear hb
  go_enter Tryd.func69, Tryd.ntmps69
  go_wp2
  go_quiet ((go_at_call 63; exact Calls.quiet_of (hrk _).out))
  go_wp2
  go_ret
  exact ⟨rfl, below_drewN HB.out _⟩
end Go.Proofs.YtndielncleohlaaDoor
