
/- What the functions of package bit answer at every word: contracts of each, the program's text walked. -/
import Derived.Test.YtndielncleohlaaDoorProg
import Derived.Test.YtndielncleohlaaDoorMath
import Derived.WalkKit
import Derived.Laws.BitsAllLaws
import Derived.Laws.Bits64b
import Derived.Deep.QuietTactic
import Derived.BigQuiet
import Derived.Lib.Hide
import Derived.LoopTactic
import Derived.Lib.Strings
import Derived.Lib.Slices
import Derived.Lib.Small
import Derived.Lib.Walk
namespace Go.Proofs.YtndielncleohlaaDoor
open Go.RowKit

theorem wrap_u64_small {n : Int} (h0 : 0 ≤ n) (h : n < 18446744073709551616) : IntKind.u64.wrap n = n := by
  rw [IntKind.wrap_u64]; omega
theorem wrap_pow {i : Nat} (h : i < 64) : IntKind.u64.wrap ((2 : Int) ^ i) = ((2 ^ i : Nat) : Int) := by
  have h2 : 2 ^ i < 18446744073709551616 := Nat.pow_lt_pow_right (a := 2) (m := i) (n := 64) (by decide) h
  have e : ((2 : Int) ^ i) = ((2 ^ i : Nat) : Int) := by simp
  rw [e]
  generalize 2 ^ i = m at h2
  exact wrap_u64_small (by omega) (by omega)
theorem ret_int {k : IntKind} {a b : Int} (h : a = b) : Ending.returned (.int k a) = .returned (.int k b) := by rw [h]
theorem ret_bool {a b : Bool} (h : a = b) : Ending.returned (.bool a) = .returned (.bool b) := by rw [h]

theorem ofInt_i64 (a : Nat) (ha : a < 9223372036854775808) : (BitVec.ofInt 64 (a : Int)).toNat = a := by
  rw [BitVec.ofInt_natCast, BitVec.toNat_ofNat]; exact Nat.mod_eq_of_lt (by omega)
theorem i64_and_nat (a b : Nat) (ha : a < 9223372036854775808) (hb : b < 9223372036854775808) : bits .and .i64 (a : Int) (b : Int) = ((a &&& b : Nat) : Int) := by
  have hx : a &&& b < 2 ^ 63 := Nat.and_lt_two_pow _ (by omega)
  show IntKind.i64.wrap ((BitVec.ofInt 64 (a : Int) &&& BitVec.ofInt 64 (b : Int)).toNat : Int) = _
  rw [BitVec.toNat_and, ofInt_i64 a ha, ofInt_i64 b hb, IntKind.wrap_i64]
  omega

theorem one_any (i : Int) (w : World) : Calls Tryd.prog 86 #[.int .i64 i] w fun e w' => e = .returned (.int .u64 (M.one i : Nat)) ∧ w = w' := by
  by_cases h0 : i < 0
  · have h1 : ¬ (0 ≤ i ∧ i < 64) := by omega
    go_enter Tryd.func86, Tryd.ntmps86
    go_wp2
    go_ret
    exact ⟨ret_int (by unfold M.one; rw [if_neg h1]; rfl), rfl⟩
  · by_cases h1 : 64 ≤ i
    · have h2 : ¬ (0 ≤ i ∧ i < 64) := by omega
      go_enter Tryd.func86, Tryd.ntmps86
      go_wp2
      go_ret
      exact ⟨ret_int (by unfold M.one; rw [if_neg h2]; rfl), rfl⟩
    · obtain ⟨n, rfl⟩ : ∃ n : Nat, i = n := ⟨i.toNat, by omega⟩
      have hn : n < 64 := by omega
      clear h0 h1
      go_enter Tryd.func86, Tryd.ntmps86
      go_wp2
      go_ret
      exact ⟨ret_int (by unfold M.one; rw [if_pos (by omega)]; exact wrap_pow hn), rfl⟩

theorem bit_get (x : Nat) (hx : x < 18446744073709551616) (i : Int) (w : World) :
    Calls Tryd.prog 68 #[.int .u64 (x : Int), .int .i64 i] w fun e w' => e = .returned (.bool (M.rHas (M.bz x) i)) ∧ w = w' := by
  go_enter Tryd.func68, Tryd.ntmps68
  go_wp2_with (go_at_call 86; refine (one_any _ _).mono ?_; rintro e w' ⟨rfl, rfl⟩)
  go_ret
  refine ⟨ret_bool ?_, rfl⟩
  rw [u64_and_nat x _ hx (M.one_lt i), ← M.get_eq]
  rw [Bool.eq_iff_iff]; simp

theorem bit_set (x : Nat) (hx : x < 18446744073709551616) (i : Int) (w : World) :
    Calls Tryd.prog 90 #[.int .u64 (x : Int), .int .i64 i] w fun e w' => e = .returned (.int .u64 ((x ||| M.one i : Nat) : Int)) ∧ w = w' := by
  go_enter Tryd.func90, Tryd.ntmps90
  go_wp2_with (go_at_call 86; refine (one_any _ _).mono ?_; rintro e w' ⟨rfl, rfl⟩)
  go_ret
  exact ⟨ret_int (u64_or_nat x _ hx (M.one_lt i)), rfl⟩

theorem bit_clear (x : Nat) (hx : x < 18446744073709551616) (i : Int) (w : World) :
    Calls Tryd.prog 93 #[.int .u64 (x : Int), .int .i64 i] w fun e w' => e = .returned (.int .u64 ((x &&& (18446744073709551615 - M.one i) : Nat) : Int)) ∧ w = w' := by
  go_enter Tryd.func93, Tryd.ntmps93
  go_wp2_with (go_at_call 86; refine (one_any _ _).mono ?_; rintro e w' ⟨rfl, rfl⟩)
  go_ret
  exact ⟨ret_int (u64_andNot_nat x _ hx (M.one_lt i)), rfl⟩

theorem bit_less (x : Nat) (hx : x < 18446744073709551616) (w : World) :
    Calls Tryd.prog 81 #[.int .u64 (x : Int)] w fun e w' => e = .returned (.int .u64 ((x &&& (x - 1) : Nat) : Int)) ∧ w = w' := by
  go_enter Tryd.func81, Tryd.ntmps81
  go_wp2
  go_ret
  refine ⟨ret_int ?_, rfl⟩
  by_cases h0 : x = 0
  · subst h0
    rw [IntKind.wrap_u64]
    exact u64_and_nat 0 18446744073709551615 (by decide) (by decide)
  · rw [wrap_u64_small (by omega) (by omega), ← u64_and_nat x _ hx (by omega)]
    congr 1
    omega

theorem pop64_any (x : Nat) (hx : x < 18446744073709551616) (w : World) :
    Calls Tryd.prog 95 #[.int .u64 (x : Int)] w fun e w' => e = .returned (.int .i64 ((M.bl x).length : Nat)) ∧ w = w' := by
  have big1 : (6148914691236517205 : Nat) < 18446744073709551616 := by decide
  obtain ⟨a, ha⟩ : ∃ a, a = M.s1 6148914691236517205 x := ⟨_, rfl⟩
  obtain ⟨b, hb⟩ : ∃ b, b = M.s2 3689348814741910323 a := ⟨_, rfl⟩
  obtain ⟨y, hy⟩ : ∃ y, y = M.s3 1085102592571150095 b := ⟨_, rfl⟩
  obtain ⟨z, hz⟩ : ∃ z, z = y + y / 256 := ⟨_, rfl⟩
  obtain ⟨u, hu⟩ : ∃ u, u = z + z / 65536 := ⟨_, rfl⟩
  obtain ⟨v, hv⟩ : ∃ v, v = u + u / 4294967296 := ⟨_, rfl⟩
  obtain ⟨vlt, zlt, ult, ylt, hlen⟩ := M.popcount x y z u v (by rw [hy, hb, ha]) hz hu hv
  have n1 : x / 2 &&& 6148914691236517205 ≤ 6148914691236517205 := Nat.and_le_right
  have n2 : x &&& 6148914691236517205 ≤ 6148914691236517205 := Nat.and_le_right
  have alt : a ≤ 12297829382473034410 := by rw [ha]; unfold M.s1; omega
  have n3 : a / 4 &&& 3689348814741910323 ≤ 3689348814741910323 := Nat.and_le_right
  have n4 : a &&& 3689348814741910323 ≤ 3689348814741910323 := Nat.and_le_right
  have blt : b ≤ 7378697629483820646 := by rw [hb]; unfold M.s2; omega
  have e1 : bits .and .u64 ((x : Int) / 2) 6148914691236517205 = ((x / 2 &&& 6148914691236517205 : Nat) : Int) := u64_and_nat (x / 2) _ (by omega) big1
  have e2 : bits .and .u64 (x : Int) 6148914691236517205 = ((x &&& 6148914691236517205 : Nat) : Int) := u64_and_nat x _ hx big1
  have e3 : IntKind.u64.wrap (((x / 2 &&& 6148914691236517205 : Nat) : Int) + ((x &&& 6148914691236517205 : Nat) : Int)) = (a : Int) := by
    rw [wrap_u64_small (by omega) (by omega), ha]; rfl
  have e4 : bits .and .u64 ((a : Int) / 4) 3689348814741910323 = ((a / 4 &&& 3689348814741910323 : Nat) : Int) := u64_and_nat (a / 4) _ (by omega) (by decide)
  have e5 : bits .and .u64 (a : Int) 3689348814741910323 = ((a &&& 3689348814741910323 : Nat) : Int) := u64_and_nat a _ (by omega) (by decide)
  have e6 : IntKind.u64.wrap (((a / 4 &&& 3689348814741910323 : Nat) : Int) + ((a &&& 3689348814741910323 : Nat) : Int)) = (b : Int) := by
    rw [wrap_u64_small (by omega) (by omega), hb]; rfl
  have e7 : IntKind.u64.wrap ((b : Int) / 16 + (b : Int)) = (b : Int) / 16 + (b : Int) := wrap_u64_small (by omega) (by omega)
  have e8 : bits .and .u64 ((b : Int) / 16 + (b : Int)) 1085102592571150095 = (y : Int) := by
    rw [hy]; exact u64_and_nat (b / 16 + b) _ (by omega) (by decide)
  have e9 : IntKind.u64.wrap ((y : Int) + (y : Int) / 256) = (z : Int) := by
    rw [wrap_u64_small (by omega) (by omega), hz]; omega
  have e10 : IntKind.u64.wrap ((z : Int) + (z : Int) / 65536) = (u : Int) := by
    rw [wrap_u64_small (by omega) (by omega), hu]; omega
  have e11 : IntKind.u64.wrap ((u : Int) + (u : Int) / 4294967296) = (v : Int) := by
    rw [wrap_u64_small (by omega) (by omega), hv]; omega
  have e12 : wrap64 (v : Int) = (v : Int) := by unfold wrap64; omega
  have e13 : bits .and .i64 (v : Int) 127 = ((v % 128 : Nat) : Int) := by
    rw [← nat_mask7]; exact i64_and_nat v 127 vlt (by decide)
  rw [hlen] at e13
  clear ha hb hy hz hu hv n1 n2 n3 n4 alt blt zlt ult ylt big1
  clear hlen vlt
  go_enter Tryd.func95, Tryd.ntmps95
  go_wp2
  go_ret
  exact ⟨rfl, rfl⟩

theorem bit_count (x : Nat) (hx : x < 18446744073709551616) (w : World) :
    Calls Tryd.prog 80 #[.int .u64 (x : Int)] w fun e w' => e = .returned (.int .i64 ((M.bl x).length : Nat)) ∧ w = w' := by
  go_enter Tryd.func80, Tryd.ntmps80
  go_wp2_with (go_at_call 95; refine (pop64_any _ hx _).mono ?_; rintro e w' ⟨rfl, rfl⟩)
  go_ret
  exact ⟨rfl, rfl⟩

theorem pow_cast (i : Nat) : ((2 : Int) ^ i) = ((2 ^ i : Nat) : Int) := by simp
theorem mask_div : ∀ T, T ≤ 64 → 18446744073709551615 / 2 ^ (64 - T) = 2 ^ T - 1 := by decide +kernel
theorem mask_core (f t : Int) (F T : Nat) (w : World) (hf : max f 0 = (F : Int)) (ht : min t 64 = (T : Int)) (h : F < T) (h2 : T ≤ 64) :
    Calls Tryd.prog 84 #[.int .i64 f, .int .i64 t] w fun e w' => e = .returned (.int .u64 ((((18446744073709551615 * 2 ^ F) % 18446744073709551616) &&& (2 ^ T - 1) : Nat) : Int)) ∧ ∃ n, w' = w.drewN n := by
  go_enter Tryd.func84, Tryd.ntmps84
  go_wp2
  go_quiet (fail)
  go_wp2
  go_ret
  refine ⟨ret_int ?_, _, rfl⟩
  have e1 : IntKind.u64.wrap (18446744073709551615 * 2 ^ F) = ((18446744073709551615 * 2 ^ F % 18446744073709551616 : Nat) : Int) := by
    rw [IntKind.wrap_u64, pow_cast]; generalize 2 ^ F = m; omega
  have e2 : (18446744073709551615 : Int) / 2 ^ (64 - T) = ((2 ^ T - 1 : Nat) : Int) := by
    have h3 : 18446744073709551615 / 2 ^ (64 - T) = 2 ^ T - 1 := mask_div T h2
    rw [← h3, pow_cast]; exact (Int.natCast_ediv 18446744073709551615 (2 ^ (64 - T))).symm
  rw [e1, e2]
  exact u64_and_nat _ _ (Nat.mod_lt _ (by decide)) (by have := Nat.pow_le_pow_right (n := 2) (by decide) h2; omega)
theorem mask_zero (f t : Int) (w : World) (h : min t 64 ≤ max f 0) :
    Calls Tryd.prog 84 #[.int .i64 f, .int .i64 t] w fun e w' => e = .returned (.int .u64 0) ∧ w = w' := by
  go_enter Tryd.func84, Tryd.ntmps84
  go_wp2
  all_goals go_ret
  all_goals exact ⟨rfl, rfl⟩
theorem bit_mask (f t : Int) (w : World) :
    Calls Tryd.prog 84 #[.int .i64 f, .int .i64 t] w fun e w' => e = .returned (.int .u64 (M.mask f t : Nat)) ∧ ∃ n, w' = w.drewN n := by
  by_cases h : min t 64 ≤ max f 0
  · refine (mask_zero f t w h).mono ?_
    rintro e w' ⟨rfl, rfl⟩
    exact ⟨ret_int (by unfold M.mask; rw [if_pos h]; rfl), 0, rfl⟩
  · refine (mask_core f t (max f 0).toNat (min t 64).toNat w (by omega) (by omega) (by omega) (by omega)).mono ?_
    rintro e w' ⟨rfl, n, rfl⟩
    exact ⟨ret_int (by unfold M.mask; rw [if_neg h]), n, rfl⟩
theorem tab_size : Lib.len8tab.size = 256 := by decide +kernel
theorem tab_all : ∀ n, n < 256 → ((Lib.len8tab[n]?).getD 0).toNat = Lib.bitLen n ∧ Lib.bitLen n ≤ 8 := by decide +kernel
theorem tab_len (b : Int) (h0 : 0 ≤ b) (h : b < 256) (hi : b.toNat < Lib.len8tab.size) : wrap64 ((Lib.len8tab[b.toNat]'hi).toNat : Int) = (Lib.bitLen b.toNat : Int) ∧ Lib.bitLen b.toNat ≤ 8 := by
  obtain ⟨h1, h2⟩ := tab_all b.toNat (by omega)
  rw [getElem?_pos Lib.len8tab b.toNat hi] at h1
  refine ⟨?_, h2⟩
  have e : ((Lib.len8tab[b.toNat]'hi).toNat : Int) = (Lib.bitLen b.toNat : Int) := by rw [← h1]; rfl
  rw [e]; unfold wrap64; omega
theorem len_fin (x b : Int) (k : Nat) (h0 : 0 ≤ x) (h1 : x ≤ 18446744073709551615) (hb0 : 0 ≤ b) (hb1 : b < 256) (hb : b.toNat = x.toNat / 2 ^ k) (hx : 2 ^ k ≤ x.toNat) (hk : k ≤ 56)
    (hi : b.toNat < Lib.len8tab.size) : wrap64 ((k : Int) + wrap64 ((Lib.len8tab[b.toNat]'hi).toNat : Int)) = (Lib.bitLen x.toNat : Int) := by
  obtain ⟨e, l⟩ := tab_len b hb0 hb1 hi
  have s := Lib.bitLen_shift k x.toNat hx (by omega)
  rw [e, s, ← hb]
  unfold wrap64
  omega
set_option maxHeartbeats 4000000 in
set_option maxRecDepth 100000 in
theorem len64_any (x : Int) (w : World) (h0 : 0 ≤ x) (h1 : x ≤ 18446744073709551615) :
    Calls Tryd.prog 100 #[.int .u64 x] w fun e w' => e = .returned (.int .i64 (Lib.bitLen x.toNat)) ∧ w = w' := by
  have hsz := tab_size
  go_enter Tryd.func100, Tryd.ntmps100
  go_wp2
  all_goals (go_ret; refine ⟨congrArg Ending.returned (congrArg (Value.int IntKind.i64) ?_), rfl⟩)
  all_goals first
    | exact len_fin x (x / 4294967296 / 65536 / 256) 56 h0 h1 (by omega) (by omega) (by omega) (by omega) (by decide) _
    | exact len_fin x (x / 4294967296 / 65536) 48 h0 h1 (by omega) (by omega) (by omega) (by omega) (by decide) _
    | exact len_fin x (x / 4294967296 / 256) 40 h0 h1 (by omega) (by omega) (by omega) (by omega) (by decide) _
    | exact len_fin x (x / 4294967296) 32 h0 h1 (by omega) (by omega) (by omega) (by omega) (by decide) _
    | exact len_fin x (x / 65536 / 256) 24 h0 h1 (by omega) (by omega) (by omega) (by omega) (by decide) _
    | exact len_fin x (x / 65536) 16 h0 h1 (by omega) (by omega) (by omega) (by omega) (by decide) _
    | exact len_fin x (x / 256) 8 h0 h1 (by omega) (by omega) (by omega) (by omega) (by decide) _
    | exact (by
        obtain ⟨e, l⟩ := tab_len x h0 (by omega) (by omega)
        rw [e]; unfold wrap64; omega)
theorem tz64_zero (w : World) :
    Calls Tryd.prog 96 #[.int .u64 0] w fun e w' => e = .returned (.int .i64 64) ∧ w = w' := by
  go_enter Tryd.func96, Tryd.ntmps96
  go_wp2
  go_ret
  exact ⟨rfl, rfl⟩
theorem tz64_core (x k idx : Nat) (w : World) (hx0 : ((x : Int) == 0) = false)
    (key : IntKind.u64.wrap (bits BinOp.and IntKind.u64 (x : Int) (IntKind.u64.wrap (-(x : Int))) * 285870213051353865) / 288230376151711744 = (idx : Int))
    (hi : idx < 64) (hk : k < 64) (hcell : w.cell? ⟨0, idx, none⟩ = some (.int .u8 (k : Int))) :
    Calls Tryd.prog 96 #[.int .u64 (x : Int)] w fun e w' => e = .returned (.int .i64 k) ∧ w = w' := by
  go_enter Tryd.func96, Tryd.ntmps96
  go_wp2
  go_ret
  exact ⟨rfl, rfl⟩

/-- The table of the library's, as its text lays it. -/
def Tab (w : World) : Prop := ∀ j, j < 64 → w.cell? ⟨0, j, none⟩ = some (.int .u8 ((Lib.deBruijn64tab.getD j 0 : Nat) : Int))
theorem tz64_key (x a : Nat) (hx : x < 18446744073709551616) (hx0 : x ≠ 0) (hlow : x &&& (18446744073709551616 - x) = a) :
    IntKind.u64.wrap (bits BinOp.and IntKind.u64 (x : Int) (IntKind.u64.wrap (-(x : Int))) * 285870213051353865) / 288230376151711744 = ((a * 285870213051353865 % 18446744073709551616 / 288230376151711744 : Nat) : Int) := by
  have e1 : IntKind.u64.wrap (-(x : Int)) = ((18446744073709551616 - x : Nat) : Int) := by rw [IntKind.wrap_u64]; omega
  rw [e1, u64_and_nat x _ hx (by omega), hlow, IntKind.wrap_u64]
  omega
theorem tz64_any (x : Nat) (hx : x < 18446744073709551616) (h0 : x ≠ 0) (w : World) (hT : Tab w) :
    Calls Tryd.prog 96 #[.int .u64 (x : Int)] w fun e w' => e = .returned (.int .i64 (Lib.ctz 64 x : Nat)) ∧ w = w' := by
  obtain ⟨hlow, hk⟩ := Lib.lowest_bit 64 x h0 hx
  obtain ⟨hi, htab⟩ := Lib.deBruijn64_at _ hk
  have hcell := hT _ hi
  rw [htab] at hcell
  exact tz64_core x _ _ w (by simp; omega) (tz64_key x _ hx h0 hlow) hi hk hcell

theorem bit_low (x : Nat) (hx : x < 18446744073709551616) (w : World) (hT : Tab w) :
    Calls Tryd.prog 82 #[.int .u64 (x : Int)] w fun e w' => e = .returned (.int .i64 (M.low x)) ∧ w = w' := by
  by_cases h0 : x = 0
  · subst h0
    rw [M.low_zero]
    go_enter Tryd.func82, Tryd.ntmps82
    go_wp2
    go_ret
    exact ⟨rfl, rfl⟩
  · rw [M.low_ne hx h0]
    have hx0 : ((x : Int) == 0) = false := by simp; omega
    go_enter Tryd.func82, Tryd.ntmps82
    go_wp2_with (go_at_call 96; refine (tz64_any _ hx h0 _ hT).mono ?_; rintro e w' ⟨rfl, rfl⟩)
    go_ret
    exact ⟨rfl, rfl⟩
theorem bit_high (x : Nat) (hx : x < 18446744073709551616) (w : World) :
    Calls Tryd.prog 94 #[.int .u64 (x : Int)] w fun e w' => e = .returned (.int .i64 (M.high x)) ∧ w = w' := by
  have hl := Lib.bitLen_le x 64 (by decide) hx
  have e : wrap64 ((Lib.bitLen x : Int) - 1) = (Lib.bitLen x : Int) - 1 := by unfold wrap64; omega
  rw [M.high_eq hx]
  go_enter Tryd.func94, Tryd.ntmps94
  go_wp2_with (go_at_call 100; refine (len64_any (x : Int) _ (by omega) (by omega)).mono ?_; rintro e w' ⟨rfl, rfl⟩)
  go_ret
  exact ⟨rfl, rfl⟩
theorem Tab.drew {w : World} (h : Tab w) (n : Nat) : Tab (w.drewN n) := h
theorem bit_next (x : Nat) (hx : x < 18446744073709551616) (i : Int) (w : World) (hT : Tab w) :
    Calls Tryd.prog 77 #[.int .u64 (x : Int), .int .i64 i] w fun e w' => e = .returned (.int .i64 (M.rNext (M.bz x) i)) ∧ ∃ n, w' = w.drewN n := by
  have hand : bits .and .u64 (x : Int) (M.mask i 64 : Nat) = ((x &&& M.mask i 64 : Nat) : Int) := u64_and_nat x _ hx (M.mask_lt _ _)
  have hlt : x &&& M.mask i 64 < 18446744073709551616 := Nat.lt_of_le_of_lt Nat.and_le_left hx
  rw [← M.next_eq]
  go_enter Tryd.func77, Tryd.ntmps77
  go_wp2_with (first | (go_at_call 84; refine (bit_mask _ _ _).mono ?_; rintro e w' ⟨rfl, n, rfl⟩) | (go_at_call 82; refine (bit_low _ hlt _ (Tab.drew hT _)).mono ?_; rintro e w' ⟨rfl, rfl⟩))
  go_ret
  exact ⟨rfl, _, rfl⟩
theorem bit_rank (x : Nat) (hx : x < 18446744073709551616) (i : Int) (w : World) :
    Calls Tryd.prog 63 #[.int .u64 (x : Int), .int .i64 i] w fun e w' => e = .returned (.int .i64 (M.rRank (M.bz x) i : Nat)) ∧ ∃ n, w' = w.drewN n := by
  have hand : bits .and .u64 (x : Int) (M.mask 0 i : Nat) = ((x &&& M.mask 0 i : Nat) : Int) := u64_and_nat x _ hx (M.mask_lt _ _)
  have hlt : x &&& M.mask 0 i < 18446744073709551616 := Nat.lt_of_le_of_lt Nat.and_le_left hx
  rw [← M.rank_eq]
  go_enter Tryd.func63, Tryd.ntmps63
  go_wp2_with (first | (go_at_call 84; refine (bit_mask _ _ _).mono ?_; rintro e w' ⟨rfl, n, rfl⟩) | (go_at_call 80; refine (bit_count _ hlt _).mono ?_; rintro e w' ⟨rfl, rfl⟩))
  go_ret
  exact ⟨rfl, _, rfl⟩
theorem bit_prev (x : Nat) (hx : x < 18446744073709551616) (i : Int) (hi : -9223372036854775808 ≤ i) (w : World) :
    Calls Tryd.prog 79 #[.int .u64 (x : Int), .int .i64 i] w fun e w' => e = .returned (.int .i64 (M.rPrev (M.bz x) i)) ∧ ∃ n, w' = w.drewN n := by
  by_cases h : 64 ≤ i
  · rw [← M.prev_big x i h]
    go_enter Tryd.func79, Tryd.ntmps79
    go_wp2_with (go_at_call 94; refine (bit_high _ hx _).mono ?_; rintro e w' ⟨rfl, rfl⟩)
    go_ret
    exact ⟨rfl, 0, rfl⟩
  · have hand : bits .and .u64 (x : Int) (M.mask 0 (i + 1) : Nat) = ((x &&& M.mask 0 (i + 1) : Nat) : Int) := u64_and_nat x _ hx (M.mask_lt _ _)
    have hlt : x &&& M.mask 0 (i + 1) < 18446744073709551616 := Nat.lt_of_le_of_lt Nat.and_le_left hx
    rw [← M.prev_eq]
    have h' : i < 64 := by omega
    clear h
    go_enter Tryd.func79, Tryd.ntmps79
    go_wp2_with (first | (go_at_call 84; refine (bit_mask _ _ _).mono ?_; rintro e w' ⟨rfl, n, rfl⟩) | (go_at_call 94; refine (bit_high _ hlt _).mono ?_; rintro e w' ⟨rfl, rfl⟩))
    go_ret
    exact ⟨rfl, _, rfl⟩

theorem bit_select (x : Nat) (hx : x < 18446744073709551616) (k : Int) (w : World) (hT : Tab w) :
    Calls Tryd.prog 60 #[.int .u64 (x : Int), .int .i64 k] w fun e w' => e = .returned (.int .i64 (M.rSel (M.bz x) k)) ∧ w = w' := by
  by_cases h0 : k < 0
  · rw [M.select_out x k (.inl h0)]
    go_enter Tryd.func60, Tryd.ntmps60
    go_wp2
    go_ret
    exact ⟨rfl, rfl⟩
  · obtain ⟨n, rfl⟩ : ∃ n : Nat, k = n := ⟨k.toNat, by omega⟩
    clear h0
    by_cases hn : n < (M.bl x).length
    · have hle : (M.bl x).length ≤ 64 := by
        unfold M.bl
        exact Nat.le_trans (List.length_filter_le _ _) (by simp)
      rw [← M.select_eq x n hx]
      have d1 : decide ((M.bl x).length ≤ n) = false := by rw [decide_eq_false_iff_not]; omega
      have d0 : decide ((n : Int) < 0) = false := by rw [decide_eq_false_iff_not]; omega
      go_enter Tryd.func60, Tryd.ntmps60
      go_wp2_with (go_at_call 80; refine (bit_count _ hx _).mono ?_; rintro e w' ⟨rfl, rfl⟩)
      go_loop [0, 14] (fun q i => ∃ j : Nat, j ≤ n ∧ i = .int .i64 j ∧ q = .int .u64 (M.less j x : Nat)) (fun _ i => n - (intOf i).toNat)
      case atStart => exact ⟨0, by omega, rfl, rfl⟩
      case round =>
        obtain ⟨j, hj, rfl, rfl⟩ := hrel
        have hlt := M.less_lt j x hx
        by_cases hjn : j < n
        · have hs := Lib.hid (M.less_succ j x)
          go_wp2_with (go_at_call 81; refine (bit_less _ hlt _).mono ?_; rintro e w' ⟨rfl, rfl⟩)
          go_round
          case rel => exact ⟨j + 1, by omega, by go_num, by rw [hs.out]⟩
          case measure => simp [intOf]; omega
        · obtain rfl : j = n := by omega
          go_wp2_with (go_at_call 82; refine (bit_low _ hlt _ hT).mono ?_; rintro e w' ⟨rfl, rfl⟩)
          go_ret
          exact ⟨rfl, rfl⟩
    · rw [M.select_out x n (.inr (by omega))]
      go_enter Tryd.func60, Tryd.ntmps60
      go_wp2_with (go_at_call 80; refine (bit_count _ hx _).mono ?_; rintro e w' ⟨rfl, rfl⟩)
      go_ret
      exact ⟨rfl, rfl⟩
end Go.Proofs.YtndielncleohlaaDoor
