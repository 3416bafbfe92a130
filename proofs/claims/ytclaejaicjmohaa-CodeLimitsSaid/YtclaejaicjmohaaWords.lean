
/- What the functions of package bit answer at every word: contracts of each, the program's text walked. -/
import Derived.Test.YtclaejaicjmohaaProg
import Derived.Test.YtclaejaicjmohaaMath
import Derived.WalkKit
import Derived.Laws.BitsAllLaws
import Derived.Laws.Bits64b
import Derived.Deep.QuietTactic
import Derived.BigQuiet
import Derived.Lib.Hide
import Derived.LoopTactic
import Derived.Lib.Strings
import Derived.Lib.Slices
import Derived.Lib.Small
import Derived.Lib.Walk
namespace Go.Proofs.Ytclaejaicjmohaa
open Go.RowKit

theorem wrap_u64_small {n : Int} (h0 : 0 ≤ n) (h : n < 18446744073709551616) : IntKind.u64.wrap n = n := by
  rw [IntKind.wrap_u64]; omega
theorem wrap_pow {i : Nat} (h : i < 64) : IntKind.u64.wrap ((2 : Int) ^ i) = ((2 ^ i : Nat) : Int) := by
  have h2 : 2 ^ i < 18446744073709551616 := Nat.pow_lt_pow_right (a := 2) (m := i) (n := 64) (by decide) h
  have e : ((2 : Int) ^ i) = ((2 ^ i : Nat) : Int) := by simp
  rw [e]
  generalize 2 ^ i = m at h2
  exact wrap_u64_small (by omega) (by omega)
theorem ret_int {k : IntKind} {a b : Int} (h : a = b) : Ending.returned (.int k a) = .returned (.int k b) := by rw [h]
theorem ret_bool {a b : Bool} (h : a = b) : Ending.returned (.bool a) = .returned (.bool b) := by rw [h]

theorem ofInt_i64 (a : Nat) (ha : a < 9223372036854775808) : (BitVec.ofInt 64 (a : Int)).toNat = a := by
  rw [BitVec.ofInt_natCast, BitVec.toNat_ofNat]; exact Nat.mod_eq_of_lt (by omega)
theorem i64_and_nat (a b : Nat) (ha : a < 9223372036854775808) (hb : b < 9223372036854775808) : bits .and .i64 (a : Int) (b : Int) = ((a &&& b : Nat) : Int) := by
  have hx : a &&& b < 2 ^ 63 := Nat.and_lt_two_pow _ (by omega)
  show IntKind.i64.wrap ((BitVec.ofInt 64 (a : Int) &&& BitVec.ofInt 64 (b : Int)).toNat : Int) = _
  rw [BitVec.toNat_and, ofInt_i64 a ha, ofInt_i64 b hb, IntKind.wrap_i64]
  omega

theorem pow_cast (i : Nat) : ((2 : Int) ^ i) = ((2 ^ i : Nat) : Int) := by simp
theorem mask_div : ∀ T, T ≤ 64 → 18446744073709551615 / 2 ^ (64 - T) = 2 ^ T - 1 := by decide +kernel
theorem tab_size : Lib.len8tab.size = 256 := by decide +kernel
theorem tab_all : ∀ n, n < 256 → ((Lib.len8tab[n]?).getD 0).toNat = Lib.bitLen n ∧ Lib.bitLen n ≤ 8 := by decide +kernel
theorem tab_len (b : Int) (h0 : 0 ≤ b) (h : b < 256) (hi : b.toNat < Lib.len8tab.size) : wrap64 ((Lib.len8tab[b.toNat]'hi).toNat : Int) = (Lib.bitLen b.toNat : Int) ∧ Lib.bitLen b.toNat ≤ 8 := by
  obtain ⟨h1, h2⟩ := tab_all b.toNat (by omega)
  rw [getElem?_pos Lib.len8tab b.toNat hi] at h1
  refine ⟨?_, h2⟩
  have e : ((Lib.len8tab[b.toNat]'hi).toNat : Int) = (Lib.bitLen b.toNat : Int) := by rw [← h1]; rfl
  rw [e]; unfold wrap64; omega
theorem len_fin (x b : Int) (k : Nat) (h0 : 0 ≤ x) (h1 : x ≤ 18446744073709551615) (hb0 : 0 ≤ b) (hb1 : b < 256) (hb : b.toNat = x.toNat / 2 ^ k) (hx : 2 ^ k ≤ x.toNat) (hk : k ≤ 56)
    (hi : b.toNat < Lib.len8tab.size) : wrap64 ((k : Int) + wrap64 ((Lib.len8tab[b.toNat]'hi).toNat : Int)) = (Lib.bitLen x.toNat : Int) := by
  obtain ⟨e, l⟩ := tab_len b hb0 hb1 hi
  have s := Lib.bitLen_shift k x.toNat hx (by omega)
  rw [e, s, ← hb]
  unfold wrap64
  omega
set_option maxHeartbeats 4000000 in
set_option maxRecDepth 100000 in
theorem len64_any (x : Int) (w : World) (h0 : 0 ≤ x) (h1 : x ≤ 18446744073709551615) :
    Calls Try.prog 33 #[.int .u64 x] w fun e w' => e = .returned (.int .i64 (Lib.bitLen x.toNat)) ∧ w = w' := by
  have hsz := tab_size
  go_enter Try.func33, Try.ntmps33
  go_wp2
  all_goals (go_ret; refine ⟨congrArg Ending.returned (congrArg (Value.int IntKind.i64) ?_), rfl⟩)
  all_goals first
    | exact len_fin x (x / 4294967296 / 65536 / 256) 56 h0 h1 (by omega) (by omega) (by omega) (by omega) (by decide) _
    | exact len_fin x (x / 4294967296 / 65536) 48 h0 h1 (by omega) (by omega) (by omega) (by omega) (by decide) _
    | exact len_fin x (x / 4294967296 / 256) 40 h0 h1 (by omega) (by omega) (by omega) (by omega) (by decide) _
    | exact len_fin x (x / 4294967296) 32 h0 h1 (by omega) (by omega) (by omega) (by omega) (by decide) _
    | exact len_fin x (x / 65536 / 256) 24 h0 h1 (by omega) (by omega) (by omega) (by omega) (by decide) _
    | exact len_fin x (x / 65536) 16 h0 h1 (by omega) (by omega) (by omega) (by omega) (by decide) _
    | exact len_fin x (x / 256) 8 h0 h1 (by omega) (by omega) (by omega) (by omega) (by decide) _
    | exact (by
        obtain ⟨e, l⟩ := tab_len x h0 (by omega) (by omega)
        rw [e]; unfold wrap64; omega)
/-- The table of the library's, as its text lays it. -/
def Tab (w : World) : Prop := ∀ j, j < 64 → w.cell? ⟨0, j, none⟩ = some (.int .u8 ((Lib.deBruijn64tab.getD j 0 : Nat) : Int))
theorem tz64_key (x a : Nat) (hx : x < 18446744073709551616) (hx0 : x ≠ 0) (hlow : x &&& (18446744073709551616 - x) = a) :
    IntKind.u64.wrap (bits BinOp.and IntKind.u64 (x : Int) (IntKind.u64.wrap (-(x : Int))) * 285870213051353865) / 288230376151711744 = ((a * 285870213051353865 % 18446744073709551616 / 288230376151711744 : Nat) : Int) := by
  have e1 : IntKind.u64.wrap (-(x : Int)) = ((18446744073709551616 - x : Nat) : Int) := by rw [IntKind.wrap_u64]; omega
  rw [e1, u64_and_nat x _ hx (by omega), hlow, IntKind.wrap_u64]
  omega
theorem Tab.drew {w : World} (h : Tab w) (n : Nat) : Tab (w.drewN n) := h
end Go.Proofs.Ytclaejaicjmohaa
