
/- A table's numbers: mix, home, round, behind, way; the texts walked. -/
import Derived.Test.YtihhkdcgnnfkkaaHMath
import Derived.Test.YtihhkdcgnnfkkaaMAny
import Derived.WalkKit
import Derived.OwnWalk
import Derived.Laws.OwnMore
import Derived.Below
import Derived.LoopTactic
import Derived.RegionTactic
import Derived.Outline
import Derived.Lib.Hide
import Derived.Deep.Draws
import Derived.Deep.QuietTactic
import Derived.BigQuiet
import Derived.Laws.Rows
namespace Go.Proofs.Ytihhkdcgnnfkkaa.Hs
set_option maxRecDepth 4000
open Go.RowKit
theorem u64_in (x : Int) (h : 0 ≤ x) (h2 : x < 18446744073709551616) : IntKind.u64.wrap x = x := by
  simp [IntKind.wrap, IntKind.signed, IntKind.bits]; omega
theorem u64_bounds (x : Int) : 0 ≤ IntKind.u64.wrap x ∧ IntKind.u64.wrap x < 18446744073709551616 := by
  simp [IntKind.wrap, IntKind.signed, IntKind.bits]; omega
def mixI (x : Int) : Int :=
  let a := IntKind.u64.wrap (x + 11400714819323198485)
  let b := IntKind.u64.wrap (bits BinOp.xor IntKind.u64 a (a / 1073741824) * 13787848793156543929)
  let c := IntKind.u64.wrap (bits BinOp.xor IntKind.u64 b (b / 134217728) * 10723151780598845931)
  bits BinOp.xor IntKind.u64 c (c / 2147483648)
theorem bits_u64 (o : BinOp) (a b : Int) : 0 ≤ bits o .u64 a b ∧ bits o .u64 a b < 18446744073709551616 := by
  unfold bits
  exact u64_bounds _
theorem mix_any (x : Int) (w : World) :
    Calls Try.prog 50 #[.int .u64 x] w fun e w' => e = .returned (.int .u64 (mixI x)) ∧ w = w' := by
  go_enter Try.func50, Try.ntmps50
  go_wp2
  go_ret
  exact ⟨rfl, rfl⟩
theorem mix_bounds (x : Int) : 0 ≤ mixI x ∧ mixI x < 18446744073709551616 := by
  unfold mixI
  exact bits_u64 _ _ _
/-- A key's home among n places. -/
def hmI (seed : Nat) (k : H.Key) : Int := mixI (bits BinOp.xor .u64 (k.2 : Int) (mixI (IntKind.u64.wrap ((seed : Int) + (k.1 : Int)))))
def hmN (seed n : Nat) (k : H.Key) : Nat := (hmI seed k).toNat % n
theorem hmN_lt (seed n : Nat) (k : H.Key) (h : 0 < n) : hmN seed n k < n := Nat.mod_lt _ h
theorem u64_mask (y : Int) (q n : Nat) (hy : 0 ≤ y) (hy2 : y < 18446744073709551616) (hq : q ≤ 60) (hn : n = 2 ^ q) : bits .and .u64 y ((n : Int) - 1) = ((y.toNat % n : Nat) : Int) := by
  obtain ⟨y, rfl⟩ : ∃ m : Nat, y = m := ⟨y.toNat, by omega⟩
  have h1 : 1 ≤ 2 ^ q := Nat.one_le_two_pow
  have h2 : (2 : Nat) ^ q ≤ 2 ^ 60 := Nat.pow_le_pow_right (by decide) hq
  have e : (n : Int) - 1 = ((2 ^ q - 1 : Nat) : Int) := by subst hn; omega
  rw [e]
  have hx : y &&& (2 ^ q - 1) = y % 2 ^ q := Nat.and_two_pow_sub_one_eq_mod _ _
  have hlt : y % 2 ^ q < 18446744073709551616 := Nat.lt_of_le_of_lt (Nat.mod_le _ _) (by omega)
  show IntKind.u64.wrap ((BitVec.ofInt 64 (y : Int) &&& BitVec.ofInt 64 ((2 ^ q - 1 : Nat) : Int)).toNat : Int) = _
  have e2 : (BitVec.ofInt 64 (y : Int) &&& BitVec.ofInt 64 ((2 ^ q - 1 : Nat) : Int)).toNat = y % 2 ^ q := by
    rw [BitVec.toNat_and]
    have a1 : (BitVec.ofInt 64 (y : Int)).toNat = y := by simp; omega
    have a2 : (BitVec.ofInt 64 ((2 ^ q - 1 : Nat) : Int)).toNat = 2 ^ q - 1 := by
      generalize 2 ^ q - 1 = u at *
      simp; omega
    rw [a1, a2, hx]
  rw [e2, hn]
  exact u64_in _ (by omega) (by omega)

/-- Block P is a table's struct: its meter M, its seed, its places in Q, how many entries, how many were looked at. -/
def TRow (w : World) (P Q M seed n c pr : Nat) : Prop :=
  w.heap[P]? = some (.cells #[.pointer (some ⟨M, 0, none⟩), .int .u64 (seed : Int), .slice (some ⟨Q, 0, none⟩) n n, .int .i64 (c : Int), .int .i64 (pr : Int)] 79 (0, 0))
section
variable {w w' : World} {P Q M seed n c pr : Nat}
theorem TRow.cell (a : TRow w P Q M seed n c pr) (i : Nat) : w.cell? ⟨P, i, none⟩ = (#[.pointer (some ⟨M, 0, none⟩), .int .u64 (seed : Int), .slice (some ⟨Q, 0, none⟩) n n, .int .i64 (c : Int), .int .i64 (pr : Int)] : Array Value)[i]? := cell_of_row w P i _ _ (0, 0) a
theorem TRow.c0 (a : TRow w P Q M seed n c pr) : w.cell? ⟨P, 0, none⟩ = some (.pointer (some ⟨M, 0, none⟩)) := a.cell 0
theorem TRow.c1 (a : TRow w P Q M seed n c pr) : w.cell? ⟨P, 1, none⟩ = some (.int .u64 (seed : Int)) := a.cell 1
theorem TRow.c2 (a : TRow w P Q M seed n c pr) : w.cell? ⟨P, 2, none⟩ = some (.slice (some ⟨Q, 0, none⟩) n n) := a.cell 2
theorem TRow.c3 (a : TRow w P Q M seed n c pr) : w.cell? ⟨P, 3, none⟩ = some (.int .i64 (c : Int)) := a.cell 3
theorem TRow.c4 (a : TRow w P Q M seed n c pr) : w.cell? ⟨P, 4, none⟩ = some (.int .i64 (pr : Int)) := a.cell 4
theorem TRow.fr (a : TRow w P Q M seed n c pr) (k : Nat) : w.frozen? ⟨P, k, none⟩ = false := by
  unfold TRow at a; simp [World.frozen?, a]
theorem TRow.lt (a : TRow w P Q M seed n c pr) : P < w.heap.size := by
  rcases Nat.lt_or_ge P w.heap.size with hlt | hge
  · exact hlt
  · unfold TRow at a; rw [Array.getElem?_eq_none hge] at a; cases a
theorem TRow.below {B : Nat} (a : TRow w P Q M seed n c pr) (hb : Below B w w') (h : P < B) : TRow w' P Q M seed n c pr := (hb.block P h).trans a
end
theorem t_round (w : World) (P Q M seed n c pr q : Nat) (a : TRow w P Q M seed n c pr) (hn : n = 2 ^ q) (hq : q ≤ 60) (y : Int) (hy : 0 ≤ y) (hy2 : y < 18446744073709551616) (m : Nat) (hm : m = y.toNat % n) :
    Calls Try.prog 49 #[.pointer (some ⟨P, 0, none⟩), .int .u64 y] w fun e w' => e = .returned (.int .i64 (m : Int)) ∧ w = w' := by
  have hc := a.c2
  have hmask := u64_mask y q n hy hy2 hq hn
  have h1 : 1 ≤ n := by rw [hn]; exact Nat.one_le_two_pow
  have h2 : n ≤ 1152921504606846976 := by rw [hn]; exact Nat.pow_le_pow_right (n := 2) (by decide) hq
  have h3 : y.toNat % n < n := Nat.mod_lt _ h1
  rw [← hm] at hmask h3
  have w1 : IntKind.u64.wrap ((n : Int) - 1) = (n : Int) - 1 := u64_in _ (by omega) (by omega)
  clear a hn hm
  go_enter Try.func49, Try.ntmps49
  go_wp2
  go_ret
  exact ⟨rfl, rfl⟩
theorem t_behind (w : World) (P Q M seed n c pr q : Nat) (a : TRow w P Q M seed n c pr) (hn : n = 2 ^ q) (hq : q ≤ 60) (i : Nat) (hi : i < n) :
    Calls Try.prog 46 #[.pointer (some ⟨P, 0, none⟩), .int .i64 (i : Int)] w fun e w' => e = .returned (.int .i64 (H.nx n i : Nat)) ∧ w = w' := by
  have h2 : n ≤ 1152921504606846976 := by rw [hn]; exact Nat.pow_le_pow_right (n := 2) (by decide) hq
  have hr := Lib.hid (t_round w P Q M seed n c pr q a hn hq ((i : Int) + 1) (by omega) (by omega) (H.nx n i) (by
    have e : ((i : Int) + 1).toNat = i + 1 := by omega
    rw [e]
    rcases H.nx_cases n i with ⟨h, h'⟩ | ⟨h, h'⟩
    · rw [h', h, Nat.mod_self]
    · rw [h', Nat.mod_eq_of_lt (by omega)]))
  have w1 : IntKind.u64.wrap (i : Int) = (i : Int) := u64_in _ (by omega) (by omega)
  have w2 : IntKind.u64.wrap ((i : Int) + 1) = (i : Int) + 1 := u64_in _ (by omega) (by omega)
  clear a hn
  go_enter Try.func46, Try.ntmps46
  go_wp2_with (go_at_call 49; (with_reducible refine hr.out.mono ?_); rintro e w' ⟨rfl, rfl⟩)
  go_ret
  exact ⟨rfl, rfl⟩
theorem mod_pow_big (x q : Nat) (hq : q ≤ 60) : (x + 18446744073709551616) % 2 ^ q = x % 2 ^ q := by
  have e : 18446744073709551616 = 2 ^ q * 2 ^ (64 - q) := by rw [← Nat.pow_add]; have : q + (64 - q) = 64 := by omega
                                                             rw [this]
  rw [e, Nat.add_mul_mod_self_left]
theorem t_way (w : World) (P Q M seed n c pr q : Nat) (a : TRow w P Q M seed n c pr) (hn : n = 2 ^ q) (hq : q ≤ 60) (i j : Nat) (hi : i < n) (hj : j < n) :
    Calls Try.prog 47 #[.pointer (some ⟨P, 0, none⟩), .int .i64 (i : Int), .int .i64 (j : Int)] w fun e w' => e = .returned (.int .i64 (H.wy n i j : Nat)) ∧ w = w' := by
  have h2 : n ≤ 1152921504606846976 := by rw [hn]; exact Nat.pow_le_pow_right (n := 2) (by decide) hq
  have hb := u64_bounds ((j : Int) - (i : Int))
  have hr := Lib.hid (t_round w P Q M seed n c pr q a hn hq (IntKind.u64.wrap ((j : Int) - (i : Int))) hb.1 hb.2 (H.wy n i j) (by
    rcases H.wy_cases n i j with ⟨h, h'⟩ | ⟨h, h'⟩
    · rw [h', u64_in _ (by omega) (by omega)]
      have e : ((j : Int) - (i : Int)).toNat = j - i := by omega
      rw [e, Nat.mod_eq_of_lt (by omega)]
    · have e : IntKind.u64.wrap ((j : Int) - (i : Int)) = (((j + 18446744073709551616 - i : Nat)) : Int) := by
        simp [IntKind.wrap, IntKind.signed, IntKind.bits]; omega
      have e2 : (((j + 18446744073709551616 - i : Nat)) : Int).toNat = j + 18446744073709551616 - i := by omega
      rw [e, e2, h']
      have e3 : (j + 18446744073709551616 - i) % n = (j + 18446744073709551616 - i + n) % n := by rw [Nat.add_mod_right]
      have e4 : j + 18446744073709551616 - i + n = (j + n - i) + 18446744073709551616 := by omega
      rw [e3, e4]
      conv => rhs; rw [hn]
      rw [mod_pow_big _ q hq, ← hn, Nat.mod_eq_of_lt (by omega)]))
  have w1 : IntKind.u64.wrap (i : Int) = (i : Int) := u64_in _ (by omega) (by omega)
  have w2 : IntKind.u64.wrap (j : Int) = (j : Int) := u64_in _ (by omega) (by omega)
  clear a hn hb
  go_enter Try.func47, Try.ntmps47
  go_wp2_with (go_at_call 49; (with_reducible refine hr.out.mono ?_); rintro e w' ⟨rfl, rfl⟩)
  go_ret
  exact ⟨rfl, rfl⟩
theorem quiet_same {P : Program} {f : FuncId} {args : Array Value} {w : World} {n : Nat} {v : Value}
    (h : Calls P f args (w.drewN n) fun e w' => e = .returned v ∧ w.drewN n = w') : Calls P f args (w.drewN n) fun e w'' => e = .returned v ∧ ∃ m, w'' = w.drewN m :=
  h.mono fun _ _ ⟨he, hm⟩ => ⟨he, n, hm.symm⟩
set_option maxHeartbeats 1000000 in
theorem t_home (w : World) (P Q M seed n c pr q : Nat) (a : TRow w P Q M seed n c pr) (hn : n = 2 ^ q) (hq : q ≤ 60) (k : H.Key) (k1 : k.1 < 256) :
    Calls Try.prog 45 #[.pointer (some ⟨P, 0, none⟩), .agg #[.int .u8 (k.1 : Int), .int .u64 (k.2 : Int)]] w fun e w' => e = .returned (.int .i64 (hmN seed n k : Nat)) ∧ Below w.heap.size w w' := by
  have hlt := a.lt
  have hb := mix_bounds (bits BinOp.xor .u64 (k.2 : Int) (mixI (IntKind.u64.wrap ((seed : Int) + (k.1 : Int)))))
  have hr := fun w0 (a : TRow w0 P Q M seed n c pr) => Lib.hid (t_round w0 P Q M seed n c pr q a hn hq _ hb.1 hb.2 (hmN seed n k) rfl)
  have a1 : TRow (w.alloc (.cells #[.int .u8 (k.1 : Int), .int .u64 (k.2 : Int)] 66)) P Q M seed n c pr := (Below.heap_alloc _ _ _ hlt).trans a
  have hc := a1.c1
  have hR := fun N => hr ((w.alloc (.cells #[.int .u8 (k.1 : Int), .int .u64 (k.2 : Int)] 66)).drewN N) a1
  have w1 : IntKind.u64.wrap (k.1 : Int) = (k.1 : Int) := u64_in _ (by omega) (by omega)
  clear hr a hb a1 hn
  generalize hmN seed n k = hh at *
  go_enter Try.func45, Try.ntmps45
  go_wp2
  go_quiet (first
    | (go_at_call 50; exact quiet_same (mix_any _ _))
    | (go_at_call 49; exact quiet_same (hR _).out))
  go_wp2
  go_ret
  exact ⟨rfl, below_drewN ((Below.refl _ w).alloc (Nat.le_refl _) _) _⟩
end Go.Proofs.Ytihhkdcgnnfkkaa.Hs
