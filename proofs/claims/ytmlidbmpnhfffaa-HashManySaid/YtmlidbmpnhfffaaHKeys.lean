
/- Keys beside one another: an odd step never meets itself. -/
import Derived.Test.YtmlidbmpnhfffaaHTab5
namespace Go.Proofs.Ytmlidbmpnhfffaa
open Go.RowKit
namespace H
theorem odd_inj (s i j : Nat) (hs : s % 2 = 1) (hj : j < 18446744073709551616) (hij : i < j) (e : i * s % 18446744073709551616 = j * s % 18446744073709551616) : False := by
  have hc : Nat.Coprime s 2 := by
    unfold Nat.Coprime
    rw [Nat.gcd_comm, Nat.gcd_rec, hs]
    rfl
  have hc64 : Nat.Coprime (2 ^ 64) s := (Nat.Coprime.pow_right 64 hc).symm
  have hd : 2 ^ 64 ∣ (j - i) * s := by
    rw [Nat.sub_mul]
    have h2 : i * s ≤ j * s := Nat.mul_le_mul_right _ (by omega)
    generalize i * s = a at *
    generalize j * s = b at *
    exact ⟨(b - a) / 18446744073709551616, by omega⟩
  have hd2 := hc64.dvd_of_dvd_mul_right hd
  have := Nat.le_of_dvd (by omega) hd2
  omega
/-- The i-th key of a row of keys. -/
def px (f s i : Nat) : Nat := (f + i * s) % 18446744073709551616
theorem px_lt (f s i : Nat) : px f s i < 18446744073709551616 := Nat.mod_lt _ (by decide)
theorem px_inj {f s i j : Nat} (hs : s % 2 = 1) (hi : i < 18446744073709551616) (hj : j < 18446744073709551616) (e : px f s i = px f s j) : i = j := by
  have h : i * s % 18446744073709551616 = j * s % 18446744073709551616 := by
    unfold px at e
    generalize i * s = a at *
    generalize j * s = b at *
    omega
  rcases Nat.lt_trichotomy i j with h1 | h1 | h1
  · exact (odd_inj s i j hs hj h1 h).elim
  · exact h1
  · exact (odd_inj s j i hs hi h1 h.symm).elim
theorem or_one (a : Nat) : (a ||| 1) % 2 = 1 := by
  simp
theorem or_lt (a : Nat) (h : a < 18446744073709551616) : a ||| 1 < 18446744073709551616 := Nat.or_lt_two_pow (n := 64) (by omega) (by decide)
/-- Those of the numbers below k that D has. -/
def kept (k : Nat) (D : Nat → Bool) (g : Nat → Key × Nat) : List (Key × Nat) := ((List.range k).filter D).map g
theorem kept_len (k : Nat) (D : Nat → Bool) (g : Nat → Key × Nat) : (kept k D g).length ≤ k := by
  unfold kept; rw [List.length_map]; exact Nat.le_trans (List.length_filter_le _ _) (by simp)
theorem kept_succ (k : Nat) (D : Nat → Bool) (g : Nat → Key × Nat) (h : D k = true) : (g k :: kept k D g).Perm (kept (k + 1) D g) := by
  unfold kept
  rw [List.range_succ, List.filter_append, List.map_append]
  simp [h]
  exact (List.perm_append_comm (l₁ := [g k]))
theorem kept_mem {k : Nat} {D : Nat → Bool} {g : Nat → Key × Nat} {x : Key × Nat} : x ∈ kept k D g ↔ ∃ i, i < k ∧ D i = true ∧ g i = x := by
  unfold kept; simp [List.mem_map, List.mem_filter, and_assoc]
theorem kept_drop (k : Nat) (D D' : Nat → Bool) (g : Nat → Key × Nat) (a : Nat) (ha : a < k) (h : D a = true) (h' : D' a = false) (ho : ∀ i, i ≠ a → D' i = D i) : (kept k D g).Perm (g a :: kept k D' g) := by
  unfold kept
  have h1 : ((List.range k).filter D).Perm (a :: (List.range k).filter D') := by
    have n1 : ((List.range k).filter D).Nodup := List.Pairwise.filter _ List.nodup_range
    have n2 : (a :: (List.range k).filter D').Nodup := by
      rw [List.nodup_cons]
      exact ⟨by simp [h'], List.Pairwise.filter _ List.nodup_range⟩
    rw [List.perm_ext_iff_of_nodup n1 n2]
    intro x
    by_cases e : x = a
    · subst e; simp [ha, h]
    · simp [e, ho x e]
  exact h1.map g
theorem kept_congr (k : Nat) (D D' : Nat → Bool) (g : Nat → Key × Nat) (h : ∀ i, i < k → D i = D' i) : kept k D g = kept k D' g := by
  unfold kept
  rw [List.filter_congr (fun x hx => h x (by simpa using hx))]
end H
theorem u64_or_one (a : Nat) (h : a < 18446744073709551616) : bits .or .u64 (a : Int) 1 = ((a ||| 1 : Nat) : Int) := by
  have hx := H.or_lt a h
  show IntKind.u64.wrap ((BitVec.ofInt 64 (a : Int) ||| BitVec.ofInt 64 1).toNat : Int) = _
  have e2 : (BitVec.ofInt 64 (a : Int) ||| BitVec.ofInt 64 1).toNat = a ||| 1 := by
    rw [BitVec.toNat_or]
    have a1 : (BitVec.ofInt 64 (a : Int)).toNat = a := by simp; omega
    rw [a1]; rfl
  rw [e2]
  exact u64_in _ (by omega) (by omega)
theorem px_int (f s i : Nat) : IntKind.u64.wrap ((f : Int) + IntKind.u64.wrap ((i : Int) * (s : Int))) = (H.px f s i : Int) ∧ IntKind.u64.wrap ((f : Int) + (i : Int) * (s : Int)) = (H.px f s i : Int) := by
  have e : (i : Int) * (s : Int) = ((i * s : Nat) : Int) := by simp
  rw [e]
  unfold H.px
  generalize i * s = a
  constructor
  · simp [IntKind.wrap, IntKind.signed, IntKind.bits]
  · simp [IntKind.wrap, IntKind.signed, IntKind.bits]
end Go.Proofs.Ytmlidbmpnhfffaa
