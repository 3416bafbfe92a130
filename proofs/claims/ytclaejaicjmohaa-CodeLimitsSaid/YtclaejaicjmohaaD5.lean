
/- A number's bytes, told by its bits: size, Number, Size, and the document's Number; the texts walked. -/
import Derived.Test.YtclaejaicjmohaaD4
namespace Go.Proofs.Ytclaejaicjmohaa
set_option maxRecDepth 20000
open Go.RowKit
namespace E
theorem bl_zero : Lib.bitLen 0 = 0 := by decide
theorem bl_bound : ∀ (k x : Nat), k ≤ 64 → x < 2 ^ k → x < 2 ^ Lib.bitLen x ∧ (Lib.bitLen x = 0 ∨ 2 ^ (Lib.bitLen x - 1) ≤ x) ∧ Lib.bitLen x ≤ k := by
  intro k
  induction k with
  | zero =>
    intro x _ hx
    have : x = 0 := by simpa using hx
    subst this
    rw [bl_zero]
    exact ⟨by decide, .inl rfl, Nat.le_refl _⟩
  | succ k ih =>
    intro x hk hx
    by_cases h0 : x = 0
    · subst h0
      rw [bl_zero]
      exact ⟨by decide, .inl rfl, Nat.zero_le _⟩
    · have h64 : x < 2 ^ 64 := Nat.lt_of_lt_of_le hx (Nat.pow_le_pow_right (by omega) hk)
      have e := Lib.bitLen_half x h0 h64
      obtain ⟨h1, h2, h3⟩ := ih (x / 2) (by omega) (by rw [Nat.pow_succ] at hx; omega)
      rw [e]
      refine ⟨?_, .inr ?_, by omega⟩
      · rw [Nat.add_comm, Nat.pow_succ]; omega
      · rw [Nat.add_sub_cancel_left]
        rcases h2 with h2 | h2
        · rw [h2]; simp; omega
        · rcases Nat.eq_zero_or_pos (Lib.bitLen (x / 2)) with h4 | h4
          · rw [h4]; simp; omega
          · have : 2 ^ Lib.bitLen (x / 2) = 2 ^ (Lib.bitLen (x / 2) - 1) * 2 := by rw [← Nat.pow_succ]; congr 1; omega
            omega
theorem len_bits {n : Nat} (hn : n < 18446744073709551616) : (enc n).length = sz (Lib.bitLen n) ∧ Lib.bitLen n ≤ 64 := by
  obtain ⟨h1, h2, h3⟩ := bl_bound 64 n (Nat.le_refl _) hn
  exact ⟨enc_len _ _ h1 h2, h3⟩
set_option maxRecDepth 100000 in
set_option maxHeartbeats 4000000 in
theorem size_any (w : World) (n : Nat) (hn : n < 18446744073709551616) : Calls Try.prog 25 #[.int .u64 (n : Int)] w fun e w' => e = .returned (.int .i64 ((enc n).length : Nat)) ∧ w = w' := by
  obtain ⟨h1, h2⟩ := len_bits hn
  obtain ⟨L, hL⟩ : ∃ L, Lib.bitLen n = L := ⟨_, rfl⟩
  have HC : Hid (Calls Try.prog 33 #[.int .u64 (n : Int)] w fun e w' => e = .returned (.int .i64 (L : Int)) ∧ w = w') := Lib.hid (by
    have := len64_any (n : Int) w (by omega) (by omega)
    rw [Int.toNat_natCast, hL] at this
    exact this)
  rw [hL] at h1 h2
  have x1 : IntKind.i64.wrap ((L : Int) + 7) = (L : Int) + 7 := IntWalk.i64_in _ (by omega)
  have x2 : IntKind.i64.wrap ((L : Int) + 7 - 1) = (L : Int) + 6 := by rw [show (L : Int) + 7 - 1 = (L : Int) + 6 by omega]; exact IntWalk.i64_in _ (by omega)
  have x3 : ((L : Int) + 6).tdiv 7 = (((L + 6) / 7 : Nat) : Int) := by rw [Int.tdiv_eq_ediv_of_nonneg (by omega)]; omega
  have x4 : ((L : Int) + 6) / 7 = (((L + 6) / 7 : Nat) : Int) := by omega
  obtain ⟨q, hq⟩ : ∃ q, (L + 6) / 7 = q := ⟨_, rfl⟩
  have hq2 : q ≤ 10 := by omega
  rw [hq] at x3 x4
  have x5 : IntKind.i64.wrap (q : Int) = (q : Int) := IntWalk.i64_in _ (by omega)
  have HF : Hid (max (1 : Int) (q : Int) = (((enc n).length : Nat) : Int)) := Lib.hid (by rw [h1]; unfold sz; rw [hq]; omega)
  clear h1 hL hq
  go_enter Try.func25, Try.ntmps25
  go_wp2_with (go_at_call 33; (with_reducible refine HC.out.mono ?_); rintro e w2 ⟨rfl, rfl⟩)
  go_ret
  exact ⟨ret_int HF.out, rfl⟩
theorem mk_bytes (n : Nat) (hn : n ≤ 1000000000) (w : World) : ∃ cur, (Instr.makeSlice 23 (.int .i64 0) (.int .i64 (n : Int))).run Try.prog w = .ok (.slice (some ⟨w.heap.size, 0, none⟩) 0 n) (w.alloc (.cells cur 5)) ∧ cur.size = n := by
  obtain ⟨ti, hi, hb, hz, hsz⟩ : ∃ ti, Try.prog.info? 5 = some ti ∧ ti.bytes = 1 ∧ ti.zero = some (.int .u8 0) ∧ ti.size = 1 := ⟨_, rfl, rfl, rfl, rfl⟩
  have := run_make (P := Try.prog) w 23 5 ti _ (by kernel_rfl) hi hz .i64 .i64 0 (n : Int) (by omega) (by omega) (by rw [hb]; omega) (by omega)
  exact ⟨_, this, by simp [madeCells, hsz]⟩
set_option maxRecDepth 100000 in
set_option maxHeartbeats 4000000 in
theorem number_any (w : World) (n : Nat) (hn : n < 18446744073709551616) : Calls Try.prog 11 #[.int .u64 (n : Int)] w fun e w' => ∃ v', e = .returned v' ∧ w'.ownsRow w.heap.size 5 1 v' (enc n).length (bv (enc n)) ∧ Below w.heap.size w w' := by
  have HS := Lib.hid (size_any w n hn)
  have h10 := enc_ten hn
  obtain ⟨k, hk⟩ : ∃ k, (enc n).length = k := ⟨_, rfl⟩
  obtain ⟨cur, hmk, hcur⟩ := mk_bytes k (by omega) w
  have hb : Below w.heap.size w (w.alloc (.cells cur 5)) := (Below.refl _ w).alloc (Nat.le_refl _) _
  have hown : (w.alloc (.cells cur 5)).ownsRow w.heap.size 5 1 (.slice (some ⟨w.heap.size, 0, none⟩) 0 k) 0 [] := World.ownsRow_made w cur k (Nat.le_refl _) (by unfold maxLen; omega) (by omega)
  have HP := Lib.hid (put_any _ w.heap.size hb.size _ [] n hn hown (by simp))
  have HB := Lib.hid hb
  rw [hk] at HS
  clear hb hown h10 hk hcur
  go_enter Try.func11, Try.ntmps11
  go_wp2_with (first
    | (go_at_call 24; (with_reducible refine HP.out.mono ?_); rintro e w3 ⟨v', rfl, ho, hb3⟩; have HR := Lib.hid (And.intro ho hb3); clear ho hb3)
    | (go_at_call 25; (with_reducible refine HS.out.mono ?_); rintro e w2 ⟨rfl, rfl⟩))
  go_ret
  exact ⟨v', rfl, by simpa using HR.out.1, HB.out.trans HR.out.2⟩
end E
end Go.Proofs.Ytclaejaicjmohaa
