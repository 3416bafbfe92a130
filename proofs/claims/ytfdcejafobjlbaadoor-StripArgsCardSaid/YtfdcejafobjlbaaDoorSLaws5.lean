
/- The law of strips that there can't be, and of a nil one: it returns true at every input. -/
import Derived.Test.YtfdcejafobjlbaaDoorSAll
namespace Go.Proofs.YtfdcejafobjlbaaDoor
open Go.RowKit
theorem equal_none (w : World) : Calls Tryd.prog 33 #[.pointer none, .pointer none] w fun e w' => e = .returned (.bool true) ∧ w = w' := s_equal_nil w none
theorem equal_none_some (w : World) (a : Addr) : Calls Tryd.prog 33 #[.pointer none, .pointer (some a)] w fun e w' => e = .returned (.bool false) ∧ w = w' := s_equal_nil w (some a)
set_option maxRecDepth 100000 in
set_option maxHeartbeats 4000000 in
theorem law_args (n i j : Int) (hi : i ≤ 9223372036854775807) (w : World) (hT : Tab w) :
    Calls Tryd.prog 8 #[.int .i64 n, .int .i64 i, .int .i64 j] w fun e w' => e = .returned (.bool true) ∧ Below w.heap.size w w' := by
  have hmk : ∀ w : World, ∃ o, (Instr.makeSlice 31 (.int .i64 4097) (.int .i64 4097)).run Tryd.prog w = .ok (.slice (some ⟨w.heap.size, 0, none⟩) 4097 4097) (w.alloc o) := by
    intro w
    obtain ⟨ti, hi, hb, hz, hsz⟩ : ∃ ti, Tryd.prog.info? 56 = some ti ∧ ti.bytes = 8 ∧ ti.zero = some (.int .u64 0) ∧ ti.size = 1 := ⟨_, rfl, rfl, rfl, rfl⟩
    have := run_make (P := Tryd.prog) w 31 56 ti _ (by kernel_rfl) hi hz .i64 .i64 4097 4097 (by omega) (by omega) (by rw [hb]; omega) (by omega)
    exact ⟨_, by simpa [hsz] using this⟩
  obtain ⟨ob, hmk⟩ := Classical.axiomOfChoice hmk
  have hof := fun w0 a => Lib.hid (s_of_no w0 a 4097 4097 (by omega))
  by_cases hr : 0 ≤ n ∧ n ≤ 4096
  · obtain ⟨k, rfl⟩ : ∃ k : Nat, n = (k : Int) := ⟨n.toNat, by omega⟩
    have g1 : decide (0 ≤ (k : Int)) = true := decide_eq_true (by omega)
    have g2 : decide ((k : Int) ≤ 4096) = true := decide_eq_true (by omega)
    have hk : k ≤ 4096 := by omega
    have wk : IntKind.i64.wrap (64 * (k : Int)) = 64 * (k : Int) := IntWalk.i64_in _ (by omega)
    have hnew := fun w0 => Lib.hid (s_new w0 k hk)
    have hbits : ∀ {s h : Nat} w0, St w0 s h (List.replicate k 0) → Hid (Calls Tryd.prog 18 #[.pointer (some ⟨s, 0, none⟩)] w0 fun e w' => e = .returned (.int .i64 (64 * (k : Int))) ∧ w0 = w') := fun w0 a => by
      refine (s_bits w0 _ _ _ a).mono ?_
      rintro e w' ⟨rfl, rfl⟩
      exact ⟨ret_int (by rw [List.length_replicate]; omega), rfl⟩
    clear hr
    go_enter Tryd.func8, Tryd.ntmps8
    go_wp2_with (go_at_call 10; (with_reducible refine (awake_any _ hT).mono ?_); rintro e w1 ⟨rfl, hb1⟩; have hB1 := Lib.hid hb1; clear hb1)
    go_wp2_with (go_at_call 32; (with_reducible refine (hnew _).out.mono ?_); rintro e w2 ⟨s, h, rfl, hst, hg, hs2, hh2⟩; have hS2 := Lib.hid hst; clear hst; have hB2 := Lib.hid (below_grown hg); clear hg; have hS3 : Hid (∀ o, St (w2.alloc o) s h (List.replicate k 0)) := fun o => hS2.out.below ((Below.refl _ w2).alloc (Nat.le_refl _) o) hS2.out.lt.1 hS2.out.lt.2)
    go_wp2_with (go_at_call 35; (with_reducible refine (hof _ _).out.mono ?_); rintro e w3 ⟨rfl, rfl⟩)
    go_wp2_with (first
      | (go_at_call 18; (with_reducible refine (hbits _ (hS3.out _)).out.mono ?_); rintro e w' ⟨rfl, rfl⟩)
      | (go_at_call 18; (with_reducible refine (s_bits_nil _).mono ?_); rintro e w' ⟨rfl, rfl⟩)
      | (go_at_call 13; (with_reducible refine (s_words_nil _).mono ?_); rintro e w' ⟨rfl, rfl⟩)
      | (go_at_call 19; (with_reducible refine (s_get_nil _ _).mono ?_); rintro e w' ⟨rfl, rfl⟩)
      | (go_at_call 38; (with_reducible refine (s_set_nil _ _).mono ?_); rintro e w' ⟨rfl, rfl⟩)
      | (go_at_call 39; (with_reducible refine (s_clear_nil _ _).mono ?_); rintro e w' ⟨rfl, rfl⟩)
      | (go_at_call 37; (with_reducible refine (s_fill_nil _ _ _ hi).mono ?_); rintro e w' ⟨rfl, rfl⟩)
      | (go_at_call 40; (with_reducible refine (s_wipe_nil _ _ _ hi).mono ?_); rintro e w' ⟨rfl, rfl⟩)
      | (go_at_call 29; (with_reducible refine (s_count_nil _).mono ?_); rintro e w' ⟨rfl, rfl⟩)
      | (go_at_call 21; (with_reducible refine (s_next_nil _ _ hi).mono ?_); rintro e w' ⟨rfl, rfl⟩)
      | (go_at_call 23; (with_reducible refine (s_prev_nil _ _).mono ?_); rintro e w' ⟨rfl, rfl⟩)
      | (go_at_call 25; (with_reducible refine (s_rank_nil _ _).mono ?_); rintro e w' ⟨rfl, rfl⟩)
      | (go_at_call 27; (with_reducible refine (s_select_nil _ _).mono ?_); rintro e w' ⟨rfl, rfl⟩)
      | (go_at_call 16; (with_reducible refine (all_nil _ _).mono ?_); rintro e w5 ⟨rfl, hb5⟩; have hB5 := Lib.hid hb5; clear hb5)
      | (go_at_call 36; (with_reducible refine (s_copy_nil _).mono ?_); rintro e w' ⟨rfl, rfl⟩)
      | (go_at_call 33; (with_reducible refine (equal_none _).mono ?_); rintro e w' ⟨rfl, rfl⟩)
      | (go_at_call 33; (with_reducible refine (equal_none_some _ _).mono ?_); rintro e w' ⟨rfl, rfl⟩))
    go_ret
    exact ⟨rfl, hB1.out.trans ((hB2.out.mono hB1.out.size).trans ((((Below.refl _ w2).alloc (Nat.le_refl _) (ob w2)).mono (Nat.le_trans hB1.out.size hB2.out.size)).trans (hB5.out.mono (by simp; have := hB1.out.size; have := hB2.out.size; omega))))⟩
  · have g1 : (decide (0 ≤ n) && decide (n ≤ 4096)) = false := by simp; omega
    have hnew := fun w0 => Lib.hid (s_new_no w0 n hr)
    by_cases h0 : 0 ≤ n
    · have g2 : decide (0 ≤ n) = true := decide_eq_true h0
      have g3 : decide (n ≤ 4096) = false := decide_eq_false (by omega)
      clear hr g1
      go_enter Tryd.func8, Tryd.ntmps8
      go_wp2_with (go_at_call 10; (with_reducible refine (awake_any _ hT).mono ?_); rintro e w1 ⟨rfl, hb1⟩; have hB1 := Lib.hid hb1; clear hb1)
      go_wp2_with (go_at_call 32; (with_reducible refine (hnew _).out.mono ?_); rintro e w2 ⟨rfl, rfl⟩)
      go_wp2_with (go_at_call 35; (with_reducible refine (hof _ _).out.mono ?_); rintro e w3 ⟨rfl, rfl⟩)
      go_wp2_with (first
        | (go_at_call 18; (with_reducible refine (s_bits_nil _).mono ?_); rintro e w' ⟨rfl, rfl⟩)
        | (go_at_call 13; (with_reducible refine (s_words_nil _).mono ?_); rintro e w' ⟨rfl, rfl⟩)
        | (go_at_call 19; (with_reducible refine (s_get_nil _ _).mono ?_); rintro e w' ⟨rfl, rfl⟩)
        | (go_at_call 38; (with_reducible refine (s_set_nil _ _).mono ?_); rintro e w' ⟨rfl, rfl⟩)
        | (go_at_call 39; (with_reducible refine (s_clear_nil _ _).mono ?_); rintro e w' ⟨rfl, rfl⟩)
        | (go_at_call 37; (with_reducible refine (s_fill_nil _ _ _ hi).mono ?_); rintro e w' ⟨rfl, rfl⟩)
        | (go_at_call 40; (with_reducible refine (s_wipe_nil _ _ _ hi).mono ?_); rintro e w' ⟨rfl, rfl⟩)
        | (go_at_call 29; (with_reducible refine (s_count_nil _).mono ?_); rintro e w' ⟨rfl, rfl⟩)
        | (go_at_call 21; (with_reducible refine (s_next_nil _ _ hi).mono ?_); rintro e w' ⟨rfl, rfl⟩)
        | (go_at_call 23; (with_reducible refine (s_prev_nil _ _).mono ?_); rintro e w' ⟨rfl, rfl⟩)
        | (go_at_call 25; (with_reducible refine (s_rank_nil _ _).mono ?_); rintro e w' ⟨rfl, rfl⟩)
        | (go_at_call 27; (with_reducible refine (s_select_nil _ _).mono ?_); rintro e w' ⟨rfl, rfl⟩)
        | (go_at_call 16; (with_reducible refine (all_nil _ _).mono ?_); rintro e w5 ⟨rfl, hb5⟩; have hB5 := Lib.hid hb5; clear hb5)
        | (go_at_call 36; (with_reducible refine (s_copy_nil _).mono ?_); rintro e w' ⟨rfl, rfl⟩)
        | (go_at_call 33; (with_reducible refine (equal_none _).mono ?_); rintro e w' ⟨rfl, rfl⟩)
        | (go_at_call 33; (with_reducible refine (equal_none_some _ _).mono ?_); rintro e w' ⟨rfl, rfl⟩))
      go_ret
      exact ⟨rfl, hB1.out.trans ((((Below.refl _ w1).alloc (Nat.le_refl _) (ob w1)).mono hB1.out.size).trans (hB5.out.mono (by simp; have := hB1.out.size; omega)))⟩
    · have g2 : decide (0 ≤ n) = false := decide_eq_false h0
      clear hr g1
      go_enter Tryd.func8, Tryd.ntmps8
      go_wp2_with (go_at_call 10; (with_reducible refine (awake_any _ hT).mono ?_); rintro e w1 ⟨rfl, hb1⟩; have hB1 := Lib.hid hb1; clear hb1)
      go_wp2_with (go_at_call 32; (with_reducible refine (hnew _).out.mono ?_); rintro e w2 ⟨rfl, rfl⟩)
      go_wp2_with (go_at_call 35; (with_reducible refine (hof _ _).out.mono ?_); rintro e w3 ⟨rfl, rfl⟩)
      go_wp2_with (first
        | (go_at_call 18; (with_reducible refine (s_bits_nil _).mono ?_); rintro e w' ⟨rfl, rfl⟩)
        | (go_at_call 13; (with_reducible refine (s_words_nil _).mono ?_); rintro e w' ⟨rfl, rfl⟩)
        | (go_at_call 19; (with_reducible refine (s_get_nil _ _).mono ?_); rintro e w' ⟨rfl, rfl⟩)
        | (go_at_call 38; (with_reducible refine (s_set_nil _ _).mono ?_); rintro e w' ⟨rfl, rfl⟩)
        | (go_at_call 39; (with_reducible refine (s_clear_nil _ _).mono ?_); rintro e w' ⟨rfl, rfl⟩)
        | (go_at_call 37; (with_reducible refine (s_fill_nil _ _ _ hi).mono ?_); rintro e w' ⟨rfl, rfl⟩)
        | (go_at_call 40; (with_reducible refine (s_wipe_nil _ _ _ hi).mono ?_); rintro e w' ⟨rfl, rfl⟩)
        | (go_at_call 29; (with_reducible refine (s_count_nil _).mono ?_); rintro e w' ⟨rfl, rfl⟩)
        | (go_at_call 21; (with_reducible refine (s_next_nil _ _ hi).mono ?_); rintro e w' ⟨rfl, rfl⟩)
        | (go_at_call 23; (with_reducible refine (s_prev_nil _ _).mono ?_); rintro e w' ⟨rfl, rfl⟩)
        | (go_at_call 25; (with_reducible refine (s_rank_nil _ _).mono ?_); rintro e w' ⟨rfl, rfl⟩)
        | (go_at_call 27; (with_reducible refine (s_select_nil _ _).mono ?_); rintro e w' ⟨rfl, rfl⟩)
        | (go_at_call 16; (with_reducible refine (all_nil _ _).mono ?_); rintro e w5 ⟨rfl, hb5⟩; have hB5 := Lib.hid hb5; clear hb5)
        | (go_at_call 36; (with_reducible refine (s_copy_nil _).mono ?_); rintro e w' ⟨rfl, rfl⟩)
        | (go_at_call 33; (with_reducible refine (equal_none _).mono ?_); rintro e w' ⟨rfl, rfl⟩)
        | (go_at_call 33; (with_reducible refine (equal_none_some _ _).mono ?_); rintro e w' ⟨rfl, rfl⟩))
      go_ret
      exact ⟨rfl, hB1.out.trans ((((Below.refl _ w1).alloc (Nat.le_refl _) (ob w1)).mono hB1.out.size).trans (hB5.out.mono (by simp; have := hB1.out.size; omega)))⟩
end Go.Proofs.YtfdcejafobjlbaaDoor
