/- The law functions of meters: CountPlays and CountSplits return true at every input, the text walked over the contracts. -/
import Derived.Test.YtjigfneckohboaaCMeter
import Derived.Lib.Strings
import Derived.Lib.Slices
import Derived.Lib.Small
import Derived.Lib.Walk
namespace Go.Proofs.Ytjigfneckohboaa
open Go.RowKit

theorem own_rb {w : World} {base : Nat} {v : Value} {xs : List Nat} (h : w.ownsRow base 5 1 v xs.length (bv xs)) : ∃ A c, v = .slice A xs.length c ∧ xs.length ≤ c ∧ Rb w w.heap.size A xs := by
  obtain ⟨A, c, hv, hr⟩ := Rb.of_own h
  refine ⟨A, c, hv, ?_, hr⟩
  rcases h.2 with ⟨rfl, hn⟩ | ⟨g, cap, cur, rfl, _, _, hnc, _⟩
  · have : xs = [] := by simpa using hn
    subst this
    simp
  · injection hv with _ _ hc
    omega
theorem ref_count0 (A : Option Addr) (cp : Nat) (xs : List Nat) (w : World) (B : Nat) (hr : Rb w B A xs) (hl : xs.length ≤ 1000000) :
    Calls Try.prog 12 #[.slice A xs.length cp, .int .u8 0] w fun e w' => e = .returned (.int .i64 (M.cnt xs 0 : Nat)) ∧ w = w' := ref_count A cp xs 0 w B hr hl
theorem ref_count1 (A : Option Addr) (cp : Nat) (xs : List Nat) (w : World) (B : Nat) (hr : Rb w B A xs) (hl : xs.length ≤ 1000000) :
    Calls Try.prog 12 #[.slice A xs.length cp, .int .u8 1] w fun e w' => e = .returned (.int .i64 (M.cnt xs 1 : Nat)) ∧ w = w' := ref_count A cp xs 1 w B hr hl
theorem ref_count2 (A : Option Addr) (cp : Nat) (xs : List Nat) (w : World) (B : Nat) (hr : Rb w B A xs) (hl : xs.length ≤ 1000000) :
    Calls Try.prog 12 #[.slice A xs.length cp, .int .u8 2] w fun e w' => e = .returned (.int .i64 (M.cnt xs 2 : Nat)) ∧ w = w' := ref_count A cp xs 2 w B hr hl
theorem ref_bytes200 (A : Option Addr) (cp : Nat) (xs : List Nat) (w : World) (hr : Rb w w.heap.size A xs) (hl : xs.length ≤ 9223372036854775807) :
    Calls Try.prog 7 #[.slice A xs.length cp, .int .i64 200] w fun e w' => ∃ v, e = .returned v ∧ w'.ownsRow w.heap.size 5 1 v (xs.take 200).length (bv (xs.take 200)) ∧ Below w.heap.size w w' := ref_bytes A cp xs 200 w hr hl (by decide)
theorem ref_bytes100 (A : Option Addr) (cp : Nat) (xs : List Nat) (w : World) (hr : Rb w w.heap.size A xs) (hl : xs.length ≤ 9223372036854775807) :
    Calls Try.prog 7 #[.slice A xs.length cp, .int .i64 100] w fun e w' => ∃ v, e = .returned v ∧ w'.ownsRow w.heap.size 5 1 v (xs.take 100).length (bv (xs.take 100)) ∧ Below w.heap.size w w' := ref_bytes A cp xs 100 w hr hl (by decide)

set_option maxHeartbeats 1000000 in
theorem awake_any (w : World) : Calls Try.prog 6 #[] w fun e w' => e = .returned (.bool true) ∧ Below w.heap.size w w' := by
  go_enter Try.func6, Try.ntmps6
  go_wp2_with (first
    | (go_at_call 22; refine (m_new _).mono ?_; rintro e w1 ⟨rfl, hm0, hb1⟩; have hB := hb1)
    | (go_at_call 18; refine (m_read _ _ 0 0 0 0 0 hm0 (by decide) (by decide)).mono ?_; rintro e w2 ⟨rfl, hm, hg⟩; have hm1 : Mt w2 w.heap.size 1 0 0 1 1 := hm; clear hm hm0; have hB2 := Below.of_grown hB hg (Nat.le_refl _))
    | (go_at_call 19; refine (m_call _ _ 1 0 0 1 1 hm1 (by decide) (by decide)).mono ?_; rintro e w3 ⟨rfl, hm, hg⟩; have hm2 : Mt w3 w.heap.size 1 1 0 2 2 := hm; clear hm hm1; have hB3 := Below.of_grown hB2 hg (Nat.le_refl _))
    | (go_at_call 17; refine (m_start _ _ 1 1 0 2 2 hm2 (by decide)).mono ?_; rintro e w4 ⟨rfl, hm, hg⟩; have hm3 : Mt w4 w.heap.size 1 1 1 0 2 := hm; clear hm hm2; have hB4 := Below.of_grown hB3 hg (Nat.le_refl _))
    | (go_at_call 18; refine (m_read _ _ 1 1 1 0 2 hm3 (by decide) (by decide)).mono ?_; rintro e w5 ⟨rfl, hm, hg⟩; have hm4 : Mt w5 w.heap.size 2 1 1 1 2 := hm; clear hm hm3; have hB5 := Below.of_grown hB4 hg (Nat.le_refl _))
    | (go_at_call 9; refine (m_taken _ _ 2 1 1 1 2 hm4).mono ?_; rintro e w' ⟨rfl, rfl⟩)
    | (go_at_call 13; refine (m_reads _ _ 2 1 1 1 2 hm4).mono ?_; rintro e w' ⟨rfl, rfl⟩)
    | (go_at_call 14; refine (m_calls _ _ 2 1 1 1 2 hm4).mono ?_; rintro e w' ⟨rfl, rfl⟩)
    | (go_at_call 15; refine (m_peak _ _ 2 1 1 1 2 hm4).mono ?_; rintro e w' ⟨rfl, rfl⟩))
  go_ret
  exact ⟨rfl, hB5⟩

set_option maxHeartbeats 1000000 in
theorem law_plays (A : Option Addr) (cp : Nat) (xs : List Nat) (w : World) (hr : Rb w w.heap.size A xs) (hl : xs.length ≤ 9223372036854775807) :
    Calls Try.prog 3 #[.slice A xs.length cp] w fun e w' => e = .returned (.bool true) ∧ Below w.heap.size w w' := by
  have hlen : (xs.take 200).length ≤ 200 := by rw [List.length_take]; omega
  go_enter Try.func3, Try.ntmps3
  go_wp2_with (first
    | (go_at_call 6; refine (awake_any _).mono ?_; rintro e w1 ⟨rfl, hb1⟩; have hr1 := (hr.below hb1 (Nat.le_refl _)).more hb1.size)
    | (go_at_call 7; refine (ref_bytes200 _ _ xs _ hr1 hl).mono ?_; rintro e w2 ⟨v, rfl, hown, hb2⟩; obtain ⟨A2, c2, rfl, hc2, hr2⟩ := own_rb hown; clear hown; generalize xs.take 200 = ds at *)
    | (go_at_call 8; refine (law_play _ _ ds _ hr2 (by omega)).mono ?_; rintro e w3 ⟨g, rfl, hge, hms, hb3⟩; have hr3 := hr2.below hb3 (Nat.le_refl _))
    | (go_at_call 9; refine (m_taken _ _ _ _ _ _ _ hms.mt).mono ?_; rintro e w' ⟨rfl, rfl⟩)
    | (go_at_call 11; refine (m_starts _ _ _ _ _ _ _ hms.mt).mono ?_; rintro e w' ⟨rfl, rfl⟩)
    | (go_at_call 13; refine (m_reads _ _ _ _ _ _ _ hms.mt).mono ?_; rintro e w' ⟨rfl, rfl⟩)
    | (go_at_call 14; refine (m_calls _ _ _ _ _ _ _ hms.mt).mono ?_; rintro e w' ⟨rfl, rfl⟩)
    | (go_at_call 15; refine (m_peak _ _ _ _ _ _ _ hms.mt).mono ?_; rintro e w' ⟨rfl, rfl⟩)
    | (go_at_call 10; refine (ref_taken _ _ ds _ _ hr3 (by omega)).mono ?_; rintro e w' ⟨rfl, rfl⟩)
    | (go_at_call 16; refine (ref_peak _ _ ds _ _ hr3 (by omega) hc2).mono ?_; rintro e w' ⟨rfl, rfl⟩)
    | (go_at_call 12; (with_reducible refine (ref_count0 _ _ ds _ _ hr3 (by omega)).mono ?_); rintro e w' ⟨rfl, rfl⟩)
    | (go_at_call 12; (with_reducible refine (ref_count1 _ _ ds _ _ hr3 (by omega)).mono ?_); rintro e w' ⟨rfl, rfl⟩)
    | (go_at_call 12; (with_reducible refine (ref_count2 _ _ ds _ _ hr3 (by omega)).mono ?_); rintro e w' ⟨rfl, rfl⟩))
  go_ret
  have q2 := hb1.trans (hb2.mono hb1.size)
  exact ⟨rfl, q2.trans (hb3.mono q2.size)⟩
end Go.Proofs.Ytjigfneckohboaa
