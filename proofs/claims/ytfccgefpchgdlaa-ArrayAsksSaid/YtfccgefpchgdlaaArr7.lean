
/- array: the least of two lists; the text walked. -/
import Derived.Test.YtfccgefpchgdlaaArr6
import Derived.Test.YtfccgefpchgdlaaArrM
namespace Go.Proofs.Ytfccgefpchgdlaa
open Go.RowKit
/-- The head of a list that isn't empty. -/
theorem rh_head {w : World} {B : Nat} {A : Option Addr} {x : Int} {l : List Int} (h : Rh w B A (x :: l)) : ∃ b off, A = some ⟨b, off, none⟩ ∧ w.cell? ⟨b, off, none⟩ = some (.int .u16 x) := by
  obtain ⟨b, off, hA, _, hc⟩ := h.at (k := 0) (by simp)
  exact ⟨b, off, hA, by simpa using hc⟩
section
variable (w : World) (B n m c c' : Nat) (A A' : Option Addr) (x y : Int) (l l' : List Int)
set_option maxHeartbeats 4000000 in
theorem least_one (h : Rh w B A (x :: l)) (_hn : 0 < n) (_hn' : n ≤ 4000000) : Calls Try.prog 51 #[.slice A n c, .slice A' 0 c'] w fun e w' => e = .returned (.tuple #[.int .u16 x, .int .i64 0]) ∧ ∃ q, w' = w.drewN q := by
  obtain ⟨b, off, rfl, hc⟩ := rh_head h
  clear h
  go_enter Try.func51, Try.ntmps51
  go_wp2
  go_quiet (fail)
  go_wp2
  go_ret2
  exact ⟨rfl, nq, rfl⟩
set_option maxHeartbeats 4000000 in
theorem least_two (h : Rh w B A' (y :: l')) (hn : 0 < m) (hn' : m ≤ 4000000) : Calls Try.prog 51 #[.slice A 0 c, .slice A' m c'] w fun e w' => e = .returned (.tuple #[.int .u16 y, .int .i64 1]) ∧ ∃ q, w' = w.drewN q := by
  obtain ⟨b, off, rfl, hc⟩ := rh_head h
  have hm0 : ((m : Int) == 0) = false := by rw [beq_eq_false_iff_ne]; omega
  have hm1 : (m == 0) = false := by rw [beq_eq_false_iff_ne]; omega
  clear h
  go_enter Try.func51, Try.ntmps51
  go_wp2
  go_quiet (fail)
  go_wp2
  go_quiet (fail)
  go_wp2
  go_ret2
  exact ⟨rfl, _, rfl⟩
set_option maxHeartbeats 8000000 in
theorem least_any (h : Rh w B A (x :: l)) (h' : Rh w B A' (y :: l')) (hn : 0 < n) (hn' : n ≤ 4000000) (hm : 0 < m) (hm' : m ≤ 4000000) :
    Calls Try.prog 51 #[.slice A n c, .slice A' m c'] w fun e w' => e = .returned (.tuple #[.int .u16 (if x < y then x else if y < x then y else x), .int .i64 (if x < y then 0 else if y < x then 1 else 2)]) ∧ ∃ q, w' = w.drewN q := by
  obtain ⟨b, off, rfl, hc⟩ := rh_head h
  obtain ⟨b', off', rfl, hc'⟩ := rh_head h'
  have hm0 : ((m : Int) == 0) = false := by rw [beq_eq_false_iff_ne]; omega
  have hm1 : (m == 0) = false := by rw [beq_eq_false_iff_ne]; omega
  have hn0 : ((n : Int) == 0) = false := by rw [beq_eq_false_iff_ne]; omega
  have hn1 : (n == 0) = false := by rw [beq_eq_false_iff_ne]; omega
  clear h h'
  by_cases h1 : x < y
  · have hd : decide (x < y) = true := decide_eq_true h1
    rw [if_pos h1, if_pos h1]
    go_enter Try.func51, Try.ntmps51
    go_wp2
    go_quiet (fail)
    go_wp2
    go_ret2
    exact ⟨rfl, _, rfl⟩
  · rw [if_neg h1, if_neg h1]
    have hd : decide (x < y) = false := decide_eq_false h1
    by_cases h2 : y < x
    · have hd2 : decide (y < x) = true := decide_eq_true h2
      rw [if_pos h2, if_pos h2]
      go_enter Try.func51, Try.ntmps51
      go_wp2
      go_quiet (fail)
      go_wp2
      go_quiet (fail)
      go_wp2
      go_ret2
      exact ⟨rfl, _, rfl⟩
    · have hd2 : decide (y < x) = false := decide_eq_false h2
      rw [if_neg h2, if_neg h2]
      go_enter Try.func51, Try.ntmps51
      go_wp2
      go_quiet (fail)
      go_wp2
      go_quiet (fail)
      go_wp2
      go_ret2
      exact ⟨rfl, _, rfl⟩
end
end Go.Proofs.Ytfccgefpchgdlaa
