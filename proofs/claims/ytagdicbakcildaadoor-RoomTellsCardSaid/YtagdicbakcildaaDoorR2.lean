
/- What is needed, and for how many a limit is enough: Need, Most, Steps, Depth, and the document's Need; the texts walked. -/
import Derived.Test.YtagdicbakcildaaDoorR1
namespace Go.Proofs.YtagdicbakcildaaDoor
open Go.RowKit
namespace M
/-- A limit that is enough for n keys; -1: there is none. -/
def nd (t n : Int) : Int := if t < 1 ∨ 5 < t ∨ n < 0 ∨ 262144 < n then -1 else if n = 0 then 0 else bd t 0 * n + bd t 1
/-- For how many keys a limit is enough. -/
def mo (t l : Int) : Int := if t < 1 ∨ 5 < t ∨ l < 0 ∨ l < bd t 1 then 0 else min 262144 ((l - bd t 1) / bd t 0)
def me (t l : Int) : Int := if t < 1 ∨ 5 < t ∨ l < 0 then 1 else 0
def na (t n : Int) : Int := if nd t n < 0 then 0 else nd t n
def ne (t n : Int) : Int := if nd t n < 0 then 1 else 0
theorem n_bad {t n : Int} (h : nd t n = -1) : na t n = 0 ∧ ne t n = 1 := ⟨by unfold na; rw [h]; rfl, by unfold ne; rw [h]; rfl⟩
theorem n_good {t n : Int} (h : 0 ≤ nd t n) : na t n = nd t n ∧ ne t n = 0 := ⟨by unfold na; rw [if_neg (by omega)], by unfold ne; rw [if_neg (by omega)]⟩
theorem nd_no {t n : Int} (h : t < 1 ∨ 5 < t ∨ n < 0 ∨ 262144 < n) : nd t n = -1 := by unfold nd; rw [if_pos h]
theorem nd_zero {t : Int} (h : 1 ≤ t) (h5 : t ≤ 5) : nd t 0 = 0 := by unfold nd; rw [if_neg (by omega), if_pos rfl]
theorem nd_yes {t n : Int} (h : 1 ≤ t) (h5 : t ≤ 5) (h1 : 1 ≤ n) (h2 : n ≤ 262144) : nd t n = bd t 0 * n + bd t 1 := by unfold nd; rw [if_neg (by omega), if_neg (by omega)]
theorem nd_pos {t n : Int} (h : 1 ≤ t) (h5 : t ≤ 5) (h1 : 0 ≤ n) (h2 : n ≤ 262144) : 0 ≤ nd t n ∧ nd t n ≤ 30000000 := by
  unfold nd
  rw [if_neg (by omega)]
  by_cases h0 : n = 0
  · rw [if_pos h0]; omega
  · rw [if_neg h0]
    rcases bd_yes h h5 with ⟨_, e1, e2⟩ | ⟨_, e1, e2⟩ | ⟨_, e1, e2⟩ | ⟨_, e1, e2⟩ | ⟨_, e1, e2⟩ <;> rw [e1, e2] <;> omega
theorem mo_range (t l : Int) : 0 ≤ mo t l ∧ mo t l ≤ 262144 := by
  unfold mo
  split
  · omega
  · rename_i h
    rcases bd_yes (t := t) (by omega) (by omega) with ⟨_, e1, e2⟩ | ⟨_, e1, e2⟩ | ⟨_, e1, e2⟩ | ⟨_, e1, e2⟩ | ⟨_, e1, e2⟩ <;> rw [e1, e2] <;> rw [e2] at h <;> omega
/-- They fit one another. -/
theorem mo_fit {t l : Int} (h : 1 ≤ t) (h5 : t ≤ 5) (h0 : 0 ≤ l) : nd t (mo t l) ≤ l ∧ (mo t l < 262144 → l < nd t (mo t l + 1)) := by
  rcases bd_yes h h5 with ⟨_, e1, e2⟩ | ⟨_, e1, e2⟩ | ⟨_, e1, e2⟩ | ⟨_, e1, e2⟩ | ⟨_, e1, e2⟩ <;>
  · unfold nd mo
    rw [e1, e2]
    refine ⟨?_, fun hlt => ?_⟩ <;> (repeat' split) <;> (repeat' split at hlt) <;> omega
end M
theorem ret2 {a b a' b' : Int} {k : IntKind} (h : a = a') (h2 : b = b') : Ending.returned (.tuple #[.int k a, .int k b]) = .returned (.tuple #[.int k a', .int k b']) := by rw [h, h2]
theorem bel (w : World) (n : Nat) : Below w.heap.size w (w.drewN n) := below_drewN (Below.refl _ _) _
set_option maxRecDepth 100000 in
set_option maxHeartbeats 4000000 in
theorem ref_need (t n : Int) (w : World) : Calls Tryd.prog 7 #[.int .i64 t, .int .i64 n] w fun e w' => e = .returned (.int .i64 (M.nd t n)) ∧ Below w.heap.size w w' := by
  by_cases h1 : n < 0
  · have g1 : decide (n < 0) = true := decide_eq_true h1
    have HF := Lib.hid (M.nd_no (t := t) (n := n) (by omega))
    go_enter Tryd.func7, Tryd.ntmps7
    go_wp2
    go_ret
    exact ⟨ret_int HF.out.symm, by first | exact Below.refl _ _ | exact bel _ _⟩
  · have g1 : decide (n < 0) = false := decide_eq_false h1
    by_cases h2 : 262144 < n
    · have g3 : decide (262144 < n) = true := decide_eq_true h2
      have HF := Lib.hid (M.nd_no (t := t) (n := n) (by omega))
      go_enter Tryd.func7, Tryd.ntmps7
      go_wp2
      go_ret
      exact ⟨ret_int HF.out.symm, by first | exact Below.refl _ _ | exact bel _ _⟩
    · have g3 : decide (262144 < n) = false := decide_eq_false h2
      by_cases ht : 1 ≤ t ∧ t ≤ 5
      · obtain ⟨t1, t5⟩ := ht
        by_cases h0 : n = 0
        · subst h0
          have HF := Lib.hid (M.nd_zero t1 t5)
          have g4 : decide (1 ≤ t) = true := decide_eq_true t1
          have g5 : decide (t ≤ 5) = true := decide_eq_true t5
          clear h1 h2 g1 g3
          go_enter Tryd.func7, Tryd.ntmps7
          go_wp2
          go_ret
          exact ⟨ret_int HF.out.symm, by first | exact Below.refl _ _ | exact bel _ _⟩
        · have hn1 : 1 ≤ n := by omega
          have hn2 : n ≤ 262144 := by omega
          have g4 : (n == 0) = false := beq_eq_false_iff_ne.2 h0
          have hf := M.nd_yes t1 t5 hn1 hn2
          have hh := M.bd_yes t1 t5
          clear h0
          rcases hh with ⟨rfl, e1, e2⟩ | ⟨rfl, e1, e2⟩ | ⟨rfl, e1, e2⟩ | ⟨rfl, e1, e2⟩ | ⟨rfl, e1, e2⟩
          · have HF : Hid (M.nd 1 n = 5 * n + 1) := Lib.hid (by rw [hf, e1, e2]; rfl)
            have x1 : IntKind.i64.wrap (5 * n) = 5 * n := IntWalk.i64_in _ (by omega)
            have x2 : IntKind.i64.wrap (5 * n + 1) = 5 * n + 1 := IntWalk.i64_in _ (by omega)
            clear hf e1 e2 t1 t5
            go_enter Tryd.func7, Tryd.ntmps7
            go_wp2
            go_ret
            exact ⟨ret_int (by have := HF.out; omega), by first | exact Below.refl _ _ | exact bel _ _⟩
          · have HF : Hid (M.nd 2 n = 66 * n + 0) := Lib.hid (by rw [hf, e1, e2]; rfl)
            have x1 : IntKind.i64.wrap (66 * n) = 66 * n := IntWalk.i64_in _ (by omega)
            have x2 : IntKind.i64.wrap (66 * n + 0) = 66 * n + 0 := IntWalk.i64_in _ (by omega)
            clear hf e1 e2 t1 t5
            go_enter Tryd.func7, Tryd.ntmps7
            go_wp2
            go_ret
            exact ⟨ret_int (by have := HF.out; omega), by first | exact Below.refl _ _ | exact bel _ _⟩
          · have HF : Hid (M.nd 3 n = 4 * n + 68) := Lib.hid (by rw [hf, e1, e2]; rfl)
            have x1 : IntKind.i64.wrap (4 * n) = 4 * n := IntWalk.i64_in _ (by omega)
            have x2 : IntKind.i64.wrap (4 * n + 68) = 4 * n + 68 := IntWalk.i64_in _ (by omega)
            clear hf e1 e2 t1 t5
            go_enter Tryd.func7, Tryd.ntmps7
            go_wp2
            go_ret
            exact ⟨ret_int (by have := HF.out; omega), by first | exact Below.refl _ _ | exact bel _ _⟩
          · have HF : Hid (M.nd 4 n = 11 * n + 0) := Lib.hid (by rw [hf, e1, e2]; rfl)
            have x1 : IntKind.i64.wrap (11 * n) = 11 * n := IntWalk.i64_in _ (by omega)
            have x2 : IntKind.i64.wrap (11 * n + 0) = 11 * n + 0 := IntWalk.i64_in _ (by omega)
            clear hf e1 e2 t1 t5
            go_enter Tryd.func7, Tryd.ntmps7
            go_wp2
            go_ret
            exact ⟨ret_int (by have := HF.out; omega), by first | exact Below.refl _ _ | exact bel _ _⟩
          · have HF : Hid (M.nd 5 n = 2 * n + 0) := Lib.hid (by rw [hf, e1, e2]; rfl)
            have x1 : IntKind.i64.wrap (2 * n) = 2 * n := IntWalk.i64_in _ (by omega)
            have x2 : IntKind.i64.wrap (2 * n + 0) = 2 * n + 0 := IntWalk.i64_in _ (by omega)
            clear hf e1 e2 t1 t5
            go_enter Tryd.func7, Tryd.ntmps7
            go_wp2
            go_ret
            exact ⟨ret_int (by have := HF.out; omega), by first | exact Below.refl _ _ | exact bel _ _⟩
      · have HF := Lib.hid (M.nd_no (t := t) (n := n) (by omega))
        have a1 : (t == 1) = false := beq_eq_false_iff_ne.2 (by omega)
        have a2 : (t == 2) = false := beq_eq_false_iff_ne.2 (by omega)
        have a3 : (t == 3) = false := beq_eq_false_iff_ne.2 (by omega)
        have a4 : (t == 4) = false := beq_eq_false_iff_ne.2 (by omega)
        have a5 : (t == 5) = false := beq_eq_false_iff_ne.2 (by omega)
        by_cases h0 : n = 0
        · subst h0
          rcases Int.lt_or_le t 1 with t1 | t1
          · have g4 : decide (1 ≤ t) = false := decide_eq_false (by omega)
            clear h1 h2 g1 g3 ht
            go_enter Tryd.func7, Tryd.ntmps7
            go_wp2
            go_ret
            exact ⟨ret_int HF.out.symm, by first | exact Below.refl _ _ | exact bel _ _⟩
          · have g4 : decide (1 ≤ t) = true := decide_eq_true t1
            have g5 : decide (t ≤ 5) = false := decide_eq_false (by omega)
            clear h1 h2 g1 g3 ht
            go_enter Tryd.func7, Tryd.ntmps7
            go_wp2
            go_ret
            exact ⟨ret_int HF.out.symm, by first | exact Below.refl _ _ | exact bel _ _⟩
        · have g4 : (n == 0) = false := beq_eq_false_iff_ne.2 h0
          clear h0
          go_enter Tryd.func7, Tryd.ntmps7
          go_wp2
          go_ret
          exact ⟨ret_int HF.out.symm, by first | exact Below.refl _ _ | exact bel _ _⟩
theorem fin_c {w w2 : World} {o : Obj} (h : Below w.heap.size w w2) (n : Nat) : Below w.heap.size w ((w2.alloc o).drewN n) := below_drewN (h.alloc h.size _) n
theorem fin_b {w w2 : World} {o : Obj} (h : Below w.heap.size w w2) : Below w.heap.size w (w2.alloc o) := h.alloc h.size _
set_option maxRecDepth 100000 in
set_option maxHeartbeats 4000000 in
theorem need_any (t n : Int) (w : World) (h : BT w) : Calls Tryd.prog 6 #[.int .i64 t, .int .i64 n] w fun e w' => e = .returned (.tuple #[.int .i64 (M.na t n), .int .i64 (M.ne t n)]) ∧ Below w.heap.size w w' := by
  by_cases ht : 1 ≤ t ∧ t ≤ 5
  · obtain ⟨t1, t5⟩ := ht
    by_cases h1 : n < 0
    · have g1 : decide (n < 0) = true := decide_eq_true h1
      have HF := Lib.hid (M.n_bad (M.nd_no (t := t) (n := n) (by omega)))
      have hh := M.bd_yes t1 t5
      have a0 : (((M.bd t 0 : Nat) : Int) == 0) = false := beq_eq_false_iff_ne.2 (by omega)
      clear hh
      go_enter Tryd.func6, Tryd.ntmps6
      go_wp2_with (go_at_call 14; (with_reducible refine (of_any t _ h).mono ?_); rintro e w2 ⟨rfl, hb⟩; have HB := Lib.hid hb; clear hb)
      go_ret2
      exact ⟨ret2 HF.out.1.symm HF.out.2.symm, by have := HB.out; exact fin_b this⟩
    · have g1 : decide (n < 0) = false := decide_eq_false h1
      by_cases h2 : 262144 < n
      · have g3 : decide (262144 < n) = true := decide_eq_true h2
        have HF := Lib.hid (M.n_bad (M.nd_no (t := t) (n := n) (by omega)))
        have hh := M.bd_yes t1 t5
        have a0 : (((M.bd t 0 : Nat) : Int) == 0) = false := beq_eq_false_iff_ne.2 (by omega)
        clear hh
        go_enter Tryd.func6, Tryd.ntmps6
        go_wp2_with (go_at_call 14; (with_reducible refine (of_any t _ h).mono ?_); rintro e w2 ⟨rfl, hb⟩; have HB := Lib.hid hb; clear hb)
        go_ret2
        exact ⟨ret2 HF.out.1.symm HF.out.2.symm, by have := HB.out; exact fin_b this⟩
      · have g3 : decide (262144 < n) = false := decide_eq_false h2
        by_cases h0 : n = 0
        · subst h0
          have HF : Hid (M.na t 0 = 0 ∧ M.ne t 0 = 0) := Lib.hid (by have h := M.nd_zero t1 t5; have h2 := M.n_good (t := t) (n := 0) (by omega); rw [h] at h2; exact h2)
          have hh := M.bd_yes t1 t5
          have a0 : (((M.bd t 0 : Nat) : Int) == 0) = false := beq_eq_false_iff_ne.2 (by omega)
          clear hh h1 h2 g1 g3
          go_enter Tryd.func6, Tryd.ntmps6
          go_wp2_with (go_at_call 14; (with_reducible refine (of_any t _ h).mono ?_); rintro e w2 ⟨rfl, hb⟩; have HB := Lib.hid hb; clear hb)
          go_ret2
          exact ⟨ret2 HF.out.1.symm HF.out.2.symm, by have := HB.out; exact fin_b this⟩
        · have hn1 : 1 ≤ n := by omega
          have hn2 : n ≤ 262144 := by omega
          have g4 : (n == 0) = false := beq_eq_false_iff_ne.2 h0
          have hf := M.nd_yes t1 t5 hn1 hn2
          have hh := M.bd_yes t1 t5
          clear h0
          have hng := M.n_good (M.nd_pos t1 t5 (show 0 ≤ n by omega) hn2).1
          rw [hf] at hng
          have a0 : (((M.bd t 0 : Nat) : Int) == 0) = false := beq_eq_false_iff_ne.2 (by omega)
          have x1 : IntKind.i64.wrap ((M.bd t 0 : Nat) * n) = (M.bd t 0 : Nat) * n := IntWalk.i64_in _ (by rcases hh with ⟨_, e1, e2⟩ | ⟨_, e1, e2⟩ | ⟨_, e1, e2⟩ | ⟨_, e1, e2⟩ | ⟨_, e1, e2⟩ <;> rw [e1] <;> omega)
          have x2 : IntKind.i64.wrap ((M.bd t 0 : Nat) * n + (M.bd t 1 : Nat)) = (M.bd t 0 : Nat) * n + (M.bd t 1 : Nat) := IntWalk.i64_in _ (by rcases hh with ⟨_, e1, e2⟩ | ⟨_, e1, e2⟩ | ⟨_, e1, e2⟩ | ⟨_, e1, e2⟩ | ⟨_, e1, e2⟩ <;> rw [e1, e2] <;> omega)
          have HF := Lib.hid hng
          clear hh hf hng
          go_enter Tryd.func6, Tryd.ntmps6
          go_wp2_with (go_at_call 14; (with_reducible refine (of_any t _ h).mono ?_); rintro e w2 ⟨rfl, hb⟩; have HB := Lib.hid hb; clear hb)
          go_ret2
          exact ⟨ret2 HF.out.1.symm HF.out.2.symm, by have := HB.out; exact fin_b this⟩
  · have HF := Lib.hid (M.n_bad (M.nd_no (t := t) (n := n) (by omega)))
    have h0 := M.bd_no (t := t) (by omega) 0 (by omega)
    have a0 : (((M.bd t 0 : Nat) : Int) == 0) = true := by rw [h0]; rfl
    clear h0
    go_enter Tryd.func6, Tryd.ntmps6
    go_wp2_with (go_at_call 14; (with_reducible refine (of_any t _ h).mono ?_); rintro e w2 ⟨rfl, hb⟩; have HB := Lib.hid hb; clear hb)
    go_ret2
    exact ⟨ret2 HF.out.1.symm HF.out.2.symm, by have := HB.out; exact fin_b this⟩
set_option maxRecDepth 100000 in
set_option maxHeartbeats 4000000 in
theorem most_any (t l : Int) (hl : l < 9223372036854775808) (w : World) (h : BT w) : Calls Tryd.prog 8 #[.int .i64 t, .int .i64 l] w fun e w' => e = .returned (.tuple #[.int .i64 (M.mo t l), .int .i64 (M.me t l)]) ∧ Below w.heap.size w w' := by
  by_cases ht : 1 ≤ t ∧ t ≤ 5
  · obtain ⟨t1, t5⟩ := ht
    have hh := M.bd_yes t1 t5
    have a0 : (((M.bd t 0 : Nat) : Int) == 0) = false := beq_eq_false_iff_ne.2 (by omega)
    by_cases h1 : l < 0
    · have g1 : decide (l < 0) = true := decide_eq_true h1
      have HF : Hid (M.mo t l = 0 ∧ M.me t l = 1) := Lib.hid ⟨by unfold M.mo; rw [if_pos (by omega)], by unfold M.me; rw [if_pos (by omega)]⟩
      clear hh
      go_enter Tryd.func8, Tryd.ntmps8
      go_wp2_with (go_at_call 14; (with_reducible refine (of_any t _ h).mono ?_); rintro e w2 ⟨rfl, hb⟩; have HB := Lib.hid hb; clear hb)
      go_ret2
      exact ⟨ret2 HF.out.1.symm HF.out.2.symm, by have := HB.out; exact fin_b this⟩
    · have g1 : decide (l < 0) = false := decide_eq_false h1
      by_cases h2 : l < (M.bd t 1 : Nat)
      · have g2 : decide (l < ((M.bd t 1 : Nat) : Int)) = true := decide_eq_true h2
        have HF : Hid (M.mo t l = 0 ∧ M.me t l = 0) := Lib.hid ⟨by unfold M.mo; rw [if_pos (by omega)], by unfold M.me; rw [if_neg (by omega)]⟩
        clear hh
        go_enter Tryd.func8, Tryd.ntmps8
        go_wp2_with (go_at_call 14; (with_reducible refine (of_any t _ h).mono ?_); rintro e w2 ⟨rfl, hb⟩; have HB := Lib.hid hb; clear hb)
        go_ret2
        exact ⟨ret2 HF.out.1.symm HF.out.2.symm, by have := HB.out; exact fin_b this⟩
      · have g2 : decide (l < ((M.bd t 1 : Nat) : Int)) = false := decide_eq_false h2
        have HF : Hid (M.mo t l = min 262144 ((l - (M.bd t 1 : Nat)) / (M.bd t 0 : Nat)) ∧ M.me t l = 0) := Lib.hid ⟨by unfold M.mo; rw [if_neg (by omega)], by unfold M.me; rw [if_neg (by omega)]⟩
        have x1 : IntKind.i64.wrap (l - (M.bd t 1 : Nat)) = l - (M.bd t 1 : Nat) := IntWalk.i64_in _ (by omega)
        have hdv : (l - ((M.bd t 1 : Nat) : Int)).tdiv ((M.bd t 0 : Nat) : Int) = (l - (M.bd t 1 : Nat)) / (M.bd t 0 : Nat) := Int.tdiv_eq_ediv_of_nonneg (by omega)
        have x2 : IntKind.i64.wrap ((l - (M.bd t 1 : Nat)) / (M.bd t 0 : Nat)) = (l - (M.bd t 1 : Nat)) / (M.bd t 0 : Nat) := IntWalk.i64_in _ (by rcases hh with ⟨_, e1, e2⟩ | ⟨_, e1, e2⟩ | ⟨_, e1, e2⟩ | ⟨_, e1, e2⟩ | ⟨_, e1, e2⟩ <;> rw [e1, e2] <;> omega)
        have a1 : M.bd t 0 ≠ 0 := by omega
        have a2 : ((M.bd t 0 : Nat) : Int) ≠ 0 := by omega
        clear hh
        go_enter Tryd.func8, Tryd.ntmps8
        go_wp2_with (go_at_call 14; (with_reducible refine (of_any t _ h).mono ?_); rintro e w2 ⟨rfl, hb⟩; have HB := Lib.hid hb; clear hb)
        go_ret2
        exact ⟨ret2 HF.out.1.symm HF.out.2.symm, by have := HB.out; exact fin_b this⟩
  · have HF : Hid (M.mo t l = 0 ∧ M.me t l = 1) := Lib.hid ⟨by unfold M.mo; rw [if_pos (by omega)], by unfold M.me; rw [if_pos (by omega)]⟩
    have h0 := M.bd_no (t := t) (by omega) 0 (by omega)
    have a0 : (((M.bd t 0 : Nat) : Int) == 0) = true := by rw [h0]; rfl
    clear h0
    go_enter Tryd.func8, Tryd.ntmps8
    go_wp2_with (go_at_call 14; (with_reducible refine (of_any t _ h).mono ?_); rintro e w2 ⟨rfl, hb⟩; have HB := Lib.hid hb; clear hb)
    go_ret2
    exact ⟨ret2 HF.out.1.symm HF.out.2.symm, by have := HB.out; exact fin_b this⟩
set_option maxRecDepth 100000 in
set_option maxHeartbeats 4000000 in
theorem steps_any (t : Int) (w : World) (h : BT w) : Calls Tryd.prog 10 #[.int .i64 t] w fun e w' => e = .returned (.tuple #[.int .i64 (M.bd t 2 : Nat), .int .i64 (M.bd t 3 : Nat), .int .i64 (M.bd t 4 : Nat)]) ∧ Below w.heap.size w w' := by
  go_enter Tryd.func10, Tryd.ntmps10
  go_wp2_with (go_at_call 14; (with_reducible refine (of_any t _ h).mono ?_); rintro e w2 ⟨rfl, hb⟩; have HB := Lib.hid hb; clear hb)
  go_quiet (fail)
  go_wp2
  go_ret3
  exact ⟨rfl, by have := HB.out; exact fin_c this _⟩
theorem run_bd5 (t : Int) (w : World) : (Instr.field 36 (bval t) 5).run Tryd.prog w = .ok (.int .i64 (M.bd t 5 : Nat)) w := by kernel_rfl
set_option maxRecDepth 100000 in
set_option maxHeartbeats 4000000 in
theorem depth_any (t : Int) (w : World) (h : BT w) : Calls Tryd.prog 12 #[.int .i64 t] w fun e w' => e = .returned (.int .i64 (M.bd t 5 : Nat)) ∧ Below w.heap.size w w' := by
  have hfd := run_bd5 t
  go_enter Tryd.func12, Tryd.ntmps12
  go_wp2_with (go_at_call 14; (with_reducible refine (of_any t _ h).mono ?_); rintro e w2 ⟨rfl, hb⟩; have HB := Lib.hid hb; clear hb)
  go_ret
  exact ⟨rfl, HB.out⟩
end Go.Proofs.YtagdicbakcildaaDoor
