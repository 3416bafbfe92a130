
/- A nil set; a new one of any limit; all of a nil one; the texts walked. -/
import Derived.Test.YtlinoambdlkfjaaGreatRo3
namespace Go.Proofs.YtlinoambdlkfjaaGreat
open Go.RowKit
theorem bel_al' {B : Nat} {w w' : World} (h : Below B w w') (hB : B ≤ w.heap.size) (o : Obj) : Below B w (w'.alloc o) := h.alloc (Nat.le_trans hB h.size) o
theorem al_top2' (w : World) (a b : Obj) : ((w.alloc a).alloc b).heap[w.heap.size + 1]? = some b := by
  have := alloc_top (w.alloc a) b
  simpa only [World.size_alloc] using this
theorem n_insert (w : World) (k : Int) : Calls Tryz.prog 11 #[.pointer none, .int .u64 k] w fun e w' => e = .returned (.int .i64 3) ∧ Below w.heap.size w w' := by
  go_enter Tryz.func11, Tryz.ntmps11
  go_wp2
  go_ret
  exact ⟨rfl, (Below.refl _ w).alloc (Nat.le_refl _) _⟩
theorem n_delete (w : World) (k : Int) : Calls Tryz.prog 12 #[.pointer none, .int .u64 k] w fun e w' => e = .returned (.int .i64 3) ∧ Below w.heap.size w w' := by
  go_enter Tryz.func12, Tryz.ntmps12
  go_wp2
  go_ret
  exact ⟨rfl, (Below.refl _ w).alloc (Nat.le_refl _) _⟩
theorem n_has (w : World) (k : Int) : Calls Tryz.prog 13 #[.pointer none, .int .u64 k] w fun e w' => e = .returned (.bool false) ∧ w = w' := by
  go_enter Tryz.func13, Tryz.ntmps13
  go_wp2
  go_ret
  exact ⟨rfl, rfl⟩
theorem n_next (w : World) (k : Int) : Calls Tryz.prog 6 #[.pointer none, .int .u64 k] w fun e w' => e = .returned (.tuple #[.int .u64 0, .bool false]) ∧ w = w' := by
  go_enter Tryz.func6, Tryz.ntmps6
  go_wp2
  go_ret2
  exact ⟨rfl, rfl⟩
theorem n_prev (w : World) (k : Int) : Calls Tryz.prog 7 #[.pointer none, .int .u64 k] w fun e w' => e = .returned (.tuple #[.int .u64 0, .bool false]) ∧ w = w' := by
  go_enter Tryz.func7, Tryz.ntmps7
  go_wp2
  go_ret2
  exact ⟨rfl, rfl⟩
theorem n_min (w : World) : Calls Tryz.prog 8 #[.pointer none] w fun e w' => e = .returned (.tuple #[.int .u64 0, .bool false]) ∧ w = w' := by
  go_enter Tryz.func8, Tryz.ntmps8
  go_wp2
  go_ret2
  exact ⟨rfl, rfl⟩
theorem n_max (w : World) : Calls Tryz.prog 9 #[.pointer none] w fun e w' => e = .returned (.tuple #[.int .u64 0, .bool false]) ∧ w = w' := by
  go_enter Tryz.func9, Tryz.ntmps9
  go_wp2
  go_ret2
  exact ⟨rfl, rfl⟩
theorem n_clear (w : World) : Calls Tryz.prog 10 #[.pointer none] w fun e w' => e = .returned (.tuple #[]) ∧ w = w' := by
  go_enter Tryz.func10, Tryz.ntmps10
  go_wp2
  refine bodyPost_ret (results_none rfl _ _ _) rfl ?_
  exact ⟨rfl, rfl⟩
theorem n_len (w : World) : Calls Tryz.prog 14 #[.pointer none] w fun e w' => e = .returned (.int .i64 0) ∧ w = w' := by
  go_enter Tryz.func14, Tryz.ntmps14
  go_wp2
  go_ret
  exact ⟨rfl, rfl⟩
theorem n_used (w : World) : Calls Tryz.prog 15 #[.pointer none] w fun e w' => e = .returned (.int .i64 0) ∧ w = w' := by
  go_enter Tryz.func15, Tryz.ntmps15
  go_wp2
  go_ret
  exact ⟨rfl, rfl⟩
theorem n_limit (w : World) : Calls Tryz.prog 16 #[.pointer none] w fun e w' => e = .returned (.int .i64 0) ∧ w = w' := by
  go_enter Tryz.func16, Tryz.ntmps16
  go_wp2
  go_ret
  exact ⟨rfl, rfl⟩
theorem len_one (w : World) (P G B L X Q c : Nat) (xs : List Int) (h : R1 w P G B L X Q c xs) : Calls Tryz.prog 14 #[.pointer (some ⟨P, 0, none⟩)] w fun e w' => e = .returned (.int .i64 (xs.length : Nat)) ∧ w = w' := by
  have c3 : w.cell? ⟨P, 3, none⟩ = some (.int .i64 (xs.length : Nat)) := cell_of_row _ P 3 _ _ (0, 0) h.p
  clear h
  go_enter Tryz.func14, Tryz.ntmps14
  go_wp2
  go_ret
  exact ⟨rfl, rfl⟩
theorem new_no (w : World) (n : Int) (hn : ¬ (0 ≤ n ∧ n ≤ 1048576)) : Calls Tryz.prog 5 #[.int .i64 n] w fun e w' => e = .returned (.tuple #[.pointer none, .int .i64 1]) ∧ w = w' := by
  by_cases h0 : n < 0
  · have g : decide (n < 0) = true := decide_eq_true h0
    go_enter Tryz.func5, Tryz.ntmps5
    go_wp2
    go_ret2
    exact ⟨rfl, rfl⟩
  · have g : decide (n < 0) = false := decide_eq_false h0
    have g1 : decide (1048576 < n) = true := decide_eq_true (by omega)
    go_enter Tryz.func5, Tryz.ntmps5
    go_wp2
    go_ret2
    exact ⟨rfl, rfl⟩
theorem new_yes (w : World) (n : Int) (h0 : 0 ≤ n) (h1 : n ≤ 1048576) : Calls Tryz.prog 5 #[.int .i64 n] w fun e w' => ∃ P G, e = .returned (.tuple #[.pointer (some ⟨P, 0, none⟩), .int .i64 0]) ∧ w'.heap[P]? = some (.cells #[.pointer (some ⟨G, 0, none⟩), .slice none 0 0, .int .i64 0, .int .i64 0, .int .i64 0, .int .i64 n] 43 (0, 0)) ∧ Mq w' G ∧ w.heap.size ≤ P ∧ w.heap.size ≤ G ∧ Below w.heap.size w w' := by
  have g : decide (n < 0) = false := decide_eq_false (by omega)
  have g1 : decide (1048576 < n) = false := decide_eq_false (by omega)
  have HQ := Lib.hid (q_new w)
  go_enter Tryz.func5, Tryz.ntmps5
  go_wp2_with (first
    | (go_at_call 18; (with_reducible refine HQ.out.mono ?_); rintro e w1 ⟨rfl, hm, rfl⟩; replace hm := Lib.hid hm))
  go_ret2
  have hb := bel_al' (Below.refl _ w) (Nat.le_refl _) (.cells #[.int .i64 0, .int .i64 0, .int .i64 0, .int .i64 0, .int .i64 0] 69)
  exact ⟨_, _, rfl, al_top2' _ _ _, hm.out.but (but_alloc' _ _ (fun _ => False)) (fun h => h), Nat.le_succ _, Nat.le_refl _, bel_al' hb (Nat.le_refl _) _⟩
end Go.Proofs.YtlinoambdlkfjaaGreat
