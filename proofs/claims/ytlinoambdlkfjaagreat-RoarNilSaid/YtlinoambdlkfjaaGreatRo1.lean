
/- Boxes by the upper bits: a meter of any numbers; a set that has nothing, and one with one part; the small calls; the texts walked. -/
import Derived.Test.YtlinoambdlkfjaaGreatBoL
import Derived.IntWalk
import Derived.Laws.Rows
import Derived.LoopTactic
import Derived.RegionTactic
import Derived.BigQuiet
import Derived.Laws.EntriesVeiled
namespace Go.Proofs.YtlinoambdlkfjaaGreat
open Go.RowKit
theorem row_lt {w : World} {g : Nat} {o : Obj} (h : w.heap[g]? = some o) : g < w.heap.size := (Array.getElem?_eq_some_iff.1 h).1
theorem row_ne {w : World} {g g' : Nat} {cs cs' : Array Value} {T T' : TypeId} (h : w.heap[g]? = some (.cells cs T (0, 0))) (h' : w.heap[g']? = some (.cells cs' T' (0, 0))) (hT : T ≠ T') : g ≠ g' := by
  rintro rfl
  rw [h] at h'
  simp only [Option.some.injEq, Obj.cells.injEq] at h'
  exact hT h'.2.1
theorem row_set {w : World} {g : Nat} {cs : Array Value} {T : TypeId} (h : w.heap[g]? = some (.cells cs T (0, 0))) (i : Nat) (u : Value) : (w.setCell ⟨g, i, none⟩ u).heap[g]? = some (.cells (cs.setIfInBounds i u) T (0, 0)) := by
  simp [World.setCell, Array.getElem?_modify, h]
/-- A meter of any numbers. -/
def Mq (w : World) (g : Nat) : Prop := ∃ r c s t p : Int, w.heap[g]? = some (.cells #[.int .i64 r, .int .i64 c, .int .i64 s, .int .i64 t, .int .i64 p] 69 (0, 0))
theorem Mq.but {w w' : World} {g : Nat} {S : Nat → Prop} (h : Mq w g) (hb : ButS w w' S) (hg : ¬ S g) : Mq w' g := by
  obtain ⟨r, c, s, t, p, hr⟩ := h
  exact ⟨r, c, s, t, p, (hb.block g (row_lt hr) hg).trans hr⟩
theorem q_start (w : World) (g : Nat) (h : Mq w g) :
    Calls Tryz.prog 19 #[.pointer (some ⟨g, 0, none⟩)] w fun e w' => e = .returned (.tuple #[]) ∧ Mq w' g ∧ ButS w w' (· = g) := by
  obtain ⟨r, c, s, t, p, hr⟩ := h
  have hc := cell_of_row w g 2 _ _ (0, 0) hr
  have hc3 := cell_of_row w g 3 _ _ (0, 0) hr
  have hf : ∀ i, w.frozen? ⟨g, i, none⟩ = false := fun i => frozen_of_row w g i _ _ hr
  have hf2 := hf 2
  have hf3 := hf 3
  simp at hc hc3
  have H := Lib.hid hr
  clear hr hf
  go_enter Tryz.func19, Tryz.ntmps19
  go_wp2
  go_end0
  refine ⟨rfl, ⟨r, c, wrap64 (s + 1), 0, p, ?_⟩, (but_set' w g 2 _ (· = g) rfl).trans (but_set' _ g 3 _ (· = g) rfl)⟩
  have := row_set (row_set H.out 2 (.int .i64 (wrap64 (s + 1)))) 3 (.int .i64 ((0 : Nat) : Int))
  simpa using this
theorem q_step (w : World) (g : Nat) (h : Mq w g) :
    Calls Tryz.prog 44 #[.pointer (some ⟨g, 0, none⟩)] w fun e w' => e = .returned (.tuple #[]) ∧ Mq w' g ∧ ButS w w' (· = g) := by
  obtain ⟨r, c, s, t, p, hr⟩ := h
  have hc := cell_of_row w g 3 _ _ (0, 0) hr
  have hf3 := frozen_of_row w g 3 _ _ hr
  simp at hc
  have h2 := row_set hr 3 (.int .i64 (wrap64 (t + 1)))
  simp at h2
  have k3 := cell_of_row _ g 3 _ _ (0, 0) h2
  have k4 := cell_of_row _ g 4 _ _ (0, 0) h2
  have f4 := frozen_of_row _ g 4 _ _ h2
  simp at k3 k4
  have H := Lib.hid h2
  clear hr h2
  go_enter Tryz.func44, Tryz.ntmps44
  go_wp2
  go_region
  go_end0
  refine ⟨rfl, ⟨r, c, s, wrap64 (t + 1), max p (wrap64 (t + 1)), ?_⟩, ((but_set' w g 3 _ (· = g) rfl).trans (but_set' _ g 4 _ (· = g) rfl)).drewN 1⟩
  have := row_set H.out 4 (.int .i64 (max p (wrap64 (t + 1))))
  simp at this
  exact this
theorem q_read (w : World) (g : Nat) (h : Mq w g) :
    Calls Tryz.prog 22 #[.pointer (some ⟨g, 0, none⟩)] w fun e w' => e = .returned (.tuple #[]) ∧ Mq w' g ∧ ButS w w' (· = g) := by
  obtain ⟨r, c, s, t, p, hr⟩ := h
  have hc := cell_of_row w g 0 _ _ (0, 0) hr
  have hf0 := frozen_of_row w g 0 _ _ hr
  simp at hc
  have h1 : Mq (w.setCell ⟨g, 0, none⟩ (.int .i64 (wrap64 (r + 1)))) g := by
    refine ⟨wrap64 (r + 1), c, s, t, p, ?_⟩
    have := row_set hr 0 (.int .i64 (wrap64 (r + 1)))
    simpa using this
  clear hr
  have hsH := Lib.hid (q_step _ g h1)
  clear h1
  go_enter Tryz.func22, Tryz.ntmps22
  go_wp2_with (go_at_call 44; (with_reducible refine hsH.out.mono ?_); rintro e w2 ⟨rfl, hm2, hg2⟩; have hm2H := Lib.hid hm2; have hg2H := Lib.hid hg2; clear hm2 hg2)
  go_end0
  exact ⟨rfl, hm2H.out, (but_set' w g 0 _ (· = g) rfl).trans hg2H.out⟩
theorem q_new (w : World) : Calls Tryz.prog 18 #[] w fun e w' => e = .returned (.pointer (some ⟨w.heap.size, 0, none⟩)) ∧ Mq w' w.heap.size ∧ w' = w.alloc (.cells #[.int .i64 0, .int .i64 0, .int .i64 0, .int .i64 0, .int .i64 0] 69) := by
  go_enter Tryz.func18, Tryz.ntmps18
  go_wp2
  go_ret
  exact ⟨rfl, ⟨0, 0, 0, 0, 0, alloc_top _ _⟩, rfl⟩
theorem ofInt_u64R (a : Nat) (ha : a < 18446744073709551616) : (BitVec.ofInt 64 (a : Int)).toNat = a := by
  rw [BitVec.ofInt_natCast, BitVec.toNat_ofNat]; exact Nat.mod_eq_of_lt (by omega)
theorem or_nil (a : Nat) (ha : a < 65536) : bits .or .u64 0 (a : Int) = (a : Int) := by
  show IntKind.u64.wrap ((BitVec.ofInt 64 0 ||| BitVec.ofInt 64 (a : Int)).toNat : Int) = _
  rw [BitVec.toNat_or, ofInt_u64R a (by omega)]
  have e : (BitVec.ofInt 64 0).toNat = 0 := by decide
  rw [e, Nat.zero_or]
  exact IntWalk.u64_in _ (by omega)
theorem up_any (w : World) (k : Nat) (hk : k < 65536) : Calls Tryz.prog 21 #[.int .u64 (k : Int)] w fun e w' => e = .returned (.int .u64 0) ∧ w = w' := by
  have h0 : (k : Int) / 65536 = 0 := by omega
  have h1 : (k : Int) / 2 ^ 16 = 0 := by omega
  go_enter Tryz.func21, Tryz.ntmps21
  go_wp2
  go_ret
  exact ⟨rfl, rfl⟩
theorem lo_any (w : World) (k : Nat) (hk : k < 65536) : Calls Tryz.prog 24 #[.int .u64 (k : Int)] w fun e w' => e = .returned (.int .u16 (k : Int)) ∧ w = w' := by
  have h0 : IntKind.u16.wrap (k : Int) = k := IntWalk.u16_in _ (by omega)
  go_enter Tryz.func24, Tryz.ntmps24
  go_wp2
  go_ret
  exact ⟨rfl, rfl⟩
theorem key_any (w : World) (X : Nat) (n : Int) (q : Value) (h : w.heap[X]? = some (.cells #[.int .u64 0, .int .i64 n, q] 54 (0, 0))) (k : Nat) (hk : k < 65536) :
    Calls Tryz.prog 25 #[.pointer (some ⟨X, 0, none⟩), .int .u16 (k : Int)] w fun e w' => e = .returned (.int .u64 (k : Int)) ∧ w = w' := by
  have c0 : w.cell? ⟨X, 0, none⟩ = some (.int .u64 0) := cell_of_row w X 0 _ _ (0, 0) h
  have h0 : IntKind.u64.wrap (k : Int) = k := IntWalk.u64_in _ (by omega)
  have h1 := or_nil k hk
  clear h
  go_enter Tryz.func25, Tryz.ntmps25
  go_wp2
  go_ret
  exact ⟨rfl, rfl⟩
theorem pu_any (w : World) (n : Nat) (h0 : 0 < n) (h1 : n ≤ 4096) : Calls Tryz.prog 46 #[.int .i64 (n : Int)] w fun e w' => e = .returned (.int .i64 ((n : Int) + 1)) ∧ w = w' := by
  have g0 : ((n : Int) == 0) = false := by rw [beq_eq_false_iff_ne]; omega
  have g1 : decide (4096 < (n : Int)) = false := decide_eq_false (by omega)
  go_enter Tryz.func46, Tryz.ntmps46
  go_wp2
  go_ret
  exact ⟨by go_num, rfl⟩
theorem room_any (w : World) (P : Nat) (a b c d : Value) (u l m : Int) (h : w.heap[P]? = some (.cells #[a, b, c, d, .int .i64 u, .int .i64 l] 43 (0, 0))) (hu : 0 ≤ u ∧ u ≤ 4000) (hl : l = 4000) (hm : 0 ≤ m ∧ m ≤ 1000) (hr : m ≤ 4000 - u) :
    Calls Tryz.prog 33 #[.pointer (some ⟨P, 0, none⟩), .int .i64 m] w fun e w' => e = .returned (.bool true) ∧ ∃ n, w' = w.drewN n := by
  subst hl
  have c4 : w.cell? ⟨P, 4, none⟩ = some (.int .i64 u) := cell_of_row w P 4 _ _ (0, 0) h
  have c5 : w.cell? ⟨P, 5, none⟩ = some (.int .i64 4000) := cell_of_row w P 5 _ _ (0, 0) h
  have g : decide (m ≤ 4000 - u) = true := decide_eq_true hr
  clear h
  go_enter Tryz.func33, Tryz.ntmps33
  go_wp2
  go_quiet (fail)
  go_wp2
  go_ret
  exact ⟨rfl, _, rfl⟩
end Go.Proofs.YtlinoambdlkfjaaGreat
