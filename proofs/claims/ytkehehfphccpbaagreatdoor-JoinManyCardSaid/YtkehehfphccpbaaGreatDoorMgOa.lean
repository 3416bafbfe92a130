/- A strip in memory, and what the calls of package strip do to it: contracts, the text walked. A strip in memory: Set and Clear, the text walked. New, and a nil strip. Rank, Next, Prev. A strip's words read as a list of numbers. The next one, the last one and the k-th of a rising list. -/
import Derived.Lib.Hide
import Derived.Laws.Rows
import Derived.StillTailTactics
import Derived.LoopTactic
import Derived.Test.YtkehehfphccpbaaGreatDoorMgWo
section
namespace Go.Proofs.YtkehehfphccpbaaGreatDoor
set_option maxRecDepth 40000
open Go.RowKit

/-- Block s is a strip's struct, block h its words. -/
def St (w : World) (s h : Nat) (ws : List Nat) : Prop :=
  w.heap[s]? = some (.cells #[.slice (some ⟨h, 0, none⟩) ws.length ws.length] 116 (0, 0)) ∧ w.heap[h]? = some (.cells (wv ws).toArray 117 (0, 0)) ∧ (∀ x ∈ ws, x < 18446744073709551616) ∧ ws.length ≤ 4096
section
variable {w w' : World} {s h : Nat} {ws : List Nat}
theorem St.head (a : St w s h ws) : w.cell? ⟨s, 0, none⟩ = some (.slice (some ⟨h, 0, none⟩) ws.length ws.length) := cell_of_row w s 0 _ _ (0, 0) a.1
theorem St.cell (a : St w s h ws) (k : Nat) (hk : k < ws.length) : w.cell? ⟨h, k, none⟩ = some (.int .u64 (ws[k] : Nat)) := by
  rw [cell_of_row w h k _ _ (0, 0) a.2.1]
  simp [wv, hk]
theorem St.frozen (a : St w s h ws) (k : Nat) : w.frozen? ⟨h, k, none⟩ = false := by
  have := a.2.1
  simp [World.frozen?, this]
theorem St.lt (a : St w s h ws) : s < w.heap.size ∧ h < w.heap.size := by
  constructor
  · rcases Nat.lt_or_ge s w.heap.size with hlt | hge
    · exact hlt
    · have := a.1; rw [Array.getElem?_eq_none hge] at this; cases this
  · rcases Nat.lt_or_ge h w.heap.size with hlt | hge
    · exact hlt
    · have := a.2.1; rw [Array.getElem?_eq_none hge] at this; cases this
theorem St.ne (a : St w s h ws) : s ≠ h := by
  rintro rfl
  have h1 := a.1
  rw [a.2.1] at h1
  injection h1 with h1
  injection h1 with _ ht
  exact absurd ht (by decide)
theorem St.word (a : St w s h ws) (k : Nat) (hk : k < ws.length) : ws[k] < 18446744073709551616 := a.2.2.1 _ (List.getElem_mem hk)
theorem St.below {B : Nat} (a : St w s h ws) (hb : Below B w w') (hs : s < B) (hh : h < B) : St w' s h ws := ⟨(hb.block s hs).trans a.1, (hb.block h hh).trans a.2.1, a.2.2⟩
theorem St.drew (a : St w s h ws) (n : Nat) : St (w.drewN n) s h ws := a
/-- A word stored. -/
theorem St.store (a : St w s h ws) (k : Nat) (y : Nat) (hy : y < 18446744073709551616) : St (w.setCell ⟨h, k, none⟩ (.int .u64 (y : Nat))) s h (ws.set k y) := by
  refine ⟨?_, ?_, ?_, by rw [List.length_set]; exact a.2.2.2⟩
  · rw [List.length_set]
    exact (Below.heap_setCell w ⟨h, k, none⟩ _ s a.ne).trans a.1
  · have := a.2.1
    simp [World.setCell, Array.getElem?_modify, this, wv, List.map_set]
  · intro x hx
    rcases List.mem_or_eq_of_mem_set hx with hx | rfl
    · exact a.2.2.1 x hx
    · exact hy
theorem set_grown (w : World) (h k : Nat) (u : Value) : w.grownBy (w.setCell ⟨h, k, none⟩ u) (some h) :=
  ⟨rfl, rfl, rfl, by simp [World.setCell], fun j _ hne => Below.heap_setCell w _ u j (fun e => hne (by rw [e]))⟩
end

theorem s_bits (w : World) (s h : Nat) (ws : List Nat) (a : St w s h ws) :
    Calls Tryz.prog 100 #[.pointer (some ⟨s, 0, none⟩)] w fun e w' => e = .returned (.int .i64 ((64 * ws.length : Nat) : Int)) ∧ w = w' := by
  have hc := a.head
  have hl := a.2.2.2
  clear a
  generalize ws.length = n at *
  go_enter Tryz.func100, Tryz.ntmps100
  go_wp2
  go_ret
  exact ⟨ret_int (by omega), rfl⟩
theorem s_bits_nil (w : World) : Calls Tryz.prog 100 #[.pointer none] w fun e w' => e = .returned (.int .i64 0) ∧ w = w' := by
  go_enter Tryz.func100, Tryz.ntmps100
  go_wp2
  go_ret
  exact ⟨rfl, rfl⟩
theorem s_there (w : World) (s h : Nat) (ws : List Nat) (a : St w s h ws) (i : Int) :
    Calls Tryz.prog 80 #[.pointer (some ⟨s, 0, none⟩), .int .i64 i] w fun e w' => e = .returned (.bool (decide (0 ≤ i ∧ i < (64 * ws.length : Nat)))) ∧ w = w' := by
  have hb := Lib.hid (s_bits w s h ws a)
  clear a
  by_cases h0 : 0 ≤ i
  all_goals
    go_enter Tryz.func80, Tryz.ntmps80
    go_wp2_with (go_at_call 100; refine hb.out.mono ?_; rintro e w' ⟨rfl, rfl⟩)
    go_ret
    refine ⟨ret_bool ?_, rfl⟩
  · simp [h0]
  · rw [Bool.eq_iff_iff]
    simp
    omega
theorem s_there_nil (w : World) (i : Int) :
    Calls Tryz.prog 80 #[.pointer none, .int .i64 i] w fun e w' => e = .returned (.bool false) ∧ w = w' := by
  by_cases h0 : 0 ≤ i
  all_goals
    go_enter Tryz.func80, Tryz.ntmps80
    go_wp2_with (go_at_call 100; refine (s_bits_nil _).mono ?_; rintro e w' ⟨rfl, rfl⟩)
    go_ret
    first | exact ⟨rfl, rfl⟩ | (refine ⟨ret_bool ?_, rfl⟩; simp; omega)

/-- Is bit i of the words set? -/
def sbit (ws : List Nat) (i : Nat) : Bool := (ws[i / 64]?.getD 0).testBit (i % 64)
theorem s_get_out (w : World) (s h : Nat) (ws : List Nat) (a : St w s h ws) (i : Int) (ho : ¬ (0 ≤ i ∧ i < ((64 * ws.length : Nat) : Int))) :
    Calls Tryz.prog 81 #[.pointer (some ⟨s, 0, none⟩), .int .i64 i] w fun e w' => e = .returned (.bool false) ∧ w = w' := by
  have ht := Lib.hid (s_there w s h ws a i)
  have d : decide (0 ≤ i ∧ i < ((64 * ws.length : Nat) : Int)) = false := by rw [decide_eq_false_iff_not]; exact ho
  have hc := a.head
  rw [d] at ht
  clear a d ho
  go_enter Tryz.func81, Tryz.ntmps81
  go_wp2_with (go_at_call 80; refine ht.out.mono ?_; rintro e w' ⟨rfl, rfl⟩)
  go_ret
  exact ⟨rfl, rfl⟩
theorem s_get_in (w : World) (s h : Nat) (ws : List Nat) (a : St w s h ws) (i : Nat) (hi : i < 64 * ws.length) :
    Calls Tryz.prog 81 #[.pointer (some ⟨s, 0, none⟩), .int .i64 (i : Int)] w fun e w' => e = .returned (.bool (sbit ws i)) ∧ w = w' := by
  have ht := Lib.hid (s_there w s h ws a i)
  have d : decide (0 ≤ (i : Int) ∧ (i : Int) < ((64 * ws.length : Nat) : Int)) = true := by rw [decide_eq_true_eq]; omega
  have hc := a.head
  have hle := a.2.2.2
  have hk : i / 64 < ws.length := by omega
  have hw := a.cell (i / 64) hk
  have hx := a.word (i / 64) hk
  have hb := M.has_bit (ws[i / 64]) (i % 64) (Nat.mod_lt _ (by decide))
  have hs : Hid (sbit ws i = (ws[i / 64]).testBit (i % 64)) := by
    show sbit ws i = _
    unfold sbit
    rw [List.getElem?_eq_getElem hk]; rfl
  have hi2 : i ≤ 262144 := by omega
  rw [d] at ht
  clear a d
  generalize ws[i / 64] = x at *
  generalize ws.length = n at *
  have e1 : (i : Int) / 64 = ((i / 64 : Nat) : Int) := by omega
  have e2 : (i : Int) % 64 = ((i % 64 : Nat) : Int) := by omega
  generalize i / 64 = q at *
  generalize i % 64 = r at *
  go_enter Tryz.func81, Tryz.ntmps81
  go_wp2_with (first
    | (go_at_call 80; refine ht.out.mono ?_; rintro e w' ⟨rfl, rfl⟩)
    | (go_at_call 101; refine (bit_get x hx _ _).mono ?_; rintro e w' ⟨rfl, rfl⟩))
  go_ret
  exact ⟨ret_bool hs.out.symm, rfl⟩

end Go.Proofs.YtkehehfphccpbaaGreatDoor
end
section
namespace Go.Proofs.YtkehehfphccpbaaGreatDoor
set_option maxRecDepth 40000
open Go.RowKit
/-- With bit i set; with bit i cleared. -/
def sset (ws : List Nat) (i : Nat) : List Nat := ws.set (i / 64) ((ws[i / 64]?.getD 0) ||| M.one ((i % 64 : Nat) : Int))
def sclr (ws : List Nat) (i : Nat) : List Nat := ws.set (i / 64) ((ws[i / 64]?.getD 0) &&& (18446744073709551615 - M.one ((i % 64 : Nat) : Int)))
theorem grown_drew {w w' : World} {r : Option Nat} (a : w.grownBy w' r) : w.grownBy w'.drew r := ⟨a.os, a.tape, a.output, a.size, a.block⟩
set_option maxRecDepth 100000 in
theorem s_set_new (w : World) (s h : Nat) (ws : List Nat) (a : St w s h ws) (i : Nat) (hi : i < 64 * ws.length) (hb0 : sbit ws i = false) :
    Calls Tryz.prog 58 #[.pointer (some ⟨s, 0, none⟩), .int .i64 (i : Int)] w fun e w' => e = .returned (.bool true) ∧ St w' s h (sset ws i) ∧ w.grownBy w' (some h) := by
  have ht := Lib.hid (s_there w s h ws a i)
  have hg := Lib.hid (s_get_in w s h ws a i hi)
  have d : decide (0 ≤ (i : Int) ∧ (i : Int) < ((64 * ws.length : Nat) : Int)) = true := by rw [decide_eq_true_eq]; omega
  have hc := a.head
  have hle := a.2.2.2
  have hk : i / 64 < ws.length := by omega
  have hw := a.cell (i / 64) hk
  have hx := a.word (i / 64) hk
  have hf := a.frozen (i / 64)
  have hst := a.store (i / 64) (ws[i / 64] ||| M.one ((i % 64 : Nat) : Int)) (M.or_lt hx (M.one_lt _))
  have hgr := set_grown w h (i / 64) (.int .u64 ((ws[i / 64] ||| M.one ((i % 64 : Nat) : Int) : Nat) : Int))
  have hs : Hid (sset ws i = ws.set (i / 64) (ws[i / 64] ||| M.one ((i % 64 : Nat) : Int))) := by
    show sset ws i = _
    unfold sset
    rw [List.getElem?_eq_getElem hk]; rfl
  have hi2 : i ≤ 262144 := by omega
  rw [d] at ht
  rw [hb0] at hg
  have hsH := Lib.hid hst
  have hgH := Lib.hid hgr
  clear a d hst hgr hb0
  generalize ws[i / 64] = x at *
  generalize ws.length = n at *
  have e1 : (i : Int) / 64 = ((i / 64 : Nat) : Int) := by omega
  have e2 : (i : Int) % 64 = ((i % 64 : Nat) : Int) := by omega
  generalize i / 64 = q at *
  generalize i % 64 = r at *
  have wq : IntKind.i64.wrap (q : Int) = (q : Int) := IntWalk.i64_in _ (by omega)
  have wr : IntKind.i64.wrap (r : Int) = (r : Int) := IntWalk.i64_in _ (by omega)
  have m1 : (i : Int).tmod 64 = (r : Int) := by rw [Int.tmod_eq_emod_of_nonneg (by omega)]; exact e2
  have q0 : 0 ≤ (q : Int) := by omega
  have q1 : (q : Int) < (n : Int) := by omega
  have q2 : (q : Int).toNat = q := by omega
  go_enter Tryz.func58, Tryz.ntmps58
  go_wp2_with (first
    | (go_at_call 80; refine ht.out.mono ?_; rintro e w' ⟨rfl, rfl⟩)
    | (go_at_call 81; refine hg.out.mono ?_; rintro e w' ⟨rfl, rfl⟩))
  go_still_tail 18, (by kernel_rfl)
  still_call ((bit_set x hx _ _).mono (by rintro e w' ⟨rfl, rfl⟩; exact ⟨rfl, rfl⟩))
  still_step
  refine wpStill_nil ?_
  clear wq wr q0 q1 q2 m1
  change wpList _ _ _ _ _ w.drew
  go_wp2
  go_ret
  refine ⟨rfl, ?_, ?_⟩
  · rw [hs.out]; exact hsH.out.drew 1
  · exact grown_drew hgH.out
theorem s_set_out (w : World) (s h : Nat) (ws : List Nat) (a : St w s h ws) (i : Int) (ho : ¬ (0 ≤ i ∧ i < ((64 * ws.length : Nat) : Int))) :
    Calls Tryz.prog 58 #[.pointer (some ⟨s, 0, none⟩), .int .i64 i] w fun e w' => e = .returned (.bool false) ∧ w = w' := by
  have ht := Lib.hid (s_there w s h ws a i)
  have d : decide (0 ≤ i ∧ i < ((64 * ws.length : Nat) : Int)) = false := by rw [decide_eq_false_iff_not]; exact ho
  rw [d] at ht
  clear a d ho
  go_enter Tryz.func58, Tryz.ntmps58
  go_wp2_with (go_at_call 80; refine ht.out.mono ?_; rintro e w' ⟨rfl, rfl⟩)
  go_ret
  exact ⟨rfl, rfl⟩
theorem s_set_old (w : World) (s h : Nat) (ws : List Nat) (a : St w s h ws) (i : Nat) (hi : i < 64 * ws.length) (hb0 : sbit ws i = true) :
    Calls Tryz.prog 58 #[.pointer (some ⟨s, 0, none⟩), .int .i64 (i : Int)] w fun e w' => e = .returned (.bool false) ∧ w = w' := by
  have ht := Lib.hid (s_there w s h ws a i)
  have hg := Lib.hid (s_get_in w s h ws a i hi)
  have d : decide (0 ≤ (i : Int) ∧ (i : Int) < ((64 * ws.length : Nat) : Int)) = true := by rw [decide_eq_true_eq]; omega
  rw [d] at ht
  rw [hb0] at hg
  clear a d hb0
  go_enter Tryz.func58, Tryz.ntmps58
  go_wp2_with (first
    | (go_at_call 80; refine ht.out.mono ?_; rintro e w' ⟨rfl, rfl⟩)
    | (go_at_call 81; refine hg.out.mono ?_; rintro e w' ⟨rfl, rfl⟩))
  go_ret
  exact ⟨rfl, rfl⟩
theorem s_get_nil (w : World) (i : Int) :
    Calls Tryz.prog 81 #[.pointer none, .int .i64 i] w fun e w' => e = .returned (.bool false) ∧ w = w' := by
  go_enter Tryz.func81, Tryz.ntmps81
  go_wp2_with (go_at_call 80; refine (s_there_nil _ _).mono ?_; rintro e w' ⟨rfl, rfl⟩)
  go_ret
  exact ⟨rfl, rfl⟩
theorem s_set_nil (w : World) (i : Int) :
    Calls Tryz.prog 58 #[.pointer none, .int .i64 i] w fun e w' => e = .returned (.bool false) ∧ w = w' := by
  go_enter Tryz.func58, Tryz.ntmps58
  go_wp2_with (go_at_call 80; refine (s_there_nil _ _).mono ?_; rintro e w' ⟨rfl, rfl⟩)
  go_ret
  exact ⟨rfl, rfl⟩
end Go.Proofs.YtkehehfphccpbaaGreatDoor
end
section
namespace Go.Proofs.YtkehehfphccpbaaGreatDoor
set_option maxRecDepth 40000
open Go.RowKit
theorem alloc_top (w : World) (o : Obj) {k : Nat} (hk : k = w.heap.size) : (w.alloc o).heap[k]? = some o := by
  subst hk
  show (w.heap.push o)[w.heap.size]? = some o
  simp
theorem made_zero (n : Nat) : madeCells #[Value.int .u64 0] n = (wv (List.replicate n 0)).toArray := by
  apply Array.toList_inj.1
  rw [toList_madeCells_one]
  simp [wv]
theorem s_new_no (w : World) (n : Int) (hn : ¬ (0 ≤ n ∧ n ≤ 4096)) : Calls Tryz.prog 56 #[.int .i64 n] w fun e w' => e = .returned (.tuple #[.pointer none, .int .i64 1]) ∧ w = w' := by
  by_cases h0 : 0 ≤ n
  · have h1 : 4096 < n := by omega
    go_enter Tryz.func56, Tryz.ntmps56
    go_wp2
    go_ret2
    exact ⟨rfl, rfl⟩
  · go_enter Tryz.func56, Tryz.ntmps56
    go_wp2
    go_ret2
    exact ⟨rfl, rfl⟩
theorem s_new (w : World) (n : Nat) (hn : n ≤ 4096) : Calls Tryz.prog 56 #[.int .i64 (n : Int)] w fun e w' => ∃ s h, e = .returned (.tuple #[.pointer (some ⟨s, 0, none⟩), .int .i64 0]) ∧ St w' s h (List.replicate n 0) ∧ w.grownBy w' none ∧ w.heap.size ≤ s ∧ w.heap.size ≤ h := by
  have h0 : 0 ≤ (n : Int) := by omega
  have h1 : (n : Int) ≤ 4096 := by omega
  have hmk : ∀ w : World, (Instr.makeSlice 114 (.int .i64 (n : Int)) (.int .i64 (n : Int))).run Tryz.prog w = .ok (.slice (some ⟨w.heap.size, 0, none⟩) n n) (w.alloc (.cells (madeCells (Value.int .u64 0).cells n) 117)) := by
    intro w
    obtain ⟨ti, hi, hb, hz, hsz⟩ : ∃ ti, Tryz.prog.info? 117 = some ti ∧ ti.bytes = 8 ∧ ti.zero = some (.int .u64 0) ∧ ti.size = 1 := ⟨_, rfl, rfl, rfl, rfl⟩
    have := run_make (P := Tryz.prog) w 114 117 ti _ (by kernel_rfl) hi hz .i64 .i64 (n : Int) (n : Int) (by omega) (by omega) (by rw [hb]; omega) (by omega)
    simpa [hsz] using this
  go_enter Tryz.func56, Tryz.ntmps56
  go_wp2
  go_ret2
  refine ⟨w.heap.size + 1, w.heap.size, rfl, ⟨?_, ?_, ?_, ?_⟩, ?_, by omega, by omega⟩
  · rw [List.length_replicate]; exact alloc_top _ _ (by simp)
  · rw [Below.heap_alloc _ _ _ (by simp), alloc_top _ _ rfl, made_zero]
  · intro x hx
    rw [List.eq_of_mem_replicate hx]; decide
  · rw [List.length_replicate]; exact hn
  · exact (World.grownBy_alloc _ _ none).trans (World.grownBy_alloc _ _ none)
end Go.Proofs.YtkehehfphccpbaaGreatDoor
end
section
namespace Go.Proofs.YtkehehfphccpbaaGreatDoor
set_option maxRecDepth 40000
open Go.RowKit
theorem s_rank_nil (w : World) (i : Int) : Calls Tryz.prog 164 #[.pointer none, .int .i64 i] w fun e w' => e = .returned (.int .i64 0) ∧ w = w' := by
  go_enter Tryz.func164, Tryz.ntmps164
  go_wp2_with (go_at_call 100; refine (s_bits_nil _).mono ?_; rintro e w' ⟨rfl, rfl⟩)
  go_loop [5, 6] (fun m a => m = .int .i64 0 ∧ a = .int .i64 0) (fun _ _ => 0)
  case atStart => exact ⟨rfl, rfl⟩
  case round =>
    obtain ⟨rfl, rfl⟩ := hrel
    have hT : ¬ 0 < min i 0 := by omega
    have hT2 : decide (0 < min i 0) = false := decide_eq_false hT
    go_wp2
    refine bodyPost_ret (results_tmp (t := 4) rfl _ _ _) rfl ?_
    exact ⟨rfl, rfl⟩
theorem s_count_nil (w : World) : Calls Tryz.prog 163 #[.pointer none] w fun e w' => e = .returned (.int .i64 0) ∧ w = w' := by
  go_enter Tryz.func163, Tryz.ntmps163
  go_wp2_with (first
    | (go_at_call 100; refine (s_bits_nil _).mono ?_; rintro e w' ⟨rfl, rfl⟩)
    | (go_at_call 164; refine (s_rank_nil _ _).mono ?_; rintro e w' ⟨rfl, rfl⟩))
  go_ret
  exact ⟨rfl, rfl⟩
theorem s_change_nil (w : World) (i j : Int) (f : Value) (hi : i ≤ 9223372036854775807) : Calls Tryz.prog 88 #[.pointer none, .int .i64 i, .int .i64 j, f] w fun e w' => e = .returned (.int .i64 0) ∧ w = w' := by
  have q1 : 0 ≤ max i 0 / 64 := by omega
  have q2 : max i 0 / 64 * 64 ≤ 9223372036854775807 := by omega
  have q3 : IntKind.i64.wrap ((max i 0).tdiv 64) = max i 0 / 64 := IntWalk.i64_quo _ _ (by omega)
  have q4 : IntKind.i64.wrap (max i 0 / 64) = max i 0 / 64 := IntWalk.i64_in _ (by omega)
  have q6 : IntKind.i64.wrap (max i 0 / 64 * 64) = max i 0 / 64 * 64 := IntWalk.i64_in _ (by omega)
  have q5 : decide (max i 0 / 64 * 64 < min j 0) = false := decide_eq_false (by omega)
  generalize max i 0 / 64 = q at *
  go_enter Tryz.func88, Tryz.ntmps88
  go_wp2_with (go_at_call 100; refine (s_bits_nil _).mono ?_; rintro e w' ⟨rfl, rfl⟩)
  go_loop [9, 10] (fun m a => m = .int .i64 0 ∧ a = .int .i64 q) (fun _ _ => 0)
  case atStart => exact ⟨rfl, rfl⟩
  case round =>
    obtain ⟨rfl, rfl⟩ := hrel
    go_wp2
    refine bodyPost_ret (results_tmp (t := 8) rfl _ _ _) rfl ?_
    exact ⟨rfl, rfl⟩
theorem s_fill_nil (w : World) (i j : Int) (hi : i ≤ 9223372036854775807) : Calls Tryz.prog 72 #[.pointer none, .int .i64 i, .int .i64 j] w fun e w' => e = .returned (.int .i64 0) ∧ w = w' := by
  go_enter Tryz.func72, Tryz.ntmps72
  go_wp2_with (go_at_call 88; refine (s_change_nil _ _ _ _ hi).mono ?_; rintro e w' ⟨rfl, rfl⟩)
  go_ret
  exact ⟨rfl, rfl⟩
theorem s_wipe_nil (w : World) (i j : Int) (hi : i ≤ 9223372036854775807) : Calls Tryz.prog 73 #[.pointer none, .int .i64 i, .int .i64 j] w fun e w' => e = .returned (.int .i64 0) ∧ w = w' := by
  go_enter Tryz.func73, Tryz.ntmps73
  go_wp2_with (go_at_call 88; refine (s_change_nil _ _ _ _ hi).mono ?_; rintro e w' ⟨rfl, rfl⟩)
  go_ret
  exact ⟨rfl, rfl⟩
end Go.Proofs.YtkehehfphccpbaaGreatDoor
end
section
namespace Go.Proofs.YtkehehfphccpbaaGreatDoor
set_option maxRecDepth 40000
open Go.RowKit
/-- The numbers of the set bits of all words, rising. -/
def sl (ws : List Nat) : List Int := ((List.range (64 * ws.length)).filter (sbit ws)).map fun i : Nat => (i : Int)
theorem sbit_old (ws : List Nat) (x i : Nat) (h : i < 64 * ws.length) : sbit (ws ++ [x]) i = sbit ws i := by
  unfold sbit
  rw [List.getElem?_append_left (by omega)]
theorem sbit_new (ws : List Nat) (x j : Nat) (h : j < 64) : sbit (ws ++ [x]) (64 * ws.length + j) = x.testBit j := by
  unfold sbit
  have e1 : (64 * ws.length + j) / 64 = ws.length := by omega
  have e2 : (64 * ws.length + j) % 64 = j := by omega
  rw [e1, e2]
  simp
theorem sl_snoc (ws : List Nat) (x : Nat) : sl (ws ++ [x]) = sl ws ++ (M.bz x).map (fun y => y + ((64 * ws.length : Nat) : Int)) := by
  unfold sl
  have e : 64 * (ws ++ [x]).length = 64 * ws.length + 64 := by simp; omega
  rw [e, List.range_add, List.filter_append, List.map_append]
  congr 1
  · congr 1
    apply List.filter_congr
    intro i hi
    exact sbit_old ws x i (List.mem_range.1 hi)
  · unfold M.bz M.bl
    rw [List.filter_map, List.map_map, List.map_map]
    have : (List.range 64).filter (sbit (ws ++ [x]) ∘ fun i => 64 * ws.length + i) = (List.range 64).filter fun i => x.testBit i := by
      apply List.filter_congr
      intro i hi
      exact sbit_new ws x i (List.mem_range.1 hi)
    rw [this]
    apply List.map_congr_left
    intro i _
    simp
    omega
theorem sl_in {ws : List Nat} {y : Int} : y ∈ sl ws ↔ 0 ≤ y ∧ y < (64 * ws.length : Nat) ∧ sbit ws y.toNat = true := by
  unfold sl
  simp only [List.mem_map, List.mem_filter, List.mem_range]
  constructor
  · rintro ⟨i, ⟨h1, h2⟩, rfl⟩
    exact ⟨by omega, by omega, by simpa using h2⟩
  · rintro ⟨h1, h2, h3⟩
    exact ⟨y.toNat, ⟨by omega, h3⟩, by omega⟩
theorem rank_shift (l : List Int) (d i : Int) : M.rRank (l.map fun y => y + d) i = M.rRank l (i - d) := by
  unfold M.rRank
  rw [List.filter_map, List.length_map]
  congr 1
  apply List.filter_congr
  intro y _
  simp
  omega
theorem rank_app (l m : List Int) (i : Int) : M.rRank (l ++ m) i = M.rRank l i + M.rRank m i := by
  unfold M.rRank; rw [List.filter_append, List.length_append]
theorem rank_snoc (ws : List Nat) (x : Nat) (i : Int) : M.rRank (sl (ws ++ [x])) i = M.rRank (sl ws) i + M.rRank (M.bz x) (i - ((64 * ws.length : Nat) : Int)) := by
  rw [sl_snoc, rank_app, rank_shift]
theorem rank_low {l : List Int} {i : Int} (h : ∀ y ∈ l, i ≤ y) : M.rRank l i = 0 := by
  unfold M.rRank
  rw [List.length_eq_zero_iff, List.filter_eq_nil_iff]
  intro y hy
  have := h y hy
  simp; omega
theorem rank_take (ws : List Nat) (k : Nat) (i : Int) (h : i ≤ (64 * k : Nat)) (hk : k ≤ ws.length) : M.rRank (sl (ws.take k)) i = M.rRank (sl ws) i := by
  obtain ⟨d, hd⟩ : ∃ d, ws.length = k + d := ⟨ws.length - k, by omega⟩
  suffices ∀ e, k + e ≤ ws.length → M.rRank (sl (ws.take (k + e))) i = M.rRank (sl (ws.take k)) i by
    have := this d (by omega)
    rw [← hd, List.take_length] at this
    exact this.symm
  intro e
  induction e with
  | zero => intro _; rfl
  | succ e ih =>
    intro he
    have hlt : k + e < ws.length := by omega
    have hl : (ws.take (k + e)).length = k + e := by rw [List.length_take]; omega
    rw [show k + (e + 1) = (k + e) + 1 from rfl, List.take_succ_eq_append_getElem hlt, rank_snoc, ih (by omega), rank_low (l := M.bz _), Nat.add_zero]
    intro y hy
    have := (M.mem_bz.1 hy).1
    rw [hl]; omega
theorem rank_le (ws : List Nat) (i : Int) : M.rRank (sl ws) i ≤ 64 * ws.length := by
  unfold M.rRank sl
  refine Nat.le_trans (List.length_filter_le _ _) ?_
  rw [List.length_map]
  refine Nat.le_trans (List.length_filter_le _ _) ?_
  rw [List.length_range]; omega
end Go.Proofs.YtkehehfphccpbaaGreatDoor
end
section
namespace Go.Proofs.YtkehehfphccpbaaGreatDoor
set_option maxRecDepth 40000
theorem bz_up (x : Nat) : (M.bz x).Pairwise (· < ·) := by
  unfold M.bz M.bl
  rw [List.pairwise_map]
  refine List.Pairwise.imp ?_ (List.Pairwise.filter _ List.pairwise_lt_range)
  intro a b h; omega
theorem sl_up (ws : List Nat) : (sl ws).Pairwise (· < ·) := by
  unfold sl
  rw [List.pairwise_map]
  refine List.Pairwise.imp ?_ (List.Pairwise.filter _ List.pairwise_lt_range)
  intro a b h; omega
theorem next_cases {l : List Int} (hs : l.Pairwise (· < ·)) (n : Int) :
    (M.rNext l n = -1 ∧ ∀ z ∈ l, z < n) ∨ (M.rNext l n ∈ l ∧ n ≤ M.rNext l n ∧ ∀ z ∈ l, n ≤ z → M.rNext l n ≤ z) := by
  unfold M.rNext
  induction l with
  | nil => left; simp
  | cons a l ih =>
    rw [List.pairwise_cons] at hs
    by_cases h : n ≤ a
    · right
      simp [h]
      intro z hz _
      exact Int.le_of_lt (hs.1 z hz)
    · rw [List.find?_cons_of_neg (by simpa using h)]
      rcases ih hs.2 with ⟨h1, h2⟩ | ⟨h1, h2, h3⟩
      · left
        refine ⟨h1, ?_⟩
        intro z hz
        rcases List.mem_cons.1 hz with rfl | hz
        · omega
        · exact h2 z hz
      · right
        refine ⟨List.mem_cons_of_mem _ h1, h2, ?_⟩
        intro z hz hn
        rcases List.mem_cons.1 hz with rfl | hz
        · exact absurd hn h
        · exact h3 z hz hn
theorem prev_cases {l : List Int} (hs : l.Pairwise (· < ·)) (n : Int) :
    (M.rPrev l n = -1 ∧ ∀ z ∈ l, n < z) ∨ (M.rPrev l n ∈ l ∧ M.rPrev l n ≤ n ∧ ∀ z ∈ l, z ≤ n → z ≤ M.rPrev l n) := by
  unfold M.rPrev
  rcases hf : (l.filter fun x => decide (x ≤ n)).getLast? with _ | y
  · left
    refine ⟨rfl, ?_⟩
    intro z hz
    rw [List.getLast?_eq_none_iff, List.filter_eq_nil_iff] at hf
    have := hf z hz
    simp at this; omega
  · right
    obtain ⟨ys, hy⟩ := List.getLast?_eq_some_iff.1 hf
    have hm : y ∈ l.filter fun x => decide (x ≤ n) := by rw [hy]; simp
    have hp := List.Pairwise.filter (fun x => decide (x ≤ n)) hs
    rw [List.mem_filter] at hm
    refine ⟨hm.1, by simpa using hm.2, ?_⟩
    intro z hz hzn
    have hz2 : z ∈ l.filter fun x => decide (x ≤ n) := List.mem_filter.2 ⟨hz, by simpa using hzn⟩
    rw [hy] at hz2 hp
    rw [List.pairwise_append] at hp
    rcases List.mem_append.1 hz2 with h | h
    · exact Int.le_of_lt (hp.2.2 z h y (by simp))
    · simp at h; simp [h]
/-- A word's number stands in the list. -/
theorem sl_word {ws : List Nat} {k : Nat} (hk : k < ws.length) {b : Int} : b ∈ M.bz ws[k] ↔ 0 ≤ b ∧ b < 64 ∧ b + 64 * (k : Int) ∈ sl ws := by
  rw [M.mem_bz, sl_in]
  constructor
  · rintro ⟨h1, h2, h3⟩
    refine ⟨h1, h2, by omega, by omega, ?_⟩
    have e1 : (b + 64 * (k : Int)).toNat / 64 = k := by omega
    have e2 : (b + 64 * (k : Int)).toNat % 64 = b.toNat := by omega
    unfold sbit
    rw [e1, e2, List.getElem?_eq_getElem hk]; exact h3
  · rintro ⟨h1, h2, _, _, h3⟩
    refine ⟨h1, h2, ?_⟩
    have e1 : (b + 64 * (k : Int)).toNat / 64 = k := by omega
    have e2 : (b + 64 * (k : Int)).toNat % 64 = b.toNat := by omega
    unfold sbit at h3
    rw [e1, e2, List.getElem?_eq_getElem hk] at h3; exact h3
end Go.Proofs.YtkehehfphccpbaaGreatDoor
end
