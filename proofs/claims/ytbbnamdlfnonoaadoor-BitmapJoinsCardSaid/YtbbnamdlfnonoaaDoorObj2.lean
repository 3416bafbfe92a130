
/- A strip in memory: Set and Clear, the text walked. -/
import Derived.Test.YtbbnamdlfnonoaaDoorObj
namespace Go.Proofs.YtbbnamdlfnonoaaDoor
open Go.RowKit
/-- With bit i set; with bit i cleared. -/
def sset (ws : List Nat) (i : Nat) : List Nat := ws.set (i / 64) ((ws[i / 64]?.getD 0) ||| M.one ((i % 64 : Nat) : Int))
def sclr (ws : List Nat) (i : Nat) : List Nat := ws.set (i / 64) ((ws[i / 64]?.getD 0) &&& (18446744073709551615 - M.one ((i % 64 : Nat) : Int)))
theorem grown_drew {w w' : World} {r : Option Nat} (a : w.grownBy w' r) : w.grownBy w'.drew r := ⟨a.os, a.tape, a.output, a.size, a.block⟩
set_option maxRecDepth 100000 in
theorem s_set_new (w : World) (s h : Nat) (ws : List Nat) (a : St w s h ws) (i : Nat) (hi : i < 64 * ws.length) (hb0 : sbit ws i = false) :
    Calls Tryd.prog 55 #[.pointer (some ⟨s, 0, none⟩), .int .i64 (i : Int)] w fun e w' => e = .returned (.bool true) ∧ St w' s h (sset ws i) ∧ w.grownBy w' (some h) := by
  have ht := Lib.hid (s_there w s h ws a i)
  have hg := Lib.hid (s_get_in w s h ws a i hi)
  have d : decide (0 ≤ (i : Int) ∧ (i : Int) < ((64 * ws.length : Nat) : Int)) = true := by rw [decide_eq_true_eq]; omega
  have hc := a.head
  have hle := a.2.2.2
  have hk : i / 64 < ws.length := by omega
  have hw := a.cell (i / 64) hk
  have hx := a.word (i / 64) hk
  have hf := a.frozen (i / 64)
  have hst := a.store (i / 64) (ws[i / 64] ||| M.one ((i % 64 : Nat) : Int)) (M.or_lt hx (M.one_lt _))
  have hgr := set_grown w h (i / 64) (.int .u64 ((ws[i / 64] ||| M.one ((i % 64 : Nat) : Int) : Nat) : Int))
  have hs : Hid (sset ws i = ws.set (i / 64) (ws[i / 64] ||| M.one ((i % 64 : Nat) : Int))) := by
    show sset ws i = _
    unfold sset
    rw [List.getElem?_eq_getElem hk]; rfl
  have hi2 : i ≤ 262144 := by omega
  rw [d] at ht
  rw [hb0] at hg
  have hsH := Lib.hid hst
  have hgH := Lib.hid hgr
  clear a d hst hgr hb0
  generalize ws[i / 64] = x at *
  generalize ws.length = n at *
  have e1 : (i : Int) / 64 = ((i / 64 : Nat) : Int) := by omega
  have e2 : (i : Int) % 64 = ((i % 64 : Nat) : Int) := by omega
  generalize i / 64 = q at *
  generalize i % 64 = r at *
  have wq : IntKind.i64.wrap (q : Int) = (q : Int) := IntWalk.i64_in _ (by omega)
  have wr : IntKind.i64.wrap (r : Int) = (r : Int) := IntWalk.i64_in _ (by omega)
  have m1 : (i : Int).tmod 64 = (r : Int) := by rw [Int.tmod_eq_emod_of_nonneg (by omega)]; exact e2
  have q0 : 0 ≤ (q : Int) := by omega
  have q1 : (q : Int) < (n : Int) := by omega
  have q2 : (q : Int).toNat = q := by omega
  go_enter Tryd.func55, Tryd.ntmps55
  go_wp2_with (first
    | (go_at_call 69; refine ht.out.mono ?_; rintro e w' ⟨rfl, rfl⟩)
    | (go_at_call 47; refine hg.out.mono ?_; rintro e w' ⟨rfl, rfl⟩))
  go_still_tail 18, (by kernel_rfl)
  still_call ((bit_set x hx _ _).mono (by rintro e w' ⟨rfl, rfl⟩; exact ⟨rfl, rfl⟩))
  still_step
  refine wpStill_nil ?_
  clear wq wr q0 q1 q2 m1
  change wpList _ _ _ _ _ w.drew
  go_wp2
  go_ret
  refine ⟨rfl, ?_, ?_⟩
  · rw [hs.out]; exact hsH.out.drew 1
  · exact grown_drew hgH.out
set_option maxRecDepth 100000 in
theorem s_clear_old (w : World) (s h : Nat) (ws : List Nat) (a : St w s h ws) (i : Nat) (hi : i < 64 * ws.length) (hb0 : sbit ws i = true) :
    Calls Tryd.prog 56 #[.pointer (some ⟨s, 0, none⟩), .int .i64 (i : Int)] w fun e w' => e = .returned (.bool true) ∧ St w' s h (sclr ws i) ∧ w.grownBy w' (some h) := by
  have ht := Lib.hid (s_there w s h ws a i)
  have hg := Lib.hid (s_get_in w s h ws a i hi)
  have d : decide (0 ≤ (i : Int) ∧ (i : Int) < ((64 * ws.length : Nat) : Int)) = true := by rw [decide_eq_true_eq]; omega
  have hc := a.head
  have hle := a.2.2.2
  have hk : i / 64 < ws.length := by omega
  have hw := a.cell (i / 64) hk
  have hx := a.word (i / 64) hk
  have hf := a.frozen (i / 64)
  have hst := a.store (i / 64) (ws[i / 64] &&& (18446744073709551615 - M.one ((i % 64 : Nat) : Int))) (Nat.lt_of_le_of_lt Nat.and_le_left hx)
  have hgr := set_grown w h (i / 64) (.int .u64 ((ws[i / 64] &&& (18446744073709551615 - M.one ((i % 64 : Nat) : Int)) : Nat) : Int))
  have hs : Hid (sclr ws i = ws.set (i / 64) (ws[i / 64] &&& (18446744073709551615 - M.one ((i % 64 : Nat) : Int)))) := by
    show sclr ws i = _
    unfold sclr
    rw [List.getElem?_eq_getElem hk]; rfl
  have hi2 : i ≤ 262144 := by omega
  rw [d] at ht
  rw [hb0] at hg
  have hsH := Lib.hid hst
  have hgH := Lib.hid hgr
  clear a d hst hgr hb0
  generalize ws[i / 64] = x at *
  generalize ws.length = n at *
  have e1 : (i : Int) / 64 = ((i / 64 : Nat) : Int) := by omega
  have e2 : (i : Int) % 64 = ((i % 64 : Nat) : Int) := by omega
  generalize i / 64 = q at *
  generalize i % 64 = r at *
  have wq : IntKind.i64.wrap (q : Int) = (q : Int) := IntWalk.i64_in _ (by omega)
  have wr : IntKind.i64.wrap (r : Int) = (r : Int) := IntWalk.i64_in _ (by omega)
  have m1 : (i : Int).tmod 64 = (r : Int) := by rw [Int.tmod_eq_emod_of_nonneg (by omega)]; exact e2
  have q0 : 0 ≤ (q : Int) := by omega
  have q1 : (q : Int) < (n : Int) := by omega
  have q2 : (q : Int).toNat = q := by omega
  go_enter Tryd.func56, Tryd.ntmps56
  go_wp2_with (first
    | (go_at_call 69; refine ht.out.mono ?_; rintro e w' ⟨rfl, rfl⟩)
    | (go_at_call 47; refine hg.out.mono ?_; rintro e w' ⟨rfl, rfl⟩))
  go_still_tail 18, (by kernel_rfl)
  still_call ((bit_clear x hx _ _).mono (by rintro e w' ⟨rfl, rfl⟩; exact ⟨rfl, rfl⟩))
  still_step
  refine wpStill_nil ?_
  clear wq wr q0 q1 q2 m1
  change wpList _ _ _ _ _ w.drew
  go_wp2
  go_ret
  refine ⟨rfl, ?_, ?_⟩
  · rw [hs.out]; exact hsH.out.drew 1
  · exact grown_drew hgH.out
theorem s_set_out (w : World) (s h : Nat) (ws : List Nat) (a : St w s h ws) (i : Int) (ho : ¬ (0 ≤ i ∧ i < ((64 * ws.length : Nat) : Int))) :
    Calls Tryd.prog 55 #[.pointer (some ⟨s, 0, none⟩), .int .i64 i] w fun e w' => e = .returned (.bool false) ∧ w = w' := by
  have ht := Lib.hid (s_there w s h ws a i)
  have d : decide (0 ≤ i ∧ i < ((64 * ws.length : Nat) : Int)) = false := by rw [decide_eq_false_iff_not]; exact ho
  rw [d] at ht
  clear a d ho
  go_enter Tryd.func55, Tryd.ntmps55
  go_wp2_with (go_at_call 69; refine ht.out.mono ?_; rintro e w' ⟨rfl, rfl⟩)
  go_ret
  exact ⟨rfl, rfl⟩
theorem s_set_old (w : World) (s h : Nat) (ws : List Nat) (a : St w s h ws) (i : Nat) (hi : i < 64 * ws.length) (hb0 : sbit ws i = true) :
    Calls Tryd.prog 55 #[.pointer (some ⟨s, 0, none⟩), .int .i64 (i : Int)] w fun e w' => e = .returned (.bool false) ∧ w = w' := by
  have ht := Lib.hid (s_there w s h ws a i)
  have hg := Lib.hid (s_get_in w s h ws a i hi)
  have d : decide (0 ≤ (i : Int) ∧ (i : Int) < ((64 * ws.length : Nat) : Int)) = true := by rw [decide_eq_true_eq]; omega
  rw [d] at ht
  rw [hb0] at hg
  clear a d hb0
  go_enter Tryd.func55, Tryd.ntmps55
  go_wp2_with (first
    | (go_at_call 69; refine ht.out.mono ?_; rintro e w' ⟨rfl, rfl⟩)
    | (go_at_call 47; refine hg.out.mono ?_; rintro e w' ⟨rfl, rfl⟩))
  go_ret
  exact ⟨rfl, rfl⟩
theorem s_clear_no (w : World) (s : Nat) (i : Int)
    (hg0 : Calls Tryd.prog 47 #[.pointer (some ⟨s, 0, none⟩), .int .i64 i] w fun e w' => e = .returned (.bool false) ∧ w = w') :
    Calls Tryd.prog 56 #[.pointer (some ⟨s, 0, none⟩), .int .i64 i] w fun e w' => e = .returned (.bool false) ∧ w = w' := by
  have hg := Lib.hid hg0
  clear hg0
  go_enter Tryd.func56, Tryd.ntmps56
  go_wp2_with (go_at_call 47; refine hg.out.mono ?_; rintro e w' ⟨rfl, rfl⟩)
  go_ret
  exact ⟨rfl, rfl⟩
theorem s_get_nil (w : World) (i : Int) :
    Calls Tryd.prog 47 #[.pointer none, .int .i64 i] w fun e w' => e = .returned (.bool false) ∧ w = w' := by
  go_enter Tryd.func47, Tryd.ntmps47
  go_wp2_with (go_at_call 69; refine (s_there_nil _ _).mono ?_; rintro e w' ⟨rfl, rfl⟩)
  go_ret
  exact ⟨rfl, rfl⟩
theorem s_set_nil (w : World) (i : Int) :
    Calls Tryd.prog 55 #[.pointer none, .int .i64 i] w fun e w' => e = .returned (.bool false) ∧ w = w' := by
  go_enter Tryd.func55, Tryd.ntmps55
  go_wp2_with (go_at_call 69; refine (s_there_nil _ _).mono ?_; rintro e w' ⟨rfl, rfl⟩)
  go_ret
  exact ⟨rfl, rfl⟩
theorem s_clear_nil (w : World) (i : Int) :
    Calls Tryd.prog 56 #[.pointer none, .int .i64 i] w fun e w' => e = .returned (.bool false) ∧ w = w' := by
  go_enter Tryd.func56, Tryd.ntmps56
  go_wp2_with (go_at_call 47; refine (s_get_nil _ _).mono ?_; rintro e w' ⟨rfl, rfl⟩)
  go_ret
  exact ⟨rfl, rfl⟩
end Go.Proofs.YtbbnamdlfnonoaaDoor
