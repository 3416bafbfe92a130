
/- The document's example of package strip. -/
import Derived.Test.YtnpdndcgmfhbdaaDoorObjC
import Derived.Handy
import Derived.Test.YtnpdndcgmfhbdaaDoorSSet
namespace Go.Proofs.YtnpdndcgmfhbdaaDoor
open Go.RowKit
theorem below_grown_at {w w' : World} {B h : Nat} (g : w.grownBy w' (some h)) (hB : B ≤ w.heap.size) (hh : B ≤ h) : Below B w w' :=
  ⟨g.os, g.tape, g.output, g.size, fun k hk => g.block k (by omega) (by intro e; cases e; omega)⟩
theorem Laid.list {o : Bool} {ws us : List Nat} {f t : Int} (h : Laid o ws us f t) : sl us = ((List.range (64 * ws.length)).filter fun b : Nat => if f ≤ (b : Int) ∧ (b : Int) < t then o else sbit ws b).map fun i : Nat => (i : Int) := by
  unfold sl
  rw [h.1]
  congr 1
  apply List.filter_congr
  intro b hb
  exact h.2 b (List.mem_range.1 hb)
theorem s_set_newI (w : World) (s h : Nat) (ws : List Nat) (a : St w s h ws) (i : Int) (k : Nat) (hk : i = (k : Int)) (hi : k < 64 * ws.length) (hb0 : sbit ws k = false) :
    Calls Tryd.prog 14 #[.pointer (some ⟨s, 0, none⟩), .int .i64 i] w fun e w' => e = .returned (.bool true) ∧ St w' s h (sset ws k) ∧ w.grownBy w' (some h) := by
  subst hk
  exact s_set_new w s h ws a k hi hb0
theorem s_newI (w : World) (i : Int) (n : Nat) (hi : i = (n : Int)) (hn : n ≤ 4096) : Calls Tryd.prog 13 #[.int .i64 i] w fun e w' => ∃ s h, e = .returned (.tuple #[.pointer (some ⟨s, 0, none⟩), .int .i64 0]) ∧ St w' s h (List.replicate n 0) ∧ w.grownBy w' none ∧ w.heap.size ≤ s ∧ w.heap.size ≤ h := by
  subst hi
  exact s_new w n hn
theorem fill_n {n : Nat} {ws us : List Nat} (hn : if true then n + (sl ws).length = (sl us).length else n + (sl us).length = (sl ws).length) (h5 : (sl ws).length = 2) (hus : (sl us).length = 8) : n = 6 := by
  rw [if_pos rfl] at hn
  omega
theorem wk1 : sbit (List.replicate 2 0) 3 = false := by decide +kernel
theorem wk2 : sbit (sset (List.replicate 2 0) 3) 70 = false := by decide +kernel
theorem wk3 : M.rNext (sl (sset (sset (List.replicate 2 0) 3) 70)) 4 = 70 := by decide +kernel
theorem wk4 : M.rRank (sl (sset (sset (List.replicate 2 0) 3) 70)) 70 = 1 := by decide +kernel
theorem wk5 : (sl (sset (sset (List.replicate 2 0) 3) 70)).length = 2 := by decide +kernel
theorem wk6 (us : List Nat) (h : Laid true (sset (sset (List.replicate 2 0) 3) 70) us 60 66) : (sl us).length = 8 := by
  rw [h.list]
  decide +kernel
set_option maxHeartbeats 1000000 in
theorem awake_any (w : World) (hT : Tab w) : Calls Tryd.prog 4 #[] w fun e w' => e = .returned (.bool true) ∧ Below w.heap.size w w' := by
  have h1 := wk1
  have h2 := Lib.hid wk2
  have h3 := Lib.hid wk3
  have h4 := Lib.hid wk4
  have h5 := Lib.hid wk5
  have h6 := wk6
  have hnew := Lib.hid (s_newI w 2 2 rfl (by omega))
  obtain ⟨z0, hz0⟩ : ∃ z, List.replicate 2 0 = z := ⟨_, rfl⟩
  rw [hz0] at h1 h2 h3 h4 h5 h6 hnew
  have hl0 : 128 ≤ 64 * z0.length := by rw [← hz0]; decide
  have hz1 : 128 ≤ 64 * (sset z0 3).length := by unfold sset; rw [List.length_set]; exact hl0
  clear hz0
  obtain ⟨z1, hz⟩ : ∃ z, sset z0 3 = z := ⟨_, rfl⟩
  rw [hz] at h2 h3 h4 h5 h6 hz1
  have hzH := Lib.hid hz
  clear hz
  obtain ⟨z2, hz⟩ : ∃ z, sset z1 70 = z := ⟨_, rfl⟩
  rw [hz] at h3 h4 h5 h6
  have hzH2 := Lib.hid hz
  clear hz
  have h1H := Lib.hid h1
  clear h1
  have h6H := Lib.hid h6
  clear h6
  go_enter Tryd.func4, Tryd.ntmps4
  go_wp2_with (go_at_call 13; (with_reducible refine hnew.out.mono ?_); rintro e w1 ⟨s, h, rfl, hst, hg, hs1, hh1⟩; have hstH := Lib.hid hst; clear hst; have hb1 := Lib.hid (below_grown hg); clear hg)
  go_wp2_with (go_at_call 14; (with_reducible refine (s_set_newI _ s h z0 hstH.out 3 3 rfl (by omega) h1H.out).mono ?_); rintro e w2 ⟨rfl, hst2, hg2⟩; have hb2 := Lib.hid (hb1.out.trans (below_grown_at hg2 hb1.out.size hh1)); clear hg2; rw [hzH.out] at hst2; have hstH2 := Lib.hid hst2; clear hst2)
  go_wp2_with (go_at_call 14; (with_reducible refine (s_set_newI _ s h z1 hstH2.out 70 70 rfl (by omega) h2.out).mono ?_); rintro e w3 ⟨rfl, hst3, hg3⟩; have hb3 := Lib.hid (hb2.out.trans (below_grown_at hg3 hb2.out.size hh1)); clear hg3; rw [hzH2.out] at hst3; have hstH3 := Lib.hid hst3; clear hst3; have hT3 := hT.below hb3.out hT.pos)
  go_wp2_with (go_at_call 15; (with_reducible refine (s_next _ s h z2 hstH3.out hT3 4 (by omega)).mono ?_); rintro e w4 ⟨rfl, N4, rfl⟩; rw [h3.out])
  go_wp2_with (go_at_call 16; (with_reducible refine (s_rank _ s h z2 (hstH3.out.drew _) 70).mono ?_); rintro e w4 ⟨rfl, N5, rfl⟩; rw [h4.out])
  go_wp2_with (go_at_call 17; (with_reducible refine (s_fill _ s h z2 (hstH3.out.drew _) 60 66 (by omega)).mono ?_); rintro e w5 ⟨us, n, rfl, hL, hn, hst5, hg5⟩; have hus := h6H.out us hL; have hn6 := fill_n hn h5.out hus; subst hn6; have hb5 := Lib.hid ((below_drewN hb3.out _).trans (below_grown_at hg5 hb3.out.size hh1)); clear hg5 hn; have husH := Lib.hid hus; clear hus; have hstH5 := Lib.hid hst5; clear hst5 hL)
  go_wp2_with (go_at_call 18; (with_reducible refine (s_count _ s h us hstH5.out).mono ?_); rintro e w6 ⟨rfl, N6, rfl⟩; rw [husH.out])
  go_ret
  exact ⟨rfl, below_drewN hb5.out _⟩
end Go.Proofs.YtnpdndcgmfhbdaaDoor
