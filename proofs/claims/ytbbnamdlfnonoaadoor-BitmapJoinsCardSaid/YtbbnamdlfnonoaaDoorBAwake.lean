
/- The document's example of package bitmap. -/
import Derived.Test.YtbbnamdlfnonoaaDoorBRuns
namespace Go.Proofs.YtbbnamdlfnonoaaDoor
open Go.RowKit
theorem b_runs (w : World) (p s h : Nat) (ws : List Nat) (a : Bm w p s h ws) (r : Nat) (hr : M.rnf (sbit ws) 65536 = r) :
    Calls Tryd.prog 14 #[.pointer (some ⟨p, 0, none⟩)] w fun e w' => e = .returned (.int .i64 (r : Int)) ∧ Below w.heap.size w w' := by
  subst hr
  exact b_runs0 w p s h ws a
theorem bstep_below {o : Bool} {w w' : World} {p s h : Nat} {ws : List Nat} {f t : Int} {n B : Nat} (hs : BStep o w p s h ws f t n w') (hB : B ≤ w.heap.size) (hh : B ≤ h) : Below B w w' := by
  obtain ⟨us, _, _, g⟩ := hs
  exact ⟨g.os, g.tape, g.output, g.size, fun k hk => g.block k (by omega) (by intro e; cases e; omega)⟩
theorem ex_fill {us : List Nat} {n : Nat} (h : M.Chg true (sl (List.replicate 1024 0)) (sl us) ((3 : Nat) : Int) ((9 : Nat) : Int) n) : sl us = [3, 4, 5, 6, 7, 8, 9] ∧ n = 7 := by
  rw [sl_zeroB] at h
  have e : sl us = [3, 4, 5, 6, 7, 8, 9] := by
    refine M.sorted_ext h.1 (by decide) fun y => ?_
    rw [h.2.1 y]
    by_cases hy : ((3 : Nat) : Int) ≤ y ∧ y ≤ ((9 : Nat) : Int)
    · rw [if_pos hy]
      simp
      omega
    · rw [if_neg hy]
      simp
      omega
  refine ⟨e, ?_⟩
  have h2 := h.2.2
  rw [if_pos rfl, e] at h2
  simpa using h2
theorem ex_drop {us vs : List Nat} {n : Nat} (e : sl us = [3, 4, 5, 6, 7, 8, 9]) (h : M.Chg false (sl us) (sl vs) ((5 : Nat) : Int) ((5 : Nat) : Int) n) : sl vs = [3, 4, 6, 7, 8, 9] ∧ n = 1 := by
  rw [e] at h
  have e : sl vs = [3, 4, 6, 7, 8, 9] := by
    refine M.sorted_ext h.1 (by decide) fun y => ?_
    rw [h.2.1 y]
    by_cases hy : ((5 : Nat) : Int) ≤ y ∧ y ≤ ((5 : Nat) : Int)
    · rw [if_pos hy]
      simp
      omega
    · rw [if_neg hy]
      simp
      omega
  refine ⟨e, ?_⟩
  have h2 := h.2.2
  rw [if_neg (by decide), e] at h2
  simp at h2
  omega
theorem ex_runs {ws : List Nat} (hl : ws.length = 1024) (e : sl ws = [3, 4, 6, 7, 8, 9]) : M.rnf (sbit ws) 65536 = 2 := by
  have hb : ∀ i, i < 65536 → (sbit ws i = true ↔ i = 3 ∨ i = 4 ∨ i = 6 ∨ i = 7 ∨ i = 8 ∨ i = 9) := fun i hi => by
    have h1 : (i : Int) ∈ sl ws ↔ (i : Int) ∈ [(3 : Int), 4, 6, 7, 8, 9] := by rw [e]
    rw [sl_in, hl] at h1
    constructor
    · intro h
      have := h1.1 ⟨by omega, by omega, by simpa using h⟩
      simp at this; omega
    · intro h
      have := (h1.2 (by simp; omega)).2.2
      simpa using this
  have hlow : M.rnf (sbit ws) 11 = M.rnf (fun i => decide (i = 3 ∨ i = 4 ∨ i = 6 ∨ i = 7 ∨ i = 8 ∨ i = 9)) 11 := M.rnf_congr fun i hi => by
    rw [Bool.eq_iff_iff, hb i (by omega)]; simp
  obtain ⟨m, hm⟩ : ∃ m, 65536 = 11 + m := ⟨65525, rfl⟩
  have hm9 : m ≤ 65525 := by omega
  rw [hm, M.rnf_add, hlow]
  have hz : (List.range m).filter (fun j => M.rb (sbit ws) (11 + j)) = [] := by
    rw [List.filter_eq_nil_iff]
    intro j hj
    rw [List.mem_range] at hj
    unfold M.rb
    cases hq : sbit ws (11 + j) with
    | false => simp
    | true => have := (hb (11 + j) (by omega)).1 hq; omega
  rw [hz]
  decide
set_option maxHeartbeats 1000000 in
theorem awake_any (w : World) (hT : Tab w) : Calls Tryd.prog 8 #[] w fun e w' => e = .returned (.bool true) ∧ Below w.heap.size w w' := by
  have hnew := Lib.hid (b_new w)
  have hTH := Lib.hid hT
  clear hT
  go_enter Tryd.func8, Tryd.ntmps8
  go_wp2_with (go_at_call 39; (with_reducible refine hnew.out.mono ?_); rintro e w1 ⟨p, s, h, rfl, hbm, hb1, hp, hs, hh⟩; have HM := Lib.hid hbm; have HB1 := Lib.hid hb1; have hz1 := hb1.size; clear hbm hb1)
  have hfill : Hid (Calls Tryd.prog 27 #[.pointer (some ⟨p, 0, none⟩), .int .u16 3, .int .u16 9] w1 (BInt true w1 p s h (List.replicate 1024 0) 3 9)) := b_fill HM.out 3 9 (by decide) (by decide)
  obtain ⟨z0, hz0⟩ : ∃ z, List.replicate 1024 0 = z := ⟨_, rfl⟩
  have ex1 : Hid (∀ us n, M.Chg true (sl z0) (sl us) ((3 : Nat) : Int) ((9 : Nat) : Int) n → sl us = [3, 4, 5, 6, 7, 8, 9] ∧ n = 7) := fun us n hc => by rw [← hz0] at hc; exact ex_fill hc
  rw [hz0] at hfill HM
  clear hz0
  go_wp2_with (go_at_call 27; (with_reducible refine hfill.out.mono ?_); rintro e w2 ⟨n1, rfl, hst⟩
               have HL2 := Lib.hid (bstep_below hst (B := w.heap.size) (by omega) (by omega))
               obtain ⟨us, hc, hm, hg⟩ := hst
               obtain ⟨hu, rfl⟩ := ex1.out us n1 hc
               have hdrop : Hid (Calls Tryd.prog 30 #[.pointer (some ⟨p, 0, none⟩), .int .u16 5] w2 (BBool false w2 p s h us 5)) := b_drop hm 5 (by decide)
               have HU := Lib.hid hu
               clear hc hm hg hu)
  go_wp2_with (go_at_call 30; (with_reducible refine hdrop.out.mono ?_); rintro e w3 ⟨n2, rfl, hst⟩
               have hz2 := HL2.out.size
               have HL3 := Lib.hid (bstep_below hst (B := w.heap.size) (by have := HL2.out.size; have := HB1.out.size; have := HM.out.lt; obtain ⟨_, _, hm, hg⟩ := hst; have := hg.size; omega) (by omega))
               obtain ⟨vs, hc, hm, hg⟩ := hst
               obtain ⟨hv, rfl⟩ := ex_drop HU.out hc
               have HM3 := Lib.hid hm
               have HV := Lib.hid hv
               clear hc hm hg hv)
  have hLow : Hid (Below w.heap.size w w3) := (HB1.out.trans HL2.out).trans HL3.out
  have hT3 : Hid (Tab w3) := hTH.out.below hLow.out hTH.out.pos
  have hnext : Hid (Calls Tryd.prog 19 #[.pointer (some ⟨p, 0, none⟩), .int .u16 5] w3 fun e w' => e = .returned (.tuple #[.int .u16 6, .bool true]) ∧ ∃ n, w' = w3.drewN n) := by
    have h1 := b_next HM3.out hT3.out 5 (by decide)
    rw [HV.out] at h1
    exact h1
  go_wp2_with (go_at_call 19; (with_reducible refine hnext.out.mono ?_); rintro e w4 ⟨rfl, N4, hw4⟩
               have HM4 : Hid (Bm w4 p s h vs) := by rw [hw4]; exact HM3.out.drew N4
               have HL4 : Hid (Below w.heap.size w w4) := by rw [hw4]; exact below_drewN hLow.out N4
               have hlen : Hid (Calls Tryd.prog 13 #[.pointer (some ⟨p, 0, none⟩)] w4 fun e w' => e = .returned (.int .i64 6) ∧ ∃ n, w' = w4.drewN n) := by
                 have h1 := b_len HM4.out
                 rw [HV.out] at h1
                 exact h1
               clear hw4)
  go_wp2_with (go_at_call 13; (with_reducible refine hlen.out.mono ?_); rintro e w5 ⟨rfl, N5, hw5⟩
               have HM5 : Hid (Bm w5 p s h vs) := by rw [hw5]; exact HM4.out.drew N5
               have HL5 : Hid (Below w.heap.size w w5) := by rw [hw5]; exact below_drewN HL4.out N5
               have hruns : Hid (Calls Tryd.prog 14 #[.pointer (some ⟨p, 0, none⟩)] w5 fun e w' => e = .returned (.int .i64 2) ∧ Below w5.heap.size w5 w') := b_runs w5 p s h vs HM5.out 2 (ex_runs HM5.out.len HV.out)
               clear hw5)
  go_wp2_with (go_at_call 14; (with_reducible refine hruns.out.mono ?_); rintro e w6 ⟨rfl, hb6⟩
               have HL6 : Hid (Below w.heap.size w w6) := HL5.out.trans (hb6.mono HL5.out.size)
               clear hb6)
  go_ret
  exact ⟨rfl, HL6.out⟩
end Go.Proofs.YtbbnamdlfnonoaaDoor
