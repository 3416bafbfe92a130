/- The law JoinMany; the text walked. -/
import Derived.Test.YtkehehfphccpbaaGreatDoorMxJn8
namespace Go.Proofs.YtkehehfphccpbaaGreatDoor
set_option maxRecDepth 40000
open Go.RowKit
theorem cut_acts (g m : Nat) (hm : m ≤ 3) : (∀ w, (Instr.sliceAt 43 (.slice (some ⟨g, 0, none⟩) 3 3) none (some (.int .u8 (m : Int))) none).run Tryz.prog w = .ok (.slice (some ⟨g, 0, none⟩) m 3) w) ∧
    (∀ w, (Instr.slice 43 (.slice (some ⟨g, 0, none⟩) 3 3) none (some (.int .u8 (m : Int))) none).run Tryz.prog w = .ok (.slice (some ⟨g, 0, none⟩) m 3) w) := by
  have hu : Tryz.prog.underlying 43 = some (.slice (Tryz.prog.elem 43)) := by kernel_rfl
  have hz : ∀ w, (Go.sizeOf (Tryz.prog.elem 43)).run Tryz.prog w = .ok 1 w := fun w => Tryz.sizeOf22 w
  have h2 : ∀ w, (Instr.slice 43 (.slice (some ⟨g, 0, none⟩) 3 3) none (some (.int .u8 (m : Int))) none).run Tryz.prog w = .ok (.slice (some ⟨g, 0, none⟩) m 3) w := fun w => by
    have h := run_slice_h (P := Tryz.prog) (w := w) (t := 43) (a := some ⟨g, 0, none⟩) (len := 3) (cap := 3) (ht := hu) (kh := .u8) (h := (m : Int)) (h0 := by omega) (h2 := by omega)
    rw [h, hz]
    simp [Result.andThen]
    simp [sliced, Addr.add]
  exact ⟨fun w => (run_sliceAt_slice (w := w) (h := hu) ..).trans (h2 w), h2⟩
theorem ptr_info : (Tryz.prog.info? 24).map (fun i => (i.zero, i.size, i.bytes)) = some (some (.pointer none), 1, 8) := by kernel_rfl
/-- One function value more. -/
def upd (nums : Option Addr → List Int) (p : Option Addr) (xs : List Int) : Option Addr → List Int := fun q => if q = p then xs else nums q
/-- What the loop keeps: boxes in a row, and the sets of what one and what all of them have. -/
structure MS (W V : World) (vl : Value) (ps : List (Option Addr)) (nums : Option Addr → List Int) (g1 n1 : Nat) (bs1 : List Bool) (g2 n2 : Nat) (bs2 : List Bool) : Prop where
  row : V.ownsRow W.heap.size 24 1 vl ps.length (ps.map Value.pointer)
  boxes : Bps V ps nums
  one : Bs V g1 n1 bs1
  oneIn : ∀ x, x ∈ M.L bs1 ↔ ∃ p ∈ ps, x ∈ nums p
  all : Bs V g2 n2 bs2
  allIn : ∀ x, x ∈ M.L bs2 ↔ ps ≠ [] ∧ ∀ p ∈ ps, x ∈ nums p
  low : Below W.heap.size W V
section
variable {W V V' : World} {vl : Value} {ps : List (Option Addr)} {nums : Option Addr → List Int} {g1 n1 g2 n2 : Nat} {bs1 bs2 : List Bool}
theorem MS.next (s : MS W V vl ps nums g1 n1 bs1 g2 n2 bs2) (hb : Below V.heap.size V V') : MS W V' vl ps nums g1 n1 bs1 g2 n2 bs2 :=
  ⟨(ButS.of_below (S := fun _ => False) hb (Nat.le_refl _)).own s.row (fun _ _ h => h), s.boxes.next hb, s.one.all_below hb, s.oneIn, s.all.all_below hb, s.allIn, s.low.trans (hb.mono s.low.size)⟩
theorem MS.fresh (s : MS W V vl ps nums g1 n1 bs1 g2 n2 bs2) {q : Nat} (hq : V.heap.size ≤ q) : ¬ (some ⟨q, 0, none⟩ : Option Addr) ∈ ps := fun h => by
  rcases s.boxes _ h with ⟨e, _⟩ | ⟨q', r, long, e, b⟩
  · cases e
  · cases e
    have := b.lt
    omega
theorem upd_in {p q : Option Addr} {xs : List Int} (hp : ¬ p ∈ ps) (h : q ∈ ps) : upd nums p xs q = nums q := if_neg (fun e => hp (by rw [← e]; exact h))
theorem upd_new {p : Option Addr} {xs : List Int} : upd nums p xs p = xs := if_pos rfl
theorem upd_some {p : Option Addr} {xs : List Int} (hp : ¬ p ∈ ps) {x : Int} : (∃ q ∈ ps ++ [p], x ∈ upd nums p xs q) ↔ (∃ q ∈ ps, x ∈ nums q) ∨ x ∈ xs := by
  constructor
  · rintro ⟨q, hq, hx⟩
    rcases List.mem_append.1 hq with h | h
    · rw [upd_in hp h] at hx
      exact .inl ⟨q, h, hx⟩
    · rw [List.mem_singleton.1 h, upd_new] at hx
      exact .inr hx
  · rintro (⟨q, h, hx⟩ | hx)
    · exact ⟨q, List.mem_append_left _ h, by rw [upd_in hp h]; exact hx⟩
    · exact ⟨p, by simp, by rw [upd_new]; exact hx⟩
theorem upd_all {p : Option Addr} {xs : List Int} (hp : ¬ p ∈ ps) {x : Int} : (∀ q ∈ ps ++ [p], x ∈ upd nums p xs q) ↔ (∀ q ∈ ps, x ∈ nums q) ∧ x ∈ xs := by
  constructor
  · intro h
    refine ⟨fun q hq => ?_, ?_⟩
    · have := h q (List.mem_append_left _ hq)
      rwa [upd_in hp hq] at this
    · have := h p (by simp)
      rwa [upd_new] at this
  · rintro ⟨h1, h2⟩ q hq
    rcases List.mem_append.1 hq with h | h
    · rw [upd_in hp h]; exact h1 q h
    · rw [List.mem_singleton.1 h, upd_new]; exact h2
/-- The row of boxes may be written. -/
theorem MS.grow {vl' : Value} {V0 : World} {ys : List Value} {n : Nat} (s : MS W V vl ps nums g1 n1 bs1 g2 n2 bs2) (hb : Below V.heap.size V V0) (g : V0.grownBy V' vl.ownBlock) (_row : V'.ownsRow W.heap.size 24 1 vl' n ys) :
    (∀ p xs, Bp V0 p xs → Bp V' p xs) ∧ (∀ h m cs, Bs V0 h m cs → Bs V' h m cs) ∧ Below W.heap.size W V' := by
  have hl : Below W.heap.size W V0 := s.low.trans (hb.mono s.low.size)
  have hlow : Below W.heap.size W V' := hl.grown g hl.size (fun k hk => (s.row.lt k hk).1)
  rcases s.row.2 with ⟨rfl, _⟩ | ⟨gr, cap, cur, rfl, _, hg, _⟩
  · have hb' : Below V0.heap.size V0 V' := ⟨g.os, g.tape, g.output, g.size, fun k hk => g.block k hk (by simp [Value.ownBlock])⟩
    exact ⟨fun p xs h => h.next hb', fun h m cs a => a.all_below hb', hlow⟩
  · have hg0 : V0.heap[gr]? = some (.cells cur 24 (0, 0)) := (hb.block gr (Array.getElem?_eq_some_iff.1 hg).1).trans hg
    have hk : ∀ j, j < V0.heap.size → j ≠ gr → V'.heap[j]? = V0.heap[j]? := fun j hj hne => g.block j hj (by simp [Value.ownBlock]; exact hne)
    refine ⟨fun p xs h => ?_, fun h m cs a => ?_, hlow⟩
    · rcases h with h | ⟨q, r, long, e, b⟩
      · exact .inl h
      · exact .inr ⟨q, r, long, e, b.keepT hg0 (by decide) (by decide) (by decide) (by decide) (by decide) (by decide) g.size hk⟩
    · have hne : h ≠ gr := fun e => by
        have h1 := a.row
        rw [e] at h1
        exact absurd (heap_ty h1 hg0) (by decide)
      exact ⟨(hk h a.lt hne).trans a.row, a.len, a.top⟩
/-- One box more. -/
theorem MS.more {p : Option Addr} {xs : List Int} {vl' : Value} {h1 m1 h2 m2 : Nat} {cs1 cs2 : List Bool} (s : MS W V vl ps nums g1 n1 bs1 g2 n2 bs2) (hb : Below W.heap.size W V') (hV : Bps V' ps nums) (hp : ¬ p ∈ ps) (bp : Bp V' p xs)
    (row : V'.ownsRow W.heap.size 24 1 vl' (ps.length + 1) (ps.map Value.pointer ++ [.pointer p])) (one : Bs V' h1 m1 cs1) (o1 : ∀ x, x ∈ M.L cs1 ↔ x ∈ M.L bs1 ∨ x ∈ xs) (all : Bs V' h2 m2 cs2) (a1 : ∀ x, x ∈ M.L cs2 ↔ (ps = [] ∨ x ∈ M.L bs2) ∧ x ∈ xs) :
    MS W V' vl' (ps ++ [p]) (upd nums p xs) h1 m1 cs1 h2 m2 cs2 := by
  refine ⟨by rw [List.length_append, List.map_append]; exact row, fun q hq => ?_, one, fun x => ?_, all, fun x => ?_, hb⟩
  · rcases List.mem_append.1 hq with h | h
    · rw [upd_in hp h]; exact hV q h
    · rw [List.mem_singleton.1 h, upd_new]; exact bp
  · rw [o1 x, s.oneIn x, upd_some hp]
  · rw [a1 x, s.allIn x, upd_all hp]
    constructor
    · rintro ⟨h | h, hx⟩
      · subst h; exact ⟨by simp, by simp, hx⟩
      · exact ⟨by simp, h.2, hx⟩
    · rintro ⟨_, h, hx⟩
      refine ⟨?_, hx⟩
      by_cases e : ps = []
      · exact .inl e
      · exact .inr ⟨e, h⟩
end
set_option maxHeartbeats 16000000 in
theorem law_many_true (P0 : Option Addr) (cp0 : Nat) (as0 : List AcB) (P1 : Option Addr) (cp1 : Nat) (as1 : List AcB) (P2 : Option Addr) (cp2 : Nat) (as2 : List AcB) (n : Nat) (hn : n < 256) (w : World) (hT : Tab w) (hr0 : Rk w w.heap.size P0 as0) (hl0 : as0.length ≤ 9223372036854775807) (hr1 : Rk w w.heap.size P1 as1) (hl1 : as1.length ≤ 9223372036854775807) (hr2 : Rk w w.heap.size P2 as2) (hl2 : as2.length ≤ 9223372036854775807) :
    Calls Tryz.prog 4 #[.slice P0 as0.length cp0, .slice P1 as1.length cp1, .slice P2 as2.length cp2, .int .u8 (n : Int), .bool true] w fun e w' => e = .returned (.bool true) ∧ Below w.heap.size w w' := by
  obtain ⟨e1, e2⟩ := mod4 n hn (n % 4) rfl
  obtain ⟨m, hm⟩ : ∃ m, n % 4 = m := ⟨_, rfl⟩
  rw [hm] at e1 e2
  have hm3 : m ≤ 3 := by omega
  obtain ⟨i0, hi, hz0, hz1, hz2⟩ := info_parts ptr_info
  have HR0 := Lib.hid hr0
  have HR1 := Lib.hid hr1
  have HR2 := Lib.hid hr2
  have HT0 := Lib.hid hT
  have CNW := fun W => Lib.hid (f_new W)
  have l1 := fun g => (cut_acts g m hm3).1
  have l2 := fun g => (cut_acts g m hm3).2
  clear hr0 hr1 hr2 hT hm
  obtain ⟨N0, hN0⟩ : ∃ N0, as0.length = N0 := ⟨_, rfl⟩
  obtain ⟨N1, hN1⟩ : ∃ N1, as1.length = N1 := ⟨_, rfl⟩
  obtain ⟨N2, hN2⟩ : ∃ N2, as2.length = N2 := ⟨_, rfl⟩
  rw [hN0, hN1, hN2]
  have HN0 := Lib.hid hN0
  have HN1 := Lib.hid hN1
  have HN2 := Lib.hid hN2
  clear hN0 hN1 hN2
  go_enter Tryz.func4, Tryz.ntmps4
  go_wp2_with (go_at_call 6; (with_reducible refine (awake_any w HT0.out).mono ?_); rintro e w1 ⟨rfl, hb1⟩; have HB1 := Lib.hid hb1; clear hb1)
  go_wp2_with (go_at_call 20; (with_reducible refine (CNW _).out.mono ?_); rintro e w2 ⟨g1, n1, rfl, hbs, hg2, hg⟩
               have hb2 : Below w1.heap.size w1 w2 := ⟨hg2.os, hg2.tape, hg2.output, hg2.size, fun k hk => hg2.block k hk (by simp)⟩
               have HS1 := Lib.hid hbs
               have HB2 := Lib.hid (HB1.out.trans (hb2.mono HB1.out.size))
               clear hbs hg2 hg hb2)
  go_wp2_with (go_at_call 20; (with_reducible refine (CNW _).out.mono ?_); rintro e w3 ⟨g2, n2, rfl, hbs, hg2, hg⟩
               have hb3 : Below w2.heap.size w2 w3 := ⟨hg2.os, hg2.tape, hg2.output, hg2.size, fun k hk => hg2.block k hk (by simp)⟩
               replace HS1 := Lib.hid (HS1.out.all_below hb3)
               have HS2 := Lib.hid hbs
               have HB3 := Lib.hid (HB2.out.trans (hb3.mono HB2.out.size))
               clear hbs hg2 hg hb3)
  have hbW : Below w3.heap.size w3 (w3.alloc (.cells #[.slice P0 N0 cp0, .slice P1 N1 cp1, .slice P2 N2 cp2] 22)) := (Below.refl _ w3).alloc (Nat.le_refl _) _
  have hrowb : (w3.alloc (.cells #[.slice P0 N0 cp0, .slice P1 N1 cp1, .slice P2 N2 cp2] 22)).heap[w3.heap.size]? = some (.cells #[.slice P0 N0 cp0, .slice P1 N1 cp1, .slice P2 N2 cp2] 22 (0, 0)) := alloc_top w3 _ rfl
  have hlast : w3.heap.size < (w3.alloc (.cells #[.slice P0 N0 cp0, .slice P1 N1 cp1, .slice P2 N2 cp2] 22)).heap.size := by simp
  go_wp2
  obtain ⟨Wb, hWb⟩ : ∃ Wb, w3.alloc (.cells #[.slice P0 N0 cp0, .slice P1 N1 cp1, .slice P2 N2 cp2] 22) = Wb := ⟨_, rfl⟩
  rw [hWb] at hbW hrowb hlast ⊢
  have HWB : Hid (Below w.heap.size w Wb) := Lib.hid (HB3.out.trans (hbW.mono HB3.out.size))
  have HRB := Lib.hid (And.intro hrowb hlast)
  have HMS : Hid (MS Wb Wb (.slice none 0 0) [] (fun _ => []) g1 n1 (List.replicate n1 false) g2 n2 (List.replicate n2 false)) := Lib.hid ⟨by simp [World.ownsRow_nil], fun p hp => (by cases hp), HS1.out.all_below hbW, fun x => by rw [M.L_false]; simp, HS2.out.all_below hbW, fun x => by rw [M.L_false]; simp, Below.refl _ _⟩
  clear hbW hrowb hlast hWb
  go_loopw [11, 12, 13, 30] (fun vl v1 v2 vi wr => ∃ (k : Nat) (ps : List (Option Addr)) (nums : Option Addr → List Int) (g1 n1 : Nat) (bs1 : List Bool) (g2 n2 : Nat) (bs2 : List Bool), k ≤ m ∧ v1 = .slice (some ⟨g1, 0, none⟩) n1 n1 ∧ v2 = .slice (some ⟨g2, 0, none⟩) n2 n2 ∧ vi = .int .i64 (k : Int) ∧ Hid (ps.length = k) ∧ Hid (k < 3 → ¬ none ∈ ps) ∧ Hid (MS Wb wr vl ps nums g1 n1 bs1 g2 n2 bs2)) (fun _ _ _ vi _ => m - (intOf vi).toNat)
  case atStart => exact ⟨0, [], fun _ => [], g1, n1, _, g2, n2, _, Nat.zero_le _, rfl, rfl, rfl, Lib.hid rfl, Lib.hid (fun _ h => (by cases h)), HMS⟩
  case round =>
    clear HS1 HS2 HMS
    obtain ⟨k, ps, nums, g1, n1, bs1, g2, n2, bs2, hk, rfl, rfl, rfl, HLEN, HNO, HM⟩ := hrel
    obtain ⟨vl, hvl⟩ : ∃ vl, vl = u11 := ⟨_, rfl⟩
    subst hvl
    have HWR : Hid (Below w.heap.size w wr) := Lib.hid (HWB.out.trans (HM.out.low.mono HWB.out.size))
    have hrowr := (HM.out.low.block w3.heap.size HRB.out.2).trans HRB.out.1
    by_cases hlt : k < m
    · rcases (by omega : k = 0 ∨ k = 1 ∨ k = 2) with hk0 | hk0 | hk0
      · subst hk0
        have hT2 : decide (0 < m) = true := decide_eq_true hlt
        have hT3 : decide ((0 : Int) < (m : Int)) = true := decide_eq_true (by omega)
        have hlt3 : (0 : Int) < (m : Int) := by omega
        have cc := cell_of_row _ _ 0 _ _ (0, 0) hrowr
        have cc2 : wr.cell? ⟨w3.heap.size, 0, none⟩ = some (.slice P0 N0 cp0) := cc
        clear cc hrowr
        have hly := lay_any wr (HT0.out.below HWR.out HT0.out.pos) P0 cp0 as0 false (HR0.out.later HWR.out) hl0
        rw [HN0.out] at hly
        have HLY := Lib.hid hly
        clear hly
        have hps0 : ps.length = 0 := HLEN.out
        have HOR := Lib.hid HM.out.row
        rw [hps0] at HOR
        have HPS := Lib.hid hps0
        clear hps0
        obtain ⟨rv, hrv⟩ : ∃ rv, ps.map Value.pointer = rv := ⟨_, rfl⟩
        rw [hrv] at HOR
        have HRV := Lib.hid hrv
        clear hrv
        go_wp2_with (first
          | (go_at_call 7; (with_reducible refine HLY.out.mono ?_); rintro e w5 ⟨q, r, xs, gs, ns, ss, l, rfl, j⟩
             have hbp : Bp w5 (some ⟨q, 0, none⟩) xs := .inr ⟨q, r, l, rfl, j.b⟩
             have HBP := Lib.hid hbp
             have HSS := Lib.hid j.s
             have HSM := Lib.hid j.same
             have HFR := Lib.hid (HM.out.fresh j.q0)
             have HLOW := Lib.hid j.low
             have HOW := Lib.hid ((ButS.of_below (S := fun _ => False) j.low (Nat.le_refl _)).own HOR.out (fun _ _ h => h))
             have CSS := Lib.hid (set_0 j.s j.s j.same j.same w5 (Below.refl _ _))
             clear j hbp HLY)
          | (go_at_call 11; (with_reducible refine CSS.out.mono ?_); rintro e w6 ⟨g6, n6, ds, rfl, k1, k2, k3, k4⟩
             have HA6 := Lib.hid k1
             have HA6I := Lib.hid k2
             replace HBP := Lib.hid (HBP.out.next k4)
             replace HSS := Lib.hid (HSS.out.all_below k4)
             replace HLOW := Lib.hid (HLOW.out.trans (k4.mono HLOW.out.size))
             replace HOW := Lib.hid ((ButS.of_below (S := fun _ => False) k4 (Nat.le_refl _)).own HOW.out (fun _ _ h => h))
             clear k1 k2 k3 k4 CSS)
          | (at_builtin; refine wpList_append_own _ rfl _ _ 41 rfl Wb.heap.size 24 i0 (.pointer none) 1 8 Tryz.underlying41 hi hz0 hz1 hz2 rfl (by decide) _ _ _ rfl (HOW.out.alloc _) ⟨w6.heap.size, 0, none⟩ 1 1 [.pointer (some ⟨q, 0, none⟩)] rfl rfl ?c1 ?c2 ?c3 ?c4 ?c5 ?_))
        case c1 => exact cell_oneB _ _ _
        case c2 => intro u hu; rw [List.mem_singleton.1 hu]; rfl
        case c3 => unfold maxLen; omega
        case c4 => omega
        case c5 => have h1 := HM.out.low.size; have h2 := HLOW.out.size; simp; omega
        intro vl2 w7 hrow7 hgrow _
        have hb0 : Below wr.heap.size wr (w6.alloc (.cells #[.pointer (some ⟨q, 0, none⟩)] 24)) := HLOW.out.alloc HLOW.out.size _
        have hb1 : Below w6.heap.size w6 (w6.alloc (.cells #[.pointer (some ⟨q, 0, none⟩)] 24)) := (Below.refl _ _).alloc (Nat.le_refl _) _
        obtain ⟨gB, gS, gL⟩ := HM.out.grow hb0 hgrow hrow7
        have BP7 := Lib.hid (gB _ _ (HBP.out.next hb1))
        have S7 := Lib.hid (gS _ _ _ (HSS.out.all_below hb1))
        have O7 := Lib.hid (gS _ _ _ (HM.out.one.all_below hb0))
        have A7 := Lib.hid (gS _ _ _ (HA6.out.all_below hb1))
        have BS7 : Hid (Bps w7 ps nums) := Lib.hid (fun p hp => gB _ _ (HM.out.boxes.next hb0 p hp))
        have L7 := Lib.hid gL
        have R7 := Lib.hid hrow7
        clear gB gS gL hb0 hb1 hrow7 hgrow
        have CJ0 := Lib.hid (set_0 O7.out S7.out rfl HSM.out w7 (Below.refl _ _))
        go_wp2_with (go_at_call 11; (with_reducible refine CJ0.out.mono ?_); rintro e w8 ⟨g8, n8, d8, rfl, k1, k2, k3, k4⟩
                     have O8 := Lib.hid k1
                     have O8I := Lib.hid k2
                     have B8 := Lib.hid k4
                     have CJ1 := Lib.hid (set_1 (A7.out.all_below k4) (S7.out.all_below k4) rfl HSM.out w8 (Below.refl _ _))
                     clear k1 k2 k3 k4 CJ0)
        go_wp2_with (go_at_call 11; (with_reducible refine CJ1.out.mono ?_); rintro e w9 ⟨g9, n9, d9, rfl, k1, k2, k3, k4⟩
                     have hb9 : Below w7.heap.size w7 w9 := B8.out.trans (k4.mono B8.out.size)
                     have hrow9 := (ButS.of_below (S := fun _ => False) hb9 (Nat.le_refl _)).own R7.out (fun _ _ h => h)
                     rw [← HRV.out] at hrow9
                     have MS9 : Hid (MS Wb w9 vl2 (ps ++ [some ⟨q, 0, none⟩]) (upd nums (some ⟨q, 0, none⟩) xs) g8 n8 d8 g9 n9 d9) := Lib.hid (HM.out.more (L7.out.trans (hb9.mono L7.out.size)) (BS7.out.next hb9) HFR.out (BP7.out.next hb9) (by rw [HPS.out]; exact hrow9) (O8.out.all_below k4) O8I.out k1 (fun x => by
                       rw [k2 x]
                       have hp0 : ps = [] := List.eq_nil_of_length_eq_zero HPS.out
                       exact ⟨fun h => ⟨.inl hp0, h.2⟩, fun h => ⟨(HA6I.out x).2 (.inl h.2), h.2⟩⟩))
                     clear k1 k2 k3 k4 hb9 hrow9 CJ1)
        go_roundw
        case rel => exact ⟨1, ps ++ [some ⟨q, 0, none⟩], upd nums (some ⟨q, 0, none⟩) xs, g8, n8, d8, g9, n9, d9, by omega, rfl, rfl, by go_num, Lib.hid (by rw [List.length_append, HPS.out]; rfl), Lib.hid (fun h0 h1 => by
          rcases List.mem_append.1 h1 with h2 | h2
          · exact HNO.out (by omega) h2
          · have := List.mem_singleton.1 h2
            cases this), MS9⟩
        case measure => simp [intOf]; omega
      · subst hk0
        have hT2 : decide (1 < m) = true := decide_eq_true hlt
        have hT3 : decide ((1 : Int) < (m : Int)) = true := decide_eq_true (by omega)
        have hlt3 : (1 : Int) < (m : Int) := by omega
        have cc := cell_of_row _ _ 1 _ _ (0, 0) hrowr
        have cc2 : wr.cell? ⟨w3.heap.size, 1, none⟩ = some (.slice P1 N1 cp1) := cc
        clear cc hrowr
        have hly := lay_any wr (HT0.out.below HWR.out HT0.out.pos) P1 cp1 as1 true (HR1.out.later HWR.out) hl1
        rw [HN1.out] at hly
        have HLY := Lib.hid hly
        clear hly
        have hps1 : ps.length = 1 := HLEN.out
        have HOR := Lib.hid HM.out.row
        rw [hps1] at HOR
        have HPS := Lib.hid hps1
        clear hps1
        obtain ⟨rv, hrv⟩ : ∃ rv, ps.map Value.pointer = rv := ⟨_, rfl⟩
        rw [hrv] at HOR
        have HRV := Lib.hid hrv
        clear hrv
        go_wp2_with (first
          | (go_at_call 7; (with_reducible refine HLY.out.mono ?_); rintro e w5 ⟨q, r, xs, gs, ns, ss, l, rfl, j⟩
             have hbp : Bp w5 (some ⟨q, 0, none⟩) xs := .inr ⟨q, r, l, rfl, j.b⟩
             have HBP := Lib.hid hbp
             have HSS := Lib.hid j.s
             have HSM := Lib.hid j.same
             have HFR := Lib.hid (HM.out.fresh j.q0)
             have HLOW := Lib.hid j.low
             have HOW := Lib.hid ((ButS.of_below (S := fun _ => False) j.low (Nat.le_refl _)).own HOR.out (fun _ _ h => h))
             clear j hbp HLY)
          | (at_builtin; refine wpList_append_own _ rfl _ _ 41 rfl Wb.heap.size 24 i0 (.pointer none) 1 8 Tryz.underlying41 hi hz0 hz1 hz2 rfl (by decide) _ _ _ rfl (HOW.out.alloc _) ⟨w5.heap.size, 0, none⟩ 1 1 [.pointer (some ⟨q, 0, none⟩)] rfl rfl ?c1 ?c2 ?c3 ?c4 ?c5 ?_))
        case c1 => exact cell_oneB _ _ _
        case c2 => intro u hu; rw [List.mem_singleton.1 hu]; rfl
        case c3 => unfold maxLen; omega
        case c4 => omega
        case c5 => have h1 := HM.out.low.size; have h2 := HLOW.out.size; simp; omega
        intro vl2 w7 hrow7 hgrow _
        have hb0 : Below wr.heap.size wr (w5.alloc (.cells #[.pointer (some ⟨q, 0, none⟩)] 24)) := HLOW.out.alloc HLOW.out.size _
        have hb1 : Below w5.heap.size w5 (w5.alloc (.cells #[.pointer (some ⟨q, 0, none⟩)] 24)) := (Below.refl _ _).alloc (Nat.le_refl _) _
        obtain ⟨gB, gS, gL⟩ := HM.out.grow hb0 hgrow hrow7
        have BP7 := Lib.hid (gB _ _ (HBP.out.next hb1))
        have S7 := Lib.hid (gS _ _ _ (HSS.out.all_below hb1))
        have O7 := Lib.hid (gS _ _ _ (HM.out.one.all_below hb0))
        have A7 := Lib.hid (gS _ _ _ (HM.out.all.all_below hb0))
        have BS7 : Hid (Bps w7 ps nums) := Lib.hid (fun p hp => gB _ _ (HM.out.boxes.next hb0 p hp))
        have L7 := Lib.hid gL
        have R7 := Lib.hid hrow7
        clear gB gS gL hb0 hb1 hrow7 hgrow
        have CJ0 := Lib.hid (set_0 O7.out S7.out rfl HSM.out w7 (Below.refl _ _))
        go_wp2_with (go_at_call 11; (with_reducible refine CJ0.out.mono ?_); rintro e w8 ⟨g8, n8, d8, rfl, k1, k2, k3, k4⟩
                     have O8 := Lib.hid k1
                     have O8I := Lib.hid k2
                     have B8 := Lib.hid k4
                     have CJ1 := Lib.hid (set_1 (A7.out.all_below k4) (S7.out.all_below k4) rfl HSM.out w8 (Below.refl _ _))
                     clear k1 k2 k3 k4 CJ0)
        go_wp2_with (go_at_call 11; (with_reducible refine CJ1.out.mono ?_); rintro e w9 ⟨g9, n9, d9, rfl, k1, k2, k3, k4⟩
                     have hb9 : Below w7.heap.size w7 w9 := B8.out.trans (k4.mono B8.out.size)
                     have hrow9 := (ButS.of_below (S := fun _ => False) hb9 (Nat.le_refl _)).own R7.out (fun _ _ h => h)
                     rw [← HRV.out] at hrow9
                     have MS9 : Hid (MS Wb w9 vl2 (ps ++ [some ⟨q, 0, none⟩]) (upd nums (some ⟨q, 0, none⟩) xs) g8 n8 d8 g9 n9 d9) := Lib.hid (HM.out.more (L7.out.trans (hb9.mono L7.out.size)) (BS7.out.next hb9) HFR.out (BP7.out.next hb9) (by rw [HPS.out]; exact hrow9) (O8.out.all_below k4) O8I.out k1 (fun x => by
                       rw [k2 x]
                       have hp0 : ps ≠ [] := fun e => by have := HPS.out; rw [e] at this; simp at this
                       simp [hp0]))
                     clear k1 k2 k3 k4 hb9 hrow9 CJ1)
        go_roundw
        case rel => exact ⟨2, ps ++ [some ⟨q, 0, none⟩], upd nums (some ⟨q, 0, none⟩) xs, g8, n8, d8, g9, n9, d9, by omega, rfl, rfl, by go_num, Lib.hid (by rw [List.length_append, HPS.out]; rfl), Lib.hid (fun h0 h1 => by
          rcases List.mem_append.1 h1 with h2 | h2
          · exact HNO.out (by omega) h2
          · have := List.mem_singleton.1 h2
            cases this), MS9⟩
        case measure => simp [intOf]; omega
      · subst hk0
        have hT2 : decide (2 < m) = true := decide_eq_true hlt
        have hT3 : decide ((2 : Int) < (m : Int)) = true := decide_eq_true (by omega)
        have hlt3 : (2 : Int) < (m : Int) := by omega
        have cc := cell_of_row _ _ 2 _ _ (0, 0) hrowr
        have cc2 : wr.cell? ⟨w3.heap.size, 2, none⟩ = some (.slice P2 N2 cp2) := cc
        clear cc hrowr
        have hly := lay_any wr (HT0.out.below HWR.out HT0.out.pos) P2 cp2 as2 false (HR2.out.later HWR.out) hl2
        rw [HN2.out] at hly
        have HLY := Lib.hid hly
        clear hly
        have hps2 : ps.length = 2 := HLEN.out
        have HOR := Lib.hid HM.out.row
        rw [hps2] at HOR
        have HPS := Lib.hid hps2
        clear hps2
        obtain ⟨rv, hrv⟩ : ∃ rv, ps.map Value.pointer = rv := ⟨_, rfl⟩
        rw [hrv] at HOR
        have HRV := Lib.hid hrv
        clear hrv
        go_wp2_with (first
          | (go_at_call 7; (with_reducible refine HLY.out.mono ?_); rintro e w5 ⟨q, r, xs, gs, ns, ss, l, rfl, j⟩
             have hbp : Bp w5 (some ⟨q, 0, none⟩) xs := .inr ⟨q, r, l, rfl, j.b⟩
             have HBP := Lib.hid hbp
             have HSS := Lib.hid j.s
             have HSM := Lib.hid j.same
             have HFR := Lib.hid (HM.out.fresh j.q0)
             have HLOW := Lib.hid j.low
             have HOW := Lib.hid ((ButS.of_below (S := fun _ => False) j.low (Nat.le_refl _)).own HOR.out (fun _ _ h => h))
             clear j hbp HLY)
          | (go_at_call 20; (with_reducible refine (CNW _).out.mono ?_); rintro e w6 ⟨gs, ns, rfl, hbs, hg2, hg⟩
             have hb6 : Below w5.heap.size w5 w6 := ⟨hg2.os, hg2.tape, hg2.output, hg2.size, fun k hk => hg2.block k hk (by simp)⟩
             replace HSS := Lib.hid hbs
             replace HLOW := Lib.hid (HLOW.out.trans (hb6.mono HLOW.out.size))
             replace HOW := Lib.hid ((ButS.of_below (S := fun _ => False) hb6 (Nat.le_refl _)).own HOW.out (fun _ _ h => h))
             clear hbs hg2 hg hb6)
          | (at_builtin; refine wpList_append_own _ rfl _ _ 41 rfl Wb.heap.size 24 i0 (.pointer none) 1 8 Tryz.underlying41 hi hz0 hz1 hz2 rfl (by decide) _ _ _ rfl (HOW.out.alloc _) ⟨w6.heap.size, 0, none⟩ 1 1 [.pointer (none)] rfl rfl ?c1 ?c2 ?c3 ?c4 ?c5 ?_))
        case c1 => exact cell_oneB _ _ _
        case c2 => intro u hu; rw [List.mem_singleton.1 hu]; rfl
        case c3 => unfold maxLen; omega
        case c4 => omega
        case c5 => have h1 := HM.out.low.size; have h2 := HLOW.out.size; simp; omega
        intro vl2 w7 hrow7 hgrow _
        have hb0 : Below wr.heap.size wr (w6.alloc (.cells #[.pointer (none)] 24)) := HLOW.out.alloc HLOW.out.size _
        have hb1 : Below w6.heap.size w6 (w6.alloc (.cells #[.pointer (none)] 24)) := (Below.refl _ _).alloc (Nat.le_refl _) _
        obtain ⟨gB, gS, gL⟩ := HM.out.grow hb0 hgrow hrow7
        have BP7 : Hid (Bp w7 none []) := Lib.hid (.inl ⟨rfl, rfl⟩)
        have SM7 : Hid (M.L (List.replicate ns false) = []) := Lib.hid (M.L_false _)
        have S7 := Lib.hid (gS _ _ _ (HSS.out.all_below hb1))
        have O7 := Lib.hid (gS _ _ _ (HM.out.one.all_below hb0))
        have A7 := Lib.hid (gS _ _ _ (HM.out.all.all_below hb0))
        have BS7 : Hid (Bps w7 ps nums) := Lib.hid (fun p hp => gB _ _ (HM.out.boxes.next hb0 p hp))
        have L7 := Lib.hid gL
        have R7 := Lib.hid hrow7
        clear gB gS gL hb0 hb1 hrow7 hgrow
        have CJ0 := Lib.hid (set_0 O7.out S7.out rfl SM7.out w7 (Below.refl _ _))
        go_wp2_with (go_at_call 11; (with_reducible refine CJ0.out.mono ?_); rintro e w8 ⟨g8, n8, d8, rfl, k1, k2, k3, k4⟩
                     have O8 := Lib.hid k1
                     have O8I := Lib.hid k2
                     have B8 := Lib.hid k4
                     have CJ1 := Lib.hid (set_1 (A7.out.all_below k4) (S7.out.all_below k4) rfl SM7.out w8 (Below.refl _ _))
                     clear k1 k2 k3 k4 CJ0)
        go_wp2_with (go_at_call 11; (with_reducible refine CJ1.out.mono ?_); rintro e w9 ⟨g9, n9, d9, rfl, k1, k2, k3, k4⟩
                     have hb9 : Below w7.heap.size w7 w9 := B8.out.trans (k4.mono B8.out.size)
                     have hrow9 := (ButS.of_below (S := fun _ => False) hb9 (Nat.le_refl _)).own R7.out (fun _ _ h => h)
                     rw [← HRV.out] at hrow9
                     have MS9 : Hid (MS Wb w9 vl2 (ps ++ [none]) (upd nums (none) []) g8 n8 d8 g9 n9 d9) := Lib.hid (HM.out.more (L7.out.trans (hb9.mono L7.out.size)) (BS7.out.next hb9) (HNO.out (by omega)) (BP7.out.next hb9) (by rw [HPS.out]; exact hrow9) (O8.out.all_below k4) O8I.out k1 (fun x => by
                       rw [k2 x]
                       have hp0 : ps ≠ [] := fun e => by have := HPS.out; rw [e] at this; simp at this
                       simp [hp0]))
                     clear k1 k2 k3 k4 hb9 hrow9 CJ1)
        go_roundw
        case rel => exact ⟨3, ps ++ [none], upd nums (none) [], g8, n8, d8, g9, n9, d9, by omega, rfl, rfl, by go_num, Lib.hid (by rw [List.length_append, HPS.out]; rfl), Lib.hid (fun h0 h1 => by omega), MS9⟩
        case measure => simp [intOf]; omega
    · have hT2 : decide (k < m) = false := decide_eq_false hlt
      have hT3 : decide ((k : Int) < (m : Int)) = false := decide_eq_false (by omega)
      obtain ⟨U, c, rfl⟩ := own_form HM.out.row
      have hpp : Pps wr U ps := fun hne => by
        have hr := HM.out.row
        obtain ⟨g, rfl⟩ := own_some hr (Nat.pos_of_ne_zero (fun h => hne (List.eq_nil_of_length_eq_zero h)))
        refine ⟨g, 0, rfl, (hr.lt g rfl).2, fun k hk => ?_⟩
        have h1 := hr.cells (g := g) rfl k (.pointer ps[k]) (by simp [hk])
        rw [add_offB] at h1
        rw [Nat.zero_add]
        exact h1
      have HPP := Lib.hid hpp
      have hfew : ps.length ≤ 1000000 := by have := HLEN.out; omega
      have COR := Lib.hid (or_any wr U c ps nums hpp hfew HM.out.boxes (HT0.out.below HWR.out HT0.out.pos))
      have CAN := Lib.hid (fun V (hV : Below wr.heap.size wr V) => and_any V U c ps nums (hpp.below hV) hfew (HM.out.boxes.next hV) ((HT0.out.below HWR.out HT0.out.pos).below hV (HT0.out.below HWR.out HT0.out.pos).pos))
      obtain ⟨L, hL⟩ : ∃ L, ps.length = L := ⟨_, rfl⟩
      rw [hL] at COR CAN ⊢
      have T0 := Lib.hid (HT0.out.below HWR.out HT0.out.pos)
      clear hpp hfew hL
      go_wp2_with (first
        | (go_at_call 10; (with_reducible refine COR.out.mono ?_); rintro e w5 ⟨ys, hy, q, r, rfl, h1, h2, h3, h4⟩
           have hsame : M.L bs1 = ys := M.sorted_ext (M.L_up bs1) h1.u.up (fun x => by rw [HM.out.oneIn x, hy x])
           have HPL := Lib.hid (plain_law w5 q r g1 n1 ys bs1 h1 (HM.out.one.all_below h4) hsame (T0.out.below h4 T0.out.pos))
           have LW := Lib.hid h4
           clear hy h1 h2 h3 h4 hsame COR)
        | (go_at_call 12; (with_reducible refine (CAN.out _ LW.out).mono ?_); rintro e w6 ⟨ys, hy, q, r, rfl, h1, h2, h3, h4⟩
           have hlw := LW.out.trans (h4.mono LW.out.size)
           have hsame : M.L bs2 = ys := M.sorted_ext (M.L_up bs2) h1.u.up (fun x => by rw [HM.out.allIn x, hy x])
           have HPL := Lib.hid (plain_law w6 q r g2 n2 ys bs2 h1 (HM.out.all.all_below hlw) hsame (T0.out.below hlw T0.out.pos))
           replace LW := Lib.hid hlw
           clear hy h1 h2 h3 h4 hsame hlw)
        | (go_at_call 9; (with_reducible refine HPL.out.mono ?_); rintro e w7 ⟨rfl, h7⟩; replace LW := Lib.hid (LW.out.trans (h7.mono LW.out.size)); clear h7 HPL))
      go_ret
      exact ⟨by first | rfl | simp, HWR.out.trans (LW.out.mono HWR.out.size)⟩
set_option maxHeartbeats 16000000 in
theorem law_many_false (P0 : Option Addr) (cp0 : Nat) (as0 : List AcB) (P1 : Option Addr) (cp1 : Nat) (as1 : List AcB) (P2 : Option Addr) (cp2 : Nat) (as2 : List AcB) (n : Nat) (hn : n < 256) (w : World) (hT : Tab w) (hr0 : Rk w w.heap.size P0 as0) (hl0 : as0.length ≤ 9223372036854775807) (hr1 : Rk w w.heap.size P1 as1) (hl1 : as1.length ≤ 9223372036854775807) (hr2 : Rk w w.heap.size P2 as2) (hl2 : as2.length ≤ 9223372036854775807) :
    Calls Tryz.prog 4 #[.slice P0 as0.length cp0, .slice P1 as1.length cp1, .slice P2 as2.length cp2, .int .u8 (n : Int), .bool false] w fun e w' => e = .returned (.bool true) ∧ Below w.heap.size w w' := by
  obtain ⟨e1, e2⟩ := mod4 n hn (n % 4) rfl
  obtain ⟨m, hm⟩ : ∃ m, n % 4 = m := ⟨_, rfl⟩
  rw [hm] at e1 e2
  have hm3 : m ≤ 3 := by omega
  obtain ⟨i0, hi, hz0, hz1, hz2⟩ := info_parts ptr_info
  have HR0 := Lib.hid hr0
  have HR1 := Lib.hid hr1
  have HR2 := Lib.hid hr2
  have HT0 := Lib.hid hT
  have CNW := fun W => Lib.hid (f_new W)
  have l1 := fun g => (cut_acts g m hm3).1
  have l2 := fun g => (cut_acts g m hm3).2
  clear hr0 hr1 hr2 hT hm
  obtain ⟨N0, hN0⟩ : ∃ N0, as0.length = N0 := ⟨_, rfl⟩
  obtain ⟨N1, hN1⟩ : ∃ N1, as1.length = N1 := ⟨_, rfl⟩
  obtain ⟨N2, hN2⟩ : ∃ N2, as2.length = N2 := ⟨_, rfl⟩
  rw [hN0, hN1, hN2]
  have HN0 := Lib.hid hN0
  have HN1 := Lib.hid hN1
  have HN2 := Lib.hid hN2
  clear hN0 hN1 hN2
  go_enter Tryz.func4, Tryz.ntmps4
  go_wp2_with (go_at_call 6; (with_reducible refine (awake_any w HT0.out).mono ?_); rintro e w1 ⟨rfl, hb1⟩; have HB1 := Lib.hid hb1; clear hb1)
  go_wp2_with (go_at_call 20; (with_reducible refine (CNW _).out.mono ?_); rintro e w2 ⟨g1, n1, rfl, hbs, hg2, hg⟩
               have hb2 : Below w1.heap.size w1 w2 := ⟨hg2.os, hg2.tape, hg2.output, hg2.size, fun k hk => hg2.block k hk (by simp)⟩
               have HS1 := Lib.hid hbs
               have HB2 := Lib.hid (HB1.out.trans (hb2.mono HB1.out.size))
               clear hbs hg2 hg hb2)
  go_wp2_with (go_at_call 20; (with_reducible refine (CNW _).out.mono ?_); rintro e w3 ⟨g2, n2, rfl, hbs, hg2, hg⟩
               have hb3 : Below w2.heap.size w2 w3 := ⟨hg2.os, hg2.tape, hg2.output, hg2.size, fun k hk => hg2.block k hk (by simp)⟩
               replace HS1 := Lib.hid (HS1.out.all_below hb3)
               have HS2 := Lib.hid hbs
               have HB3 := Lib.hid (HB2.out.trans (hb3.mono HB2.out.size))
               clear hbs hg2 hg hb3)
  have hbW : Below w3.heap.size w3 (w3.alloc (.cells #[.slice P0 N0 cp0, .slice P1 N1 cp1, .slice P2 N2 cp2] 22)) := (Below.refl _ w3).alloc (Nat.le_refl _) _
  have hrowb : (w3.alloc (.cells #[.slice P0 N0 cp0, .slice P1 N1 cp1, .slice P2 N2 cp2] 22)).heap[w3.heap.size]? = some (.cells #[.slice P0 N0 cp0, .slice P1 N1 cp1, .slice P2 N2 cp2] 22 (0, 0)) := alloc_top w3 _ rfl
  have hlast : w3.heap.size < (w3.alloc (.cells #[.slice P0 N0 cp0, .slice P1 N1 cp1, .slice P2 N2 cp2] 22)).heap.size := by simp
  go_wp2
  obtain ⟨Wb, hWb⟩ : ∃ Wb, w3.alloc (.cells #[.slice P0 N0 cp0, .slice P1 N1 cp1, .slice P2 N2 cp2] 22) = Wb := ⟨_, rfl⟩
  rw [hWb] at hbW hrowb hlast ⊢
  have HWB : Hid (Below w.heap.size w Wb) := Lib.hid (HB3.out.trans (hbW.mono HB3.out.size))
  have HRB := Lib.hid (And.intro hrowb hlast)
  have HMS : Hid (MS Wb Wb (.slice none 0 0) [] (fun _ => []) g1 n1 (List.replicate n1 false) g2 n2 (List.replicate n2 false)) := Lib.hid ⟨by simp [World.ownsRow_nil], fun p hp => (by cases hp), HS1.out.all_below hbW, fun x => by rw [M.L_false]; simp, HS2.out.all_below hbW, fun x => by rw [M.L_false]; simp, Below.refl _ _⟩
  clear hbW hrowb hlast hWb
  go_loopw [11, 12, 13, 30] (fun vl v1 v2 vi wr => ∃ (k : Nat) (ps : List (Option Addr)) (nums : Option Addr → List Int) (g1 n1 : Nat) (bs1 : List Bool) (g2 n2 : Nat) (bs2 : List Bool), k ≤ m ∧ v1 = .slice (some ⟨g1, 0, none⟩) n1 n1 ∧ v2 = .slice (some ⟨g2, 0, none⟩) n2 n2 ∧ vi = .int .i64 (k : Int) ∧ Hid (ps.length = k) ∧ Hid (k < 3 → ¬ none ∈ ps) ∧ Hid (MS Wb wr vl ps nums g1 n1 bs1 g2 n2 bs2)) (fun _ _ _ vi _ => m - (intOf vi).toNat)
  case atStart => exact ⟨0, [], fun _ => [], g1, n1, _, g2, n2, _, Nat.zero_le _, rfl, rfl, rfl, Lib.hid rfl, Lib.hid (fun _ h => (by cases h)), HMS⟩
  case round =>
    clear HS1 HS2 HMS
    obtain ⟨k, ps, nums, g1, n1, bs1, g2, n2, bs2, hk, rfl, rfl, rfl, HLEN, HNO, HM⟩ := hrel
    obtain ⟨vl, hvl⟩ : ∃ vl, vl = u11 := ⟨_, rfl⟩
    subst hvl
    have HWR : Hid (Below w.heap.size w wr) := Lib.hid (HWB.out.trans (HM.out.low.mono HWB.out.size))
    have hrowr := (HM.out.low.block w3.heap.size HRB.out.2).trans HRB.out.1
    by_cases hlt : k < m
    · rcases (by omega : k = 0 ∨ k = 1 ∨ k = 2) with hk0 | hk0 | hk0
      · subst hk0
        have hT2 : decide (0 < m) = true := decide_eq_true hlt
        have hT3 : decide ((0 : Int) < (m : Int)) = true := decide_eq_true (by omega)
        have hlt3 : (0 : Int) < (m : Int) := by omega
        have cc := cell_of_row _ _ 0 _ _ (0, 0) hrowr
        have cc2 : wr.cell? ⟨w3.heap.size, 0, none⟩ = some (.slice P0 N0 cp0) := cc
        clear cc hrowr
        have hly := lay_any wr (HT0.out.below HWR.out HT0.out.pos) P0 cp0 as0 false (HR0.out.later HWR.out) hl0
        rw [HN0.out] at hly
        have HLY := Lib.hid hly
        clear hly
        have hps0 : ps.length = 0 := HLEN.out
        have HOR := Lib.hid HM.out.row
        rw [hps0] at HOR
        have HPS := Lib.hid hps0
        clear hps0
        obtain ⟨rv, hrv⟩ : ∃ rv, ps.map Value.pointer = rv := ⟨_, rfl⟩
        rw [hrv] at HOR
        have HRV := Lib.hid hrv
        clear hrv
        go_wp2_with (first
          | (go_at_call 7; (with_reducible refine HLY.out.mono ?_); rintro e w5 ⟨q, r, xs, gs, ns, ss, l, rfl, j⟩
             have hbp : Bp w5 (some ⟨q, 0, none⟩) xs := .inr ⟨q, r, l, rfl, j.b⟩
             have HBP := Lib.hid hbp
             have HSS := Lib.hid j.s
             have HSM := Lib.hid j.same
             have HFR := Lib.hid (HM.out.fresh j.q0)
             have HLOW := Lib.hid j.low
             have HOW := Lib.hid ((ButS.of_below (S := fun _ => False) j.low (Nat.le_refl _)).own HOR.out (fun _ _ h => h))
             have CSS := Lib.hid (set_0 j.s j.s j.same j.same w5 (Below.refl _ _))
             clear j hbp HLY)
          | (go_at_call 11; (with_reducible refine CSS.out.mono ?_); rintro e w6 ⟨g6, n6, ds, rfl, k1, k2, k3, k4⟩
             have HA6 := Lib.hid k1
             have HA6I := Lib.hid k2
             replace HBP := Lib.hid (HBP.out.next k4)
             replace HSS := Lib.hid (HSS.out.all_below k4)
             replace HLOW := Lib.hid (HLOW.out.trans (k4.mono HLOW.out.size))
             replace HOW := Lib.hid ((ButS.of_below (S := fun _ => False) k4 (Nat.le_refl _)).own HOW.out (fun _ _ h => h))
             clear k1 k2 k3 k4 CSS)
          | (at_builtin; refine wpList_append_own _ rfl _ _ 41 rfl Wb.heap.size 24 i0 (.pointer none) 1 8 Tryz.underlying41 hi hz0 hz1 hz2 rfl (by decide) _ _ _ rfl (HOW.out.alloc _) ⟨w6.heap.size, 0, none⟩ 1 1 [.pointer (some ⟨q, 0, none⟩)] rfl rfl ?c1 ?c2 ?c3 ?c4 ?c5 ?_))
        case c1 => exact cell_oneB _ _ _
        case c2 => intro u hu; rw [List.mem_singleton.1 hu]; rfl
        case c3 => unfold maxLen; omega
        case c4 => omega
        case c5 => have h1 := HM.out.low.size; have h2 := HLOW.out.size; simp; omega
        intro vl2 w7 hrow7 hgrow _
        have hb0 : Below wr.heap.size wr (w6.alloc (.cells #[.pointer (some ⟨q, 0, none⟩)] 24)) := HLOW.out.alloc HLOW.out.size _
        have hb1 : Below w6.heap.size w6 (w6.alloc (.cells #[.pointer (some ⟨q, 0, none⟩)] 24)) := (Below.refl _ _).alloc (Nat.le_refl _) _
        obtain ⟨gB, gS, gL⟩ := HM.out.grow hb0 hgrow hrow7
        have BP7 := Lib.hid (gB _ _ (HBP.out.next hb1))
        have S7 := Lib.hid (gS _ _ _ (HSS.out.all_below hb1))
        have O7 := Lib.hid (gS _ _ _ (HM.out.one.all_below hb0))
        have A7 := Lib.hid (gS _ _ _ (HA6.out.all_below hb1))
        have BS7 : Hid (Bps w7 ps nums) := Lib.hid (fun p hp => gB _ _ (HM.out.boxes.next hb0 p hp))
        have L7 := Lib.hid gL
        have R7 := Lib.hid hrow7
        clear gB gS gL hb0 hb1 hrow7 hgrow
        have CJ0 := Lib.hid (set_0 O7.out S7.out rfl HSM.out w7 (Below.refl _ _))
        go_wp2_with (go_at_call 11; (with_reducible refine CJ0.out.mono ?_); rintro e w8 ⟨g8, n8, d8, rfl, k1, k2, k3, k4⟩
                     have O8 := Lib.hid k1
                     have O8I := Lib.hid k2
                     have B8 := Lib.hid k4
                     have CJ1 := Lib.hid (set_1 (A7.out.all_below k4) (S7.out.all_below k4) rfl HSM.out w8 (Below.refl _ _))
                     clear k1 k2 k3 k4 CJ0)
        go_wp2_with (go_at_call 11; (with_reducible refine CJ1.out.mono ?_); rintro e w9 ⟨g9, n9, d9, rfl, k1, k2, k3, k4⟩
                     have hb9 : Below w7.heap.size w7 w9 := B8.out.trans (k4.mono B8.out.size)
                     have hrow9 := (ButS.of_below (S := fun _ => False) hb9 (Nat.le_refl _)).own R7.out (fun _ _ h => h)
                     rw [← HRV.out] at hrow9
                     have MS9 : Hid (MS Wb w9 vl2 (ps ++ [some ⟨q, 0, none⟩]) (upd nums (some ⟨q, 0, none⟩) xs) g8 n8 d8 g9 n9 d9) := Lib.hid (HM.out.more (L7.out.trans (hb9.mono L7.out.size)) (BS7.out.next hb9) HFR.out (BP7.out.next hb9) (by rw [HPS.out]; exact hrow9) (O8.out.all_below k4) O8I.out k1 (fun x => by
                       rw [k2 x]
                       have hp0 : ps = [] := List.eq_nil_of_length_eq_zero HPS.out
                       exact ⟨fun h => ⟨.inl hp0, h.2⟩, fun h => ⟨(HA6I.out x).2 (.inl h.2), h.2⟩⟩))
                     clear k1 k2 k3 k4 hb9 hrow9 CJ1)
        go_roundw
        case rel => exact ⟨1, ps ++ [some ⟨q, 0, none⟩], upd nums (some ⟨q, 0, none⟩) xs, g8, n8, d8, g9, n9, d9, by omega, rfl, rfl, by go_num, Lib.hid (by rw [List.length_append, HPS.out]; rfl), Lib.hid (fun h0 h1 => by
          rcases List.mem_append.1 h1 with h2 | h2
          · exact HNO.out (by omega) h2
          · have := List.mem_singleton.1 h2
            cases this), MS9⟩
        case measure => simp [intOf]; omega
      · subst hk0
        have hT2 : decide (1 < m) = true := decide_eq_true hlt
        have hT3 : decide ((1 : Int) < (m : Int)) = true := decide_eq_true (by omega)
        have hlt3 : (1 : Int) < (m : Int) := by omega
        have cc := cell_of_row _ _ 1 _ _ (0, 0) hrowr
        have cc2 : wr.cell? ⟨w3.heap.size, 1, none⟩ = some (.slice P1 N1 cp1) := cc
        clear cc hrowr
        have hly := lay_any wr (HT0.out.below HWR.out HT0.out.pos) P1 cp1 as1 true (HR1.out.later HWR.out) hl1
        rw [HN1.out] at hly
        have HLY := Lib.hid hly
        clear hly
        have hps1 : ps.length = 1 := HLEN.out
        have HOR := Lib.hid HM.out.row
        rw [hps1] at HOR
        have HPS := Lib.hid hps1
        clear hps1
        obtain ⟨rv, hrv⟩ : ∃ rv, ps.map Value.pointer = rv := ⟨_, rfl⟩
        rw [hrv] at HOR
        have HRV := Lib.hid hrv
        clear hrv
        go_wp2_with (first
          | (go_at_call 7; (with_reducible refine HLY.out.mono ?_); rintro e w5 ⟨q, r, xs, gs, ns, ss, l, rfl, j⟩
             have hbp : Bp w5 (some ⟨q, 0, none⟩) xs := .inr ⟨q, r, l, rfl, j.b⟩
             have HBP := Lib.hid hbp
             have HSS := Lib.hid j.s
             have HSM := Lib.hid j.same
             have HFR := Lib.hid (HM.out.fresh j.q0)
             have HLOW := Lib.hid j.low
             have HOW := Lib.hid ((ButS.of_below (S := fun _ => False) j.low (Nat.le_refl _)).own HOR.out (fun _ _ h => h))
             clear j hbp HLY)
          | (at_builtin; refine wpList_append_own _ rfl _ _ 41 rfl Wb.heap.size 24 i0 (.pointer none) 1 8 Tryz.underlying41 hi hz0 hz1 hz2 rfl (by decide) _ _ _ rfl (HOW.out.alloc _) ⟨w5.heap.size, 0, none⟩ 1 1 [.pointer (some ⟨q, 0, none⟩)] rfl rfl ?c1 ?c2 ?c3 ?c4 ?c5 ?_))
        case c1 => exact cell_oneB _ _ _
        case c2 => intro u hu; rw [List.mem_singleton.1 hu]; rfl
        case c3 => unfold maxLen; omega
        case c4 => omega
        case c5 => have h1 := HM.out.low.size; have h2 := HLOW.out.size; simp; omega
        intro vl2 w7 hrow7 hgrow _
        have hb0 : Below wr.heap.size wr (w5.alloc (.cells #[.pointer (some ⟨q, 0, none⟩)] 24)) := HLOW.out.alloc HLOW.out.size _
        have hb1 : Below w5.heap.size w5 (w5.alloc (.cells #[.pointer (some ⟨q, 0, none⟩)] 24)) := (Below.refl _ _).alloc (Nat.le_refl _) _
        obtain ⟨gB, gS, gL⟩ := HM.out.grow hb0 hgrow hrow7
        have BP7 := Lib.hid (gB _ _ (HBP.out.next hb1))
        have S7 := Lib.hid (gS _ _ _ (HSS.out.all_below hb1))
        have O7 := Lib.hid (gS _ _ _ (HM.out.one.all_below hb0))
        have A7 := Lib.hid (gS _ _ _ (HM.out.all.all_below hb0))
        have BS7 : Hid (Bps w7 ps nums) := Lib.hid (fun p hp => gB _ _ (HM.out.boxes.next hb0 p hp))
        have L7 := Lib.hid gL
        have R7 := Lib.hid hrow7
        clear gB gS gL hb0 hb1 hrow7 hgrow
        have CJ0 := Lib.hid (set_0 O7.out S7.out rfl HSM.out w7 (Below.refl _ _))
        go_wp2_with (go_at_call 11; (with_reducible refine CJ0.out.mono ?_); rintro e w8 ⟨g8, n8, d8, rfl, k1, k2, k3, k4⟩
                     have O8 := Lib.hid k1
                     have O8I := Lib.hid k2
                     have B8 := Lib.hid k4
                     have CJ1 := Lib.hid (set_1 (A7.out.all_below k4) (S7.out.all_below k4) rfl HSM.out w8 (Below.refl _ _))
                     clear k1 k2 k3 k4 CJ0)
        go_wp2_with (go_at_call 11; (with_reducible refine CJ1.out.mono ?_); rintro e w9 ⟨g9, n9, d9, rfl, k1, k2, k3, k4⟩
                     have hb9 : Below w7.heap.size w7 w9 := B8.out.trans (k4.mono B8.out.size)
                     have hrow9 := (ButS.of_below (S := fun _ => False) hb9 (Nat.le_refl _)).own R7.out (fun _ _ h => h)
                     rw [← HRV.out] at hrow9
                     have MS9 : Hid (MS Wb w9 vl2 (ps ++ [some ⟨q, 0, none⟩]) (upd nums (some ⟨q, 0, none⟩) xs) g8 n8 d8 g9 n9 d9) := Lib.hid (HM.out.more (L7.out.trans (hb9.mono L7.out.size)) (BS7.out.next hb9) HFR.out (BP7.out.next hb9) (by rw [HPS.out]; exact hrow9) (O8.out.all_below k4) O8I.out k1 (fun x => by
                       rw [k2 x]
                       have hp0 : ps ≠ [] := fun e => by have := HPS.out; rw [e] at this; simp at this
                       simp [hp0]))
                     clear k1 k2 k3 k4 hb9 hrow9 CJ1)
        go_roundw
        case rel => exact ⟨2, ps ++ [some ⟨q, 0, none⟩], upd nums (some ⟨q, 0, none⟩) xs, g8, n8, d8, g9, n9, d9, by omega, rfl, rfl, by go_num, Lib.hid (by rw [List.length_append, HPS.out]; rfl), Lib.hid (fun h0 h1 => by
          rcases List.mem_append.1 h1 with h2 | h2
          · exact HNO.out (by omega) h2
          · have := List.mem_singleton.1 h2
            cases this), MS9⟩
        case measure => simp [intOf]; omega
      · subst hk0
        have hT2 : decide (2 < m) = true := decide_eq_true hlt
        have hT3 : decide ((2 : Int) < (m : Int)) = true := decide_eq_true (by omega)
        have hlt3 : (2 : Int) < (m : Int) := by omega
        have cc := cell_of_row _ _ 2 _ _ (0, 0) hrowr
        have cc2 : wr.cell? ⟨w3.heap.size, 2, none⟩ = some (.slice P2 N2 cp2) := cc
        clear cc hrowr
        have hly := lay_any wr (HT0.out.below HWR.out HT0.out.pos) P2 cp2 as2 false (HR2.out.later HWR.out) hl2
        rw [HN2.out] at hly
        have HLY := Lib.hid hly
        clear hly
        have hps2 : ps.length = 2 := HLEN.out
        have HOR := Lib.hid HM.out.row
        rw [hps2] at HOR
        have HPS := Lib.hid hps2
        clear hps2
        obtain ⟨rv, hrv⟩ : ∃ rv, ps.map Value.pointer = rv := ⟨_, rfl⟩
        rw [hrv] at HOR
        have HRV := Lib.hid hrv
        clear hrv
        go_wp2_with (first
          | (go_at_call 7; (with_reducible refine HLY.out.mono ?_); rintro e w5 ⟨q, r, xs, gs, ns, ss, l, rfl, j⟩
             have hbp : Bp w5 (some ⟨q, 0, none⟩) xs := .inr ⟨q, r, l, rfl, j.b⟩
             have HBP := Lib.hid hbp
             have HSS := Lib.hid j.s
             have HSM := Lib.hid j.same
             have HFR := Lib.hid (HM.out.fresh j.q0)
             have HLOW := Lib.hid j.low
             have HOW := Lib.hid ((ButS.of_below (S := fun _ => False) j.low (Nat.le_refl _)).own HOR.out (fun _ _ h => h))
             clear j hbp HLY)
          | (at_builtin; refine wpList_append_own _ rfl _ _ 41 rfl Wb.heap.size 24 i0 (.pointer none) 1 8 Tryz.underlying41 hi hz0 hz1 hz2 rfl (by decide) _ _ _ rfl (HOW.out.alloc _) ⟨w5.heap.size, 0, none⟩ 1 1 [.pointer (some ⟨q, 0, none⟩)] rfl rfl ?c1 ?c2 ?c3 ?c4 ?c5 ?_))
        case c1 => exact cell_oneB _ _ _
        case c2 => intro u hu; rw [List.mem_singleton.1 hu]; rfl
        case c3 => unfold maxLen; omega
        case c4 => omega
        case c5 => have h1 := HM.out.low.size; have h2 := HLOW.out.size; simp; omega
        intro vl2 w7 hrow7 hgrow _
        have hb0 : Below wr.heap.size wr (w5.alloc (.cells #[.pointer (some ⟨q, 0, none⟩)] 24)) := HLOW.out.alloc HLOW.out.size _
        have hb1 : Below w5.heap.size w5 (w5.alloc (.cells #[.pointer (some ⟨q, 0, none⟩)] 24)) := (Below.refl _ _).alloc (Nat.le_refl _) _
        obtain ⟨gB, gS, gL⟩ := HM.out.grow hb0 hgrow hrow7
        have BP7 := Lib.hid (gB _ _ (HBP.out.next hb1))
        have S7 := Lib.hid (gS _ _ _ (HSS.out.all_below hb1))
        have O7 := Lib.hid (gS _ _ _ (HM.out.one.all_below hb0))
        have A7 := Lib.hid (gS _ _ _ (HM.out.all.all_below hb0))
        have BS7 : Hid (Bps w7 ps nums) := Lib.hid (fun p hp => gB _ _ (HM.out.boxes.next hb0 p hp))
        have L7 := Lib.hid gL
        have R7 := Lib.hid hrow7
        clear gB gS gL hb0 hb1 hrow7 hgrow
        have CJ0 := Lib.hid (set_0 O7.out S7.out rfl HSM.out w7 (Below.refl _ _))
        go_wp2_with (go_at_call 11; (with_reducible refine CJ0.out.mono ?_); rintro e w8 ⟨g8, n8, d8, rfl, k1, k2, k3, k4⟩
                     have O8 := Lib.hid k1
                     have O8I := Lib.hid k2
                     have B8 := Lib.hid k4
                     have CJ1 := Lib.hid (set_1 (A7.out.all_below k4) (S7.out.all_below k4) rfl HSM.out w8 (Below.refl _ _))
                     clear k1 k2 k3 k4 CJ0)
        go_wp2_with (go_at_call 11; (with_reducible refine CJ1.out.mono ?_); rintro e w9 ⟨g9, n9, d9, rfl, k1, k2, k3, k4⟩
                     have hb9 : Below w7.heap.size w7 w9 := B8.out.trans (k4.mono B8.out.size)
                     have hrow9 := (ButS.of_below (S := fun _ => False) hb9 (Nat.le_refl _)).own R7.out (fun _ _ h => h)
                     rw [← HRV.out] at hrow9
                     have MS9 : Hid (MS Wb w9 vl2 (ps ++ [some ⟨q, 0, none⟩]) (upd nums (some ⟨q, 0, none⟩) xs) g8 n8 d8 g9 n9 d9) := Lib.hid (HM.out.more (L7.out.trans (hb9.mono L7.out.size)) (BS7.out.next hb9) HFR.out (BP7.out.next hb9) (by rw [HPS.out]; exact hrow9) (O8.out.all_below k4) O8I.out k1 (fun x => by
                       rw [k2 x]
                       have hp0 : ps ≠ [] := fun e => by have := HPS.out; rw [e] at this; simp at this
                       simp [hp0]))
                     clear k1 k2 k3 k4 hb9 hrow9 CJ1)
        go_roundw
        case rel => exact ⟨3, ps ++ [some ⟨q, 0, none⟩], upd nums (some ⟨q, 0, none⟩) xs, g8, n8, d8, g9, n9, d9, by omega, rfl, rfl, by go_num, Lib.hid (by rw [List.length_append, HPS.out]; rfl), Lib.hid (fun h0 h1 => by omega), MS9⟩
        case measure => simp [intOf]; omega
    · have hT2 : decide (k < m) = false := decide_eq_false hlt
      have hT3 : decide ((k : Int) < (m : Int)) = false := decide_eq_false (by omega)
      obtain ⟨U, c, rfl⟩ := own_form HM.out.row
      have hpp : Pps wr U ps := fun hne => by
        have hr := HM.out.row
        obtain ⟨g, rfl⟩ := own_some hr (Nat.pos_of_ne_zero (fun h => hne (List.eq_nil_of_length_eq_zero h)))
        refine ⟨g, 0, rfl, (hr.lt g rfl).2, fun k hk => ?_⟩
        have h1 := hr.cells (g := g) rfl k (.pointer ps[k]) (by simp [hk])
        rw [add_offB] at h1
        rw [Nat.zero_add]
        exact h1
      have HPP := Lib.hid hpp
      have hfew : ps.length ≤ 1000000 := by have := HLEN.out; omega
      have COR := Lib.hid (or_any wr U c ps nums hpp hfew HM.out.boxes (HT0.out.below HWR.out HT0.out.pos))
      have CAN := Lib.hid (fun V (hV : Below wr.heap.size wr V) => and_any V U c ps nums (hpp.below hV) hfew (HM.out.boxes.next hV) ((HT0.out.below HWR.out HT0.out.pos).below hV (HT0.out.below HWR.out HT0.out.pos).pos))
      obtain ⟨L, hL⟩ : ∃ L, ps.length = L := ⟨_, rfl⟩
      rw [hL] at COR CAN ⊢
      have T0 := Lib.hid (HT0.out.below HWR.out HT0.out.pos)
      clear hpp hfew hL
      go_wp2_with (first
        | (go_at_call 10; (with_reducible refine COR.out.mono ?_); rintro e w5 ⟨ys, hy, q, r, rfl, h1, h2, h3, h4⟩
           have hsame : M.L bs1 = ys := M.sorted_ext (M.L_up bs1) h1.u.up (fun x => by rw [HM.out.oneIn x, hy x])
           have HPL := Lib.hid (plain_law w5 q r g1 n1 ys bs1 h1 (HM.out.one.all_below h4) hsame (T0.out.below h4 T0.out.pos))
           have LW := Lib.hid h4
           clear hy h1 h2 h3 h4 hsame COR)
        | (go_at_call 12; (with_reducible refine (CAN.out _ LW.out).mono ?_); rintro e w6 ⟨ys, hy, q, r, rfl, h1, h2, h3, h4⟩
           have hlw := LW.out.trans (h4.mono LW.out.size)
           have hsame : M.L bs2 = ys := M.sorted_ext (M.L_up bs2) h1.u.up (fun x => by rw [HM.out.allIn x, hy x])
           have HPL := Lib.hid (plain_law w6 q r g2 n2 ys bs2 h1 (HM.out.all.all_below hlw) hsame (T0.out.below hlw T0.out.pos))
           replace LW := Lib.hid hlw
           clear hy h1 h2 h3 h4 hsame hlw)
        | (go_at_call 9; (with_reducible refine HPL.out.mono ?_); rintro e w7 ⟨rfl, h7⟩; replace LW := Lib.hid (LW.out.trans (h7.mono LW.out.size)); clear h7 HPL))
      go_ret
      exact ⟨by first | rfl | simp, HWR.out.trans (LW.out.mono HWR.out.size)⟩
theorem law_many (P0 : Option Addr) (cp0 : Nat) (as0 : List AcB) (P1 : Option Addr) (cp1 : Nat) (as1 : List AcB) (P2 : Option Addr) (cp2 : Nat) (as2 : List AcB) (n : Nat) (hn : n < 256) (bn : Bool) (w : World) (hT : Tab w) (hr0 : Rk w w.heap.size P0 as0) (hl0 : as0.length ≤ 9223372036854775807) (hr1 : Rk w w.heap.size P1 as1) (hl1 : as1.length ≤ 9223372036854775807) (hr2 : Rk w w.heap.size P2 as2) (hl2 : as2.length ≤ 9223372036854775807) :
    Calls Tryz.prog 4 #[.slice P0 as0.length cp0, .slice P1 as1.length cp1, .slice P2 as2.length cp2, .int .u8 (n : Int), .bool bn] w fun e w' => e = .returned (.bool true) ∧ Below w.heap.size w w' := by
  cases bn
  · exact law_many_false P0 cp0 as0 P1 cp1 as1 P2 cp2 as2 n hn w hT hr0 hl0 hr1 hl1 hr2 hl2
  · exact law_many_true P0 cp0 as0 P1 cp1 as1 P2 cp2 as2 n hn w hT hr0 hl0 hr1 hl1 hr2 hl2
end Go.Proofs.YtkehehfphccpbaaGreatDoor
