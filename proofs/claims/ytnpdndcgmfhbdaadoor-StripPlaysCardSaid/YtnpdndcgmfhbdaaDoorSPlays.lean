
/- The law StripPlays, walked. -/
import Derived.Test.YtnpdndcgmfhbdaaDoorSBits
import Derived.Test.YtnpdndcgmfhbdaaDoorGAllS
import Derived.Test.YtnpdndcgmfhbdaaDoorRefsK
import Derived.Deep.RegionHeld3
namespace Go.Proofs.YtnpdndcgmfhbdaaDoor
open Go.RowKit Go.Shelf
theorem ra_laterG {w w1 : World} {A : Option Addr} {xs : List (Nat × Int × Int)} (h : Ra w w.heap.size A xs) (hb : Below w.heap.size w w1) : Ra w1 w1.heap.size A xs := ⟨h.1, fun hne => by
  obtain ⟨b, off, rfl, hlt, hc⟩ := (h.below hb (Nat.le_refl _)).2 hne
  exact ⟨b, off, rfl, Nat.lt_of_lt_of_le hlt hb.size, hc⟩⟩
theorem all_strip (w : World) (s h : Nat) (us : List Nat) (a : St w s h us) (hT : Tab w) (m : Nat) (mi : Int) (hmi : mi = (m : Int)) (hm : 0 < m) (hm2 : m ≤ 1000000) :
    Calls Tryd.prog 10 #[.pointer (some ⟨s, 0, none⟩), .int .i64 mi] w (AllQ w ((sl us).take m)) := by
  subst hmi
  have hl := a.lt
  have hl2 := a.2.2.2
  have hl3 := sl_leng us
  exact all_law w _ (sl us) m hm hm2 (by omega) (fun Bn W hW hz hB hc =>
    strip_seq 8 Bn (w.heap.size + 1) s h us hl2 (by omega) W (a.below hW hl.1 hl.2) (hT.below hW hT.pos) (by omega) (by omega) hz hB hc (by decide))
/-- What stays while one only asks. -/
structure SL (w0 w : World) (s h X : Nat) (us : List Nat) (A : Option Addr) (c : Nat) : Prop where
  st : St w s h us
  rd : Rd w w.heap.size A (sl us)
  box : w.heap[X]? = some (.cells #[.int .i64 (us.length : Int), .slice A (sl us).length c] 27 (0, 0))
  tab : Tab w
  low : Below w0.heap.size w0 w
section
variable {w0 w w' : World} {s h X : Nat} {us : List Nat} {A : Option Addr} {c : Nat}
theorem SL.next (k : SL w0 w s h X us A c) (hb : Below w.heap.size w w') : SL w0 w' s h X us A c :=
  ⟨k.st.below hb k.st.lt.1 k.st.lt.2, (k.rd.below hb (Nat.le_refl _)).more hb.size, (hb.block X (Array.getElem?_eq_some_iff.1 k.box).1).trans k.box, k.tab.below hb k.tab.pos, k.low.trans (hb.mono k.low.size)⟩
theorem SL.drew (k : SL w0 w s h X us A c) (m : Nat) : SL w0 (w.drewN m) s h X us A c := k.next (below_drewN (Below.refl _ _) m)
theorem SL.drew1 (k : SL w0 w s h X us A c) : SL w0 w.drew s h X us A c := k.drew 1
theorem SL.c0 (k : SL w0 w s h X us A c) : w.cell? ⟨X, 0, none⟩ = some (.int .i64 (us.length : Int)) := cell_of_row w X 0 _ _ (0, 0) k.box
theorem SL.c1 (k : SL w0 w s h X us A c) : w.cell? ⟨X, 1, none⟩ = some (.slice A (sl us).length c) := cell_of_row w X 1 _ _ (0, 0) k.box
end
set_option maxRecDepth 100000 in
set_option maxHeartbeats 4000000 in
theorem law_plays (A : Option Addr) (cp : Nat) (xs : List (Nat × Int × Int)) (q : Nat) (hq : q < 256) (st : Nat) (hst : st < 256) (w : World) (hT : Tab w) (hr : Ra w w.heap.size A xs) (hl : xs.length ≤ 9223372036854775807) :
    Calls Tryd.prog 3 #[.int .u8 (q : Int), .slice A xs.length cp, .int .u8 (st : Int)] w fun e w' => e = .returned (.bool true) ∧ Below w.heap.size w w' := by
  have hrH := Lib.hid hr
  have hTH := Lib.hid hT
  clear hr hT
  have hlay : ∀ W, Below w.heap.size w W → Hid (Calls Tryd.prog 5 #[.int .u8 (q : Int), .slice A xs.length cp] W (LaidP W (q % 5))) := fun W hb => lay_any W A cp xs (ra_laterG hrH.out hb) hl q hq
  have hq5 : q % 5 < 5 := Nat.mod_lt _ (by decide)
  obtain ⟨n, hn⟩ : ∃ n, q % 5 = n := ⟨_, rfl⟩
  rw [hn] at hlay hq5
  have e1 : (st : Int).tmod 9 = ((st % 9 : Nat) : Int) := by rw [Int.tmod_eq_emod_of_nonneg (by omega)]; omega
  have e2 : (st : Int) % 9 = ((st % 9 : Nat) : Int) := by omega
  have hq9 : st % 9 < 9 := Nat.mod_lt _ (by decide)
  clear hn
  generalize st % 9 = r at *
  have w1 : IntKind.u8.wrap (r : Int) = (r : Int) := by simp [IntKind.wrap, IntKind.signed, IntKind.bits]; omega
  have w2 : IntKind.i64.wrap (r : Int) = (r : Int) := by simp [IntKind.wrap, IntKind.signed, IntKind.bits]; omega
  obtain ⟨kk, hkk⟩ : ∃ kk : Nat, 1 + (r : Int) = (kk : Int) := ⟨1 + r, by omega⟩
  have hk1 : 0 < kk := by omega
  have hk9 : kk ≤ 9 := by omega
  have w3 : IntKind.i64.wrap (kk : Int) = (kk : Int) := by simp [IntKind.wrap, IntKind.signed, IntKind.bits]; omega
  go_enter Tryd.func3, Tryd.ntmps3
  go_wp2_with (go_at_call 4; (with_reducible refine (awake_any _ hTH.out).mono ?_); rintro e w1 ⟨rfl, hb1⟩; have hB1 := Lib.hid hb1; clear hb1)
  go_wp2_with (go_at_call 5; (with_reducible refine (hlay _ hB1.out).out.mono ?_); rintro e w2 ⟨s, h, us, A2, c2, rfl, hul, hst2, hrd2, hs1, hh1, hb2⟩; have HST := Lib.hid hst2; have HRD := Lib.hid hrd2; have HB2 := Lib.hid (hB1.out.trans (hb2.mono hB1.out.size)); clear hst2 hrd2 hb2)
  subst hul
  obtain ⟨X, hX⟩ : ∃ X, w2.heap.size = X := ⟨_, rfl⟩
  obtain ⟨W3, hW3⟩ : ∃ W3, w2.alloc (Obj.cells #[Value.int IntKind.i64 (us.length : Int), Value.slice A2 (sl us).length c2] 27) = W3 := ⟨_, rfl⟩
  have HL3 : Hid (SL w W3 s h X us A2 c2) := by
    have hb : Below w2.heap.size w2 W3 := by rw [← hW3]; exact (Below.refl _ w2).alloc (Nat.le_refl _) _
    refine ⟨HST.out.below hb HST.out.lt.1 HST.out.lt.2, (HRD.out.below hb (Nat.le_refl _)).more hb.size, by rw [← hW3]; exact alloc_top _ _ hX.symm, (hTH.out.below HB2.out hTH.out.pos).below hb (hTH.out.below HB2.out hTH.out.pos).pos, HB2.out.trans (hb.mono HB2.out.size)⟩
  rw [hX, hW3]
  clear hW3 hX HB2 HRD HST hB1 hlay
  have hlen := sl_leng us
  have hl2 : (sl us).length ≤ 256 := by omega
  have hwords : ∀ W, SL w W s h X us A2 c2 → Hid (Calls Tryd.prog 7 #[.pointer (some ⟨s, 0, none⟩)] W fun e w' => ∃ g, e = .returned (.slice (some ⟨g, 0, none⟩) us.length us.length) ∧ SL w w' s h X us A2 c2 ∧ Rw w' w'.heap.size (some ⟨g, 0, none⟩) us) := fun W k =>
    (s_words W s h us k.st).mono fun e w' ⟨g, a1, _, a3, a4⟩ => ⟨g, a1, k.next a4, fun _ => ⟨g, 0, rfl, (Array.getElem?_eq_some_iff.1 a3).1, fun i hi => by
      rw [Nat.zero_add, cell_of_row w' g i _ _ (0, 0) a3]; exact wv_at hi⟩⟩
  have hbits : ∀ W g, SL w W s h X us A2 c2 → Rw W W.heap.size (some ⟨g, 0, none⟩) us → Hid (Calls Tryd.prog 8 #[.agg #[.int .i64 (us.length : Int), .slice A2 (sl us).length c2]] W fun e w' => ∃ g2 c', e = .returned (.slice (some ⟨g2, 0, none⟩) us.length c') ∧ SL w w' s h X us A2 c2 ∧ Rw w' w'.heap.size (some ⟨g, 0, none⟩) us ∧ Rw w' w'.heap.size (some ⟨g2, 0, none⟩) us) := fun W g k hr =>
    (ref_bits A2 c2 us k.st.2.2.1 k.st.2.2.2 W k.rd).mono fun e w' ⟨g2, c', a1, a2, a3⟩ => ⟨g2, c', a1, k.next a3, (hr.below a3 (Nat.le_refl _)).more a3.size, a2⟩
  have hkeys : ∀ W g g2 c3 c4, SL w W s h X us A2 c2 → Rw W W.heap.size (some ⟨g, 0, none⟩) us → Rw W W.heap.size (some ⟨g2, 0, none⟩) us → Hid (Calls Tryd.prog 6 #[.slice (some ⟨g, 0, none⟩) us.length c3, .slice (some ⟨g2, 0, none⟩) us.length c4] W fun e w' => e = .returned (.bool true) ∧ SL w w' s h X us A2 c2) := fun W g g2 c3 c4 k h1 h2 => by
    have h3 := ref_samekeys (some ⟨g, 0, none⟩) (some ⟨g2, 0, none⟩) c3 c4 us us W _ _ h1 h2 (by omega) (by omega)
    rw [decide_eq_true rfl] at h3
    exact h3.mono fun e w' ⟨a1, m, a2⟩ => ⟨a1, by rw [a2]; exact k.drew m⟩
  have hall1 : ∀ W, SL w W s h X us A2 c2 → Hid (Calls Tryd.prog 10 #[.pointer (some ⟨s, 0, none⟩), .int .i64 1000] W fun e w' => ∃ A c, e = .returned (.slice A (sl us).length c) ∧ SL w w' s h X us A2 c2 ∧ Rd w' w'.heap.size A (sl us)) := fun W k => by
    have h2 := all_strip W s h us k.st k.tab 1000 1000 rfl (by decide) (by decide)
    rw [List.take_of_length_le (by omega)] at h2
    exact h2.mono fun e w' ⟨A, c, a1, a2, _, a4⟩ => ⟨A, c, a1, k.next a4, a2⟩
  obtain ⟨ys, hys⟩ : ∃ ys, (sl us).take kk = ys := ⟨_, rfl⟩
  have hyl : ys.length ≤ 256 := by rw [← hys, List.length_take]; omega
  have hall2 : ∀ W, SL w W s h X us A2 c2 → Hid (Calls Tryd.prog 10 #[.pointer (some ⟨s, 0, none⟩), .int .i64 (kk : Int)] W fun e w' => ∃ A c, e = .returned (.slice A ys.length c) ∧ SL w w' s h X us A2 c2 ∧ Rd w' w'.heap.size A ys) := fun W k => by
    have h2 := all_strip W s h us k.st k.tab kk (kk : Int) rfl hk1 (by omega)
    rw [hys] at h2
    exact h2.mono fun e w' ⟨A, c, a1, a2, _, a4⟩ => ⟨A, c, a1, k.next a4, a2⟩
  have hints : ∀ W A', SL w W s h X us A2 c2 → Rd W W.heap.size A' ys → Hid (Calls Tryd.prog 11 #[.slice A2 (sl us).length c2, .int .i64 (kk : Int)] W fun e w' => ∃ A c, e = .returned (.slice A ys.length c) ∧ SL w w' s h X us A2 c2 ∧ Rd w' w'.heap.size A' ys ∧ Rd w' w'.heap.size A ys) := fun W A' k hr => by
    have h2 := ref_ints A2 c2 (sl us) kk W k.rd (by omega) (by omega)
    rw [hys] at h2
    exact h2.mono fun e w' ⟨A, c, a1, a2, _, a4⟩ => ⟨A, c, a1, k.next a4, (hr.below a4 (Nat.le_refl _)).more a4.size, a2⟩
  have hsame1 : ∀ W A c, SL w W s h X us A2 c2 → Rd W W.heap.size A (sl us) → Hid (Calls Tryd.prog 9 #[.slice A (sl us).length c, .slice A2 (sl us).length c2] W fun e w' => e = .returned (.bool true) ∧ SL w w' s h X us A2 c2) := fun W A c k h2 => by
    have h3 := ref_same A A2 c c2 (sl us) (sl us) W _ _ h2 k.rd (by omega) (by omega)
    rw [decide_eq_true rfl] at h3
    exact h3.mono fun e w' ⟨a1, m, a2⟩ => ⟨a1, by rw [a2]; exact k.drew m⟩
  have hsame2 : ∀ W A c A' c', SL w W s h X us A2 c2 → Rd W W.heap.size A ys → Rd W W.heap.size A' ys → Hid (Calls Tryd.prog 9 #[.slice A ys.length c, .slice A' ys.length c'] W fun e w' => e = .returned (.bool true) ∧ SL w w' s h X us A2 c2) := fun W A c A' c' k h1 h2 => by
    have h3 := ref_same A A' c c' ys ys W _ _ h1 h2 (by omega) (by omega)
    rw [decide_eq_true rfl] at h3
    exact h3.mono fun e w' ⟨a1, m, a2⟩ => ⟨a1, by rw [a2]; exact k.drew m⟩
  obtain ⟨bq, hbq⟩ : ∃ bq, 64 * us.length = bq := ⟨_, rfl⟩
  have hbt : ∀ W, SL w W s h X us A2 c2 → Hid (Calls Tryd.prog 12 #[.pointer (some ⟨s, 0, none⟩)] W fun e w' => e = .returned (.int .i64 (bq : Int)) ∧ SL w w' s h X us A2 c2) := fun W k => by
    have h2 := s_bits W s h us k.st
    rw [hbq] at h2
    exact h2.mono fun e w' ⟨a1, a2⟩ => ⟨a1, by rw [← a2]; exact k⟩
  have hbe : (64 : Int) * (us.length : Int) = (bq : Int) := by omega
  have hbw : IntKind.i64.wrap (bq : Int) = (bq : Int) := by simp [IntKind.wrap, IntKind.signed, IntKind.bits]; omega
  clear hbq hlen
  obtain ⟨L, hL⟩ : ∃ L, us.length = L := ⟨_, rfl⟩
  have hLu := Lib.hid hL
  rw [hL] at hwords hbits hkeys hbe hq5
  rw [hL]
  clear hL
  obtain ⟨Z, hzs⟩ : ∃ Z, (sl us).length = Z := ⟨_, rfl⟩
  rw [hzs] at hbits hall1 hints hsame1 hl2
  rw [hzs]
  have hzsH := Lib.hid hzs
  clear hzs
  have hkc : ∀ W, SL w W s h X us A2 c2 → W.cell? ⟨X, 0, none⟩ = some (.int .i64 (L : Int)) ∧ W.cell? ⟨X, 1, none⟩ = some (.slice A2 Z c2) := fun W k => by
    have h0 := k.c0
    have h1 := k.c1
    rw [hzsH.out] at h1
    rw [hLu.out] at h0
    exact ⟨h0, h1⟩
  have HKC := Lib.hid hkc
  clear hkc
  go_region_held3 (fun W => W.cell? ⟨X, 0, none⟩ = some (.int .i64 (L : Int)) ∧ W.cell? ⟨X, 1, none⟩ = some (.slice A2 Z c2))
    (first
      | exact HKC.out _ HL3.out.drew1
      | exact HKC.out _ HL4.out
      | exact HKC.out _ HL5.out
      | exact HKC.out _ HL6.out
      | exact HKC.out _ HL7.out
      | exact HKC.out _ HL8.out
      | exact HKC.out _ HL9.out
      | exact HKC.out _ HL10.out
      | exact HKC.out _ HL11.out
      | exact HKC.out _ HL12.out)
    (first
      | (go_at_call 7; (with_reducible refine (hwords _ HL3.out.drew1).out.mono ?_); rintro e w4 ⟨g4, rfl, hk4, hr4⟩; have HL4 := Lib.hid hk4; have HR4 := Lib.hid hr4; clear hk4 hr4)
      | (go_at_call 8; (with_reducible refine (hbits _ _ HL4.out HR4.out).out.mono ?_); rintro e w5 ⟨g5, c5, rfl, hk5, hr5, hr5'⟩; have HL5 := Lib.hid hk5; have HR5 := Lib.hid hr5; have HR5' := Lib.hid hr5'; clear hk5 hr5 hr5')
      | (go_at_call 6; (with_reducible refine (hkeys _ _ _ _ _ HL5.out HR5.out HR5'.out).out.mono ?_); rintro e w6 ⟨rfl, hk6⟩; have HL6 := Lib.hid hk6; clear hk6)
      | (go_at_call 10; (with_reducible refine (hall1 _ HL6.out).out.mono ?_); rintro e w7 ⟨A7, c7, rfl, hk7, hr7⟩; have HL7 := Lib.hid hk7; have HR7 := Lib.hid hr7; clear hk7 hr7)
      | (go_at_call 9; (with_reducible refine (hsame1 _ _ _ HL7.out HR7.out).out.mono ?_); rintro e w8 ⟨rfl, hk8⟩; have HL8 := Lib.hid hk8; clear hk8)
      | (go_at_call 10; (with_reducible refine (hall2 _ HL8.out).out.mono ?_); rintro e w9 ⟨A9, c9, rfl, hk9, hr9⟩; have HL9 := Lib.hid hk9; have HR9 := Lib.hid hr9; clear hk9 hr9)
      | (go_at_call 11; (with_reducible refine (hints _ _ HL9.out HR9.out).out.mono ?_); rintro e w10 ⟨A10, c10, rfl, hk10, hr10, hr10'⟩; have HL10 := Lib.hid hk10; have HR10 := Lib.hid hr10; have HR10' := Lib.hid hr10'; clear hk10 hr10 hr10')
      | (go_at_call 9; (with_reducible refine (hsame2 _ _ _ _ _ HL10.out HR10.out HR10'.out).out.mono ?_); rintro e w11 ⟨rfl, hk11⟩; have HL11 := Lib.hid hk11; clear hk11)
      | (go_at_call 12; (with_reducible refine (hbt _ HL11.out).out.mono ?_); rintro e w12 ⟨rfl, hk12⟩; have HL12 := Lib.hid hk12; clear hk12))
  all_goals
    go_wp2
    go_ret
    exact ⟨rfl, HL12.out.low⟩
end Go.Proofs.YtnpdndcgmfhbdaaDoor
