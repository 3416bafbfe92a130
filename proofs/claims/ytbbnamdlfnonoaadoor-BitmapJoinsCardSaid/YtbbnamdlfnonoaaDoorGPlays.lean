
/- The law BitmapPlays, walked. -/
import Derived.Test.YtbbnamdlfnonoaaDoorGMakes
import Derived.Deep.RegionHeld3
namespace Go.Proofs.YtbbnamdlfnonoaaDoor
open Go.RowKit Go.Shelf
/-- What stays while one only asks; and a list. -/
structure KL (w0 w : World) (p s h g n : Nat) (ws : List Nat) (bs : List Bool) (A : Option Addr) (zs : List Int) : Prop where
  kb : KB w0 w p s h g n ws bs
  rd : Rh w w.heap.size A zs
theorem KL.drew {w0 w : World} {p s h g n : Nat} {ws : List Nat} {bs : List Bool} {A : Option Addr} {zs : List Int} (k : KL w0 w p s h g n ws bs A zs) (m : Nat) : KL w0 (w.drewN m) p s h g n ws bs A zs := ⟨k.kb.drew m, k.rd⟩
theorem KL.next {w0 w w' : World} {p s h g n : Nat} {ws : List Nat} {bs : List Bool} {A : Option Addr} {zs : List Int} (k : KL w0 w p s h g n ws bs A zs) (hb : Below w.heap.size w w') : KL w0 w' p s h g n ws bs A zs :=
  ⟨⟨k.kb.bb.all_below hb, k.kb.tab.below hb k.kb.tab.pos, k.kb.low.trans (hb.mono k.kb.low.size)⟩, (k.rd.below hb (Nat.le_refl _)).more hb.size⟩
theorem KL.drew1 {w0 w : World} {p s h g n : Nat} {ws : List Nat} {bs : List Bool} {A : Option Addr} {zs : List Int} (k : KL w0 w p s h g n ws bs A zs) : KL w0 w.drew p s h g n ws bs A zs := k.drew 1
theorem Rh.take {w : World} {B : Nat} {A : Option Addr} {xs : List Int} (h : Rh w B A xs) (k : Nat) : Rh w B A (xs.take k) := fun hne => by
  have hx : xs ≠ [] := fun e => hne (by rw [e]; simp)
  obtain ⟨b, off, rfl, hlt, hc⟩ := h hx
  refine ⟨b, off, rfl, hlt, fun j hj => ?_⟩
  rw [List.length_take] at hj
  rw [hc j (by omega)]
  simp
set_option maxRecDepth 100000 in
set_option maxHeartbeats 4000000 in
theorem law_plays (P : Option Addr) (cp : Nat) (xs : List AcB) (st : Nat) (hst : st < 256) (w : World) (hT : Tab w) (hr : Rk w w.heap.size P xs) (hl : xs.length ≤ 9223372036854775807) :
    Calls Tryd.prog 3 #[.slice P xs.length cp, .int .u8 (st : Int)] w fun e w' => e = .returned (.bool true) ∧ Below w.heap.size w w' := by
  have hrH := Lib.hid hr
  have hTH := Lib.hid hT
  clear hr hT
  obtain ⟨e1, e2⟩ := mod5 st hst (st % 5) rfl
  have hq5 : st % 5 < 5 := Nat.mod_lt _ (by decide)
  generalize st % 5 = q at *
  have w1 : IntKind.u8.wrap (q : Int) = (q : Int) := by simp [IntKind.wrap, IntKind.signed, IntKind.bits]; omega
  have w2 : IntKind.i64.wrap (q : Int) = (q : Int) := i64B _ (by omega) (by omega)
  have w3 : IntKind.i64.wrap (1 + (q : Int)) = 1 + (q : Int) := i64B _ (by omega) (by omega)
  obtain ⟨kk, hkk⟩ : ∃ kk : Nat, 1 + (q : Int) = (kk : Int) := ⟨1 + q, by omega⟩
  have hk1 : 0 < kk := by omega
  have hk6 : kk ≤ 5 := by omega
  rw [hkk] at w3
  go_enter Tryd.func3, Tryd.ntmps3
  go_wp2_with (go_at_call 8; (with_reducible refine (awake_any _ hTH.out).mono ?_); rintro e w1 ⟨rfl, hb1⟩; have hB1 := Lib.hid hb1; clear hb1)
  go_wp2_with (go_at_call 9; (with_reducible refine (lay_any _ P cp xs (hrH.out.later hB1.out) hl).mono ?_); rintro e w2 ⟨p, s, h, g, n, us, cs, rfl, hbb, hp1, hs1, hh1, hg1, hb2⟩
               have hz1 := hB1.out.size
               have HK : Hid (KB w w2 p s h g n us cs) := ⟨hbb, hTH.out.below (hB1.out.trans (hb2.mono hz1)) hTH.out.pos, hB1.out.trans (hb2.mono hz1)⟩
               clear hbb hb2)
  have hlist : ∀ W, KB w W p s h g n us cs → Hid (Calls Tryd.prog 10 #[.slice (some ⟨g, 0, none⟩) n n] W fun e w' => ∃ A c, e = .returned (.slice A (sl us).length c) ∧ KL w w' p s h g n us cs A (sl us) ∧ (sl us).length ≤ c) := fun W h => by
    have h1 := f_listc W g n cs h.bb.rs
    rw [← h.bb.same] at h1
    exact h1.mono fun e w' ⟨A, c, h1, h2, _, h4, h5⟩ => ⟨A, c, h1, ⟨⟨h.bb.all_below h4, h.tab.below h4 h.tab.pos, h.low.trans (h4.mono h.low.size)⟩, h2⟩, h5⟩
  go_wp2_with (go_at_call 10; (with_reducible refine (hlist _ HK.out).out.mono ?_); rintro e w3 ⟨A5, c5, rfl, hk5, hc5⟩; have HL := Lib.hid hk5; clear hk5)
  have hlt : (sl us).length ≤ 65536 := len_top HL.out.kb.bb.bm
  have hrn := alike_runs HL.out.kb.bb
  have hn65 := HL.out.kb.bb.rs.top
  have hall1 : ∀ W, KL w W p s h g n us cs A5 (sl us) → Hid (Calls Tryd.prog 12 #[.pointer (some ⟨p, 0, none⟩), .int .i64 70000] W fun e w' => ∃ A c, e = .returned (.slice A (sl us).length c) ∧ KL w w' p s h g n us cs A5 (sl us) ∧ Rh w' w'.heap.size A (sl us)) := fun W h1 => by
    have h2 := all_bit W p s h us h1.kb.bb.bm h1.kb.tab 70000 70000 rfl (by decide) (by decide)
    rw [List.take_of_length_le (by omega)] at h2
    exact h2.mono fun e w' ⟨A, c, a1, a2, _, a4⟩ => ⟨A, c, a1, h1.next a4, a2⟩
  obtain ⟨mm, hmm⟩ : ∃ mm, ((sl us).take kk).length = mm := ⟨_, rfl⟩
  have hmn : mm = min kk (sl us).length := by rw [← hmm, List.length_take]
  have hall2 : ∀ W, KL w W p s h g n us cs A5 (sl us) → Hid (Calls Tryd.prog 12 #[.pointer (some ⟨p, 0, none⟩), .int .i64 (kk : Int)] W fun e w' => ∃ A c, e = .returned (.slice A mm c) ∧ KL w w' p s h g n us cs A5 (sl us) ∧ Rh w' w'.heap.size A ((sl us).take kk)) := fun W h1 => by
    have h2 := all_bit W p s h us h1.kb.bb.bm h1.kb.tab kk (kk : Int) rfl hk1 (by omega)
    rw [← hmm]
    exact h2.mono fun e w' ⟨A, c, a1, a2, _, a4⟩ => ⟨A, c, a1, h1.next a4, a2⟩
  have hsame1 : ∀ W A c, KL w W p s h g n us cs A5 (sl us) → Rh W W.heap.size A (sl us) → Hid (Calls Tryd.prog 11 #[.slice A (sl us).length c, .slice A5 (sl us).length c5] W fun e w' => e = .returned (.bool true) ∧ KL w w' p s h g n us cs A5 (sl us)) := fun W A c h1 h2 => by
    have h3 := f_same A A5 c c5 (sl us) (sl us) W _ _ h2 h1.rd (by omega) (by omega)
    rw [decide_eq_true rfl] at h3
    exact h3.mono fun e w' ⟨a1, m, a2⟩ => ⟨a1, by rw [a2]; exact h1.drew m⟩
  have hsame2 : ∀ W A c, KL w W p s h g n us cs A5 (sl us) → Rh W W.heap.size A ((sl us).take kk) → Hid (Calls Tryd.prog 11 #[.slice A mm c, .slice A5 mm c5] W fun e w' => e = .returned (.bool true) ∧ KL w w' p s h g n us cs A5 (sl us)) := fun W A c h1 h2 => by
    have h3 := f_same A A5 c c5 ((sl us).take kk) ((sl us).take kk) W _ _ h2 (h1.rd.take kk) (by rw [hmm]; omega) (by rw [hmm]; omega)
    rw [decide_eq_true rfl, hmm] at h3
    exact h3.mono fun e w' ⟨a1, m, a2⟩ => ⟨a1, by rw [a2]; exact h1.drew m⟩
  have hlenc : ∀ W, KL w W p s h g n us cs A5 (sl us) → Hid (Calls Tryd.prog 13 #[.pointer (some ⟨p, 0, none⟩)] W fun e w' => e = .returned (.int .i64 ((sl us).length : Nat)) ∧ KL w w' p s h g n us cs A5 (sl us)) := fun W h1 => (b_len h1.kb.bb.bm).mono fun e w' ⟨a1, m, a2⟩ => ⟨a1, by rw [a2]; exact h1.drew m⟩
  obtain ⟨rr, hrr⟩ : ∃ rr, M.rnf (sbit us) 65536 = rr := ⟨_, rfl⟩
  have hruns : ∀ W, KL w W p s h g n us cs A5 (sl us) → Hid (Calls Tryd.prog 14 #[.pointer (some ⟨p, 0, none⟩)] W fun e w' => e = .returned (.int .i64 (rr : Int)) ∧ KL w w' p s h g n us cs A5 (sl us)) := fun W h1 => (b_runs W p s h us h1.kb.bb.bm rr hrr).mono fun e w' ⟨a1, a2⟩ => ⟨a1, h1.next a2⟩
  have hfr : ∀ W, KL w W p s h g n us cs A5 (sl us) → Hid (Calls Tryd.prog 15 #[.slice (some ⟨g, 0, none⟩) n n] W fun e w' => e = .returned (.int .i64 (rr : Int)) ∧ KL w w' p s h g n us cs A5 (sl us)) := fun W h1 => by
    have h2 := f_runs W g n cs h1.kb.bb.rs
    rw [hn65, ← hrn, hrr] at h2
    rw [hn65]
    exact h2.mono fun e w' ⟨a1, a2⟩ => ⟨a1, by rw [← a2]; have := h1; rwa [hn65] at this⟩
  have hA5 := Lib.hid HL.out.rd
  generalize sl us = zs at *
  have hmi1 : min (zs.length : Int) (kk : Int) = (mm : Int) := by omega
  have hmi2 : (mm : Int) ≤ (c5 : Int) := by omega
  have hmi3 : (0 : Int) ≤ (mm : Int) := by omega
  have hmi4 : mm ≤ c5 := by omega
  have HL3 : Hid (KL w w3 p s h g n us cs A5 zs) := HL.out
  have h0z : A5 = none → mm = 0 := fun e => by
    rcases Nat.eq_zero_or_pos zs.length with h1 | h1
    · omega
    · exfalso
      obtain ⟨b, off, hb, _⟩ := hA5.out (by intro e2; rw [e2] at h1; simp at h1)
      rw [e] at hb; cases hb
  have h0zH := Lib.hid h0z
  have hmmH := Lib.hid hmm
  have hmnH := Lib.hid hmn
  clear hrn hn65 hmm hmn hrr hlist h0z
  cases A5 with
  | none =>
    obtain rfl : mm = 0 := h0zH.out rfl
    go_region_held3 (fun _ => True) (trivial) (first
      | (go_at_call 12; (with_reducible refine (hall1 _ HL3.out.drew1).out.mono ?_); rintro e w6 ⟨A6, c6, rfl, hk6, hr6⟩; have HL6 := Lib.hid hk6; have HR6 := Lib.hid hr6; clear hk6 hr6)
      | (go_at_call 11; (with_reducible refine (hsame1 _ _ _ HL6.out HR6.out).out.mono ?_); rintro e w7 ⟨rfl, hk7⟩; have HL7 := Lib.hid hk7; clear hk7)
      | (go_at_call 12; (with_reducible refine (hall2 _ HL7.out).out.mono ?_); rintro e w8 ⟨A8, c8, rfl, hk8, hr8⟩; have HL8 := Lib.hid hk8; have HR8 := Lib.hid hr8; clear hk8 hr8)
      | (go_at_call 11; (with_reducible refine (hsame2 _ _ _ HL8.out HR8.out).out.mono ?_); rintro e w9 ⟨rfl, hk9⟩; have HL9 := Lib.hid hk9; clear hk9)
      | (go_at_call 13; (with_reducible refine (hlenc _ HL9.out).out.mono ?_); rintro e w10 ⟨rfl, hk10⟩; have HL10 := Lib.hid hk10; clear hk10)
      | (go_at_call 14; (with_reducible refine (hruns _ HL10.out).out.mono ?_); rintro e w11 ⟨rfl, hk11⟩; have HL11 := Lib.hid hk11; clear hk11)
      | (go_at_call 15; (with_reducible refine (hfr _ HL11.out).out.mono ?_); rintro e w12 ⟨rfl, hk12⟩; have HL12 := Lib.hid hk12; clear hk12))
    all_goals
      go_wp2
      go_ret
      exact ⟨rfl, HL12.out.kb.low⟩
  | some ad =>
    go_region_held3 (fun _ => True) (trivial) (first
      | (go_at_call 12; (with_reducible refine (hall1 _ HL3.out.drew1).out.mono ?_); rintro e w6 ⟨A6, c6, rfl, hk6, hr6⟩; have HL6 := Lib.hid hk6; have HR6 := Lib.hid hr6; clear hk6 hr6)
      | (go_at_call 11; (with_reducible refine (hsame1 _ _ _ HL6.out HR6.out).out.mono ?_); rintro e w7 ⟨rfl, hk7⟩; have HL7 := Lib.hid hk7; clear hk7)
      | (go_at_call 12; (with_reducible refine (hall2 _ HL7.out).out.mono ?_); rintro e w8 ⟨A8, c8, rfl, hk8, hr8⟩; have HL8 := Lib.hid hk8; have HR8 := Lib.hid hr8; clear hk8 hr8)
      | (go_at_call 11; (with_reducible refine (hsame2 _ _ _ HL8.out HR8.out).out.mono ?_); rintro e w9 ⟨rfl, hk9⟩; have HL9 := Lib.hid hk9; clear hk9)
      | (go_at_call 13; (with_reducible refine (hlenc _ HL9.out).out.mono ?_); rintro e w10 ⟨rfl, hk10⟩; have HL10 := Lib.hid hk10; clear hk10)
      | (go_at_call 14; (with_reducible refine (hruns _ HL10.out).out.mono ?_); rintro e w11 ⟨rfl, hk11⟩; have HL11 := Lib.hid hk11; clear hk11)
      | (go_at_call 15; (with_reducible refine (hfr _ HL11.out).out.mono ?_); rintro e w12 ⟨rfl, hk12⟩; have HL12 := Lib.hid hk12; clear hk12))
    all_goals
      go_wp2
      go_ret
      exact ⟨rfl, HL12.out.kb.low⟩
end Go.Proofs.YtbbnamdlfnonoaaDoor
