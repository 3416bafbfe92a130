
/- A set with nothing, and one with one part: end, at, seek; the texts walked. -/
import Derived.Test.YtlinoambdlkfjaaGreatRo3
namespace Go.Proofs.YtlinoambdlkfjaaGreat
open Go.RowKit
abbrev plv (a b : Int) : Value := .agg #[.int .i64 a, .int .i64 b]
abbrev plo (a b : Int) : Obj := .cells #[.int .i64 a, .int .i64 b] 45
theorem below_dr {B : Nat} {w w' : World} (h : Below B w w') (n : Nat) : Below B w (w'.drewN n) := ⟨h.os, h.tape, h.output, h.size, h.block⟩
theorem bel_al {B : Nat} {w w' : World} (h : Below B w w') (hB : B ≤ w.heap.size) (o : Obj) : Below B w (w'.alloc o) := h.alloc (Nat.le_trans hB h.size) o
theorem place_res1 {fn : Func} {u : Tmp} (h : fn.results = #[.cell u 45]) (tmps : Array Value) (w : World) (g : Nat) (a b : Value) (hu : tmps.getD u undef = .pointer (some ⟨g, 0, none⟩))
    (hc : w.heap[g]? = some (.cells #[a, b] 45 (0, 0))) : (results fn tmps).run Tryz.prog w = .ok (.agg #[a, b]) w := by
  have hp' : tmps[u]?.getD undef = .pointer (some ⟨g, 0, none⟩) := by simpa using hu
  have hr := run_loadVar_row (P := Tryz.prog) w g 45 45 _ (0, 0) _ hc Tryz.underlying45 (by kernel_rfl) (by kernel_rfl)
  simp [results, h, hp', asAddr, hr]
theorem place_res {fn : Func} {u t : Tmp} (h : fn.results = #[.cell u 45, .tmp t]) (tmps : Array Value) (w : World) (g : Nat) (a b : Value) (z : Value) (hu : tmps.getD u undef = .pointer (some ⟨g, 0, none⟩))
    (hc : w.heap[g]? = some (.cells #[a, b] 45 (0, 0))) (hb : tmps.getD t undef = z) : (results fn tmps).run Tryz.prog w = .ok (.tuple #[.agg #[a, b], z]) w := by
  have hp' : tmps[u]?.getD undef = .pointer (some ⟨g, 0, none⟩) := by simpa using hu
  have hb' : tmps[t]?.getD undef = z := by simpa using hb
  have hr := run_loadVar_row (P := Tryz.prog) w g 45 45 _ (0, 0) _ hc Tryz.underlying45 (by kernel_rfl) (by kernel_rfl)
  simp [results, h, hp', hb', asAddr, hr]
theorem end_none (w : World) (P G : Nat) (h : R0 w P G) : Calls Tryz.prog 31 #[.pointer (some ⟨P, 1, none⟩)] w fun e w' => e = .returned (plv 0 0) ∧ Below w.heap.size w w' := by
  have hb := (Below.refl _ w).alloc (Nat.le_refl _) (plo 0 0)
  have c1 : (w.alloc (plo 0 0)).cell? ⟨P, 1, none⟩ = some (.slice none 0 0) := cell_of_row _ P 1 _ _ (0, 0) (h.below hb).p
  clear h
  go_enter Tryz.func31, Tryz.ntmps31
  go_wp2
  refine bodyPost_ret (place_res1 rfl _ _ w.heap.size _ _ rfl (alloc_top _ _)) rfl ⟨rfl, hb⟩
set_option maxHeartbeats 4000000 in
theorem at_none (w : World) (P G : Nat) (h : R0 w P G) : Calls Tryz.prog 42 #[.pointer (some ⟨P, 1, none⟩), plv 0 0] w fun e w' => e = .returned (.pointer none) ∧ Below w.heap.size w w' := by
  have hb := (Below.refl _ w).alloc (Nat.le_refl _) (plo 0 0)
  have c1 : (w.alloc (plo 0 0)).cell? ⟨P, 1, none⟩ = some (.slice none 0 0) := cell_of_row _ P 1 _ _ (0, 0) (h.below hb).p
  clear h
  go_enter Tryz.func42, Tryz.ntmps42
  go_wp2
  go_quiet (fail)
  go_wp2
  go_ret
  exact ⟨rfl, below_dr hb _⟩
set_option maxHeartbeats 4000000 in
theorem at_one (w : World) (P G B L X Q c : Nat) (xs : List Int) (h : R1 w P G B L X Q c xs) : Calls Tryz.prog 42 #[.pointer (some ⟨P, 1, none⟩), plv 0 0] w fun e w' => e = .returned (.pointer (some ⟨X, 0, none⟩)) ∧ Below w.heap.size w w' := by
  have hb := (Below.refl _ w).alloc (Nat.le_refl _) (plo 0 0)
  have h1 := h.below hb
  have pc := h1.pc
  have bc := h1.bc
  have lc := h1.lc
  have e2 : IntKind.i64.wrap 0 = 0 := by decide
  have i2 : (0 : Int) < 1 := by decide
  have i3 : (0 : Int) < ((1 : Nat) : Int) := by decide
  clear h h1
  go_enter Tryz.func42, Tryz.ntmps42
  go_wp2
  go_quiet (fail)
  go_wp2
  go_quiet (fail)
  go_wp2
  go_ret
  exact ⟨rfl, below_dr (below_dr hb _) _⟩
theorem al_keep {w : World} {g : Nat} {x : Obj} (h : w.heap[g]? = some x) (o : Obj) : (w.alloc o).heap[g]? = some x := (((Below.refl _ w).alloc (Nat.le_refl _) o).block g (row_lt h)).trans h
theorem five_rows (w : World) (a b c d e : Obj) : (((((w.alloc a).alloc b).alloc c).alloc d).alloc e).heap[w.heap.size]? = some a ∧ (((((w.alloc a).alloc b).alloc c).alloc d).alloc e).heap[w.heap.size + 1]? = some b ∧ (((((w.alloc a).alloc b).alloc c).alloc d).alloc e).heap[w.heap.size + 1 + 1]? = some c ∧ (((((w.alloc a).alloc b).alloc c).alloc d).alloc e).heap[w.heap.size + 1 + 1 + 1]? = some d ∧ (((((w.alloc a).alloc b).alloc c).alloc d).alloc e).heap[w.heap.size + 1 + 1 + 1 + 1]? = some e := by
  have t1 := alloc_top w a
  have t2 := alloc_top (w.alloc a) b
  have t3 := alloc_top ((w.alloc a).alloc b) c
  have t4 := alloc_top (((w.alloc a).alloc b).alloc c) d
  have t5 := alloc_top ((((w.alloc a).alloc b).alloc c).alloc d) e
  simp only [World.size_alloc] at t2 t3 t4 t5
  exact ⟨al_keep (al_keep (al_keep (al_keep t1 _) _) _) _, al_keep (al_keep (al_keep t2 _) _) _, al_keep (al_keep t3 _) _, al_keep t4 _, t5⟩
theorem row_two {w : World} {g : Nat} {z0 z1 : Value} {T : TypeId} (h : w.heap[g]? = some (.cells #[z0, z1] T (0, 0))) (a b : Value) : ((w.setCell ⟨g, 0, none⟩ a).setCell ⟨g, 1, none⟩ b).heap[g]? = some (.cells #[a, b] T (0, 0)) := by
  have := row_set (row_set h 0 a) 1 b
  simpa using this
theorem below_two {w w' : World} {g : Nat} (h : Below w.heap.size w w') (hg : w.heap.size ≤ g) (a b : Value) : Below w.heap.size w ((w'.setCell ⟨g, 0, none⟩ a).setCell ⟨g, 1, none⟩ b) :=
  ((ButS.of_below (S := (· = g)) h (Nat.le_refl _)).trans ((but_set' w' g 0 a (· = g) rfl).trans (but_set' _ g 1 b (· = g) rfl))).below (Nat.le_refl _) (fun j e => by have e2 : j = g := e; omega)
abbrev sk5 (w : World) (P G : Nat) : World := ((((w.alloc (.cells #[.pointer (some ⟨P, 1, none⟩)] 77)).alloc (.cells #[.int .u64 0] 22)).alloc (.cells #[rdv G] 1)).alloc (plo 0 0)).alloc (.cells #[s1v (w.heap.size + 1 + 1) (w.heap.size + 1)] 97)
theorem sk5_below (w : World) (P G : Nat) : Below w.heap.size w (sk5 w P G) := bel_al (bel_al (bel_al (bel_al (bel_al (Below.refl _ w) (Nat.le_refl _) _) (Nat.le_refl _) _) (Nat.le_refl _) _) (Nat.le_refl _) _) (Nat.le_refl _) _
set_option maxHeartbeats 4000000 in
theorem seek_none (w : World) (P G : Nat) (h : R0 w P G) : Calls Tryz.prog 41 #[.pointer (some ⟨P, 1, none⟩), .int .u64 0, rdv G] w fun e w' => e = .returned (plv 0 0) ∧ Below w.heap.size w w' := by
  have h5 := h.below (sk5_below w P G)
  have c1 : (sk5 w P G).cell? ⟨P, 1, none⟩ = some (.slice none 0 0) := cell_of_row _ P 1 _ _ (0, 0) h5.p
  have HE := Lib.hid (end_none _ P G h5)
  have HB := Lib.hid (sk5_below w P G)
  have H4 := Lib.hid (five_rows w (.cells #[.pointer (some ⟨P, 1, none⟩)] 77) (.cells #[.int .u64 0] 22) (.cells #[rdv G] 1) (plo 0 0) (.cells #[s1v (w.heap.size + 1 + 1) (w.heap.size + 1)] 97)).2.2.2.1
  have H0 := fun W => Lib.hid (search2_none W w.heap.size (w.heap.size + 1 + 1 + 1 + 1))
  unfold sk5 at *
  clear h h5
  go_enter Tryz.func41, Tryz.ntmps41
  go_wp2_with (first
    | (go_at_call 60; (with_reducible refine (H0 _).out.mono ?_); rintro e w' ⟨rfl, rfl⟩)
    | (go_at_call 31; (with_reducible refine HE.out.mono ?_); rintro e w' ⟨rfl, hb⟩
       have z4 := (hb.block _ (row_lt H4.out)).trans H4.out
       have f0 := frozen_of_row w' _ 0 _ _ z4
       have f1 := frozen_of_row w' _ 1 _ _ z4
       have k0 : w'.cell? ⟨w.heap.size + 1 + 1 + 1, 0, none⟩ = some (.int .i64 0) := cell_of_row w' _ 0 _ _ (0, 0) z4
       have k1 : w'.cell? ⟨w.heap.size + 1 + 1 + 1, 1, none⟩ = some (.int .i64 0) := cell_of_row w' _ 1 _ _ (0, 0) z4
       have Z4 := Lib.hid z4
       replace hb := Lib.hid hb
       clear z4))

  refine bodyPost_ret (place_res1 rfl _ _ (w.heap.size + 1 + 1 + 1) _ _ rfl (row_two Z4.out _ _)) rfl ⟨rfl, below_two (HB.out.trans (hb.out.mono HB.out.size)) (by omega) _ _⟩
set_option maxHeartbeats 8000000 in
theorem seek_one (w : World) (P G B L X Q c : Nat) (xs : List Int) (h : R1 w P G B L X Q c xs) : Calls Tryz.prog 41 #[.pointer (some ⟨P, 1, none⟩), .int .u64 0, rdv G] w fun e w' => e = .returned (plv 0 0) ∧ Only w G w' := by
  have hB := sk5_below w P G
  have h5 := h.below hB
  obtain ⟨a0, a1, a2, a3, a4⟩ := five_rows w (.cells #[.pointer (some ⟨P, 1, none⟩)] 77) (.cells #[.int .u64 0] 22) (.cells #[rdv G] 1) (plo 0 0) (.cells #[s1v (w.heap.size + 1 + 1) (w.heap.size + 1)] 97)
  have c1 : (sk5 w P G).cell? ⟨P, 1, none⟩ = some (.slice (some ⟨B, 0, none⟩) 1 c) := h5.pc
  have H0 := Lib.hid (search2_one (sk5 w P G) _ _ _ (seek2_one (sk5 w P G) P G B L X Q c xs h5 w.heap.size (w.heap.size + 1 + 1 + 1 + 1) _ _ a0 a4 a2 a1))
  have H5 := Lib.hid h5
  have HB := Lib.hid hB
  have A0 := Lib.hid a0
  have A1 := Lib.hid a1
  have A2 := Lib.hid a2
  have A3 := Lib.hid a3
  have A4 := Lib.hid a4
  have i2 : (0 : Int) < 1 := by decide
  have i3 : (0 : Int) < ((1 : Nat) : Int) := by decide
  have e2 : IntKind.i64.wrap 0 = 0 := by decide
  unfold sk5 at *
  clear h h5 hB a0 a1 a2 a3 a4
  go_enter Tryz.func41, Tryz.ntmps41
  go_wp2_with (first
    | (go_at_call 60; (with_reducible refine H0.out.mono ?_); rintro e w1 ⟨rfl, h1⟩
       have r1 := H5.out.only h1
       have d0 : w1.cell? ⟨w.heap.size, 0, none⟩ = some (.pointer (some ⟨P, 1, none⟩)) := h1.cell H5.out.m A0.out (by decide) 0
       have d1 := r1.pc
       have d2 := r1.bc
       have b1 := h1.row H5.out.m A1.out (by decide)
       have b2 := h1.row H5.out.m A2.out (by decide)
       have b3 := h1.row H5.out.m A3.out (by decide)
       have b4 := h1.row H5.out.m A4.out (by decide)
       have hb6 := (Below.refl _ w1).alloc (Nat.le_refl _) (.cells #[.slice (some ⟨L, 0, none⟩) 1 1] 78)
       have H3 := Lib.hid (search3_one (w1.alloc (.cells #[.slice (some ⟨L, 0, none⟩) 1 1] 78)) _ _ _ (seek3_one _ P G B L X Q c xs (r1.below hb6) (w.heap.size + 1 + 1 + 1 + 1) _ _ w1.heap.size (alloc_top _ _) (al_keep b4 _) (al_keep b2 _) (al_keep b1 _)))
       have B3 := Lib.hid b3
       have H1 := Lib.hid h1
       have R1' := Lib.hid r1
       have HB6 := Lib.hid hb6
       clear h1 r1 b1 b2 b3 b4 hb6)
    | (go_at_call 60; (with_reducible refine H3.out.mono ?_); rintro e w2 ⟨rfl, h2⟩
       have z4 := h2.row (R1'.out.below HB6.out).m (al_keep B3.out _) (by decide)
       have f0 := frozen_of_row w2 _ 0 _ _ z4
       have f1 := frozen_of_row w2 _ 1 _ _ z4
       have k0 : w2.cell? ⟨w.heap.size + 1 + 1 + 1, 0, none⟩ = some (.int .i64 0) := cell_of_row w2 _ 0 _ _ (0, 0) z4
       have k1 : w2.cell? ⟨w.heap.size + 1 + 1 + 1, 1, none⟩ = some (.int .i64 0) := cell_of_row w2 _ 1 _ _ (0, 0) z4
       have Z4 := Lib.hid z4
       have H2 := Lib.hid h2
       clear z4 h2))
  refine bodyPost_ret (place_res1 rfl _ _ (w.heap.size + 1 + 1 + 1) _ _ rfl (row_two Z4.out _ _)) rfl ⟨rfl, ?_⟩
  have o2 : Only w G w2 := (H1.out.then (H2.out.of_below HB6.out)).of_below HB.out
  obtain ⟨r, c0, s, t, p, hr⟩ := o2.mq
  have hne : G ≠ w.heap.size + 1 + 1 + 1 := row_ne hr Z4.out (by decide)
  have hs : ButS w2 ((w2.setCell ⟨w.heap.size + 1 + 1 + 1, 0, none⟩ (.int .i64 0)).setCell ⟨w.heap.size + 1 + 1 + 1, 1, none⟩ (.int .i64 0)) (· = w.heap.size + 1 + 1 + 1) := (but_set' w2 _ 0 _ (· = w.heap.size + 1 + 1 + 1) rfl).trans (but_set' _ _ 1 _ (· = w.heap.size + 1 + 1 + 1) rfl)
  exact ⟨o2.mq.but hs (fun e => hne e), o2.but.then hs (fun j e => .inr (by have e2 : j = w.heap.size + 1 + 1 + 1 := e; omega))⟩
end Go.Proofs.YtlinoambdlkfjaaGreat
