
/- A tree in memory: asking its root; the texts walked. -/
import Derived.Test.YtlmpkpidfkbckaaDoorVe1
namespace Go.Proofs.YtlmpkpidfkbckaaDoor
set_option maxRecDepth 40000
open Go.RowKit
theorem below_ud {B n : Nat} {w w' : World} (h : Below B (w.drewN n) w') : Below B w w' := ⟨h.os, h.tape, h.output, h.size, h.block⟩
theorem below_dr {B : Nat} {w w' : World} (h : Below B w w') (n : Nat) : Below B w (w'.drewN n) := ⟨h.os, h.tape, h.output, h.size, h.block⟩
abbrev veo (G N T : Nat) (keys o0 : Int) : Obj := .cells #[.pointer (some ⟨G, 0, none⟩), .pointer (some ⟨N, 0, none⟩), .pointer (some ⟨T, 0, none⟩), .int .i64 0, .int .i64 keys, .int .i64 o0, .int .i64 0, .int .i64 0, .int .i64 0, .int .i64 0] 51
theorem qb_row {w : World} {Q M lim cn cf : Nat} {An Af : Option Addr} {ns : List (Nd × Bool)} {fs : List Nat} (h : Qo w Q M lim An cn Af cf ns fs) {j : Nat} (hj : QB Q An Af j) : ∃ cs T, w.heap[j]? = some (.cells cs T (0, 0)) ∧ (T = 46 ∨ T = 101 ∨ T = 3) := by
  rcases hj with rfl | hj | hj
  · exact ⟨_, _, h.row, .inl rfl⟩
  · rcases h.nodes.2 with ⟨hv, _⟩ | ⟨g, cap, cur, hv, _, hg, _⟩
    · simp at hv; rw [hv.1] at hj; cases hj
    · simp at hv; rw [hv.1] at hj; simp at hj; subst hj; exact ⟨_, _, hg, .inr (.inl rfl)⟩
  · rcases h.freed.2 with ⟨hv, _⟩ | ⟨g, cap, cur, hv, _, hg, _⟩
    · simp at hv; rw [hv.1] at hj; cases hj
    · simp at hv; rw [hv.1] at hj; simp at hj; subst hj; exact ⟨_, _, hg, .inr (.inr rfl)⟩
theorem qb_ne {w : World} {Q M lim cn cf : Nat} {An Af : Option Addr} {ns : List (Nd × Bool)} {fs : List Nat} (h : Qo w Q M lim An cn Af cf ns fs) {g : Nat} {cs : Array Value} {T : TypeId} (hg : w.heap[g]? = some (.cells cs T (0, 0))) (h1 : T ≠ 46) (h2 : T ≠ 101) (h3 : T ≠ 3) : ¬ QB Q An Af g := by
  intro hj
  obtain ⟨cs', T', hr, ht⟩ := qb_row h hj
  rw [hg] at hr
  simp only [Option.some.injEq, Obj.cells.injEq] at hr
  obtain ⟨_, rfl, _⟩ := hr
  rcases ht with e | e | e
  · exact h1 e
  · exact h2 e
  · exact h3 e
theorem row_six {w : World} {g : Nat} {z0 z1 z2 z3 z4 z5 : Value} {T : TypeId} (h : w.heap[g]? = some (.cells #[z0, z1, z2, z3, z4, z5] T (0, 0))) (a b c d e f : Value) : ((((((w.setCell ⟨g, 0, none⟩ a).setCell ⟨g, 1, none⟩ b).setCell ⟨g, 2, none⟩ c).setCell ⟨g, 3, none⟩ d).setCell ⟨g, 4, none⟩ e).setCell ⟨g, 5, none⟩ f).heap[g]? = some (.cells #[a, b, c, d, e, f] T (0, 0)) := by
  have := row_set (row_set (row_set (row_set (row_set (row_set h 0 a) 1 b) 2 c) 3 d) 4 e) 5 f
  simpa using this
theorem chg_sixv (w : World) (g : Nat) (a b c d e f : Value) : K.Chg w ((((((w.setCell ⟨g, 0, none⟩ a).setCell ⟨g, 1, none⟩ b).setCell ⟨g, 2, none⟩ c).setCell ⟨g, 3, none⟩ d).setCell ⟨g, 4, none⟩ e).setCell ⟨g, 5, none⟩ f) (· = g) :=
  (((((chg_set w g 0 a (· = g) rfl).same (chg_set _ g 1 b (· = g) rfl)).same (chg_set _ g 2 c (· = g) rfl)).same (chg_set _ g 3 d (· = g) rfl)).same (chg_set _ g 4 e (· = g) rfl)).same (chg_set _ g 5 f (· = g) rfl)
theorem below_six {w w' : World} {g : Nat} (h : Below w.heap.size w w') (hg : w.heap.size ≤ g) (a b c d e f : Value) : Below w.heap.size w ((((((w'.setCell ⟨g, 0, none⟩ a).setCell ⟨g, 1, none⟩ b).setCell ⟨g, 2, none⟩ c).setCell ⟨g, 3, none⟩ d).setCell ⟨g, 4, none⟩ e).setCell ⟨g, 5, none⟩ f) :=
  h.trans ((chg_sixv w' g a b c d e f).below h.size (fun j e => by have e2 : j = g := e; omega))
/-- At P lies a tree whose pool has ns; b: all of it is younger. -/
structure VS (w : World) (P N G T : Nat) (An : Option Addr) (cn : Nat) (Af : Option Addr) (cf : Nat) (ns : List (Nd × Bool)) (tk : Nat) (keys o0 : Int) (b : Nat) : Prop where
  v : w.heap[P]? = some (veo G N T keys o0)
  q : Qo w N G 4000 An cn Af cf ns []
  m : Mx w G tk
  lo : b ≤ P ∧ b ≤ G ∧ (∀ j, QB N An Af j → b ≤ j) ∧ b ≤ w.heap.size
section
variable {w w' : World} {P N G T cn cf tk b : Nat} {An Af : Option Addr} {ns : List (Nd × Bool)} {keys o0 : Int}
theorem VS.mt (h : VS w P N G T An cn Af cf ns tk keys o0 b) : ∃ cs, w.heap[G]? = some (.cells cs 73 (0, 0)) := by
  obtain ⟨r, c, s, p, hr⟩ := h.m
  exact ⟨_, hr⟩
theorem VS.chg {O : Nat → Prop} (h : VS w P N G T An cn Af cf ns tk keys o0 b) (hc : K.Chg w w' O) (h1 : ¬ O P) (h2 : ¬ O G) (h3 : ∀ j, QB N An Af j → ¬ O j) : VS w' P N G T An cn Af cf ns tk keys o0 b :=
  ⟨(hc.block P (row_lt h.v) h1).trans h.v, h.q.chg hc h3, h.m.chg hc h2, h.lo.1, h.lo.2.1, h.lo.2.2.1, Nat.le_trans h.lo.2.2.2 hc.size⟩
theorem VS.below (h : VS w P N G T An cn Af cf ns tk keys o0 b) (hb : Below w.heap.size w w') : VS w' P N G T An cn Af cf ns tk keys o0 b :=
  h.chg (K.Chg.of_below (O := fun _ => False) hb) (fun h => h) (fun h => h) (fun _ _ h => h)
theorem VS.meter {tk' : Nat} (h : VS w P N G T An cn Af cf ns tk keys o0 b) (hm : Mx w' G tk') (hc : K.Chg w w' (· = G)) : VS w' P N G T An cn Af cf ns tk' keys o0 b := by
  obtain ⟨cs, hg⟩ := h.mt
  exact ⟨(hc.block P (row_lt h.v) (row_ne h.v hg (by decide))).trans h.v, h.q.chg hc (fun j hj e => by
    have e2 : j = G := e
    subst e2
    exact qb_ne h.q hg (by decide) (by decide) (by decide) hj), hm, h.lo.1, h.lo.2.1, h.lo.2.2.1, Nat.le_trans h.lo.2.2.2 hc.size⟩
theorem VS.step {ns' : List (Nd × Bool)} (h : VS w P N G T An cn Af cf ns tk keys o0 b) (hs : QStep w N G 4000 An Af ns' [] w') : ∃ An' cn' Af' cf', VS w' P N G T An' cn' Af' cf' ns' tk keys o0 b ∧ Below b w w' := by
  obtain ⟨An', cn', Af', cf', hq, hc, hj⟩ := hs
  obtain ⟨cs, hg⟩ := h.mt
  refine ⟨An', cn', Af', cf', ⟨(hc.block P (row_lt h.v) (qb_ne h.q h.v (by decide) (by decide) (by decide))).trans h.v, hq, h.m.chg hc (qb_ne h.q hg (by decide) (by decide) (by decide)), h.lo.1, h.lo.2.1, fun j hj' => ?_, Nat.le_trans h.lo.2.2.2 hc.size⟩, hc.below h.lo.2.2.2 h.lo.2.2.1⟩
  rcases hj j hj' with h1 | h1
  · exact h.lo.2.2.1 j h1
  · exact Nat.le_trans h.lo.2.2.2 h1
theorem VS.c (h : VS w P N G T An cn Af cf ns tk keys o0 b) (i : Nat) : w.cell? ⟨P, i, none⟩ = (#[.pointer (some ⟨G, 0, none⟩), .pointer (some ⟨N, 0, none⟩), .pointer (some ⟨T, 0, none⟩), .int .i64 0, .int .i64 keys, .int .i64 o0, .int .i64 0, .int .i64 0, .int .i64 0, .int .i64 0] : Array Value)[i]? := cell_of_row w P i _ _ (0, 0) h.v
theorem v_start (h : VS w P N G T An cn Af cf ns tk keys o0 b) : Calls Tryd.prog 24 #[.pointer (some ⟨G, 0, none⟩)] w fun e w' => e = .returned (.tuple #[]) ∧ VS w' P N G T An cn Af cf ns 0 keys o0 b ∧ Below b w w' :=
  (x_start w G tk h.m).mono fun e w' ⟨he, hm, hc⟩ => ⟨he, h.meter hm hc, hc.below h.lo.2.2.2 (fun j e => by have e2 : j = G := e; have := h.lo.2.1; omega)⟩
set_option maxHeartbeats 4000000 in
theorem at_no (h : VS w P N G T An cn Af cf [] tk keys o0 b) : Calls Tryd.prog 32 #[.pointer (some ⟨P, 0, none⟩), .int .i64 0] w fun e w' => e = .returned (.tuple #[zsv, .bool false]) ∧ VS w' P N G T An cn Af cf [] tk keys o0 b ∧ Below b w w' := by
  have hb0 := (Below.refl _ w).alloc (Nat.le_refl _) zso
  have h0 := h.below hb0
  have c1 : (w.alloc zso).cell? ⟨P, 1, none⟩ = some (.pointer (some ⟨N, 0, none⟩)) := h0.c 1
  have HA := Lib.hid (q_at_no _ N G 4000 cn cf An Af [] [] h0.q 0 (by decide))
  have Z := Lib.hid (K.alloc_top w zso)
  have H := Lib.hid h
  have HB := Lib.hid hb0
  clear h h0 hb0
  unfold PeekP at HA
  go_enter Tryd.func32, Tryd.ntmps32
  go_wp2_with (first
    | (go_at_call 50; (with_reducible refine HA.out.mono ?_); rintro e w1 ⟨rfl, hb1⟩
       have z1 := (hb1.block _ (row_lt Z.out)).trans Z.out
       have z2 := al_keep z1 (.cells #[.int .i64 0, .int .u64 0, .int .u64 0, .int .u64 0, .int .i64 0] 41)
       have k0 := cell_of_row _ _ 0 _ _ (0, 0) z2
       have k1 := cell_of_row _ _ 1 _ _ (0, 0) z2
       have k2 := cell_of_row _ _ 2 _ _ (0, 0) z2
       have k3 := cell_of_row _ _ 3 _ _ (0, 0) z2
       have k4 := cell_of_row _ _ 4 _ _ (0, 0) z2
       have k5 := cell_of_row _ _ 5 _ _ (0, 0) z2
       have f0 := frozen_of_row _ _ 0 _ _ z2
       have f1 := frozen_of_row _ _ 1 _ _ z2
       have f2 := frozen_of_row _ _ 2 _ _ z2
       have f3 := frozen_of_row _ _ 3 _ _ z2
       have f4 := frozen_of_row _ _ 4 _ _ z2
       have f5 := frozen_of_row _ _ 5 _ _ z2
       simp at k0 k1 k2 k3 k4 k5
       have Z2 := Lib.hid z2
       have B1 := Lib.hid hb1
       clear z1 z2 hb1))
  have b6 := below_six (below_al (HB.out.trans (B1.out.mono HB.out.size)) (Nat.le_refl _) (.cells #[.int .i64 0, .int .u64 0, .int .u64 0, .int .u64 0, .int .i64 0] 41)) (Nat.le_refl w.heap.size) (.int .i64 0) (.int .u64 0) (.int .u64 0) (.int .u64 0) (.int .i64 0) (.int .i64 0)
  exact bodyPost_ret (sp_res rfl _ _ w.heap.size _ _ _ _ _ _ _ rfl (row_six Z2.out _ _ _ _ _ _) rfl) rfl ⟨rfl, H.out.below b6, b6.mono H.out.lo.2.2.2⟩
set_option maxHeartbeats 4000000 in
theorem at_yes (a c : Nat) (h : VS w P N G T An cn Af cf [(nd0 a c, true)] tk keys o0 b) (htk : tk < 1000) : Calls Tryd.prog 32 #[.pointer (some ⟨P, 0, none⟩), .int .i64 0] w fun e w' => e = .returned (.tuple #[spv a c, .bool true]) ∧ VS w' P N G T An cn Af cf [(nd0 a c, true)] (tk + 1) keys o0 b ∧ Below b w w' := by
  have hb0 := (Below.refl _ w).alloc (Nat.le_refl _) zso
  have h0 := h.below hb0
  have c1 : (w.alloc zso).cell? ⟨P, 1, none⟩ = some (.pointer (some ⟨N, 0, none⟩)) := h0.c 1
  have HA : Hid (Calls Tryd.prog 50 #[.pointer (some ⟨N, 0, none⟩), .int .i64 0] (w.alloc zso) fun e w' => e = .returned (.tuple #[nv0 a c, .bool true]) ∧ Mx w' G (tk + 1) ∧ K.Chg (w.alloc zso) w' (· = G)) := Lib.hid (q_at_yes _ N G 4000 cn cf An Af [(nd0 a c, true)] [] h0.q 0 (Nat.lt_succ_self 0) rfl tk h0.m (by omega))
  have Z := Lib.hid (K.alloc_top w zso)
  have H := Lib.hid h
  have H0 := Lib.hid h0
  have HB := Lib.hid hb0
  clear h h0 hb0
  go_enter Tryd.func32, Tryd.ntmps32
  go_wp2_with (first
    | (go_at_call 50; (with_reducible refine HA.out.mono ?_); rintro e w1 ⟨rfl, hm, hc⟩
       have hng : w.heap.size ≠ G := by
         obtain ⟨cs, hg⟩ := H0.out.mt
         exact row_ne Z.out hg (by decide)
       have z1 := (hc.block _ (row_lt Z.out) (fun e => hng e)).trans Z.out
       have z2 := al_keep z1 (.cells #[.int .i64 0, .int .u64 0, .int .u64 (a : Int), .int .u64 (c : Int), .int .i64 (-1)] 41)
       have k0 := cell_of_row _ _ 0 _ _ (0, 0) z2
       have k1 := cell_of_row _ _ 1 _ _ (0, 0) z2
       have k2 := cell_of_row _ _ 2 _ _ (0, 0) z2
       have k3 := cell_of_row _ _ 3 _ _ (0, 0) z2
       have k4 := cell_of_row _ _ 4 _ _ (0, 0) z2
       have k5 := cell_of_row _ _ 5 _ _ (0, 0) z2
       have f0 := frozen_of_row _ _ 0 _ _ z2
       have f1 := frozen_of_row _ _ 1 _ _ z2
       have f2 := frozen_of_row _ _ 2 _ _ z2
       have f3 := frozen_of_row _ _ 3 _ _ z2
       have f4 := frozen_of_row _ _ 4 _ _ z2
       have f5 := frozen_of_row _ _ 5 _ _ z2
       simp at k0 k1 k2 k3 k4 k5
       have Z2 := Lib.hid z2
       have H1 := Lib.hid (H0.out.meter hm hc)
       have C1 := Lib.hid hc
       clear z1 z2 hm hc hng))
  have c1' : K.Chg w w1 (· = G) := (K.Chg.of_below (O := (· = G)) HB.out).same C1.out
  have hs : K.Chg w1 _ (· = w.heap.size) := (chg_alloc w1 (.cells #[.int .i64 0, .int .u64 0, .int .u64 (a : Int), .int .u64 (c : Int), .int .i64 (-1)] 41) (· = w.heap.size)).same (chg_sixv _ w.heap.size (.int .i64 0) (.int .u64 0) (.int .u64 (a : Int)) (.int .u64 (c : Int)) (.int .i64 (-1)) (.int .i64 0))
  have hz := row_six Z2.out (.int .i64 0) (.int .u64 0) (.int .u64 (a : Int)) (.int .u64 (c : Int)) (.int .i64 (-1)) (.int .i64 0)
  have hv1 : ¬ P = w.heap.size := Nat.ne_of_lt (row_lt H.out.v)
  have hv2 : ¬ G = w.heap.size := by
    obtain ⟨cs, hg⟩ := H.out.mt
    exact Nat.ne_of_lt (row_lt hg)
  exact bodyPost_ret (sp_res rfl _ _ w.heap.size _ _ _ _ _ _ _ rfl hz rfl) rfl ⟨rfl, H1.out.chg hs hv1 hv2 (fun j hj e => by have e2 : j = w.heap.size := e; have := H.out.q.qb hj; omega), (c1'.below H.out.lo.2.2.2 (fun j e => by have e2 : j = G := e; have := H.out.lo.2.1; omega)).trans (hs.below (Nat.le_trans H.out.lo.2.2.2 c1'.size) (fun j e => by have e2 : j = w.heap.size := e; have := H.out.lo.2.2.2; omega))⟩
end
end Go.Proofs.YtlmpkpidfkbckaaDoor
