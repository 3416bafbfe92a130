
/- A pool of nodes: Peek, At, Put; the texts walked. -/
import Derived.Test.YtlmpkpidfkbckaaDoorVn1
namespace Go.Proofs.YtlmpkpidfkbckaaDoor
set_option maxRecDepth 40000
open Go.RowKit
section
variable {w : World} {Q M lim cn cf g : Nat} {An Af : Option Addr} {ns : List (Nd × Bool)} {fs : List Nat}
/-- The cells of a row stored. -/
abbrev set5 (w : World) (g i : Nat) (y : Nd) : World := ((((w.setCell ⟨g, i, none⟩ (.int .i64 y.level)).setCell ⟨g, i + 1, none⟩ (.int .u64 (y.word : Int))).setCell ⟨g, i + 2, none⟩ (.int .u64 (y.least : Int))).setCell ⟨g, i + 3, none⟩ (.int .u64 (y.greatest : Int))).setCell ⟨g, i + 4, none⟩ (.int .i64 y.summary)
theorem chg_set5 (w : World) (g i : Nat) (y : Nd) (O : Nat → Prop) (h : O g) : K.Chg w (set5 w g i y) O :=
  ((((chg_set w g _ _ O h).same (chg_set _ g _ _ O h)).same (chg_set _ g _ _ O h)).same (chg_set _ g _ _ O h)).same (chg_set _ g _ _ O h)
theorem own_set5 {w : World} {n cn : Nat} {xs : List Value} (h : w.ownsRow 0 101 6 (.slice (some ⟨g, 0, none⟩) n cn) n xs) (i : Nat) (y : Nd) :
    (set5 w g i y).ownsRow 0 101 6 (.slice (some ⟨g, 0, none⟩) n cn) n (((((xs.set i (.int .i64 y.level)).set (i + 1) (.int .u64 (y.word : Int))).set (i + 2) (.int .u64 (y.least : Int))).set (i + 3) (.int .u64 (y.greatest : Int))).set (i + 4) (.int .i64 y.summary)) :=
  (((((h.stored i _).1.stored (i + 1) _).1.stored (i + 2) _).1.stored (i + 3) _).1.stored (i + 4) _).1
/-- A place, once it is put. -/
theorem Qo.put (a : Qo w Q M lim (some ⟨g, 0, none⟩) cn Af cf ns fs) {k : Nat} (hk : k < ns.length) (y : Nd) :
    Qo (set5 w g (k * 6) y) Q M lim (some ⟨g, 0, none⟩) cn Af cf (ns.set k (y, ns[k].2)) fs := by
  have b := chg_set5 w g (k * 6) y (· = g) rfl
  have h1 := own_set5 a.nodes (k * 6) y
  rw [nv_put ns k y hk] at h1
  have hl : (ns.set k (y, ns[k].2)).length = ns.length := List.length_set ..
  refine ⟨?_, by rw [hl]; exact h1, b.own a.freed (fun j hj e => a.ne_both rfl (own_of_map hj) e.symm), fun i hi => ?_, a.nod, a.lim_le, by rw [hl]; exact a.ns_le, by rw [hl]; exact a.fs_le⟩
  · rw [b.block Q a.lt (fun e => a.ne_nodes rfl e.symm), a.row, hl]
  · obtain ⟨h2, h3⟩ := a.inr i hi
    refine ⟨by rw [hl]; exact h2, ?_⟩
    rw [List.getElem_set]
    split
    · rename_i e; subst e; exact h3
    · exact h3
/-- What a call that changes a pool leaves. -/
def QStep (w : World) (Q M lim : Nat) (An Af : Option Addr) (ns' : List (Nd × Bool)) (fs' : List Nat) (w' : World) : Prop :=
  ∃ An' cn' Af' cf', Qo w' Q M lim An' cn' Af' cf' ns' fs' ∧ K.Chg w w' (QB Q An Af) ∧ ∀ j, QB Q An' Af' j → QB Q An Af j ∨ w.heap.size ≤ j
end
section
variable (w : World) (Q M lim cn cf : Nat) (An Af : Option Addr) (ns : List (Nd × Bool)) (fs : List Nat)
def PeekP (w : World) (v : Value) (b : Bool) (e : Ending) (w' : World) : Prop := e = .returned (.tuple #[v, .bool b]) ∧ Below w.heap.size w w'
theorem nd_res {fn : Func} {u t : Tmp} (h : fn.results = #[.cell u 41, .tmp t]) (tmps : Array Value) (w : World) (g : Nat) (a b c d e : Value) (z : Value) (hu : tmps.getD u undef = .pointer (some ⟨g, 0, none⟩))
    (hc : w.heap[g]? = some (.cells #[a, b, c, d, e] 41 (0, 0))) (hb : tmps.getD t undef = z) : (results fn tmps).run Tryd.prog w = .ok (.tuple #[.agg #[a, b, c, d, e], z]) w := by
  have hp' : tmps[u]?.getD undef = .pointer (some ⟨g, 0, none⟩) := by simpa using hu
  have hb' : tmps[t]?.getD undef = z := by simpa using hb
  have hr := run_loadVar_row (P := Tryd.prog) w g 41 41 _ (0, 0) _ hc Tryd.underlying41 (by kernel_rfl) (by kernel_rfl)
  simp [results, h, hp', hb', asAddr, hr]
abbrev ndzo : Obj := .cells #[.int .i64 0, .int .u64 0, .int .u64 0, .int .u64 0, .int .i64 0] 41
abbrev ndzv : Value := .agg #[.int .i64 0, .int .u64 0, .int .u64 0, .int .u64 0, .int .i64 0]
theorem q_peek_yes (a : Qo w Q M lim An cn Af cf ns fs) (k : Nat) (hk : k < ns.length) (ht : ns[k].2 = true) :
    Calls Tryd.prog 69 #[.pointer (some ⟨Q, 0, none⟩), .int .i64 (k : Int)] w (PeekP w ns[k].1.v true) := by
  have hQ := a.lt
  have hb : Below w.heap.size w (w.alloc ndzo) := (Below.refl _ w).alloc (Nat.le_refl _) _
  have a1 := a.chg (K.Chg.of_below (O := fun _ => False) hb) (fun _ _ h => h)
  have hl := Lib.hid (q_live _ Q M lim cn cf An Af ns fs a1 k)
  rw [lvq_yes hk ht] at hl
  have hc2 := a1.c2
  have hle := a.ns_le
  have hle2 := a.lim_le
  obtain ⟨g, rfl, h0, h1, h2, h3, h4, hlv, _⟩ := a1.at hk
  have k1 : (k : Int) < (ns.length : Int) := by omega
  clear a a1 ht hlv
  generalize ns[k].1 = x at *
  obtain ⟨level, word, least, greatest, summary⟩ := x
  dsimp only at *
  show Calls _ _ _ _ (PeekP w (ndv level word least greatest summary) true)
  go_enter Tryd.func69, Tryd.ntmps69
  go_wp2_with (go_at_call 61; (with_reducible refine hl.out.mono ?_); rintro e w' ⟨rfl, rfl⟩)
  refine bodyPost_ret (nd_res rfl _ _ w.heap.size _ _ _ _ _ _ rfl (K.alloc_top _ _) rfl) rfl ?_
  · exact ⟨rfl, (Below.refl _ w).alloc (Nat.le_refl _) _⟩
theorem q_peek_no (a : Qo w Q M lim An cn Af cf ns fs) (i : Int) (ht : lvq ns i = false) :
    Calls Tryd.prog 69 #[.pointer (some ⟨Q, 0, none⟩), .int .i64 i] w (PeekP w ndzv false) := by
  have hb : Below w.heap.size w (w.alloc ndzo) := (Below.refl _ w).alloc (Nat.le_refl _) _
  have a1 := a.chg (K.Chg.of_below (O := fun _ => False) hb) (fun _ _ h => h)
  have hl := Lib.hid (q_live _ Q M lim cn cf An Af ns fs a1 i)
  rw [ht] at hl
  clear a a1 ht
  go_enter Tryd.func69, Tryd.ntmps69
  go_wp2_with (go_at_call 61; (with_reducible refine hl.out.mono ?_); rintro e w' ⟨rfl, rfl⟩)
  refine bodyPost_ret (nd_res rfl _ _ w.heap.size _ _ _ _ _ _ rfl ((Below.heap_alloc _ _ _ (by simp)).trans (K.alloc_top _ _)) rfl) rfl ?_
  · exact ⟨rfl, hb.alloc (by simp) _⟩
theorem row_z5 {w : World} {g : Nat} {z0 z1 z2 z3 z4 : Value} (h : w.heap[g]? = some (.cells #[z0, z1, z2, z3, z4] 41 (0, 0))) (a b c d e : Value) : (((((w.setCell ⟨g, 0, none⟩ (a)).setCell ⟨g, 1, none⟩ (b)).setCell ⟨g, 2, none⟩ (c)).setCell ⟨g, 3, none⟩ (d)).setCell ⟨g, 4, none⟩ (e)).heap[g]? = some (.cells #[a, b, c, d, e] 41 (0, 0)) := by
  have h1 := row_set (row_set (row_set (row_set (row_set h 0 a) 1 b) 2 c) 3 d) 4 e
  simpa using h1
theorem chg_five (w : World) (g : Nat) (i0 i1 i2 i3 i4 : Nat) (a b c d e : Value) (O : Nat → Prop) (h : O g) : K.Chg w (((((w.setCell ⟨g, i0, none⟩ a).setCell ⟨g, i1, none⟩ b).setCell ⟨g, i2, none⟩ c).setCell ⟨g, i3, none⟩ d).setCell ⟨g, i4, none⟩ e) O :=
  ((((chg_set w g _ _ O h).same (chg_set _ g _ _ O h)).same (chg_set _ g _ _ O h)).same (chg_set _ g _ _ O h)).same (chg_set _ g _ _ O h)
/-- The cells of a node's row. -/
theorem nd_cells {w : World} {g : Nat} {a b c d e : Value} (h : w.heap[g]? = some (.cells #[a, b, c, d, e] 41 (0, 0))) : w.cell? ⟨g, 0, none⟩ = some a ∧ w.cell? ⟨g, 1, none⟩ = some b ∧ w.cell? ⟨g, 2, none⟩ = some c ∧ w.cell? ⟨g, 3, none⟩ = some d ∧ w.cell? ⟨g, 4, none⟩ = some e :=
  ⟨cell_of_row w g 0 _ _ (0, 0) h, cell_of_row w g 1 _ _ (0, 0) h, cell_of_row w g 2 _ _ (0, 0) h, cell_of_row w g 3 _ _ (0, 0) h, cell_of_row w g 4 _ _ (0, 0) h⟩
def AtP (w : World) (M tk : Nat) (v : Value) (b : Bool) (e : Ending) (w' : World) : Prop := e = .returned (.tuple #[v, .bool b]) ∧ Mx w' M tk ∧ K.Chg w w' (· = M)
set_option maxHeartbeats 1000000 in
theorem q_at_yes (a : Qo w Q M lim An cn Af cf ns fs) (k : Nat) (hk : k < ns.length) (ht : ns[k].2 = true) (tk : Nat) (hM : Mx w M tk) (htk : tk < 1000000) :
    Calls Tryd.prog 50 #[.pointer (some ⟨Q, 0, none⟩), .int .i64 (k : Int)] w (AtP w M (tk + 1) ns[k].1.v true) := by
  have hQ := a.lt
  have hMl := hM.lt
  have hb : Below w.heap.size w (w.alloc ndzo) := (Below.refl _ w).alloc (Nat.le_refl _) _
  have a1 := a.chg (K.Chg.of_below (O := fun _ => False) hb) (fun _ _ h => h)
  have hp := Lib.hid (q_peek_yes _ Q M lim cn cf An Af ns fs a1 k hk ht)
  have HA := Lib.hid a
  have HM := Lib.hid hM
  have HB := Lib.hid hb
  have hz1 : (w.alloc ndzo).heap.size = w.heap.size + 1 := by simp
  have HZ := Lib.hid hz1
  clear a a1 ht hM hb hz1
  generalize ns[k].1 = x at *
  obtain ⟨level, word, least, greatest, summary⟩ := x
  have hp : Hid (Calls _ _ _ _ (PeekP (w.alloc ndzo) (ndv level word least greatest summary) true)) := hp
  show Calls _ _ _ _ (AtP w M (tk + 1) (ndv level word least greatest summary) true)
  go_enter Tryd.func50, Tryd.ntmps50
  go_wp2_with (first
    | (go_at_call 69; (with_reducible refine hp.out.mono ?_); rintro e w1 ⟨rfl, hb1⟩
       have HB1 := Lib.hid hb1
       have hs1 := hb1.size
       rw [HZ.out] at hs1
       have hb2 : Below w.heap.size w (w1.alloc (ndo level word least greatest summary)) := (HB.out.trans (hb1.mono (by simp))).alloc (by omega) _
       have HA2 := Lib.hid (HA.out.chg (K.Chg.of_below (O := fun _ => False) hb2) (fun _ _ h => h))
       have HM2 := Lib.hid (HM.out.chg (K.Chg.of_below (O := fun _ => False) hb2) (fun h => h))
       have HC2 := Lib.hid hb2
       have z2 : (w1.alloc (ndo level word least greatest summary)).heap[w.heap.size]? = some ndzo := (Below.heap_alloc _ _ _ (by omega)).trans ((hb1.block _ (by (rw [HZ.out]; omega))).trans (K.alloc_top _ _))
       have HZ2 := Lib.hid z2
       have q0 := HA2.out.c0
       clear hb1 hb2 z2)
    | (go_at_call 72; (with_reducible refine (x_read _ M tk HM2.out htk).mono ?_); rintro e w2 ⟨rfl, hm2, hc2⟩
       have HM3 := Lib.hid hm2
       have HC3 := Lib.hid hc2
       have y := (hc2.block w1.heap.size (by simp) (by omega)).trans (K.alloc_top _ _)
       have zz := (hc2.block w.heap.size (by (simp; omega)) (by omega)).trans HZ2.out
       obtain ⟨y0, y1, y2, y3, y4⟩ := nd_cells y
       have f0 := frozen_of_row w2 _ 0 _ _ zz
       have f1 := frozen_of_row w2 _ 1 _ _ zz
       have f2 := frozen_of_row w2 _ 2 _ _ zz
       have f3 := frozen_of_row w2 _ 3 _ _ zz
       have f4 := frozen_of_row w2 _ 4 _ _ zz
       obtain ⟨t0, t1, t2, t3, t4⟩ := nd_cells zz
       have ZZ := Lib.hid zz
       clear hm2 hc2 y zz))
  refine bodyPost_ret (nd_res rfl _ _ w.heap.size _ _ _ _ _ _ rfl (row_z5 ZZ.out _ _ _ _ _) rfl) rfl ?_
  · have hch : K.Chg w w2 (· = M) := (K.Chg.of_below (O := (· = M)) HC2.out).same HC3.out
    have h5 : ∀ a b c d e, K.Chg w2 _ (fun j => j = w.heap.size) := fun a b c d e => chg_five w2 w.heap.size 0 1 2 3 4 a b c d e _ rfl
    exact ⟨rfl, HM3.out.chg (h5 _ _ _ _ _) (by omega), hch.trans (h5 _ _ _ _ _) (fun j hj => .inr (by omega))⟩
theorem q_at_no (a : Qo w Q M lim An cn Af cf ns fs) (i : Int) (ht : lvq ns i = false) :
    Calls Tryd.prog 50 #[.pointer (some ⟨Q, 0, none⟩), .int .i64 i] w (PeekP w ndzv false) := by
  have hb : Below w.heap.size w (w.alloc ndzo) := (Below.refl _ w).alloc (Nat.le_refl _) _
  have a1 := a.chg (K.Chg.of_below (O := fun _ => False) hb) (fun _ _ h => h)
  have hp := Lib.hid (q_peek_no _ Q M lim cn cf An Af ns fs a1 i ht)
  have HB := Lib.hid hb
  have hz1 : (w.alloc ndzo).heap.size = w.heap.size + 1 := by simp
  have HZ := Lib.hid hz1
  clear a a1 ht hb hz1
  go_enter Tryd.func50, Tryd.ntmps50
  go_wp2_with (go_at_call 69; (with_reducible refine hp.out.mono ?_); rintro e w1 ⟨rfl, hb1⟩
               have HB1 := Lib.hid hb1
               have hs1 := hb1.size
               rw [HZ.out] at hs1
               have zz := (Below.heap_alloc w1 ndzo w.heap.size (by omega)).trans ((hb1.block w.heap.size (by (rw [HZ.out]; omega))).trans (K.alloc_top _ _))
               have f0 := frozen_of_row _ _ 0 _ _ zz
               have f1 := frozen_of_row _ _ 1 _ _ zz
               have f2 := frozen_of_row _ _ 2 _ _ zz
               have f3 := frozen_of_row _ _ 3 _ _ zz
               have f4 := frozen_of_row _ _ 4 _ _ zz
               obtain ⟨t0, t1, t2, t3, t4⟩ := nd_cells zz
               have ZZ := Lib.hid zz
               clear hb1 zz)
  refine bodyPost_ret (nd_res rfl _ _ w.heap.size _ _ _ _ _ _ rfl (row_z5 ZZ.out _ _ _ _ _) rfl) rfl ?_
  · refine ⟨rfl, ?_⟩
    have h1 : Below w.heap.size w (w1.alloc ndzo) := (HB.out.trans (HB1.out.mono (by simp))).alloc (by omega) _
    exact (((((h1.setCell (by simp) _).setCell (by simp) _).setCell (by simp) _).setCell (by simp) _).setCell (by simp) _)
set_option maxHeartbeats 1000000 in
theorem q_put (a : Qo w Q M lim An cn Af cf ns fs) (k : Nat) (hk : k < ns.length) (ht : ns[k].2 = true) (level : Int) (word : Nat) (least : Nat) (greatest : Nat) (summary : Int) (y : Nd) (hy : y = ⟨level, word, least, greatest, summary⟩) :
    Calls Tryd.prog 40 #[.pointer (some ⟨Q, 0, none⟩), .int .i64 (k : Int), ndv level word least greatest summary] w fun e w' => e = .returned (.bool true) ∧ QStep w Q M lim An Af (ns.set k (y, true)) fs w' := by
  have hb : Below w.heap.size w (w.alloc (ndo level word least greatest summary)) := (Below.refl _ w).alloc (Nat.le_refl _) _
  have a1 := a.chg (K.Chg.of_below (O := fun _ => False) hb) (fun _ _ h => h)
  have hl := Lib.hid (q_live _ Q M lim cn cf An Af ns fs a1 k)
  rw [lvq_yes hk ht] at hl
  have hc2 := a1.c2
  obtain ⟨g, rfl, x0, x1, x2, x3, x4, _, hfr⟩ := a1.at hk
  have f0 := hfr (k * 6)
  have f1 := hfr (k * 6 + 1)
  have f2 := hfr (k * 6 + 2)
  have f3 := hfr (k * 6 + 3)
  have f4 := hfr (k * 6 + 4)
  have k1 : (k : Int) < (ns.length : Int) := by omega
  have hp := a1.put hk y
  rw [ht] at hp
  have hpH := Lib.hid hp
  have HB := Lib.hid hb
  have HA := Lib.hid a
  have HY := Lib.hid hy
  clear a a1 ht hfr hp hb hy
  go_enter Tryd.func40, Tryd.ntmps40
  go_wp2_with (go_at_call 61; (with_reducible refine hl.out.mono ?_); rintro e w' ⟨rfl, rfl⟩)
  go_region
  all_goals
    go_wp2
    go_ret
    obtain rfl := HY.out
    have hbc : K.Chg w _ (QB Q (some ⟨g, 0, none⟩) Af) := (K.Chg.of_below HB.out).same (chg_five (w.alloc (ndo level word least greatest summary)) g (k * 6) (k * 6 + 1) (k * 6 + 2) (k * 6 + 3) (k * 6 + 4) (.int .i64 level) (.int .u64 (word : Int)) (.int .u64 (least : Int)) (.int .u64 (greatest : Int)) (.int .i64 summary) _ (.inr (.inl rfl)))
    exact ⟨rfl, _, cn, Af, cf, hpH.out.drew 1, hbc.drewN 1, fun j hj => .inl hj⟩
end
end Go.Proofs.YtlmpkpidfkbckaaDoor
