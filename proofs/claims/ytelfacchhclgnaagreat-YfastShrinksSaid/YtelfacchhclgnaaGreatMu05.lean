/- A pool of nodes: Peek, At, Put; the texts walked. A pool of nodes: next, Alloc; the texts walked. A pool of nodes: Alloc, Free, Clear, New; the texts walked. A pool of nodes is cleared; the text walked. -/
import Derived.Lib.SliceRun
import Derived.Test.YtelfacchhclgnaaGreatMu04
section
namespace Go.Proofs.YtelfacchhclgnaaGreat
set_option maxRecDepth 20000
open Go.RowKit
set_option linter.unusedSectionVars false
variable [Gh]
section
variable {w : World} {Q M lim cn cf g : Nat} {An Af : Option Addr} {ns : List (Nd × Bool)} {fs : List Nat}
/-- The cells of a row stored. -/
abbrev set5 (w : World) (g i : Nat) (y : Nd) : World := ((w.setCell ⟨g, i, none⟩ (.int .u64 (y.key : Int))).setCell ⟨g, i + 1, none⟩ (.int .i64 y.ah)).setCell ⟨g, i + 2, none⟩ (.int .i64 y.be)
theorem chg_set5 (w : World) (g i : Nat) (y : Nd) (O : Nat → Prop) (h : O g) : K.Chg w (set5 w g i y) O :=
  ((chg_set w g _ _ O h).same (chg_set _ g _ _ O h)).same (chg_set _ g _ _ O h)
theorem own_set5 {w : World} {n cn : Nat} {xs : List Value} (h : w.ownsRow 0 186 4 (.slice (some ⟨g, 0, none⟩) n cn) n xs) (i : Nat) (y : Nd) :
    (set5 w g i y).ownsRow 0 186 4 (.slice (some ⟨g, 0, none⟩) n cn) n (((xs.set i (.int .u64 (y.key : Int))).set (i + 1) (.int .i64 y.ah)).set (i + 2) (.int .i64 y.be)) :=
  (((h.stored i _).1.stored (i + 1) _).1.stored (i + 2) _).1
/-- A place, once it is put. -/
theorem Qo.put (a : Qo w Q M lim (some ⟨g, 0, none⟩) cn Af cf ns fs) {k : Nat} (hk : k < ns.length) (y : Nd) :
    Qo (set5 w g (k * 4) y) Q M lim (some ⟨g, 0, none⟩) cn Af cf (ns.set k (y, ns[k].2)) fs := by
  have b := chg_set5 w g (k * 4) y (· = g) rfl
  have h1 := own_set5 a.nodes (k * 4) y
  rw [nv_put ns k y hk] at h1
  have hl : (ns.set k (y, ns[k].2)).length = ns.length := List.length_set ..
  refine ⟨?_, by rw [hl]; exact h1, b.own a.freed (fun j hj e => a.ne_both rfl (own_of_map hj) e.symm), fun i hi => ?_, a.nod, a.lim_le, by rw [hl]; exact a.ns_le, by rw [hl]; exact a.fs_le⟩
  · rw [b.block Q a.lt (fun e => a.ne_nodes rfl e.symm), a.row, hl]
  · obtain ⟨h2, h3⟩ := a.inr i hi
    refine ⟨by rw [hl]; exact h2, ?_⟩
    rw [List.getElem_set]
    split
    · rename_i e; subst e; exact h3
    · exact h3
/-- What a call that changes a pool leaves. -/
def QStep (w : World) (Q M lim : Nat) (An Af : Option Addr) (ns' : List (Nd × Bool)) (fs' : List Nat) (w' : World) : Prop :=
  ∃ An' cn' Af' cf', Qo w' Q M lim An' cn' Af' cf' ns' fs' ∧ K.Chg w w' (QB Q An Af) ∧ ∀ j, QB Q An' Af' j → QB Q An Af j ∨ w.heap.size ≤ j
end
section
variable (w : World) (Q M lim cn cf : Nat) (An Af : Option Addr) (ns : List (Nd × Bool)) (fs : List Nat)
def PeekP (w : World) (v : Value) (b : Bool) (e : Ending) (w' : World) : Prop := e = .returned (.tuple #[v, .bool b]) ∧ Below w.heap.size w w'
theorem nd_res {fn : Func} {u t : Tmp} (h : fn.results = #[.cell u 145, .tmp t]) (tmps : Array Value) (w : World) (g : Nat) (a b c : Value) (z : Value) (hu : tmps.getD u undef = .pointer (some ⟨g, 0, none⟩))
    (hc : w.heap[g]? = some (.cells #[a, b, c] 145 (0, 0))) (hb : tmps.getD t undef = z) : (results fn tmps).run Tryz.prog w = .ok (.tuple #[.agg #[a, b, c], z]) w := by
  have hp' : tmps[u]?.getD undef = .pointer (some ⟨g, 0, none⟩) := by simpa using hu
  have hb' : tmps[t]?.getD undef = z := by simpa using hb
  have hr := run_loadVar_row (P := Tryz.prog) w g 145 145 _ (0, 0) _ hc Tryz.underlying145 (by kernel_rfl) (by kernel_rfl)
  simp [results, h, hp', hb', asAddr, hr]
abbrev ndzo : Obj := .cells #[.int .u64 0, .int .i64 0, .int .i64 0] 145
abbrev ndzv : Value := .agg #[.int .u64 0, .int .i64 0, .int .i64 0]
theorem q_peek_yes (a : Qo w Q M lim An cn Af cf ns fs) (k : Nat) (hk : k < ns.length) (ht : ns[k].2 = true) :
    Calls Tryz.prog 141 #[.pointer (some ⟨Q, 0, none⟩), .int .i64 (k : Int)] w (PeekP w ns[k].1.v true) := by
  have hQ := a.lt
  have hb : Below w.heap.size w (w.alloc ndzo) := (Below.refl _ w).alloc (Nat.le_refl _) _
  have a1 := a.chg (K.Chg.of_below (O := fun _ => False) hb) (fun _ _ h => h)
  have hl := Lib.hid (q_live _ Q M lim cn cf An Af ns fs a1 k)
  rw [lvq_yes hk ht] at hl
  have hc2 := a1.c2
  have hle := a.ns_le
  have hle2 := a.lim_le
  obtain ⟨g, rfl, h0, h1, h2, hlv, _⟩ := a1.at hk
  have k1 : (k : Int) < (ns.length : Int) := by omega
  clear a a1 ht hlv
  generalize ns[k].1 = x at *
  obtain ⟨key, ah, be⟩ := x
  dsimp only at *
  show Calls _ _ _ _ (PeekP w (ndv key ah be) true)
  go_enter Tryz.func141, Tryz.ntmps141
  go_wp2_with (go_at_call 156; (with_reducible refine hl.out.mono ?_); rintro e w' ⟨rfl, rfl⟩)
  refine bodyPost_ret (nd_res rfl _ _ w.heap.size _ _ _ _ rfl (K.alloc_top _ _) rfl) rfl ?_
  · exact ⟨rfl, (Below.refl _ w).alloc (Nat.le_refl _) _⟩
theorem q_peek_no (a : Qo w Q M lim An cn Af cf ns fs) (i : Int) (ht : lvq ns i = false) :
    Calls Tryz.prog 141 #[.pointer (some ⟨Q, 0, none⟩), .int .i64 i] w (PeekP w ndzv false) := by
  have hb : Below w.heap.size w (w.alloc ndzo) := (Below.refl _ w).alloc (Nat.le_refl _) _
  have a1 := a.chg (K.Chg.of_below (O := fun _ => False) hb) (fun _ _ h => h)
  have hl := Lib.hid (q_live _ Q M lim cn cf An Af ns fs a1 i)
  rw [ht] at hl
  clear a a1 ht
  go_enter Tryz.func141, Tryz.ntmps141
  go_wp2_with (go_at_call 156; (with_reducible refine hl.out.mono ?_); rintro e w' ⟨rfl, rfl⟩)
  refine bodyPost_ret (nd_res rfl _ _ w.heap.size _ _ _ _ rfl ((Below.heap_alloc _ _ _ (by simp)).trans (K.alloc_top _ _)) rfl) rfl ?_
  · exact ⟨rfl, hb.alloc (by simp) _⟩
theorem row_z5 {w : World} {g : Nat} {z0 z1 z2 : Value} (h : w.heap[g]? = some (.cells #[z0, z1, z2] 145 (0, 0))) (a b c : Value) : (((w.setCell ⟨g, 0, none⟩ (a)).setCell ⟨g, 1, none⟩ (b)).setCell ⟨g, 2, none⟩ (c)).heap[g]? = some (.cells #[a, b, c] 145 (0, 0)) := by
  have h1 := row_set (row_set (row_set h 0 a) 1 b) 2 c
  simpa using h1
theorem chg_five (w : World) (g : Nat) (i0 i1 i2 : Nat) (a b c : Value) (O : Nat → Prop) (h : O g) : K.Chg w (((w.setCell ⟨g, i0, none⟩ a).setCell ⟨g, i1, none⟩ b).setCell ⟨g, i2, none⟩ c) O :=
  ((chg_set w g _ _ O h).same (chg_set _ g _ _ O h)).same (chg_set _ g _ _ O h)
/-- The cells of a node's row. -/
theorem nd_cells {w : World} {g : Nat} {a b c : Value} (h : w.heap[g]? = some (.cells #[a, b, c] 145 (0, 0))) : w.cell? ⟨g, 0, none⟩ = some a ∧ w.cell? ⟨g, 1, none⟩ = some b ∧ w.cell? ⟨g, 2, none⟩ = some c :=
  ⟨cell_of_row w g 0 _ _ (0, 0) h, cell_of_row w g 1 _ _ (0, 0) h, cell_of_row w g 2 _ _ (0, 0) h⟩
def AtP (w : World) (M tk : Nat) (v : Value) (b : Bool) (e : Ending) (w' : World) : Prop := e = .returned (.tuple #[v, .bool b]) ∧ Mx w' M tk ∧ K.Chg w w' (· = M)
set_option maxHeartbeats 1000000 in
theorem q_at_yes (a : Qo w Q M lim An cn Af cf ns fs) (k : Nat) (hk : k < ns.length) (ht : ns[k].2 = true) (tk : Nat) (hM : Mx w M tk) (htk : tk < 1000000) :
    Calls Tryz.prog 174 #[.pointer (some ⟨Q, 0, none⟩), .int .i64 (k : Int)] w (AtP w M (tk + 1) ns[k].1.v true) := by
  have hQ := a.lt
  have hMl := hM.lt
  have hb : Below w.heap.size w (w.alloc ndzo) := (Below.refl _ w).alloc (Nat.le_refl _) _
  have a1 := a.chg (K.Chg.of_below (O := fun _ => False) hb) (fun _ _ h => h)
  have hp := Lib.hid (q_peek_yes _ Q M lim cn cf An Af ns fs a1 k hk ht)
  have HA := Lib.hid a
  have HM := Lib.hid hM
  have HB := Lib.hid hb
  have hz1 : (w.alloc ndzo).heap.size = w.heap.size + 1 := by simp
  have HZ := Lib.hid hz1
  clear a a1 ht hM hb hz1
  generalize ns[k].1 = x at *
  obtain ⟨key, ah, be⟩ := x
  have hp : Hid (Calls _ _ _ _ (PeekP (w.alloc ndzo) (ndv key ah be) true)) := hp
  show Calls _ _ _ _ (AtP w M (tk + 1) (ndv key ah be) true)
  go_enter Tryz.func174, Tryz.ntmps174
  go_wp2_with (first
    | (go_at_call 141; (with_reducible refine hp.out.mono ?_); rintro e w1 ⟨rfl, hb1⟩
       have HB1 := Lib.hid hb1
       have hs1 := hb1.size
       rw [HZ.out] at hs1
       have hb2 : Below w.heap.size w (w1.alloc (ndo key ah be)) := (HB.out.trans (hb1.mono (by simp))).alloc (by omega) _
       have HA2 := Lib.hid (HA.out.chg (K.Chg.of_below (O := fun _ => False) hb2) (fun _ _ h => h))
       have HM2 := Lib.hid (HM.out.chg (K.Chg.of_below (O := fun _ => False) hb2) (fun h => h))
       have HC2 := Lib.hid hb2
       have z2 : (w1.alloc (ndo key ah be)).heap[w.heap.size]? = some ndzo := (Below.heap_alloc _ _ _ (by omega)).trans ((hb1.block _ (by (rw [HZ.out]; omega))).trans (K.alloc_top _ _))
       have HZ2 := Lib.hid z2
       have q0 := HA2.out.c0
       clear hb1 hb2 z2)
    | (go_at_call 114; (with_reducible refine (x_read _ M tk HM2.out htk).mono ?_); rintro e w2 ⟨rfl, hm2, hc2⟩
       have HM3 := Lib.hid hm2
       have HC3 := Lib.hid hc2
       have y := (hc2.block w1.heap.size (by simp) (by omega)).trans (K.alloc_top _ _)
       have zz := (hc2.block w.heap.size (by (simp; omega)) (by omega)).trans HZ2.out
       obtain ⟨y0, y1, y2⟩ := nd_cells y
       have f0 := frozen_of_row w2 _ 0 _ _ zz
       have f1 := frozen_of_row w2 _ 1 _ _ zz
       have f2 := frozen_of_row w2 _ 2 _ _ zz
       obtain ⟨t0, t1, t2⟩ := nd_cells zz
       have ZZ := Lib.hid zz
       clear hm2 hc2 y zz))
  refine bodyPost_ret (nd_res rfl _ _ w.heap.size _ _ _ _ rfl (row_z5 ZZ.out _ _ _) rfl) rfl ?_
  · have hch : K.Chg w w2 (· = M) := (K.Chg.of_below (O := (· = M)) HC2.out).same HC3.out
    have h5 : ∀ a b c, K.Chg w2 _ (fun j => j = w.heap.size) := fun a b c => chg_five w2 w.heap.size 0 1 2 a b c _ rfl
    exact ⟨rfl, HM3.out.chg (h5 _ _ _) (by omega), hch.trans (h5 _ _ _) (fun j hj => .inr (by omega))⟩
theorem q_at_no (a : Qo w Q M lim An cn Af cf ns fs) (i : Int) (ht : lvq ns i = false) :
    Calls Tryz.prog 174 #[.pointer (some ⟨Q, 0, none⟩), .int .i64 i] w (PeekP w ndzv false) := by
  have hb : Below w.heap.size w (w.alloc ndzo) := (Below.refl _ w).alloc (Nat.le_refl _) _
  have a1 := a.chg (K.Chg.of_below (O := fun _ => False) hb) (fun _ _ h => h)
  have hp := Lib.hid (q_peek_no _ Q M lim cn cf An Af ns fs a1 i ht)
  have HB := Lib.hid hb
  have hz1 : (w.alloc ndzo).heap.size = w.heap.size + 1 := by simp
  have HZ := Lib.hid hz1
  clear a a1 ht hb hz1
  go_enter Tryz.func174, Tryz.ntmps174
  go_wp2_with (go_at_call 141; (with_reducible refine hp.out.mono ?_); rintro e w1 ⟨rfl, hb1⟩
               have HB1 := Lib.hid hb1
               have hs1 := hb1.size
               rw [HZ.out] at hs1
               have zz := (Below.heap_alloc w1 ndzo w.heap.size (by omega)).trans ((hb1.block w.heap.size (by (rw [HZ.out]; omega))).trans (K.alloc_top _ _))
               have f0 := frozen_of_row _ _ 0 _ _ zz
               have f1 := frozen_of_row _ _ 1 _ _ zz
               have f2 := frozen_of_row _ _ 2 _ _ zz
               obtain ⟨t0, t1, t2⟩ := nd_cells zz
               have ZZ := Lib.hid zz
               clear hb1 zz)
  refine bodyPost_ret (nd_res rfl _ _ w.heap.size _ _ _ _ rfl (row_z5 ZZ.out _ _ _) rfl) rfl ?_
  · refine ⟨rfl, ?_⟩
    have h1 : Below w.heap.size w (w1.alloc ndzo) := (HB.out.trans (HB1.out.mono (by simp))).alloc (by omega) _
    exact (((h1.setCell (by simp) _).setCell (by simp) _).setCell (by simp) _)
set_option maxHeartbeats 1000000 in
theorem q_put (a : Qo w Q M lim An cn Af cf ns fs) (k : Nat) (hk : k < ns.length) (ht : ns[k].2 = true) (key : Nat) (ah : Int) (be : Int) (y : Nd) (hy : y = ⟨key, ah, be⟩) :
    Calls Tryz.prog 185 #[.pointer (some ⟨Q, 0, none⟩), .int .i64 (k : Int), ndv key ah be] w fun e w' => e = .returned (.bool true) ∧ QStep w Q M lim An Af (ns.set k (y, true)) fs w' := by
  have hb : Below w.heap.size w (w.alloc (ndo key ah be)) := (Below.refl _ w).alloc (Nat.le_refl _) _
  have a1 := a.chg (K.Chg.of_below (O := fun _ => False) hb) (fun _ _ h => h)
  have hl := Lib.hid (q_live _ Q M lim cn cf An Af ns fs a1 k)
  rw [lvq_yes hk ht] at hl
  have hc2 := a1.c2
  obtain ⟨g, rfl, x0, x1, x2, _, hfr⟩ := a1.at hk
  have f0 := hfr (k * 4)
  have f1 := hfr (k * 4 + 1)
  have f2 := hfr (k * 4 + 2)
  have k1 : (k : Int) < (ns.length : Int) := by omega
  have hp := a1.put hk y
  rw [ht] at hp
  have hpH := Lib.hid hp
  have HB := Lib.hid hb
  have HA := Lib.hid a
  have HY := Lib.hid hy
  clear a a1 ht hfr hp hb hy
  go_enter Tryz.func185, Tryz.ntmps185
  go_wp2_with (go_at_call 156; (with_reducible refine hl.out.mono ?_); rintro e w' ⟨rfl, rfl⟩)
  go_region
  all_goals
    go_wp2
    go_ret
    obtain rfl := HY.out
    have hbc : K.Chg w _ (QB Q (some ⟨g, 0, none⟩) Af) := (K.Chg.of_below HB.out).same (chg_five (w.alloc (ndo key ah be)) g (k * 4) (k * 4 + 1) (k * 4 + 2) (.int .u64 (key : Int)) (.int .i64 ah) (.int .i64 be) _ (.inr (.inl rfl)))
    exact ⟨rfl, _, cn, Af, cf, hpH.out.drew 1, hbc.drewN 1, fun j hj => .inl hj⟩
end
end Go.Proofs.YtelfacchhclgnaaGreat
end
section
namespace Go.Proofs.YtelfacchhclgnaaGreat
set_option maxRecDepth 20000
open Go.RowKit
set_option linter.unusedSectionVars false
variable [Gh]
theorem nod_le : ∀ (n : Nat) (l : List Nat), l.Nodup → (∀ x ∈ l, x < n) → l.length ≤ n
  | 0, l, _, h => by
    cases l with
    | nil => simp
    | cons x l => exact absurd (h x (by simp)) (by omega)
  | n + 1, l, hn, h => by
    by_cases hm : n ∈ l
    · have h1 := nod_le n (l.erase n) (hn.erase n) (fun x hx => by
        have h2 := h x (List.mem_of_mem_erase hx)
        have h3 : x ≠ n := fun e => by subst e; exact (List.Nodup.not_mem_erase hn) hx
        omega)
      rw [List.length_erase_of_mem hm] at h1
      omega
    · have h1 := nod_le n l hn (fun x hx => by
        have h2 := h x hx
        have h3 : x ≠ n := fun e => by subst e; exact hm hx
        omega)
      omega
section
variable {w : World} {Q M lim cn cf g : Nat} {An Af : Option Addr} {ns : List (Nd × Bool)} {fs : List Nat}
theorem Qo.fs_lt (a : Qo w Q M lim An cn Af cf ns fs) {k : Nat} (hk : k < ns.length) (ht : ns[k].2 = true) : k ∉ fs ∧ fs.length + 1 ≤ ns.length := by
  have h1 : k ∉ fs := fun hm => by
    obtain ⟨_, h⟩ := a.inr k hm
    rw [ht] at h
    cases h
  refine ⟨h1, nod_le ns.length (k :: fs) (List.nodup_cons.2 ⟨h1, a.nod⟩) fun x hx => ?_⟩
  rcases List.mem_cons.1 hx with rfl | hx
  · exact hk
  · exact (a.inr x hx).1
abbrev set6 (w : World) (g i : Nat) (y : Nd) (b : Bool) : World := (set5 w g i y).setCell ⟨g, i + 3, none⟩ (.bool b)
theorem Qo.place (a : Qo w Q M lim (some ⟨g, 0, none⟩) cn Af cf ns fs) {k : Nat} (hk : k < ns.length) (hn : k ∉ fs) (y : Nd) (b : Bool) :
    Qo (set6 w g (k * 4) y b) Q M lim (some ⟨g, 0, none⟩) cn Af cf (ns.set k (y, b)) fs := by
  have b1 : K.Chg w (set6 w g (k * 4) y b) (· = g) := (chg_set5 w g (k * 4) y (· = g) rfl).same (chg_set _ g _ _ (· = g) rfl)
  have h1 := ((own_set5 a.nodes (k * 4) y).stored (k * 4 + 3) (.bool b)).1
  rw [nv_set ns k y b hk] at h1
  have hl : (ns.set k (y, b)).length = ns.length := List.length_set ..
  refine ⟨?_, by rw [hl]; exact h1, b1.own a.freed (fun j hj e => a.ne_both rfl (own_of_map hj) e.symm), fun i hi => ?_, a.nod, a.lim_le, by rw [hl]; exact a.ns_le, by rw [hl]; exact a.fs_le⟩
  · rw [b1.block Q a.lt (fun e => a.ne_nodes rfl e.symm), a.row, hl]
  · obtain ⟨h2, h3⟩ := a.inr i hi
    refine ⟨by rw [hl]; exact h2, ?_⟩
    have hne : k ≠ i := by rintro rfl; exact hn hi
    simpa [List.getElem_set_ne hne] using h3
theorem Qo.setf (h : Qo w Q M lim An cn Af cf ns fs) {x : Value} {Af' : Option Addr} {cf' : Nat} {fs' : List Nat} {w' : World} (hrow : w'.heap[Q]? = some (.cells #[.pointer (some ⟨M, 0, none⟩), .int .i64 (lim : Int), .slice An ns.length cn, x] 148 (0, 0)))
    (hnod : w'.ownsRow 0 186 4 (.slice An ns.length cn) ns.length (nv ns)) (hown : w'.ownsRow 0 3 1 (.slice Af' fs'.length cf') fs'.length (iw fs'))
    (hin : ∀ i ∈ fs', ∃ h : i < ns.length, ns[i].2 = false) (hnd : fs'.Nodup) (hle : fs'.length ≤ ns.length) :
    Qo (w'.setCell ⟨Q, 3, none⟩ (.slice Af' fs'.length cf')) Q M lim An cn Af' cf' ns fs' := by
  have b := chg_set w' Q 3 (.slice Af' fs'.length cf') (· = Q) rfl
  refine ⟨?_, b.own hnod (fun k hk e => ?_), b.own hown (fun k hk e => ?_), hin, hnd, h.lim_le, h.ns_le, hle⟩
  · have := row_set hrow 3 (.slice Af' fs'.length cf')
    simpa using this
  · obtain ⟨_, cur, hc⟩ := own_block_lt hnod (own_of_map hk)
    exact row_ne hc hrow (by decide) e
  · obtain ⟨_, cur, hc⟩ := own_block_lt hown (own_of_map hk)
    exact row_ne hc hrow (by decide) e
end
section
variable (w : World) (Q M lim cn cf : Nat) (An Af : Option Addr) (ns : List (Nd × Bool)) (fs : List Nat)
theorem q_next_pop (i m : Nat) (a : Qo w Q M lim An cn Af cf ns (fs ++ [i])) (hm : fs.length = m) :
    Calls Tryz.prog 176 #[.pointer (some ⟨Q, 0, none⟩)] w fun e w' => e = .returned (.int .i64 (i : Int)) ∧ QStep w Q M lim An Af ns fs w' := by
  have aH := Lib.hid a
  have hl : (fs ++ [i]).length = m + 1 := by simp [hm]
  have hc3 := a.c3
  rw [hl] at hc3
  have hfr := a.fr 3
  have hfre := a.freed
  rw [hl] at hfre
  obtain ⟨g, rfl⟩ := own_some hfre (by omega)
  have hci : w.cell? ⟨g, m, none⟩ = some (.int .i64 (i : Int)) := by
    rw [hfre.cellAt m (by omega)]
    subst hm
    simp
  have hcap := own_cap hfre
  have hcut := own_cut hfre (k := m) (by omega)
  have hm1 : m + 1 ≤ 1048576 := by rw [← hl]; exact Nat.le_trans a.fs_le (Nat.le_trans a.ns_le a.lim_le)
  have hmH := Lib.hid hm
  have hcutH := Lib.hid hcut
  clear a hfre hcut hm hl
  have w1 : IntKind.i64.wrap (((m + 1 : Nat) : Int) - 1) = (m : Int) := by rw [IntWalk.i64_in _ (by omega)]; omega
  have w2 : IntKind.i64.wrap ((m : Int) + 1 - 1) = (m : Int) := by rw [IntWalk.i64_in _ (by omega)]; omega
  have g0 : decide (0 ≤ (m : Int)) = true := decide_eq_true (by omega)
  have k1 : (m : Int) < ((m + 1 : Nat) : Int) := by omega
  go_enter Tryz.func176, Tryz.ntmps176
  go_wp2
  go_ret
  have hc' : w.ownsRow 0 3 1 (.slice (some ⟨g, 0, none⟩) fs.length cf) fs.length (iw fs) := by
    have := hcutH.out
    rw [Nat.mul_one, ← hmH.out] at this
    simpa using this
  have hn := aH.out.nod
  have hp := aH.out.setf aH.out.row aH.out.nodes hc' (fun j hj => aH.out.inr j (List.mem_append_left _ hj)) (List.nodup_append.1 hn).1 (by have := aH.out.fs_le; simp at this; omega)
  rw [hmH.out] at hp
  exact ⟨rfl, An, cn, _, cf, hp, chg_set _ _ _ _ _ (.inl rfl), fun j hj => .inl hj⟩
theorem node_info : (Tryz.prog.info? 186).map (fun i => (i.zero, i.size, i.bytes)) = some (some (.agg #[.int .u64 0, .int .i64 0, .int .i64 0, .bool false]), 4, 32) := by kernel_rfl
abbrev nzo : Obj := .cells #[.int .u64 0, .int .i64 0, .int .i64 0, .bool false] 186
theorem cell_six (w : World) (a b c zl : Value) (T : TypeId) (j : Nat) (u : Value) (hu : [a, b, c, zl][j]? = some u) : (w.alloc (.cells #[a, b, c, zl] T)).cell? ((⟨w.heap.size, 0, none⟩ : Addr).add j) = some u := by
  have ea : (⟨w.heap.size, 0, none⟩ : Addr).add j = ⟨w.heap.size, j, none⟩ := by
    by_cases h : j = 0
    · subst h; rfl
    · simp [Addr.add, h]
  rw [ea, cell_of_row _ _ _ _ _ (0, 0) (K.alloc_top w (.cells #[a, b, c, zl] T))]
  simpa using hu
set_option maxHeartbeats 1000000 in
theorem q_next_new (a : Qo w Q M lim An cn Af cf ns []) (hn : ns.length < lim) :
    Calls Tryz.prog 176 #[.pointer (some ⟨Q, 0, none⟩)] w fun e w' => e = .returned (.int .i64 (ns.length : Int)) ∧ QStep w Q M lim An Af (ns ++ [(Nd.z, false)]) [] w' := by
  have aH := Lib.hid a
  obtain ⟨i0, hi, hz0, hz1, hz2⟩ := info_parts node_info
  have hc3 := a.c3
  have hc2 := a.c2
  have hnl := a.ns_le
  have hll := a.lim_le
  have hQlt := a.lt
  have hown := Lib.hid ((a.nodes).alloc nzo)
  have hrd : Hid (Reads (w.alloc nzo) (w.heap.size + 1) 4 (some ⟨w.heap.size, 0, none⟩) 1 [.int .u64 0, .int .i64 0, .int .i64 0, .bool false]) :=
    ⟨rfl, fun _ => ⟨_, rfl, by show w.heap.size < _; omega, cell_six _ _ _ _ _ _⟩⟩
  clear a
  generalize hnn : ns.length = n at *
  have hnH := Lib.hid hnn
  clear hnn
  go_enter Tryz.func176, Tryz.ntmps176
  go_wp2_with (at_builtin; refine wpList_append_any _ rfl _ _ 146 rfl 0 186 i0 _ 4 32 Tryz.underlying146 hi hz0 hz1 hz2 rfl (by decide) _ _ _ rfl hown.out (w.heap.size + 1) _ 1 1 _ rfl hrd.out ?c1 ?c2 ?c3 (Nat.zero_le _) ?_)
  case c2 => unfold maxLen; omega
  case c3 => omega
  all_goals try (case c1 => intro u hu; simp at hu; rcases hu with rfl | rfl | rfl | rfl <;> rfl)
  intro v' w1 hown' hgrow hblk
  obtain ⟨A', c', rfl⟩ := K.own_form hown'
  have hsl : (w.alloc nzo).heap.size = w.heap.size + 1 := by simp
  have b1 : K.Chg w w1 (fun j => An.map (·.block) = some j) := (chg_alloc w nzo _).grown hgrow (fun j e => .inl (own_of_map e))
  have hrow : w1.heap[Q]? = w.heap[Q]? := b1.block Q hQlt (fun e => aH.out.ne_nodes e rfl)
  have hrow2 := hrow.trans aH.out.row
  have hcP : w1.cell? ⟨Q, 2, none⟩ = some (.slice An n cn) := by
    have := cell_of_row w1 Q 2 _ _ (0, 0) hrow2
    rw [hnH.out] at this
    exact this
  have hfP : w1.frozen? ⟨Q, 2, none⟩ = false := frozen_of_row w1 Q 2 _ _ hrow2
  have hA1 : ∀ j, A'.map (·.block) = some j → An.map (·.block) = some j ∨ j = w.heap.size + 1 := by
    intro j e
    cases A' with
    | none => cases e
    | some a =>
      cases e
      rcases hblk with h | h
      · exact .inl (own_of_map h.symm)
      · right
        simp [Value.ownBlock] at h; exact h
  have hF1 : w1.ownsRow 0 3 1 (.slice Af 0 cf) 0 (iw []) := b1.own aH.out.freed (fun k hk e => aH.out.ne_both e (own_of_map hk) rfl)
  have hlen : (ns ++ [(Nd.z, false)]).length = n + 1 := by simp [hnH.out]
  have hown2 : w1.ownsRow 0 186 4 (.slice A' (ns ++ [(Nd.z, false)]).length c') (ns ++ [(Nd.z, false)]).length (nv (ns ++ [(Nd.z, false)])) := by
    rw [hlen, nv_snoc]
    exact hown'
  have hp : Qo (w1.setCell ⟨Q, 2, none⟩ (.slice A' (ns ++ [(Nd.z, false)]).length c')) Q M lim A' c' Af cf (ns ++ [(Nd.z, false)]) [] := by
    have b := chg_set w1 Q 2 (.slice A' (ns ++ [(Nd.z, false)]).length c') (· = Q) rfl
    refine ⟨?_, b.own hown2 (fun k hk e => ?_), b.own hF1 (fun k hk e => ?_), by simp, by simp, hll, by rw [hlen]; omega, by simp⟩
    · have := row_set hrow2 2 (.slice A' (ns ++ [(Nd.z, false)]).length c')
      simpa using this
    · obtain ⟨_, cur, hc⟩ := own_block_lt hown2 (own_of_map hk)
      exact row_ne hc hrow2 (by decide) e
    · obtain ⟨_, cur, hc⟩ := own_block_lt hF1 (own_of_map hk)
      exact row_ne hc hrow2 (by decide) e
  have hb2 := Lib.hid ((b1.mono (O' := QB Q An Af) (fun j h => .inr (.inl h))).same (chg_set w1 Q 2 (.slice A' (n + 1) c') (QB Q An Af) (.inl rfl)))
  rw [hlen] at hp
  have hpH := Lib.hid hp
  have hc2' := hp.c2
  rw [hlen] at hc2'
  have hA1H := Lib.hid hA1
  clear hp hown' hgrow hblk b1 hrow hrow2 hA1 hF1 hlen hown2
  have wn : IntKind.i64.wrap (((n + 1 : Nat) : Int) - 1) = (n : Int) := by rw [IntWalk.i64_in _ (by omega)]; omega
  have wn2 : IntKind.i64.wrap ((n : Int) + 1 - 1) = (n : Int) := by rw [IntWalk.i64_in _ (by omega)]; omega
  go_wp2
  go_ret
  refine ⟨rfl, A', c', Af, cf, hpH.out, hb2.out, fun j hj => ?_⟩
  rcases hj with rfl | hj | hj
  · exact .inl (.inl rfl)
  · rcases hA1H.out j hj with h | h
    · exact .inl (.inr (.inl h))
    · right; omega
  · exact .inl (.inr (.inr hj))
end
end Go.Proofs.YtelfacchhclgnaaGreat
end
section
namespace Go.Proofs.YtelfacchhclgnaaGreat
set_option maxRecDepth 20000
open Go.RowKit
set_option linter.unusedSectionVars false
variable [Gh]
theorem chg_set6 (w : World) (g i : Nat) (y : Nd) (b : Bool) (O : Nat → Prop) (h : O g) : K.Chg w (set6 w g i y b) O := (chg_set5 w g i y O h).same (chg_set _ g _ _ O h)
theorem chg_six (w : World) (g : Nat) (i0 i1 i2 i3 : Nat) (a b c zl : Value) (O : Nat → Prop) (h : O g) : K.Chg w ((((w.setCell ⟨g, i0, none⟩ a).setCell ⟨g, i1, none⟩ b).setCell ⟨g, i2, none⟩ c).setCell ⟨g, i3, none⟩ zl) O :=
  (chg_five w g i0 i1 i2 a b c O h).same (chg_set _ g _ _ O h)
theorem size_set (w : World) (p : Addr) (u : Value) : (w.setCell p u).heap.size = w.heap.size := by simp [World.setCell]
theorem QStep.from {w0 w w' : World} {Q M lim : Nat} {An Af : Option Addr} {ns' : List (Nd × Bool)} {fs' : List Nat} (hb : Below w0.heap.size w0 w) (h : QStep w Q M lim An Af ns' fs' w') : QStep w0 Q M lim An Af ns' fs' w' := by
  obtain ⟨An', cn', Af', cf', h1, h2, h3⟩ := h
  refine ⟨An', cn', Af', cf', h1, (K.Chg.of_below hb).same h2, fun j hj => ?_⟩
  rcases h3 j hj with h | h
  · exact .inl h
  · exact .inr (Nat.le_trans hb.size h)
section
variable (w : World) (Q M lim cn cf : Nat) (An Af : Option Addr) (ns : List (Nd × Bool)) (fs : List Nat)
set_option maxHeartbeats 2000000 in
theorem q_alloc_by (a : Qo w Q M lim An cn Af cf ns fs) (key : Nat) (ah : Int) (be : Int) (i : Nat) (ns' : List (Nd × Bool)) (fs' : List Nat) (hf : ns.length - fs.length < lim) (hi : i < ns'.length) (hif : i ∉ fs') 
    (hn : ∀ V, Qo V Q M lim An cn Af cf ns fs → Calls Tryz.prog 176 #[.pointer (some ⟨Q, 0, none⟩)] V fun e w' => e = .returned (.int .i64 (i : Int)) ∧ QStep V Q M lim An Af ns' fs' w') :
    Calls Tryz.prog 160 #[.pointer (some ⟨Q, 0, none⟩), ndv key ah be] w fun e w' => e = .returned (.tuple #[.int .i64 (i : Int), .bool true]) ∧ QStep w Q M lim An Af (ns'.set i (⟨key, ah, be⟩, true)) fs' w' := by
  have hb : Below w.heap.size w (w.alloc (ndo key ah be)) := (Below.refl _ w).alloc (Nat.le_refl _) _
  have a1 := a.chg (K.Chg.of_below (O := fun _ => False) hb) (fun _ _ h => h)
  have hr := Lib.hid (q_room _ Q M lim cn cf An Af ns fs a1 1)
  have d : decide ((1 : Int) ≤ (lim : Int) - ((ns.length - fs.length : Nat) : Int)) = true := decide_eq_true (by omega)
  rw [d] at hr
  have hnH := Lib.hid (fun N => hn _ (a1.drew N))
  have hqb := Lib.hid (fun j (h : QB Q An Af j) => a.qb h)
  have HB := Lib.hid hb
  have HI := Lib.hid hif
  have hrow := Lib.hid (K.alloc_top w (ndo key ah be))
  clear a a1 d hf hn hb hif
  go_enter Tryz.func160, Tryz.ntmps160
  go_wp2_with (first
    | (go_at_call 175; (with_reducible refine hr.out.mono ?_); rintro e w' ⟨rfl, N, rfl⟩)
    | (go_at_call 176; (with_reducible refine (hnH.out _).mono ?_); rintro e w1 ⟨rfl, An', cn', Af', cf', hP, hBu, hIn⟩
       have hc2 := hP.c2
       obtain ⟨g, rfl, x0, x1, x2, x3, hfr⟩ := hP.at hi
       have hrow1 := (hBu.block w.heap.size (by show w.heap.size < (w.heap.push _).size; simp) (fun h => by have := hqb.out _ h; omega)).trans hrow.out
       obtain ⟨y0, y1, y2⟩ := nd_cells hrow1
       have hPH := Lib.hid (hP.place hi HI.out ⟨key, ah, be⟩ true)
       have hBH := Lib.hid hBu
       have hIH := Lib.hid hIn
       have hf0 := hfr (i * 4)
       have hf1 := hfr (i * 4 + 1)
       have hf2 := hfr (i * 4 + 2)
       have hf3 := hfr (i * 4 + 3)
       clear hfr hP hBu hIn hrow1
       have k1 : (i : Int) < (ns'.length : Int) := (by omega)))
  go_region
  all_goals
    go_wp2
    go_ret2
    have b0 : K.Chg w w1 (QB Q An Af) := (K.Chg.of_below HB.out).same ⟨hBH.out.os, hBH.out.tape, hBH.out.output, hBH.out.size, hBH.out.block⟩
    have hs : w.heap.size ≤ (w.alloc (ndo key ah be)).heap.size := HB.out.size
    refine ⟨rfl, _, cn', Af', cf', hPH.out.drew 1, (b0.trans (chg_set6 w1 g (i * 4) ⟨key, ah, be⟩ true (· = g) rfl) (fun j e => ?_)).drewN 1, fun j hj => ?_⟩
    · subst e
      rcases hIH.out _ (.inr (.inl rfl)) with h | h
      · exact .inl h
      · exact .inr (Nat.le_trans hs h)
    · rcases hIH.out _ hj with h | h
      · exact .inl h
      · exact .inr (Nat.le_trans hs h)
/-- A place that may be taken next. -/
theorem q_alloc (a : Qo w Q M lim An cn Af cf ns fs) (key : Nat) (ah : Int) (be : Int) (hf : ns.length - fs.length < lim) :
    ∃ (i : Nat) (ns' : List (Nd × Bool)) (fs' : List Nat), (i < ns'.length) ∧ ((∃ h : i < ns.length, ns[i].2 = false) ∨ ns.length ≤ i) ∧ ns'[i]? = some (⟨key, ah, be⟩, true) ∧ (∀ j, j ≠ i → ns'[j]? = ns[j]?) ∧ ns'.length - fs'.length = ns.length - fs.length + 1 ∧ (fs = [] → i = ns.length ∧ fs' = [] ∧ ns'.length = ns.length + 1) ∧
      Calls Tryz.prog 160 #[.pointer (some ⟨Q, 0, none⟩), ndv key ah be] w fun e w' => e = .returned (.tuple #[.int .i64 (i : Int), .bool true]) ∧ QStep w Q M lim An Af ns' fs' w' := by
  have hl := a.ns_le
  have hl2 := a.lim_le
  rcases List.eq_nil_or_concat fs with rfl | ⟨f0, i, rfl⟩
  · refine ⟨ns.length, ns ++ [(⟨key, ah, be⟩, true)], [], by simp, .inr (Nat.le_refl _), by simp, fun j hj => ?_, by simp, fun _ => ⟨rfl, rfl, by simp⟩, ?_⟩
    · rcases Nat.lt_or_ge j ns.length with h | h
      · rw [List.getElem?_append_left h]
      · rw [List.getElem?_eq_none (by simp; omega), List.getElem?_eq_none h]
    · have h0 : ns.length < lim := by simpa using hf
      have := q_alloc_by w Q M lim cn cf An Af ns [] a key ah be ns.length (ns ++ [(Nd.z, false)]) [] hf (by simp) (by simp) (fun V aV => q_next_new V Q M lim cn cf An Af ns aV h0)
      have e : (ns ++ [(Nd.z, false)]).set ns.length (⟨key, ah, be⟩, true) = ns ++ [(⟨key, ah, be⟩, true)] := by
        rw [List.set_append_right _ _ (Nat.le_refl _)]
        simp
      rw [e] at this
      exact this
  · rw [List.concat_eq_append] at a hf
    obtain ⟨hi, ht⟩ := a.inr i (by simp)
    have hnd := List.nodup_append.1 a.nod
    have hfl := a.fs_le
    simp at hfl
    refine ⟨i, ns.set i (⟨key, ah, be⟩, true), f0, by simpa using hi, .inl ⟨hi, ht⟩, by simp [hi], fun j hj => by rw [List.getElem?_set_ne (Ne.symm hj)], by simp; omega, fun e => by simp at e, ?_⟩
    exact q_alloc_by w Q M lim cn cf An Af ns (f0 ++ [i]) a key ah be i ns f0 hf hi (fun hm => hnd.2.2 i hm i (by simp) rfl) (fun V aV => q_next_pop V Q M lim cn cf An Af ns f0 i f0.length aV rfl)
theorem q_alloc_no (a : Qo w Q M lim An cn Af cf ns fs) (key : Nat) (ah : Int) (be : Int) (hf : ¬ ns.length - fs.length < lim) :
    Calls Tryz.prog 160 #[.pointer (some ⟨Q, 0, none⟩), ndv key ah be] w fun e w' => e = .returned (.tuple #[.int .i64 0, .bool false]) ∧ Below w.heap.size w w' := by
  have hb : Below w.heap.size w (w.alloc (ndo key ah be)) := (Below.refl _ w).alloc (Nat.le_refl _) _
  have a1 := a.chg (K.Chg.of_below (O := fun _ => False) hb) (fun _ _ h => h)
  have hr := Lib.hid (q_room _ Q M lim cn cf An Af ns fs a1 1)
  have d : decide ((1 : Int) ≤ (lim : Int) - ((ns.length - fs.length : Nat) : Int)) = false := decide_eq_false (by omega)
  rw [d] at hr
  have HB := Lib.hid hb
  clear a a1 d hf hb
  go_enter Tryz.func160, Tryz.ntmps160
  go_wp2_with (go_at_call 175; (with_reducible refine hr.out.mono ?_); rintro e w' ⟨rfl, N, rfl⟩)
  go_ret2
  exact ⟨rfl, ⟨HB.out.os, HB.out.tape, HB.out.output, HB.out.size, HB.out.block⟩⟩
set_option maxHeartbeats 2000000 in
theorem q_free (a : Qo w Q M lim An cn Af cf ns fs) (k : Nat) (hk : k < ns.length) (ht : ns[k].2 = true) :
    Calls Tryz.prog 173 #[.pointer (some ⟨Q, 0, none⟩), .int .i64 (k : Int)] w fun e w' => e = .returned (.bool true) ∧ QStep w Q M lim An Af (ns.set k (Nd.z, false)) (fs ++ [k]) w' := by
  have hl := Lib.hid (q_live w Q M lim cn cf An Af ns fs a k)
  rw [lvq_yes hk ht] at hl
  obtain ⟨i0, hi, hz0, hz1, hz2⟩ := info_parts int_info
  obtain ⟨hkf, hfl⟩ := a.fs_lt hk ht
  have hc2 := a.c2
  have hQlt := a.lt
  obtain ⟨g, rfl, x0, x1, x2, x3, hfr⟩ := a.at hk
  have f0 := hfr (k * 4)
  have f1 := hfr (k * 4 + 1)
  have f2 := hfr (k * 4 + 2)
  have f3 := hfr (k * 4 + 3)
  have k1 : (k : Int) < (ns.length : Int) := by omega
  have hp : Qo ((((w.setCell ⟨g, k * 4, none⟩ (.int .u64 0)).setCell ⟨g, k * 4 + 1, none⟩ (.int .i64 0)).setCell ⟨g, k * 4 + 2, none⟩ (.int .i64 0)).setCell ⟨g, k * 4 + 3, none⟩ (.bool false)) Q M lim (some ⟨g, 0, none⟩) cn Af cf (ns.set k (Nd.z, false)) fs := by
    have := a.place hk hkf Nd.z false
    exact this
  have hb0 : K.Chg w ((((w.setCell ⟨g, k * 4, none⟩ (.int .u64 0)).setCell ⟨g, k * 4 + 1, none⟩ (.int .i64 0)).setCell ⟨g, k * 4 + 2, none⟩ (.int .i64 0)).setCell ⟨g, k * 4 + 3, none⟩ (.bool false)) (QB Q (some ⟨g, 0, none⟩) Af) := chg_six w g _ _ _ _ _ _ _ _ _ (.inr (.inl rfl))
  have hz : ((((w.setCell ⟨g, k * 4, none⟩ (.int .u64 0)).setCell ⟨g, k * 4 + 1, none⟩ (.int .i64 0)).setCell ⟨g, k * 4 + 2, none⟩ (.int .i64 0)).setCell ⟨g, k * 4 + 3, none⟩ (.bool false)).heap.size = w.heap.size := by simp only [size_set]
  obtain ⟨w2, hw2⟩ : ∃ w2, ((((w.setCell ⟨g, k * 4, none⟩ (.int .u64 0)).setCell ⟨g, k * 4 + 1, none⟩ (.int .i64 0)).setCell ⟨g, k * 4 + 2, none⟩ (.int .i64 0)).setCell ⟨g, k * 4 + 3, none⟩ (.bool false)) = w2 := ⟨_, rfl⟩
  rw [hw2] at hp hb0 hz
  have hc3 := hp.c3
  rw [← hw2] at hc3
  have hw2H := Lib.hid hw2
  have hown := Lib.hid (hp.freed.alloc (.cells #[.int .i64 (k : Int)] 3))
  have hrd : Hid (Reads (w2.alloc (.cells #[.int .i64 (k : Int)] 3)) (w2.heap.size + 1) 1 (some ⟨w2.heap.size, 0, none⟩) 1 [.int .i64 (k : Int)]) := by
    refine ⟨rfl, fun _ => ⟨_, rfl, by show w2.heap.size < _; omega, fun j u hu => ?_⟩⟩
    match j, hu with
    | 0, hu => simp at hu; subst hu; simp [Addr.add]
  rw [hz] at hrd
  have hB : Hid (0 ≤ (w2.alloc (.cells #[.int .i64 (k : Int)] 3)).heap.size) := Nat.zero_le _
  have hfm : fs.length ≤ 1048576 := by have := a.ns_le; have := a.lim_le; omega
  have hpH := Lib.hid hp
  have hb0H := Lib.hid hb0
  have HT := Lib.hid ht
  have HKF := Lib.hid hkf
  clear a ht hfr hp hb0 hw2 hkf
  generalize hfn : fs.length = m at *
  have hfnH := Lib.hid hfn
  clear hfn
  go_enter Tryz.func173, Tryz.ntmps173
  go_wp2_with (first
    | (go_at_call 156; (with_reducible refine hl.out.mono ?_); rintro e w' ⟨rfl, rfl⟩)
    | (at_builtin; rw [hw2H.out]; refine wpList_append_any _ rfl _ _ 76 rfl 0 3 i0 _ 1 8 Tryz.underlying76 hi hz0 hz1 hz2 rfl (by decide) _ _ _ rfl hown.out (w.heap.size + 1) _ 1 1 _ rfl hrd.out ?c1 ?c2 ?c3 hB.out ?_))
  case c2 => unfold maxLen; omega
  case c3 => omega
  all_goals try (case c1 => intro u hu; simp at hu; subst hu; rfl)
  intro v' w1 hown' hgrow hblk
  obtain ⟨A', c', rfl⟩ := K.own_form hown'
  have hsl : (w2.alloc (.cells #[.int .i64 (k : Int)] 3)).heap.size = w.heap.size + 1 := by simp [hz]
  have b1 : K.Chg w2 w1 (fun j => Af.map (·.block) = some j) := (chg_alloc w2 _ _).grown hgrow (fun j e => .inl (own_of_map e))
  have hrow2 := (b1.block Q hpH.out.lt (fun e => hpH.out.ne_freed e rfl)).trans hpH.out.row
  have hcP : w1.cell? ⟨Q, 3, none⟩ = some (.slice Af m cf) := by
    have := cell_of_row w1 Q 3 _ _ (0, 0) hrow2
    rw [hfnH.out] at this
    exact this
  have hfP : w1.frozen? ⟨Q, 3, none⟩ = false := frozen_of_row w1 Q 3 _ _ hrow2
  have hA1 : ∀ j, A'.map (·.block) = some j → Af.map (·.block) = some j ∨ j = w.heap.size + 1 := by
    intro j e
    cases A' with
    | none => cases e
    | some a =>
      cases e
      rcases hblk with h | h
      · exact .inl (own_of_map h.symm)
      · right
        simp [Value.ownBlock] at h
        show a.block = _
        omega
  have hlen : (fs ++ [k]).length = m + 1 := by simp [hfnH.out]
  have hown2 : w1.ownsRow 0 3 1 (.slice A' (fs ++ [k]).length c') (fs ++ [k]).length (iw (fs ++ [k])) := by
    rw [hlen, iw, List.map_append]
    exact hown'
  have hnod : w1.ownsRow 0 186 4 (.slice (some ⟨g, 0, none⟩) (ns.set k (Nd.z, false)).length cn) (ns.set k (Nd.z, false)).length (nv (ns.set k (Nd.z, false))) := b1.own hpH.out.nodes (fun j hj e => hpH.out.ne_both (own_of_map hj) e rfl)
  have hp : Qo (w1.setCell ⟨Q, 3, none⟩ (.slice A' (fs ++ [k]).length c')) Q M lim (some ⟨g, 0, none⟩) cn A' c' (ns.set k (Nd.z, false)) (fs ++ [k]) := by
    refine hpH.out.setf hrow2 hnod hown2 (fun i hi => ?_) (List.nodup_append.2 ⟨hpH.out.nod, by simp, fun x hx y hy e => ?_⟩) ?_
    · rcases List.mem_append.1 hi with h | h
      · exact hpH.out.inr i h
      · simp at h; subst h
        exact ⟨by simpa using hk, by simp⟩
    · simp at hy; subst hy; subst e; exact HKF.out hx
    · rw [hlen, List.length_set]; omega
  have hb2 := Lib.hid ((hb0H.out.same (b1.mono (O' := QB Q (some ⟨g, 0, none⟩) Af) (fun j h => .inr (.inr h)))).same (chg_set w1 Q 3 (.slice A' (m + 1) c') (QB Q (some ⟨g, 0, none⟩) Af) (.inl rfl)))
  rw [hlen] at hp
  have hpH2 := Lib.hid hp
  have hA1H := Lib.hid hA1
  clear hp hown' hgrow hblk b1 hrow2 hA1 hlen hown2 hnod
  go_wp2
  go_ret
  refine ⟨rfl, _, cn, A', c', hpH2.out, hb2.out, fun j hj => ?_⟩
  rcases hj with rfl | hj | hj
  · exact .inl (.inl rfl)
  · exact .inl (.inr (.inl hj))
  · rcases hA1H.out j hj with h | h
    · exact .inl (.inr (.inr h))
    · right; omega
end
end Go.Proofs.YtelfacchhclgnaaGreat
end
section
namespace Go.Proofs.YtelfacchhclgnaaGreat
set_option maxRecDepth 20000
open Go.RowKit
set_option linter.unusedSectionVars false
variable [Gh]
section
variable {P : Program}
end
abbrev pzv : Value := .agg #[.int .u64 0, .int .i64 0, .int .i64 0, .bool false]
section
variable {w : World} {Q M lim cn cf : Nat} {An Af : Option Addr} {ns : List (Nd × Bool)} {fs : List Nat} {x y : Value}
end
end Go.Proofs.YtelfacchhclgnaaGreat
end
