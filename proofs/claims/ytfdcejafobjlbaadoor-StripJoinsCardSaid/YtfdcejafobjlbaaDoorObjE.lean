
/- What one, and what all of any strips have: join's text walked. -/
import Derived.Test.YtfdcejafobjlbaaDoorObjD
import Derived.Deep.RegionHeld3
namespace Go.Proofs.YtfdcejafobjlbaaDoor
open Go.RowKit
theorem cell_heap {w w' : World} (h : w'.heap = w.heap) (a : Addr) : w'.cell? a = w.cell? a := by
  unfold World.cell?
  rw [h]
theorem arr_rep (n : Nat) : (wv (List.replicate n 0)).toArray = Array.replicate n (Value.int .u64 0) := by simp [wv]
/-- Word a of each. -/
def col (sts : List (Nat × Nat × List Nat)) (a : Nat) : List Nat := sts.map fun x => x.2.2[a]?.getD 0
theorem col_lt {w : World} {sts : List (Nat × Nat × List Nat)} (hs : ∀ x ∈ sts, St w x.1 x.2.1 x.2.2) (a : Nat) : ∀ y ∈ col sts a, y < 18446744073709551616 := by
  intro y hy
  obtain ⟨x, hx, rfl⟩ := List.mem_map.1 hy
  by_cases h : a < x.2.2.length
  · rw [List.getElem?_eq_getElem h]
    exact (hs x hx).word a h
  · rw [List.getElem?_eq_none (by omega)]; decide
theorem alk_all {sts : List (Nat × Nat × List Nat)} {n : Nat} (h0 : 0 < sts.length) (hn : ∀ x ∈ sts, x.2.2.length = n) : alk (sts.map some) = true := by
  refine alk_yes (by simpa using h0) fun k hk => ?_
  simp at hk
  have h1 := hn _ (List.getElem_mem hk)
  have h2 := hn _ (List.getElem_mem h0)
  simp [spl, h1, h2]
/-- The block c is a column of m words. -/
def Co (w : World) (c : Nat) (cs : List Nat) : Prop := w.heap[c]? = some (.cells (wv cs).toArray 56 (0, 0))
theorem Co.cell {w : World} {c : Nat} {cs : List Nat} (h : Co w c cs) (k : Nat) (hk : k < cs.length) : w.cell? ⟨c, k, none⟩ = some (.int .u64 (cs[k] : Nat)) := by
  rw [cell_of_row w c k _ _ (0, 0) h]
  simp [wv, hk]
theorem Co.fr {w : World} {c : Nat} {cs : List Nat} (h : Co w c cs) (k : Nat) : w.frozen? ⟨c, k, none⟩ = false := by
  unfold Co at h
  simp [World.frozen?, h]
theorem St.grown' {w w' : World} {s h b : Nat} {ws : List Nat} (a : St w s h ws) (g : w.grownBy w' (some b)) (h1 : s ≠ b) (h2 : h ≠ b) : St w' s h ws :=
  ⟨(g.block s a.lt.1 (by intro e; cases e; exact h1 rfl)).trans a.1, (g.block h a.lt.2 (by intro e; cases e; exact h2 rfl)).trans a.2.1, a.2.2⟩
theorem Co.store {w : World} {c : Nat} {cs : List Nat} (h : Co w c cs) (k : Nat) (y : Nat) : Co (w.setCell ⟨c, k, none⟩ (.int .u64 (y : Nat))) c (cs.set k y) := by
  unfold Co at *
  simp [World.setCell, Array.getElem?_modify, h, wv, List.map_set]
theorem Co.other {w : World} {c g : Nat} {cs : List Nat} (h : Co w c cs) (k : Nat) (u : Value) (hne : c ≠ g) : Co (w.setCell ⟨g, k, none⟩ u) c cs := (Below.heap_setCell w ⟨g, k, none⟩ u c hne).trans h
theorem St.other {w : World} {s h g : Nat} {ws : List Nat} (a : St w s h ws) (k : Nat) (u : Value) (h1 : s ≠ g) (h2 : h ≠ g) : St (w.setCell ⟨g, k, none⟩ u) s h ws := a.grown' (set_grown w g k u) h1 h2
theorem rw_of_row' {w : World} {h : Nat} {ws : List Nat} (hh : w.heap[h]? = some (.cells (wv ws).toArray 56 (0, 0))) : Rw w w.heap.size (some ⟨h, 0, none⟩) ws := fun _ =>
  ⟨h, 0, rfl, (Array.getElem?_eq_some_iff.1 hh).1, fun k hk => by
    rw [Nat.zero_add, cell_of_row w h k _ _ (0, 0) hh]
    simp [wv, hk]⟩
theorem Co.rw {w : World} {c : Nat} {cs : List Nat} (h : Co w c cs) : Rw w w.heap.size (some ⟨c, 0, none⟩) cs := rw_of_row' h
/-- What join leaves. -/
def Joined (g : List Nat → Nat) (w : World) (sts : List (Nat × Nat × List Nat)) (n : Nat) (e : Ending) (w' : World) : Prop :=
  ∃ s h us, e = .returned (.tuple #[.pointer (some ⟨s, 0, none⟩), .int .i64 0]) ∧ us.length = n ∧ (∀ a, a < n → us[a]? = some (g (col sts a))) ∧ St w' s h us ∧ w.heap.size ≤ s ∧ w.heap.size ≤ h ∧ Below w.heap.size w w'
set_option maxRecDepth 100000 in
set_option maxHeartbeats 4000000 in
theorem join_or (w : World) (A : Option Addr) (c : Nat) (sts : List (Nat × Nat × List Nat)) (n : Nat) (h0 : 0 < sts.length) (hm : sts.length ≤ 1000) (hr : Rp w w.heap.size A (sts.map some)) (hs : ∀ x ∈ sts, St w x.1 x.2.1 x.2.2) (hn : ∀ x ∈ sts, x.2.2.length = n) (hn4 : n ≤ 4096) :
    Calls Tryd.prog 52 #[.func (.func 53) #[] #[], .slice A sts.length c] w (Joined M.orAll w sts n) := by
  have hal := alike_any w w.heap.size A c (sts.map some) hr (fun s h ws e => by
    obtain ⟨x, hx, e2⟩ := List.mem_map.1 e
    cases e2
    exact hs _ hx) (by rw [List.length_map]; omega)
  rw [alk_all h0 hn, List.length_map] at hal
  have halH := Lib.hid hal
  clear hal
  obtain ⟨ti, hi, hb, hz, hsz⟩ : ∃ ti, Tryd.prog.info? 56 = some ti ∧ ti.bytes = 8 ∧ ti.zero = some (.int .u64 0) ∧ ti.size = 1 := ⟨_, rfl, rfl, rfl, rfl⟩
  have hmk : ∀ (m : Nat), m ≤ 4096 → ∀ w : World, (Instr.makeSlice 31 (.int .i64 (m : Int)) (.int .i64 (m : Int))).run Tryd.prog w = .ok (.slice (some ⟨w.heap.size, 0, none⟩) m m) (w.alloc (.cells (wv (List.replicate m 0)).toArray 56)) := by
    intro m hm w
    have := run_make (P := Tryd.prog) w 31 56 ti _ (by kernel_rfl) hi hz .i64 .i64 (m : Int) (m : Int) (by omega) (by omega) (by rw [hb]; omega) (by omega)
    rw [← made_zero]
    simpa [hsz, Value.cells] using this
  have hmk1 := hmk n hn4
  have hmk2 := hmk sts.length (by omega)
  clear hmk hi hb hz hsz
  obtain ⟨b, off, rfl, hbl, hc⟩ := hr (by intro e; rw [List.map_eq_nil_iff] at e; subst e; simp at h0)
  have hcell : Hid (∀ k (hk : k < sts.length), w.cell? ⟨b, off + k, none⟩ = some (.pointer (some ⟨sts[k].1, 0, none⟩))) := fun k hk => by
    have := hc k (by rw [List.length_map]; exact hk)
    rw [this]; simp [spv]
  have hc0 := hcell.out 0 h0
  rw [Nat.add_zero] at hc0
  have hs0 := (hs _ (List.getElem_mem h0)).head
  have hl0 := hn _ (List.getElem_mem h0)
  rw [hl0] at hs0
  have hsH := Lib.hid hs
  have hnH := Lib.hid hn
  clear hr hc hs hn hl0
  generalize sts[0].1 = s0 at *
  generalize sts[0].2.1 = h00 at *
  obtain ⟨m, hmm⟩ : ∃ m, sts.length = m := ⟨_, rfl⟩
  rw [hmm] at h0 hm hmk2 halH ⊢
  have hmH := Lib.hid hmm
  clear hmm
  have k0 : (0 : Int) < (m : Int) := by omega
  go_enter Tryd.func52, Tryd.ntmps52
  go_wp2_with (go_at_call 70; (with_reducible refine halH.out.mono ?_); rintro e w1 ⟨rfl, hN⟩; have e1 : w1.heap = w.heap := (by obtain ⟨q, rfl⟩ := hN; rfl); have hB1 : Hid (Below w.heap.size w w1) := (by obtain ⟨q, rfl⟩ := hN; exact ⟨rfl, rfl, rfl, Nat.le_refl _, fun _ _ => rfl⟩); have hc1 := (hB1.out.cell (p := ⟨b, off, none⟩) hbl).trans hc0; have hs1 := (cell_heap e1 ⟨s0, 0, none⟩).trans hs0; have hz1 : Hid (w1.heap.size = w.heap.size) := (by show _ = _; rw [e1]); clear hN e1 hc0 hs0)
  obtain ⟨B1, hB1e⟩ : ∃ B1, w1.heap.size = B1 := ⟨_, rfl⟩
  have hz1' : B1 = w.heap.size := hB1e.symm.trans hz1.out
  obtain ⟨w2, hw2⟩ : ∃ w2, ((w1.alloc (.cells (Array.replicate n (Value.int .u64 0)) 56)).alloc (.cells #[.slice (some ⟨w1.heap.size, 0, none⟩) n n] 65)).alloc (.cells (Array.replicate m (Value.int .u64 0)) 56) = w2 := ⟨_, rfl⟩
  have hB2 : Hid (Below w.heap.size w w2) := by
    rw [← hw2]
    exact ((hB1.out.alloc (by rw [hz1.out]; exact Nat.le_refl _) _).alloc (by simp [hz1.out]) _).alloc (by simp [hz1.out]; omega) _
  have hS2 : Hid (St w2 (B1 + 1) B1 (List.replicate n 0)) := by
    refine ⟨?_, ?_, ?_, by rw [List.length_replicate]; exact hn4⟩
    · rw [List.length_replicate, ← hw2, Below.heap_alloc _ _ _ (by simp; omega)]
      rw [hB1e]
      exact alloc_top _ _ (by simp [hB1e])
    · rw [arr_rep, ← hw2, Below.heap_alloc _ _ _ (by simp; omega), Below.heap_alloc _ _ _ (by simp; omega)]
      exact alloc_top _ _ hB1e.symm
    · intro x hx
      rw [List.eq_of_mem_replicate hx]; decide
  have hC2 : Hid (Co w2 (B1 + 1 + 1) (List.replicate m 0)) := by
    show Co _ _ _
    unfold Co
    rw [arr_rep, ← hw2]
    exact alloc_top _ _ (by simp [hB1e])
  rw [hw2, hB1e]
  have hzl : w.heap.size ≤ B1 := by omega
  have hzg : B1 ≤ w.heap.size := by omega
  clear hw2 hB1e hmk1 hmk2 hB1 hc1 hs1 hz1 halH hz1'
  go_loopw [32] (fun u wr => ∃ (k : Nat) (us cs : List Nat), k ≤ n ∧ u = .int .i64 k ∧ us.length = n ∧ cs.length = m ∧ Hid (St wr (B1 + 1) B1 us) ∧ Hid (Co wr (B1 + 1 + 1) cs) ∧ Hid (Below w.heap.size w wr) ∧ Hid (∀ a, a < k → us[a]? = some (M.orAll (col sts a)))) (fun u _ => n - (intOf u).toNat)
  case atStart => exact ⟨0, List.replicate n 0, List.replicate m 0, by omega, rfl, List.length_replicate, List.length_replicate, hS2.out, hC2.out, hB2.out, fun a h => absurd h (by omega)⟩
  case round =>
    obtain ⟨k, us, cs, hk, rfl, hul, hcl, hS, hC, hB, hD⟩ := hrel
    by_cases hlt : k < n
    · have hT : decide ((k : Int) < (n : Int)) = true := decide_eq_true (by omega)
      have hulH := Lib.hid hul
      clear hul
      go_wp2
      go_loopw [37] (fun u wi => ∃ (i : Nat) (ds : List Nat), i ≤ m ∧ u = .int .i64 i ∧ ds.length = m ∧ Hid (St wi (B1 + 1) B1 us) ∧ Hid (Co wi (B1 + 1 + 1) ds) ∧ Hid (Below w.heap.size w wi) ∧ Hid (∀ j, j < i → ds[j]? = (col sts k)[j]?)) (fun u _ => m - (intOf u).toNat)
      case atStart => exact ⟨0, cs, by omega, rfl, hcl, hS.out, hC.out, hB.out, fun j h => absurd h (by omega)⟩
      case round =>
        obtain ⟨i, ds, hi, rfl, hdl, hS3, hC3, hB3, hE⟩ := hrel
        by_cases hli : i < m
        · have hT2 : decide ((i : Int) < (m : Int)) = true := decide_eq_true (by omega)
          have hilen : i < sts.length := by rw [hmH.out]; exact hli
          have hp := (hB3.out.cell (p := ⟨b, off + i, none⟩) hbl).trans (hcell.out i hilen)
          have hst := hsH.out _ (List.getElem_mem hilen)
          have hst2 := hst.below hB3.out hst.lt.1 hst.lt.2
          have hnn := hnH.out _ (List.getElem_mem hilen)
          have hhd := hst2.head
          have hwd := hst2.cell k (by rw [hnn]; exact hlt)
          rw [hnn] at hhd
          have hcw := hC3.out.cell i (by rw [hdl]; exact hli)
          have hcf := hC3.out.fr i
          have hcol : Hid ((col sts k)[i]? = some (sts[i].2.2[k]'(by rw [hnn]; exact hlt))) := by
            show _ = _
            unfold col
            rw [List.getElem?_map, List.getElem?_eq_getElem hilen, Option.map_some, List.getElem?_eq_getElem (by rw [hnn]; exact hlt), Option.getD_some]
          have hdlH := Lib.hid hdl
          generalize ds[i]'_ = d0 at *
          clear hst hst2 hdl
          generalize sts[i].2.2[k]'_ = y at *
          clear hnn
          generalize sts[i].1 = si at *
          generalize sts[i].2.1 = hi' at *
          have hS4 : Hid (St (wr.setCell ⟨B1 + 1 + 1, i, none⟩ (.int .u64 (y : Nat))) (B1 + 1) B1 us) := hS3.out.other i _ (by omega) (by omega)
          have hC4 := Lib.hid (hC3.out.store i y)
          have hB4 : Hid (Below w.heap.size w (wr.setCell ⟨B1 + 1 + 1, i, none⟩ (.int .u64 (y : Nat)))) := hB3.out.setCell (p := ⟨B1 + 1 + 1, i, none⟩) (by show _ ≤ B1 + 1 + 1; omega) _
          have hE4 : Hid (∀ j, j < i + 1 → (ds.set i y)[j]? = (col sts k)[j]?) := fun j hj => by
            rw [List.getElem?_set]
            by_cases e : i = j
            · subst e
              rw [if_pos rfl, if_pos (by rw [hdlH.out]; exact hli)]
              exact hcol.out.symm
            · rw [if_neg e]
              exact hE.out j (by omega)
          have k1 : (k : Int) < (n : Int) := by omega
          have i1 : (i : Int) < (m : Int) := by omega
          go_wp2
          go_roundw
          case rel => exact ⟨i + 1, _, by omega, by go_num, by rw [List.length_set]; exact hdlH.out, hS4.out, hC4.out, hB4.out, hE4.out⟩
          case measure => simp [intOf]; omega
        · obtain rfl : i = m := by omega
          have hT2 : decide ((i : Int) < (i : Int)) = false := decide_eq_false (by omega)
          have hcolE : ds = col sts k := by
            apply List.ext_getElem?
            intro j
            by_cases hj : j < i
            · exact hE.out j hj
            · rw [List.getElem?_eq_none (by omega), List.getElem?_eq_none (by unfold col; rw [List.length_map, hmH.out]; omega)]
          have hlt2 := col_lt hsH.out k
          rw [← hcolE] at hlt2
          have hfc : ∀ N, Hid (Calls Tryd.prog 53 #[.slice (some ⟨B1 + 1 + 1, 0, none⟩) i i] (wr.drewN N) fun e w' => e = .returned (.int .u64 (M.orAll ds : Nat)) ∧ ∃ M, w' = (wr.drewN N).drewN M) := fun N => by
            have := bit_any (some ⟨B1 + 1 + 1, 0, none⟩) i ds (wr.drewN N) _ (hC3.out.rw.drew N) hlt2 (by omega)
            rw [hdl] at this
            exact this.mono (by rintro e w2 ⟨rfl, rfl⟩; exact ⟨rfl, 0, rfl⟩)
          have hglt : M.orAll ds < 18446744073709551616 := M.orAll_lt hlt2
          have hgE : Hid (M.orAll ds = M.orAll (col sts k)) := by show _ = _; rw [hcolE]
          have hlu : k < us.length := by rw [hulH.out]; exact hlt
          have hhd := hS3.out.head
          rw [hulH.out] at hhd
          have hwd := hS3.out.cell k hlu
          have hfr := hS3.out.frozen k
          have hdlH := Lib.hid hdl
          have hlt2H := Lib.hid hlt2
          clear hlt2 hcolE hdl
          generalize us[k] = y0 at *
          generalize M.orAll ds = r at *
          have hS4 : Hid (∀ N, St ((wr.drewN N).setCell ⟨B1, k, none⟩ (.int .u64 (r : Nat))) (B1 + 1) B1 (us.set k r)) := fun N => (hS3.out.drew N).store k r hglt
          have hC4 : Hid (∀ N, Co ((wr.drewN N).setCell ⟨B1, k, none⟩ (.int .u64 (r : Nat))) (B1 + 1 + 1) ds) := fun N => Co.other (w := wr.drewN N) hC3.out k _ (by omega)
          have hB4 : Hid (∀ N M, Below w.heap.size w (((wr.drewN N).setCell ⟨B1, k, none⟩ (.int .u64 (r : Nat))).drewN M)) := fun N M => below_drewN (Below.setCell (p := ⟨B1, k, none⟩) (below_drewN hB3.out N) (by show _ ≤ B1; omega) _) M
          have hD4 : Hid (∀ a, a < k + 1 → (us.set k r)[a]? = some (M.orAll (col sts a))) := fun a ha => by
            rw [List.getElem?_set]
            by_cases e : k = a
            · subst e
              rw [if_pos rfl, if_pos hlu, hgE.out]
            · rw [if_neg e]
              exact hD.out a (by omega)
          have hcs : ∀ N, ((wr.drewN N).setCell ⟨B1, k, none⟩ (.int .u64 (r : Nat))).cell? ⟨B1 + 1, 0, none⟩ = some (.slice (some ⟨B1, 0, none⟩) n n) := fun N => by
            have := (hS4.out N).head
            rwa [List.length_set, hulH.out] at this
          have hfs : ∀ N, ((wr.drewN N).setCell ⟨B1, k, none⟩ (.int .u64 (r : Nat))).frozen? ⟨B1, k, none⟩ = false := fun N => (hS4.out N).frozen k
          have k1 : (k : Int) < (n : Int) := by omega
          have k0' : 0 ≤ (k : Int) := by omega
          have k2 : (k : Int).toNat = k := by omega
          have wk : IntKind.i64.wrap (k : Int) = (k : Int) := IntWalk.i64_in _ (by omega)
          go_wp2_with (go_at_call 53; (with_reducible refine (hfc _).out.mono ?_); rintro e w' ⟨rfl, N2, rfl⟩)
          go_region_held3 (fun w' => w'.cell? ⟨B1 + 1, 0, none⟩ = some (.slice (some ⟨B1, 0, none⟩) n n) ∧ w'.frozen? ⟨B1, k, none⟩ = false) (first | exact ⟨hcs _, hfs _⟩ | go_keep)
            ((go_at_call 53; refine (hfc _).out.mono ?_; rintro e w' ⟨rfl, N2, rfl⟩))
          all_goals
            go_wp2
            go_roundw
            case rel => exact ⟨k + 1, _, ds, by omega, by go_num, by rw [List.length_set]; exact hulH.out, hdlH.out, hS4.out _, hC4.out _, hB4.out _ 0, hD4.out⟩
            case measure => simp [intOf]; omega
    · obtain rfl : k = n := by omega
      have hT : decide ((k : Int) < (k : Int)) = false := decide_eq_false (by omega)
      have hulH := Lib.hid hul
      clear hul
      go_wp2
      go_ret2
      exact ⟨B1 + 1, B1, us, rfl, hulH.out, hD.out, hS.out, by omega, by omega, hB.out⟩
set_option maxRecDepth 100000 in
set_option maxHeartbeats 4000000 in
theorem join_and (w : World) (A : Option Addr) (c : Nat) (sts : List (Nat × Nat × List Nat)) (n : Nat) (h0 : 0 < sts.length) (hm : sts.length ≤ 1000) (hr : Rp w w.heap.size A (sts.map some)) (hs : ∀ x ∈ sts, St w x.1 x.2.1 x.2.2) (hn : ∀ x ∈ sts, x.2.2.length = n) (hn4 : n ≤ 4096) :
    Calls Tryd.prog 52 #[.func (.func 54) #[] #[], .slice A sts.length c] w (Joined M.andAll w sts n) := by
  have hal := alike_any w w.heap.size A c (sts.map some) hr (fun s h ws e => by
    obtain ⟨x, hx, e2⟩ := List.mem_map.1 e
    cases e2
    exact hs _ hx) (by rw [List.length_map]; omega)
  rw [alk_all h0 hn, List.length_map] at hal
  have halH := Lib.hid hal
  clear hal
  obtain ⟨ti, hi, hb, hz, hsz⟩ : ∃ ti, Tryd.prog.info? 56 = some ti ∧ ti.bytes = 8 ∧ ti.zero = some (.int .u64 0) ∧ ti.size = 1 := ⟨_, rfl, rfl, rfl, rfl⟩
  have hmk : ∀ (m : Nat), m ≤ 4096 → ∀ w : World, (Instr.makeSlice 31 (.int .i64 (m : Int)) (.int .i64 (m : Int))).run Tryd.prog w = .ok (.slice (some ⟨w.heap.size, 0, none⟩) m m) (w.alloc (.cells (wv (List.replicate m 0)).toArray 56)) := by
    intro m hm w
    have := run_make (P := Tryd.prog) w 31 56 ti _ (by kernel_rfl) hi hz .i64 .i64 (m : Int) (m : Int) (by omega) (by omega) (by rw [hb]; omega) (by omega)
    rw [← made_zero]
    simpa [hsz, Value.cells] using this
  have hmk1 := hmk n hn4
  have hmk2 := hmk sts.length (by omega)
  clear hmk hi hb hz hsz
  obtain ⟨b, off, rfl, hbl, hc⟩ := hr (by intro e; rw [List.map_eq_nil_iff] at e; subst e; simp at h0)
  have hcell : Hid (∀ k (hk : k < sts.length), w.cell? ⟨b, off + k, none⟩ = some (.pointer (some ⟨sts[k].1, 0, none⟩))) := fun k hk => by
    have := hc k (by rw [List.length_map]; exact hk)
    rw [this]; simp [spv]
  have hc0 := hcell.out 0 h0
  rw [Nat.add_zero] at hc0
  have hs0 := (hs _ (List.getElem_mem h0)).head
  have hl0 := hn _ (List.getElem_mem h0)
  rw [hl0] at hs0
  have hsH := Lib.hid hs
  have hnH := Lib.hid hn
  clear hr hc hs hn hl0
  generalize sts[0].1 = s0 at *
  generalize sts[0].2.1 = h00 at *
  obtain ⟨m, hmm⟩ : ∃ m, sts.length = m := ⟨_, rfl⟩
  rw [hmm] at h0 hm hmk2 halH ⊢
  have hmH := Lib.hid hmm
  clear hmm
  have k0 : (0 : Int) < (m : Int) := by omega
  go_enter Tryd.func52, Tryd.ntmps52
  go_wp2_with (go_at_call 70; (with_reducible refine halH.out.mono ?_); rintro e w1 ⟨rfl, hN⟩; have e1 : w1.heap = w.heap := (by obtain ⟨q, rfl⟩ := hN; rfl); have hB1 : Hid (Below w.heap.size w w1) := (by obtain ⟨q, rfl⟩ := hN; exact ⟨rfl, rfl, rfl, Nat.le_refl _, fun _ _ => rfl⟩); have hc1 := (hB1.out.cell (p := ⟨b, off, none⟩) hbl).trans hc0; have hs1 := (cell_heap e1 ⟨s0, 0, none⟩).trans hs0; have hz1 : Hid (w1.heap.size = w.heap.size) := (by show _ = _; rw [e1]); clear hN e1 hc0 hs0)
  obtain ⟨B1, hB1e⟩ : ∃ B1, w1.heap.size = B1 := ⟨_, rfl⟩
  have hz1' : B1 = w.heap.size := hB1e.symm.trans hz1.out
  obtain ⟨w2, hw2⟩ : ∃ w2, ((w1.alloc (.cells (Array.replicate n (Value.int .u64 0)) 56)).alloc (.cells #[.slice (some ⟨w1.heap.size, 0, none⟩) n n] 65)).alloc (.cells (Array.replicate m (Value.int .u64 0)) 56) = w2 := ⟨_, rfl⟩
  have hB2 : Hid (Below w.heap.size w w2) := by
    rw [← hw2]
    exact ((hB1.out.alloc (by rw [hz1.out]; exact Nat.le_refl _) _).alloc (by simp [hz1.out]) _).alloc (by simp [hz1.out]; omega) _
  have hS2 : Hid (St w2 (B1 + 1) B1 (List.replicate n 0)) := by
    refine ⟨?_, ?_, ?_, by rw [List.length_replicate]; exact hn4⟩
    · rw [List.length_replicate, ← hw2, Below.heap_alloc _ _ _ (by simp; omega)]
      rw [hB1e]
      exact alloc_top _ _ (by simp [hB1e])
    · rw [arr_rep, ← hw2, Below.heap_alloc _ _ _ (by simp; omega), Below.heap_alloc _ _ _ (by simp; omega)]
      exact alloc_top _ _ hB1e.symm
    · intro x hx
      rw [List.eq_of_mem_replicate hx]; decide
  have hC2 : Hid (Co w2 (B1 + 1 + 1) (List.replicate m 0)) := by
    show Co _ _ _
    unfold Co
    rw [arr_rep, ← hw2]
    exact alloc_top _ _ (by simp [hB1e])
  rw [hw2, hB1e]
  have hzl : w.heap.size ≤ B1 := by omega
  have hzg : B1 ≤ w.heap.size := by omega
  clear hw2 hB1e hmk1 hmk2 hB1 hc1 hs1 hz1 halH hz1'
  go_loopw [32] (fun u wr => ∃ (k : Nat) (us cs : List Nat), k ≤ n ∧ u = .int .i64 k ∧ us.length = n ∧ cs.length = m ∧ Hid (St wr (B1 + 1) B1 us) ∧ Hid (Co wr (B1 + 1 + 1) cs) ∧ Hid (Below w.heap.size w wr) ∧ Hid (∀ a, a < k → us[a]? = some (M.andAll (col sts a)))) (fun u _ => n - (intOf u).toNat)
  case atStart => exact ⟨0, List.replicate n 0, List.replicate m 0, by omega, rfl, List.length_replicate, List.length_replicate, hS2.out, hC2.out, hB2.out, fun a h => absurd h (by omega)⟩
  case round =>
    obtain ⟨k, us, cs, hk, rfl, hul, hcl, hS, hC, hB, hD⟩ := hrel
    by_cases hlt : k < n
    · have hT : decide ((k : Int) < (n : Int)) = true := decide_eq_true (by omega)
      have hulH := Lib.hid hul
      clear hul
      go_wp2
      go_loopw [37] (fun u wi => ∃ (i : Nat) (ds : List Nat), i ≤ m ∧ u = .int .i64 i ∧ ds.length = m ∧ Hid (St wi (B1 + 1) B1 us) ∧ Hid (Co wi (B1 + 1 + 1) ds) ∧ Hid (Below w.heap.size w wi) ∧ Hid (∀ j, j < i → ds[j]? = (col sts k)[j]?)) (fun u _ => m - (intOf u).toNat)
      case atStart => exact ⟨0, cs, by omega, rfl, hcl, hS.out, hC.out, hB.out, fun j h => absurd h (by omega)⟩
      case round =>
        obtain ⟨i, ds, hi, rfl, hdl, hS3, hC3, hB3, hE⟩ := hrel
        by_cases hli : i < m
        · have hT2 : decide ((i : Int) < (m : Int)) = true := decide_eq_true (by omega)
          have hilen : i < sts.length := by rw [hmH.out]; exact hli
          have hp := (hB3.out.cell (p := ⟨b, off + i, none⟩) hbl).trans (hcell.out i hilen)
          have hst := hsH.out _ (List.getElem_mem hilen)
          have hst2 := hst.below hB3.out hst.lt.1 hst.lt.2
          have hnn := hnH.out _ (List.getElem_mem hilen)
          have hhd := hst2.head
          have hwd := hst2.cell k (by rw [hnn]; exact hlt)
          rw [hnn] at hhd
          have hcw := hC3.out.cell i (by rw [hdl]; exact hli)
          have hcf := hC3.out.fr i
          have hcol : Hid ((col sts k)[i]? = some (sts[i].2.2[k]'(by rw [hnn]; exact hlt))) := by
            show _ = _
            unfold col
            rw [List.getElem?_map, List.getElem?_eq_getElem hilen, Option.map_some, List.getElem?_eq_getElem (by rw [hnn]; exact hlt), Option.getD_some]
          have hdlH := Lib.hid hdl
          generalize ds[i]'_ = d0 at *
          clear hst hst2 hdl
          generalize sts[i].2.2[k]'_ = y at *
          clear hnn
          generalize sts[i].1 = si at *
          generalize sts[i].2.1 = hi' at *
          have hS4 : Hid (St (wr.setCell ⟨B1 + 1 + 1, i, none⟩ (.int .u64 (y : Nat))) (B1 + 1) B1 us) := hS3.out.other i _ (by omega) (by omega)
          have hC4 := Lib.hid (hC3.out.store i y)
          have hB4 : Hid (Below w.heap.size w (wr.setCell ⟨B1 + 1 + 1, i, none⟩ (.int .u64 (y : Nat)))) := hB3.out.setCell (p := ⟨B1 + 1 + 1, i, none⟩) (by show _ ≤ B1 + 1 + 1; omega) _
          have hE4 : Hid (∀ j, j < i + 1 → (ds.set i y)[j]? = (col sts k)[j]?) := fun j hj => by
            rw [List.getElem?_set]
            by_cases e : i = j
            · subst e
              rw [if_pos rfl, if_pos (by rw [hdlH.out]; exact hli)]
              exact hcol.out.symm
            · rw [if_neg e]
              exact hE.out j (by omega)
          have k1 : (k : Int) < (n : Int) := by omega
          have i1 : (i : Int) < (m : Int) := by omega
          go_wp2
          go_roundw
          case rel => exact ⟨i + 1, _, by omega, by go_num, by rw [List.length_set]; exact hdlH.out, hS4.out, hC4.out, hB4.out, hE4.out⟩
          case measure => simp [intOf]; omega
        · obtain rfl : i = m := by omega
          have hT2 : decide ((i : Int) < (i : Int)) = false := decide_eq_false (by omega)
          have hcolE : ds = col sts k := by
            apply List.ext_getElem?
            intro j
            by_cases hj : j < i
            · exact hE.out j hj
            · rw [List.getElem?_eq_none (by omega), List.getElem?_eq_none (by unfold col; rw [List.length_map, hmH.out]; omega)]
          have hlt2 := col_lt hsH.out k
          rw [← hcolE] at hlt2
          have hfc : ∀ N, Hid (Calls Tryd.prog 54 #[.slice (some ⟨B1 + 1 + 1, 0, none⟩) i i] (wr.drewN N) fun e w' => e = .returned (.int .u64 (M.andAll ds : Nat)) ∧ ∃ M, w' = (wr.drewN N).drewN M) := fun N => by
            have := bit_all (some ⟨B1 + 1 + 1, 0, none⟩) i ds (wr.drewN N) _ (hC3.out.rw.drew N) hlt2 (by omega)
            rw [hdl] at this
            exact this
          have hglt : M.andAll ds < 18446744073709551616 := M.andAll_lt ds
          have hgE : Hid (M.andAll ds = M.andAll (col sts k)) := by show _ = _; rw [hcolE]
          have hlu : k < us.length := by rw [hulH.out]; exact hlt
          have hhd := hS3.out.head
          rw [hulH.out] at hhd
          have hwd := hS3.out.cell k hlu
          have hfr := hS3.out.frozen k
          have hdlH := Lib.hid hdl
          have hlt2H := Lib.hid hlt2
          clear hlt2 hcolE hdl
          generalize us[k] = y0 at *
          generalize M.andAll ds = r at *
          have hS4 : Hid (∀ N, St ((wr.drewN N).setCell ⟨B1, k, none⟩ (.int .u64 (r : Nat))) (B1 + 1) B1 (us.set k r)) := fun N => (hS3.out.drew N).store k r hglt
          have hC4 : Hid (∀ N, Co ((wr.drewN N).setCell ⟨B1, k, none⟩ (.int .u64 (r : Nat))) (B1 + 1 + 1) ds) := fun N => Co.other (w := wr.drewN N) hC3.out k _ (by omega)
          have hB4 : Hid (∀ N M, Below w.heap.size w (((wr.drewN N).setCell ⟨B1, k, none⟩ (.int .u64 (r : Nat))).drewN M)) := fun N M => below_drewN (Below.setCell (p := ⟨B1, k, none⟩) (below_drewN hB3.out N) (by show _ ≤ B1; omega) _) M
          have hD4 : Hid (∀ a, a < k + 1 → (us.set k r)[a]? = some (M.andAll (col sts a))) := fun a ha => by
            rw [List.getElem?_set]
            by_cases e : k = a
            · subst e
              rw [if_pos rfl, if_pos hlu, hgE.out]
            · rw [if_neg e]
              exact hD.out a (by omega)
          have hcs : ∀ N, ((wr.drewN N).setCell ⟨B1, k, none⟩ (.int .u64 (r : Nat))).cell? ⟨B1 + 1, 0, none⟩ = some (.slice (some ⟨B1, 0, none⟩) n n) := fun N => by
            have := (hS4.out N).head
            rwa [List.length_set, hulH.out] at this
          have hfs : ∀ N, ((wr.drewN N).setCell ⟨B1, k, none⟩ (.int .u64 (r : Nat))).frozen? ⟨B1, k, none⟩ = false := fun N => (hS4.out N).frozen k
          have k1 : (k : Int) < (n : Int) := by omega
          have k0' : 0 ≤ (k : Int) := by omega
          have k2 : (k : Int).toNat = k := by omega
          have wk : IntKind.i64.wrap (k : Int) = (k : Int) := IntWalk.i64_in _ (by omega)
          go_wp2_with (go_at_call 54; (with_reducible refine (hfc _).out.mono ?_); rintro e w' ⟨rfl, N2, rfl⟩)
          go_region_held3 (fun w' => w'.cell? ⟨B1 + 1, 0, none⟩ = some (.slice (some ⟨B1, 0, none⟩) n n) ∧ w'.frozen? ⟨B1, k, none⟩ = false) (first | exact ⟨hcs _, hfs _⟩ | go_keep)
            ((go_at_call 54; refine (hfc _).out.mono ?_; rintro e w' ⟨rfl, N2, rfl⟩))
          all_goals
            go_wp2
            go_roundw
            case rel => exact ⟨k + 1, _, ds, by omega, by go_num, by rw [List.length_set]; exact hulH.out, hdlH.out, hS4.out _, hC4.out _, hB4.out _ 0, hD4.out⟩
            case measure => simp [intOf]; omega
    · obtain rfl : k = n := by omega
      have hT : decide ((k : Int) < (k : Int)) = false := decide_eq_false (by omega)
      have hulH := Lib.hid hul
      clear hul
      go_wp2
      go_ret2
      exact ⟨B1 + 1, B1, us, rfl, hulH.out, hD.out, hS.out, by omega, by omega, hB.out⟩
theorem join_no (w : World) (f : Value) (A : Option Addr) (c : Nat) (ps : List Sp) (hr : Rp w w.heap.size A ps) (hs : Sts w ps) (hl : ps.length ≤ 1000) (ha : alk ps = false) :
    Calls Tryd.prog 52 #[f, .slice A ps.length c] w fun e w' => e = .returned (.tuple #[.pointer none, .int .i64 1]) ∧ ∃ n, w' = w.drewN n := by
  have h := alike_any w w.heap.size A c ps hr hs (by omega)
  rw [ha] at h
  have hH := Lib.hid h
  clear h hr hs ha
  go_enter Tryd.func52, Tryd.ntmps52
  go_wp2_with (go_at_call 70; (with_reducible refine hH.out.mono ?_); rintro e w' ⟨rfl, N, rfl⟩)
  go_ret2
  exact ⟨rfl, _, rfl⟩
end Go.Proofs.YtfdcejafobjlbaaDoor
