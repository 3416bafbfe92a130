
/- A key is put into its nodes; the text walked. -/
import Derived.Test.YtndielncleohlaaDoorU7
import Derived.Test.YtndielncleohlaaDoorT5
import Derived.Deep.RegionHeld3
namespace Go.Proofs.YtndielncleohlaaDoor
set_option maxRecDepth 40000
open Go.RowKit
def GrowP (w : World) (P Q m0 lim tk : Nat) (An Af : Option Addr) (ns : List (Nd × Bool)) (ys : List Nat) (e : Ending) (w' : World) : Prop :=
  e = .returned (.tuple #[]) ∧ ∃ An' cn' Af' cf' ns' fs' root' pl', TW w' P Q m0 lim tk An' cn' Af' cf' ns' fs' root' pl' ys ∧ K.Chg w w' (TBk P Q m0 An Af ns) ∧ ∀ b, TBk P Q m0 An' Af' ns' b → TBk P Q m0 An Af ns b ∨ w.heap.size ≤ b
theorem tb_types {w : World} {P Q m0 lim tk root cn cf : Nat} {An Af : Option Addr} {ns : List (Nd × Bool)} {fs xs : List Nat} {pl : Nat → Nat → Nat} (h : TW w P Q m0 lim tk An cn Af cf ns fs root pl xs) {j : Nat} (hj : TBk P Q m0 An Af ns j) : j < w.heap.size ∧ ∃ cur T, w.heap[j]? = some (.cells cur T (0, 0)) ∧ T ≠ 99 ∧ T ≠ 30 := by
  rcases hj with rfl | rfl | (rfl | hj | hj) | ⟨i, hi, hj⟩
  · exact ⟨row_lt h.row, _, _, h.row, by decide, by decide⟩
  · obtain ⟨r, c, s, p, hr⟩ := h.mx
    exact ⟨row_lt hr, _, _, hr, by decide, by decide⟩
  · exact ⟨h.po.lt, _, _, h.po.row, by decide, by decide⟩
  · obtain ⟨h1, cur, hc⟩ := own_block_lt h.po.nodes hj
    exact ⟨h1, cur, _, hc, by decide, by decide⟩
  · obtain ⟨h1, cur, hc⟩ := own_block_lt h.po.freed hj
    exact ⟨h1, cur, _, hc, by decide, by decide⟩
  · obtain ⟨h1, cur, hc⟩ := own_block_lt (h.kids.own i hi) hj
    exact ⟨h1, cur, _, hc, by decide, by decide⟩
theorem way_apart {w : World} {P Q m0 lim tk root cn cf : Nat} {An Af : Option Addr} {ns : List (Nd × Bool)} {fs xs : List Nat} {pl : Nat → Nat → Nat} (h : TW w P Q m0 lim tk An cn Af cf ns fs root pl xs) {B m cw : Nat} {Aw : Option Addr} {vs : List Value} (hw : w.ownsRow B 99 6 (.slice Aw m cw) m vs) {b : Nat} (hb : Aw.map (·.block) = some b) : ¬ TBk P Q m0 An Af ns b := fun ht => by
  obtain ⟨_, cur, T, hr, hT, _⟩ := tb_types h ht
  obtain ⟨_, cur', hr'⟩ := own_block_lt hw hb
  exact row_ne hr hr' hT rfl
/-- How it begins. -/
theorem GS.start {w : World} {P Q m0 lim tk root cn cf k : Nat} {An Af : Option Addr} {ns : List (Nd × Bool)} {fs xs : List Nat} {pl : Nat → Nat → Nat} (h : TW w P Q m0 lim tk An cn Af cf ns fs root pl xs) : GS w w P Q m0 lim tk root xs k (T.wl xs k) 11 (TBk P Q m0 An Af ns) ns pl An cn Af cf ns fs pl := by
  have hm := T.wl_le xs k
  refine ⟨h.row, h.mx, h.po, h.kids, h.tr.start, by rw [h.used]; omega, fun _ _ _ _ => rfl, fun l _ hl => ?_, chg_refl _ _, fun b hb => .inl hb⟩
  obtain ⟨hi, e, _⟩ := h.node (by omega) (T.wl_yes hl)
  rw [List.getElem?_eq_getElem hi, e]
/-- How it ends: the root is stored. -/
theorem GS.finish {w0 w : World} {P Q m0 lim tk root cn0 cf0 cn cf k pc : Nat} {An0 Af0 An Af : Option Addr} {ns0 ns : List (Nd × Bool)} {fs0 fs xs : List Nat} {pl0 pl : Nat → Nat → Nat} (h0 : TW w0 P Q m0 lim tk An0 cn0 Af0 cf0 ns0 fs0 root pl0 xs) (hk : k < 18446744073709551616) (hkx : k ∉ xs)
    (h : GS w0 w P Q m0 lim tk root xs k (T.wl xs k) 0 (TBk P Q m0 An0 Af0 ns0) ns0 pl0 An cn Af cf ns fs pl) (hpc : pc = pl 0 (T.pre 0 k)) : GrowP w0 P Q m0 lim tk An0 Af0 ns0 (K.add xs k) (.returned (.tuple #[])) (w.setCell ⟨P, 2, none⟩ (.int .i64 (pc : Int))) := by
  have hm := T.wl_le xs k
  have hc := chg_set w P 2 (.int .i64 (pc : Int)) (· = P) rfl
  obtain ⟨r, c, s, p, hmr⟩ := h.mx
  have hq : ∀ j, QB Q An Af j → j ≠ P := fun j hj => by
    rcases hj with rfl | hj | hj
    · exact row_ne h.po.row h.row (by decide)
    · obtain ⟨_, cur, hc⟩ := own_block_lt h.po.nodes hj
      exact row_ne hc h.row (by decide)
    · obtain ⟨_, cur, hc⟩ := own_block_lt h.po.freed hj
      exact row_ne hc h.row (by decide)
  have hz : T.prs xs 0 (T.pre 0 k) ↔ xs ≠ [] := T.prs_zero hk h0.lt
  have hp0 : T.prs (K.add xs k) 0 (T.pre 0 k) := ⟨k, (K.add_mem h0.up k k).2 (.inl rfl), rfl⟩
  obtain ⟨n, hn, _⟩ := h.tr.done.ok 0 _ (by omega) hp0
  obtain ⟨hi, _⟩ := ndm_some hn
  have hl1 := h.po.ns_le
  have hl2 := h.po.lim_le
  refine ⟨rfl, An, cn, Af, cf, ns, fs, pc, pl, ⟨?_, h.mx.chg hc (fun e => row_ne hmr h.row (by decide) e), h.po.chg hc hq, ⟨fun i hi => hc.own (h.kids.own i hi) (fun b hb e => ?_), h.kids.kd, h.kids.kf⟩, h.tr.done, fun _ => ?_, ?_, K.add_up h0.up k, fun x hx => ?_, by omega⟩, h.chg.trans hc (fun j hj => .inl (.inl hj)), h.blk⟩
  · have := row_set h.row 2 (.int .i64 (pc : Int))
    simpa using this
  · obtain ⟨_, cur, hr⟩ := own_block_lt (h.kids.own i hi) (own_of_map hb)
    exact row_ne hr h.row (by decide) e
  · rw [hpc, T.pre_zero hk]
  · rw [h.used, T.trie_add h0.up hm (fun l hl => T.wl_yes hl) (fun hl => T.wl_no hl) hz]
    omega
  · rcases (K.add_mem h0.up k x).1 hx with rfl | hx
    · exact hk
    · exact h0.lt x hx
set_option maxHeartbeats 8000000 in
theorem t_grow (w : World) (P Q m0 lim tk root cn cf : Nat) (An Af : Option Addr) (ns : List (Nd × Bool)) (fs xs : List Nat) (pl : Nat → Nat → Nat) (h : TW w P Q m0 lim tk An cn Af cf ns fs root pl xs) (k : Nat) (hk : k < 18446744073709551616) (hkx : k ∉ xs)
    (B m cw : Nat) (Aw : Option Addr) (hm : m = T.wl xs k) (hw : w.ownsRow B 99 6 (.slice Aw m cw) m (sv (wst ns pl k m))) (hroom : ns.length - fs.length + (11 - m) ≤ lim) :
    Calls Tryd.prog 50 #[.pointer (some ⟨P, 0, none⟩), .int .u64 (k : Int), .slice Aw m cw] w (GrowP w P Q m0 lim tk An Af ns (K.add xs k)) := by
  have hm11 : m ≤ 11 := by rw [hm]; exact T.wl_le xs k
  have H := Lib.hid h
  have hst := Lib.hid (GS.start (k := k) h)
  rw [← hm] at hst
  have HM := Lib.hid hm
  have HW := Lib.hid hw
  have HR := Lib.hid hroom
  clear h hm hw hroom
  go_enter Tryd.func50, Tryd.ntmps50
  go_wp2
  go_loopw [6, 7] (fun pv lv wr => ∃ (j pc : Nat) (An' : Option Addr) (cn' : Nat) (Af' : Option Addr) (cf' : Nat) (ns' : List (Nd × Bool)) (fs' : List Nat) (pl' : Nat → Nat → Nat), j ≤ 11 ∧ lv = .int .i64 ((j : Int) - 1) ∧ pv = .int .i64 (pc : Int) ∧ pc < 1048576 ∧ Hid (j < 11 → pc = pl' j (T.pre j k)) ∧ Hid (GS w wr P Q m0 lim tk root xs k m j (TBk P Q m0 An Af ns) ns pl An' cn' Af' cf' ns' fs' pl'))
    (fun _ lv _ => (intOf lv + 1).toNat)
  case atStart => exact ⟨11, 0, An, cn, Af, cf, ns, fs, pl, by omega, rfl, rfl, by omega, Lib.hid (fun h => absurd h (by omega)), hst⟩
  case round =>
    obtain ⟨j, pc, An', cn', Af', cf', ns', fs', pl', hj, rfl, rfl, hpc, hpp, hG⟩ := hrel
    rcases j with _ | l
    · have hrow := hG.out.row
      have x2 := cell_of_row wr P 2 _ _ (0, 0) hrow
      have f2 := frozen_of_row wr P 2 _ _ hrow
      simp at x2
      clear hrow
      go_wp2
      go_end0
      have := hG.out
      rw [HM.out] at this
      exact GS.finish H.out hk hkx this (hpp.out (by omega))
    · have el : (((l + 1 : Nat) : Int) - 1) = (l : Int) := by omega
      rw [el]
      have g0 : decide (0 ≤ (l : Int)) = true := decide_eq_true (by omega)
      have hw1 : IntKind.i64.wrap ((l : Int) - 1) = (l : Int) - 1 := IntWalk.i64_in _ (by omega)
      have hP1 := cell_of_row wr P 1 _ _ (0, 0) hG.out.row
      simp at hP1
      have hm2 : max (l + 1) m = if l < m then m else l + 1 := by split <;> omega
      by_cases hlm : l < m
      · -- the node is there
        have d1 : decide ((m : Int) ≤ (l : Int)) = false := decide_eq_false (by omega)
        have d2 : decide (m ≤ l) = false := decide_eq_false (by omega)
        have k1 : (l : Int) < (m : Int) := by omega
        have hpx : T.prs xs l (T.pre l k) := T.wl_yes (by rw [← HM.out]; exact hlm)
        have hwr : wr.ownsRow B 99 6 (.slice Aw m cw) m (sv (wst ns pl k m)) := hG.out.chg.own HW.out (fun b hb => way_apart H.out HW.out (own_of_map hb))
        have hwy : Wy wr B (.slice Aw (wst ns pl k m).length cw) (wst ns pl k m) := by
          unfold Wy
          rw [wst_len]
          exact hwr
        obtain ⟨gw, rfl, c0, c1, c2, c3, c4, c5⟩ := hwy.at (k := l) (by rw [wst_len]; exact hlm)
        rw [wst_at] at c0 c1 c2 c3 c4 c5
        dsimp only at c0 c1 c2 c3 c4 c5
        have hway := hG.out.way l (by omega) hlm
        have hpe := hG.out.plk l (T.pre l k) (by omega) hpx
        have hok0 : T.NdOK xs pl' l (T.pre l k) (nat ns (pl l (T.pre l k))).W (nat ns (pl l (T.pre l k))).ks (nat ns (pl l (T.pre l k))).le (nat ns (pl l (T.pre l k))).gr (nat ns (pl l (T.pre l k))).ch := by
          obtain ⟨n, hn, hok⟩ := hG.out.tr.ok l (T.pre l k) (by omega) (by unfold T.lvl; rw [if_pos (by omega)]; exact hpx)
          rw [hpe, ndm_of hway] at hn
          cases hn
          have e : T.lvl xs k (l + 1) l = xs := by unfold T.lvl; rw [if_pos (by omega)]
          rw [e] at hok
          exact hok
        obtain ⟨hi', hie⟩ := List.getElem?_eq_some_iff.1 hway
        have hkid := hG.out.kids.own _ hi'
        rw [hie] at hkid
        have hks : (nat ns (pl l (T.pre l k))).ks < 1000000000 := by
          rw [hok0.ks]
          have h1 := T.len_trie H.out.up
          have h2 := H.out.used
          have h3 := H.out.po.ns_le
          have h4 := H.out.po.lim_le
          have h5 : (T.sub xs l (T.pre l k)).length ≤ xs.length := List.length_filter_le _ _
          omega
        have hchl : (nat ns (pl l (T.pre l k))).ch.length = if l < 10 then (M.bl (nat ns (pl l (T.pre l k))).W).length else 0 := by
          rw [hok0.ch, hok0.bits]
          split
          · rw [List.length_map]
          · rfl
        have hbl64 : (M.bl (nat ns (pl l (T.pre l k))).W).length ≤ 64 := by
          unfold M.bl
          exact Nat.le_trans (List.length_filter_le _ _) (by simp)
        have HWAY := Lib.hid hway
        have HIE := Lib.hid hie
        have hpk : pl l (T.pre l k) < 1048576 := by
          have := hG.out.po.ns_le
          have := hG.out.po.lim_le
          omega
        generalize nat ns (pl l (T.pre l k)) = nd at *
        generalize hig : pl l (T.pre l k) = i at *
        obtain ⟨W, A, ch, c, ks, le, gr⟩ := nd
        dsimp only at hok0 hkid hks hchl hbl64 c0 c1 c2 c3 c4 c5
        have hcl : ch.length ≤ 64 := by rw [hchl]; split <;> omega
        have hWl := hok0.wlt
        have HOK := Lib.hid hok0
        have HPE := Lib.hid hpe
        have HPX := Lib.hid hpx
        obtain ⟨zs, hzs⟩ : ∃ zs, (if l < 10 ∧ T.dig l k ∉ M.bl W then ch.take (K.fi (M.bl W) (T.dig l k)) ++ pc :: ch.drop (K.fi (M.bl W) (T.dig l k)) else ch) = zs := ⟨_, rfl⟩
        have hwith := fun V ho => Lib.hid (nd_with V W A ch c ks le gr k l pc hWl hk (by omega) ho (fun h1 h2 => by rw [hchl, if_pos h1]; exact K.fi_le _ _) hcl hks)
        rw [hzs] at hwith
        obtain ⟨W2, hW2⟩ : ∃ W2, W ||| M.one (T.dig l k) = W2 := ⟨_, rfl⟩
        obtain ⟨K2, hK2⟩ : ∃ K2, ks + 1 = K2 := ⟨_, rfl⟩
        obtain ⟨n2, hn2⟩ : ∃ n2, min le k = n2 := ⟨_, rfl⟩
        obtain ⟨x2, hx2⟩ : ∃ x2, max gr k = x2 := ⟨_, rfl⟩
        rw [hW2, hK2, hn2, hx2] at hwith
        have HVAL := Lib.hid (And.intro hzs (And.intro hW2 (And.intro hK2 (And.intro hn2 hx2))))
        have hb0 : Below wr.heap.size wr (wr.alloc (.cells #[.int .u64 (W : Int), .slice A ch.length c, .int .i64 (ks : Int), .int .u64 (le : Int), .int .u64 (gr : Int), .int .i64 (i : Int)] 99)) := (Below.refl _ wr).alloc (Nat.le_refl _) _
        have HKV : Hid ((wr.alloc (.cells #[.int .u64 (W : Int), .slice A ch.length c, .int .i64 (ks : Int), .int .u64 (le : Int), .int .u64 (gr : Int), .int .i64 (i : Int)] 99)).drew.ownsRow 0 3 1 (.slice A ch.length c) ch.length (iw ch)) := Lib.hid ((K.Chg.of_below (O := fun _ => False) hb0).own hkid (fun _ _ h => h))
        have HPlt := row_lt hG.out.row
        have hbox := K.alloc_top wr (.cells #[.int .u64 (W : Int), .slice A ch.length c, .int .i64 (ks : Int), .int .u64 (le : Int), .int .u64 (gr : Int), .int .i64 (i : Int)] 99)
        have HBX := Lib.hid hbox
        have HB0 := Lib.hid hb0
        have hP1' : (wr.alloc (.cells #[.int .u64 (W : Int), .slice A ch.length c, .int .i64 (ks : Int), .int .u64 (le : Int), .int .u64 (gr : Int), .int .i64 (i : Int)] 99)).cell? ⟨P, 1, none⟩ = some (.pointer (some ⟨Q, 0, none⟩)) := (hb0.cell (p := ⟨P, 1, none⟩) HPlt).trans hP1
        have hAlt : Hid (∀ j, A.map (·.block) = some j → j < wr.heap.size) := Lib.hid (fun j hj => (own_block_lt hkid hj).1)
        have hAno : Hid (∀ j, A.map (·.block) = some j → ¬ QB Q An' Af' j ∧ j ≠ P) := Lib.hid (fun j hj => ⟨kid_no hG.out.po hG.out.kids hi' (by rw [HIE.out]; exact hj), by
          obtain ⟨_, cur, hc⟩ := own_block_lt hkid hj
          exact row_ne hc hG.out.row (by decide)⟩)
        have hQP : Hid (∀ j, QB Q An' Af' j → j ≠ P ∧ j < wr.heap.size) := Lib.hid (fun j hj => ⟨by
          rcases hj with rfl | hj | hj
          · exact row_ne hG.out.po.row hG.out.row (by decide)
          · obtain ⟨_, cur, hc⟩ := own_block_lt hG.out.po.nodes hj
            exact row_ne hc hG.out.row (by decide)
          · obtain ⟨_, cur, hc⟩ := own_block_lt hG.out.po.freed hj
            exact row_ne hc hG.out.row (by decide), hG.out.po.qb hj⟩)
        have hS0 : (wr.alloc (.cells #[.int .u64 (W : Int), .slice A ch.length c, .int .i64 (ks : Int), .int .u64 (le : Int), .int .u64 (gr : Int), .int .i64 (i : Int)] 99)).drew.cell? ⟨P, 1, none⟩ = some (.pointer (some ⟨Q, 0, none⟩)) ∧ (wr.alloc (.cells #[.int .u64 (W : Int), .slice A ch.length c, .int .i64 (ks : Int), .int .u64 (le : Int), .int .u64 (gr : Int), .int .i64 (i : Int)] 99)).drew.cell? ⟨wr.heap.size, 0, none⟩ = some (.int .u64 (W : Int)) ∧ (wr.alloc (.cells #[.int .u64 (W : Int), .slice A ch.length c, .int .i64 (ks : Int), .int .u64 (le : Int), .int .u64 (gr : Int), .int .i64 (i : Int)] 99)).drew.cell? ⟨wr.heap.size, 1, none⟩ = some (.slice A ch.length c) ∧ (wr.alloc (.cells #[.int .u64 (W : Int), .slice A ch.length c, .int .i64 (ks : Int), .int .u64 (le : Int), .int .u64 (gr : Int), .int .i64 (i : Int)] 99)).drew.cell? ⟨wr.heap.size, 2, none⟩ = some (.int .i64 (ks : Int)) ∧ (wr.alloc (.cells #[.int .u64 (W : Int), .slice A ch.length c, .int .i64 (ks : Int), .int .u64 (le : Int), .int .u64 (gr : Int), .int .i64 (i : Int)] 99)).drew.cell? ⟨wr.heap.size, 3, none⟩ = some (.int .u64 (le : Int)) ∧ (wr.alloc (.cells #[.int .u64 (W : Int), .slice A ch.length c, .int .i64 (ks : Int), .int .u64 (le : Int), .int .u64 (gr : Int), .int .i64 (i : Int)] 99)).drew.cell? ⟨wr.heap.size, 4, none⟩ = some (.int .u64 (gr : Int)) ∧ (wr.alloc (.cells #[.int .u64 (W : Int), .slice A ch.length c, .int .i64 (ks : Int), .int .u64 (le : Int), .int .u64 (gr : Int), .int .i64 (i : Int)] 99)).drew.cell? ⟨wr.heap.size, 5, none⟩ = some (.int .i64 (i : Int)) :=
          ⟨hP1', cell_of_row _ _ 0 _ _ (0, 0) hbox, cell_of_row _ _ 1 _ _ (0, 0) hbox, cell_of_row _ _ 2 _ _ (0, 0) hbox, cell_of_row _ _ 3 _ _ (0, 0) hbox, cell_of_row _ _ 4 _ _ (0, 0) hbox, cell_of_row _ _ 5 _ _ (0, 0) hbox⟩
        have HS0 := Lib.hid hS0
        clear hzs hW2 hK2 hn2 hx2 hok0 hkid hway hie hpe hpx hwr hwy hchl hb0 hbox hig hS0
        go_wp2
        go_region_held3 (fun X => X.cell? ⟨P, 1, none⟩ = some (.pointer (some ⟨Q, 0, none⟩)) ∧ X.cell? ⟨wr.heap.size, 0, none⟩ = some (.int .u64 (W : Int)) ∧ X.cell? ⟨wr.heap.size, 1, none⟩ = some (.slice A ch.length c) ∧ X.cell? ⟨wr.heap.size, 2, none⟩ = some (.int .i64 (ks : Int)) ∧ X.cell? ⟨wr.heap.size, 3, none⟩ = some (.int .u64 (le : Int)) ∧ X.cell? ⟨wr.heap.size, 4, none⟩ = some (.int .u64 (gr : Int)) ∧ X.cell? ⟨wr.heap.size, 5, none⟩ = some (.int .i64 (i : Int))) (first | exact HS0.out | exact hS2 | exact hS1 | go_keep) (first
          | (go_at_call 72; refine (hwith _ HKV.out).out.mono ?_; rintro e w1 ⟨A1, c1, rfl, ho1, hc1, hb1⟩
             have HC1 : Hid (K.Chg wr w1 (fun j => A.map (·.block) = some j)) := Lib.hid ((K.Chg.of_below HB0.out).same (chg_of_drew hc1))
             have HO1 := Lib.hid ho1
             have hz1 : wr.heap.size + 1 ≤ w1.heap.size := (by have h1 := hc1.size; have h2 : (wr.alloc (.cells #[.int .u64 (W : Int), .slice A ch.length c, .int .i64 (ks : Int), .int .u64 (le : Int), .int .u64 (gr : Int), .int .i64 (i : Int)] 99)).drew.heap.size = wr.heap.size + 1 := (by show (wr.heap.push _).size = _; simp); omega)
             have HB1 : Hid (∀ j, A1.map (·.block) = some j → A.map (·.block) = some j ∨ wr.heap.size ≤ j) := Lib.hid (fun j hj => (by
               rcases hb1 j hj with h | h
               · exact .inl h
               · right
                 have h2 : (wr.alloc (.cells #[.int .u64 (W : Int), .slice A ch.length c, .int .i64 (ks : Int), .int .u64 (le : Int), .int .u64 (gr : Int), .int .i64 (i : Int)] 99)).drew.heap.size = wr.heap.size + 1 := (by show (wr.heap.push _).size = _; simp)
                 omega))
             have HQ1 := Lib.hid (hG.out.po.chg HC1.out (fun j hj h => (hAno.out j h).1 hj))
             have hrow1 := (hc1.block wr.heap.size (by (show wr.heap.size < (wr.heap.push _).size; simp)) (fun h => by have := hAlt.out _ h; omega)).trans HBX.out
             have HBX1 := Lib.hid hrow1
             have hS1 : w1.cell? ⟨P, 1, none⟩ = some (.pointer (some ⟨Q, 0, none⟩)) ∧ w1.cell? ⟨wr.heap.size, 0, none⟩ = some (.int .u64 (W : Int)) ∧ w1.cell? ⟨wr.heap.size, 1, none⟩ = some (.slice A ch.length c) ∧ w1.cell? ⟨wr.heap.size, 2, none⟩ = some (.int .i64 (ks : Int)) ∧ w1.cell? ⟨wr.heap.size, 3, none⟩ = some (.int .u64 (le : Int)) ∧ w1.cell? ⟨wr.heap.size, 4, none⟩ = some (.int .u64 (gr : Int)) ∧ w1.cell? ⟨wr.heap.size, 5, none⟩ = some (.int .i64 (i : Int)) :=
               ⟨(HC1.out.cell HPlt (fun h => (hAno.out P h).2 rfl) 1).trans hP1, cell_of_row w1 _ 0 _ _ (0, 0) hrow1, cell_of_row w1 _ 1 _ _ (0, 0) hrow1, cell_of_row w1 _ 2 _ _ (0, 0) hrow1, cell_of_row w1 _ 3 _ _ (0, 0) hrow1, cell_of_row w1 _ 4 _ _ (0, 0) hrow1, cell_of_row w1 _ 5 _ _ (0, 0) hrow1⟩
             clear hc1 ho1 hb1 hrow1)
          | (go_at_call 73; refine (q_put w1 Q m0 lim cn' cf' An' Af' ns' fs' HQ1.out i hi' (by rw [HIE.out]) W2 A1 zs c1 K2 n2 x2 _ rfl).mono ?_; rintro e w2 ⟨rfl, hst2⟩
             have HS2 := Lib.hid hst2
             have hS2 : w2.cell? ⟨P, 1, none⟩ = some (.pointer (some ⟨Q, 0, none⟩)) ∧ w2.cell? ⟨wr.heap.size, 0, none⟩ = some (.int .u64 (W : Int)) ∧ w2.cell? ⟨wr.heap.size, 1, none⟩ = some (.slice A ch.length c) ∧ w2.cell? ⟨wr.heap.size, 2, none⟩ = some (.int .i64 (ks : Int)) ∧ w2.cell? ⟨wr.heap.size, 3, none⟩ = some (.int .u64 (le : Int)) ∧ w2.cell? ⟨wr.heap.size, 4, none⟩ = some (.int .u64 (gr : Int)) ∧ w2.cell? ⟨wr.heap.size, 5, none⟩ = some (.int .i64 (i : Int)) := (by
               obtain ⟨_, _, _, _, _, h3, _⟩ := hst2
               have hrow2 := (h3.block wr.heap.size (by omega) (fun h => by have := (hQP.out _ h).2; omega)).trans HBX1.out
               exact ⟨(h3.cell (b := P) (by omega) (fun h => (hQP.out P h).1 rfl) 1).trans hS1.1, cell_of_row w2 _ 0 _ _ (0, 0) hrow2, cell_of_row w2 _ 1 _ _ (0, 0) hrow2, cell_of_row w2 _ 2 _ _ (0, 0) hrow2, cell_of_row w2 _ 3 _ _ (0, 0) hrow2, cell_of_row w2 _ 4 _ _ (0, 0) hrow2, cell_of_row w2 _ 5 _ _ (0, 0) hrow2⟩)
             clear hst2))
        all_goals
          have hS25 := hS2.2.2.2.2.2.2
          go_wp2
          obtain ⟨hv1, hv2, hv3, hv4, hv5⟩ := HVAL.out
          have hlen2 : (ns'.set i (⟨W2, A1, zs, c1, K2, n2, x2⟩, true)).length = ns'.length := List.length_set ..
          obtain ⟨An2, cn2, Af2, cf2, hG2⟩ := hG.out.step (i := i) (x := ⟨W2, A1, zs, c1, K2, n2, x2⟩) (ns' := ns'.set i (⟨W2, A1, zs, c1, K2, n2, x2⟩, true)) (fs' := fs') H.out.up hkx (by omega) A (fun g hg => ⟨hi', by rw [HIE.out]; exact hg⟩) HC1.out HO1.out HB1.out HS2.out
            (fun j hj => by rw [List.getElem?_set_ne (Ne.symm hj)]) (by simp [hi']) (.inr ⟨HPX.out, HPE.out.symm, hlm, by rw [hlen2]⟩) (by
              have h1 := HOK.out.grow (pl' := T.upd pl' l (T.pre l k) i) (by omega) H.out.up hkx (fun d _ _ => T.upd_other (by omega))
              rw [hv2, hv3, hv4, hv5, T.upd_other (by omega)] at h1
              rw [← hv1]
              by_cases h10 : l < 10
              · rw [← hpp.out (by omega)] at h1
                exact h1
              · rw [if_neg (fun h => h10 h.1)] at h1 ⊢
                exact h1)
          go_roundw
          case rel => exact ⟨l, i, An2, cn2, Af2, cf2, _, fs', _, by omega, rfl, rfl, hpk, Lib.hid (fun _ => (T.upd_same _ _ _ _).symm), Lib.hid hG2⟩
          case measure => first | (simp [intOf]; done) | (simp [intOf]; omega)
      · -- a new node
        have d1 : decide ((m : Int) ≤ (l : Int)) = true := decide_eq_true (by omega)
        have d2 : decide (m ≤ l) = true := decide_eq_true (by omega)
        have hnp : Hid (¬ T.prs xs l (T.pre l k)) := Lib.hid (fun hp => T.wl_no (xs := xs) (k := k) (by rw [← HM.out]; omega) (by rw [← HM.out]; exact T.prs_le (by omega) (by omega) hp))
        have hus := hG.out.used
        rw [hm2, if_neg hlm, ← H.out.used] at hus
        have hrr : Hid (ns'.length - fs'.length < lim) := Lib.hid (by have := HR.out; omega)
        obtain ⟨zs, hzs⟩ : ∃ zs, (if l < 10 then [pc] else []) = zs := ⟨_, rfl⟩
        have hfr := fun V => Lib.hid (nd_fresh V k l pc hk (by omega))
        rw [hzs] at hfr
        obtain ⟨W2, hW2⟩ : ∃ W2, 0 ||| M.one (T.dig l k) = W2 := ⟨_, rfl⟩
        obtain ⟨K2, hK2⟩ : ∃ K2, 0 + 1 = K2 := ⟨_, rfl⟩
        obtain ⟨n2, hn2⟩ : ∃ n2, min k k = n2 := ⟨_, rfl⟩
        obtain ⟨x2, hx2⟩ : ∃ x2, max k k = x2 := ⟨_, rfl⟩
        rw [hW2, hK2, hn2, hx2] at hfr
        have HOK : Hid (∀ i, T.NdOK (K.add xs k) (T.upd pl' l (T.pre l k) i) l (T.pre l k) W2 K2 n2 x2 zs) := Lib.hid (fun i => by
          have := T.NdOK.fresh (pl' := T.upd pl' l (T.pre l k) i) (l := l) (by omega) H.out.up hnp.out
          rw [hW2, hK2, hn2, hx2] at this
          rw [← hzs]
          by_cases h10 : l < 10
          · rw [if_pos h10] at this ⊢
            rw [T.upd_other (by omega), ← hpp.out (by omega)] at this
            exact this
          · rw [if_neg h10] at this ⊢
            exact this)
        have HPlt := row_lt hG.out.row
        have hQP : Hid (∀ j, QB Q An' Af' j → j ≠ P ∧ j < wr.heap.size) := Lib.hid (fun j hj => ⟨by
          rcases hj with rfl | hj | hj
          · exact row_ne hG.out.po.row hG.out.row (by decide)
          · obtain ⟨_, cur, hc⟩ := own_block_lt hG.out.po.nodes hj
            exact row_ne hc hG.out.row (by decide)
          · obtain ⟨_, cur, hc⟩ := own_block_lt hG.out.po.freed hj
            exact row_ne hc hG.out.row (by decide), hG.out.po.qb hj⟩)
        clear hzs hW2 hK2 hn2 hx2 hus
        go_wp2
        go_region_held3 (fun X => X.cell? ⟨P, 1, none⟩ = some (.pointer (some ⟨Q, 0, none⟩))) (first | exact hP1 | exact hS2 | exact hS1 | go_keep) (first
          | (go_at_call 72; refine (hfr _).out.mono ?_; rintro e w1 ⟨A1, c1, rfl, ho1, hc1, hb1⟩
             have HC1 : Hid (K.Chg wr w1 (fun _ => False)) := Lib.hid ((chg_of_drew hc1).mono (fun j h => by simp at h))
             have HO1 := Lib.hid ho1
             have HB1 := Lib.hid hb1
             have HQ1 := Lib.hid (hG.out.po.chg HC1.out (fun _ _ h => h))
             have hS1 : w1.cell? ⟨P, 1, none⟩ = some (.pointer (some ⟨Q, 0, none⟩)) := (HC1.out.cell HPlt (fun h => h) 1).trans hP1
             clear hc1 ho1 hb1)
          | (go_at_call 71; obtain ⟨i, ns2, fs2, hi2, hun, hni, hoth, hus2, hcall⟩ := q_alloc w1 Q m0 lim cn' cf' An' Af' ns' fs' HQ1.out W2 A1 zs c1 K2 n2 x2 hrr.out; refine hcall.mono ?_; rintro e w2 ⟨rfl, hst2⟩
             have HS2 := Lib.hid hst2
             have HNI := Lib.hid hni
             have HOT := Lib.hid hoth
             have HUN := Lib.hid hun
             have HU2 := Lib.hid hus2
             have hS2 : w2.cell? ⟨P, 1, none⟩ = some (.pointer (some ⟨Q, 0, none⟩)) := (by
               obtain ⟨_, _, _, _, _, h3, _⟩ := hst2
               exact (h3.cell (b := P) (by have := HC1.out.size; omega) (fun h => (hQP.out P h).1 rfl) 1).trans hS1)
             clear hst2 hcall hni hoth hun hus2))
        all_goals
          go_wp2
          have hnone : ndm ns' i = none := by
            unfold ndm
            rcases HUN.out with ⟨h1, h2⟩ | h1
            · rw [List.getElem?_eq_getElem h1]
              rcases hx : ns'[i] with ⟨a, b⟩
              rw [hx] at h2
              cases h2
              rfl
            · rw [List.getElem?_eq_none h1]
          obtain ⟨An2, cn2, Af2, cf2, hG2⟩ := hG.out.step (i := i) (x := ⟨W2, A1, zs, c1, K2, n2, x2⟩) H.out.up hkx (by omega) none (by simp) (HC1.out.mono (fun _ h => h.elim)) HO1.out (fun j hj => .inr (by
            rcases HB1.out j hj with h | h
            · simp at h
            · exact h)) HS2.out HOT.out HNI.out (.inl ⟨hnp.out, hnone, by omega, HU2.out⟩) (HOK.out i)
          have hil : i < 1048576 := by
            have := hG2.po.ns_le
            have := hG2.po.lim_le
            omega
          go_roundw
          case rel => exact ⟨l, i, An2, cn2, Af2, cf2, ns2, fs2, _, by omega, rfl, rfl, hil, Lib.hid (fun _ => (T.upd_same _ _ _ _).symm), Lib.hid hG2⟩
          case measure => first | (simp [intOf]; done) | (simp [intOf]; omega)
end Go.Proofs.YtndielncleohlaaDoor
