/- The way down to a key, each node read without a step; the text walked. How many keys stand ahead at a node; the text walked. Rank; the text walked. Rank: how many keys are below one; the text walked. part: the child in which the i-th key stands; the text walked. The trie's mathematics: the keys with a beginning, digit by digit. Select: the i-th key; the text walked. -/
import Derived.Deep.RegionHeld3
import Derived.Test.YtbiingpdchoppaaDoorMxU3
import Derived.Test.YtbiingpdchoppaaDoorMgN
import Derived.Test.YtbiingpdchoppaaDoorMgJ
section
namespace Go.Proofs.YtbiingpdchoppaaDoor
set_option maxRecDepth 40000
open Go.RowKit
set_option maxHeartbeats 4000000 in
theorem t_walk_peek (w : World) (P Q m0 lim tk root cn cf : Nat) (An Af : Option Addr) (ns : List (Nd × Bool)) (fs xs : List Nat) (pl : Nat → Nat → Nat) (h : TW w P Q m0 lim tk An cn Af cf ns fs root pl xs) (k : Nat) (hk : k < 18446744073709551616) (htk : tk < 100000) :
    Calls Tryd.prog 46 #[.pointer (some ⟨P, 0, none⟩), .int .u64 (k : Int), .func (.func 61) #[.pointer (some ⟨Q, 0, none⟩)] #[]] w (WalkP w m0 ns pl xs k tk 0) := by
  obtain ⟨E, hE, hmk⟩ := mk_way
  obtain ⟨i0, hi, hz0, hz1, hz2⟩ := info_parts stop_info
  have hP := row_lt h.row
  have hc2 := cell_of_row w P 2 _ _ (0, 0) h.row
  simp at hc2
  have hW0 : Hid (Wy (w.alloc (.cells E 99)) w.heap.size (.slice (some ⟨w.heap.size, 0, none⟩) 0 11) []) :=
    ⟨rfl, .inr ⟨w.heap.size, 11, E, rfl, Nat.le_refl _, K.alloc_top _ _, Nat.zero_le _, by decide, hE, rfl⟩⟩
  have hM0 : Hid (Mx (w.alloc (.cells E 99)) m0 (tk + 0 * 0)) := (h.mx.chg (chg_alloc w _ (fun _ => False)) (fun h => h)).cast (by omega)
  have hC0 : Hid (K.Chg w (w.alloc (.cells E 99)) (· = m0)) := chg_alloc w _ _
  have hrl := h.rl
  have H := Lib.hid h
  have hmkH := Lib.hid hmk
  clear h hE
  go_enter Tryd.func46, Tryd.ntmps46
  go_wp2
  go_loopw [7, 8, 18] (fun v pc lv wr => ∃ (j i c : Nat) (A : Option Addr), j ≤ 10 ∧ lv = .int .i64 (j : Int) ∧ v = .slice A j c ∧ pc = .int .i64 (i : Int) ∧ Hid (∀ l, l < j → T.prs xs l (T.pre l k)) ∧ Hid (0 < j → T.prs xs j (T.pre j k)) ∧ Hid ((j = 0 ∧ i = root) ∨ (0 < j ∧ i = pl j (T.pre j k))) ∧ Hid (wr.ownsRow w.heap.size 99 6 (.slice A j c) j (sv (wst ns pl k j))) ∧ Hid (Mx wr m0 (tk + 0 * j)) ∧ Hid (K.Chg w wr (· = m0)))
    (fun _ _ lv _ => 11 - (intOf lv).toNat)
  case atStart => exact ⟨0, root, 11, _, by omega, rfl, rfl, rfl, fun l h => absurd h (by omega), fun h => absurd h (by omega), .inl ⟨rfl, rfl⟩, hW0, hM0, hC0⟩
  case round =>
    obtain ⟨j, i, c, A, hj, rfl, rfl, rfl, hprev, hpos, hpi, hWy, hMx, hCh⟩ := hrel
    have hne := Lib.hid H.out.ne_m
    have hQo := Lib.hid (H.out.po.chg hCh.out hne.out.1)
    have htk2 : tk + 0 * j < 1000000 := by omega
    by_cases hx : T.prs xs j (T.pre j k)
    · have hip : i = pl j (T.pre j k) := by
        rcases hpi.out with ⟨h0, h1⟩ | ⟨_, h1⟩
        · subst h0
          have hne : xs ≠ [] := by
            rintro rfl
            obtain ⟨x, hm, _⟩ := hx
            cases hm
          obtain ⟨y, hy, e⟩ := hx
          rw [h1, H.out.rt hne, ← e, T.pre_zero (H.out.lt y hy)]
        · exact h1
      obtain ⟨hin, hns, hok⟩ := H.out.node (by omega) hx
      have hsu := Lib.hid (wst_succ ns pl k j)
      have hkid := H.out.kids.own _ hin
      have HNM := Lib.hid (fun g => H.out.ne_m.2.2 _ hin g)
      subst hip
      have hrd := Lib.hid ((q_peek_yes wr Q m0 lim cn cf An Af ns fs hQo.out _ hin (by rw [hns])).mono (fun e w' ⟨h1, h2⟩ => (⟨h1, hMx.out.chg (K.Chg.of_below (O := fun _ => False) h2) (fun h => h), K.Chg.of_below h2⟩ : AtP wr m0 (tk + 0 * j) _ true e w')))
      rw [hns] at hrd hkid HNM
      have hokH := Lib.hid hok
      have hWl := hok.wlt
      have hkH := Lib.hid hkid
      have HX := Lib.hid hx
      have hlen : (nat ns (pl j (T.pre j k))).ch.length ≤ 64 := by
        rw [hok.ch]
        split
        · rw [List.length_map]
          unfold T.dgs
          exact Nat.le_trans (List.length_filter_le _ _) (by simp)
        · simp
      clear hns hok hkid hx hpi
      generalize nat ns (pl j (T.pre j k)) = nd at *
      obtain ⟨W, A', ch, c', ks, le, gr⟩ := nd
      have hrd : Hid (Calls _ _ _ _ (AtP wr m0 (tk + 0 * j + 0) (ndv W A' ch.length c' ks le gr) true)) := hrd
      have HNM : Hid (∀ g, A'.map (·.block) = some g → g ≠ m0) := HNM
      have hkH : Hid (w.ownsRow 0 3 1 (.slice A' ch.length c') ch.length (iw ch)) := hkH
      have hokH : Hid (T.NdOK xs pl j (T.pre j k) W ks le gr ch) := hokH
      have hWl : W < 18446744073709551616 := hWl
      have hlen : ch.length ≤ 64 := hlen
      have hsu : Hid (wst ns pl k (j + 1) = wst ns pl k j ++ [(⟨W, A', ch, c', ks, le, gr⟩, pl j (T.pre j k))]) := hsu
      have hC2 : ∀ (w2 : World), K.Chg wr w2 (· = m0) → Hid (K.Chg w w2 (· = m0)) := fun w2 h => hCh.out.same h
      have hWY : ∀ (w2 : World), K.Chg wr w2 (· = m0) → Hid (((w2.alloc (ndo W A' ch.length c' ks le gr)).alloc (.cells #[.int .u64 (W : Int), .slice A' ch.length c', .int .i64 (ks : Int), .int .u64 (le : Int), .int .u64 (gr : Int), .int .i64 ((pl j (T.pre j k) : Nat) : Int)] 99)).ownsRow w.heap.size 99 6 (.slice A j c) j (sv (wst ns pl k j))) := fun w2 h => by
        have h1 : w2.ownsRow w.heap.size 99 6 (.slice A j c) j (sv (wst ns pl k j)) := h.own hWy.out (fun b hb e => by
          subst e
          have h2 := (K.own_lt hWy.out hb).2
          have h3 := H.out.mx.lt
          omega)
        exact (h1.alloc _).alloc _
      have hRD : ∀ (w2 : World), Hid (Reads ((w2.alloc (ndo W A' ch.length c' ks le gr)).alloc (.cells #[.int .u64 (W : Int), .slice A' ch.length c', .int .i64 (ks : Int), .int .u64 (le : Int), .int .u64 (gr : Int), .int .i64 ((pl j (T.pre j k) : Nat) : Int)] 99)) (w2.heap.size + 2) 6 (some ⟨w2.heap.size + 1, 0, none⟩) 1 [.int .u64 (W : Int), .slice A' ch.length c', .int .i64 (ks : Int), .int .u64 (le : Int), .int .u64 (gr : Int), .int .i64 ((pl j (T.pre j k) : Nat) : Int)]) := fun w2 => by
        refine ⟨rfl, fun _ => ⟨_, rfl, by show w2.heap.size + 1 < _; omega, ?_⟩⟩
        have hsz : (w2.alloc (ndo W A' ch.length c' ks le gr)).heap.size = w2.heap.size + 1 := by simp
        have := cell_six (w2.alloc (ndo W A' ch.length c' ks le gr)) (.int .u64 (W : Int)) (.slice A' ch.length c') (.int .i64 (ks : Int)) (.int .u64 (le : Int)) (.int .u64 (gr : Int)) (.int .i64 ((pl j (T.pre j k) : Nat) : Int)) 99
        rw [hsz] at this
        exact this
      -- what the append leaves
      have hAP : ∀ (w2 w3 : World) (v' : Value), K.Chg wr w2 (· = m0) → Mx w2 m0 (tk + 0 * j) → w3.ownsRow w.heap.size 99 6 v' (j + 1) (sv (wst ns pl k j) ++ [.int .u64 (W : Int), .slice A' ch.length c', .int .i64 (ks : Int), .int .u64 (le : Int), .int .u64 (gr : Int), .int .i64 ((pl j (T.pre j k) : Nat) : Int)]) →
          ((w2.alloc (ndo W A' ch.length c' ks le gr)).alloc (.cells #[.int .u64 (W : Int), .slice A' ch.length c', .int .i64 (ks : Int), .int .u64 (le : Int), .int .u64 (gr : Int), .int .i64 ((pl j (T.pre j k) : Nat) : Int)] 99)).grownBy w3 (Value.ownBlock (.slice A j c)) →
          ∃ A3 c3, v' = .slice A3 (j + 1) c3 ∧ Hid (w3.ownsRow w.heap.size 99 6 (.slice A3 (j + 1) c3) (j + 1) (sv (wst ns pl k (j + 1)))) ∧ Hid (Mx w3 m0 (tk + 0 * j)) ∧ Hid (K.Chg w w3 (· = m0)) ∧ w3.heap[w2.heap.size]? = some (ndo W A' ch.length c' ks le gr) ∧ Hid (w3.ownsRow 0 3 1 (.slice A' ch.length c') ch.length (iw ch)) := by
        intro w2 w3 v' hc2 hm2 ho hg
        obtain ⟨A3, c3, rfl⟩ := K.own_form ho
        have hs2 := hc2.size
        have hsw := hCh.out.size
        have hobl : ∀ b, Value.ownBlock (.slice A j c) = some b → w.heap.size ≤ b ∧ b < w2.heap.size := fun b hb => by
          have := K.own_lt hWy.out hb
          omega
        have hM := hm2.lt
        have hMw := H.out.mx.lt
        have hs4 : ((w2.alloc (ndo W A' ch.length c' ks le gr)).alloc (.cells #[.int .u64 (W : Int), .slice A' ch.length c', .int .i64 (ks : Int), .int .u64 (le : Int), .int .u64 (gr : Int), .int .i64 ((pl j (T.pre j k) : Nat) : Int)] 99)).heap.size = w2.heap.size + 2 := by simp
        have hal : K.Chg w2 ((w2.alloc (ndo W A' ch.length c' ks le gr)).alloc (.cells #[.int .u64 (W : Int), .slice A' ch.length c', .int .i64 (ks : Int), .int .u64 (le : Int), .int .u64 (gr : Int), .int .i64 ((pl j (T.pre j k) : Nat) : Int)] 99)) (fun _ => False) := (chg_alloc w2 _ _).same (chg_alloc _ _ _)
        have hall : K.Chg w2 w3 (fun b => Value.ownBlock (.slice A j c) = some b) := (hal.mono (fun _ h => h.elim)).grown hg (fun b hb => .inl hb)
        refine ⟨A3, c3, rfl, ?_, hm2.chg hall (fun h => by have := hobl _ h; omega), (hCh.out.same hc2).trans hall (fun b hb => .inr (hobl b hb).1), ?_, ?_⟩
        · show w3.ownsRow _ _ _ _ _ _
          rw [hsu.out, sv_snoc]
          exact ho
        · refine (hg.block _ (by rw [hs4]; omega) (fun e => by have := hobl _ e.symm; omega)).trans ?_
          exact (Below.heap_alloc _ _ _ (by simp)).trans (K.alloc_top _ _)
        · refine ((hCh.out.same hc2).trans hall (O1 := fun b => Value.ownBlock (.slice A j c) = some b) (fun b hb => .inr (hobl b hb).1)).own hkH.out (fun b hb e => ?_)
          exact HNM.out b (own_of_map hb) e
      have n0 : Hid (∀ u ∈ [Value.int .u64 (W : Int), .slice A' ch.length c', .int .i64 (ks : Int), .int .u64 (le : Int), .int .u64 (gr : Int), .int .i64 ((pl j (T.pre j k) : Nat) : Int)], u.oneCell' = true) := Lib.hid (by intro u hu; simp at hu; rcases hu with rfl | rfl | rfl | rfl | rfl | rfl <;> rfl)
      have n1 : Hid (j + 1 ≤ maxLen) := Lib.hid (by unfold maxLen; omega)
      have n2 : Hid ((j + 1) * 64 ≤ 140737488355328) := Lib.hid (by omega)
      by_cases h10 : j = 10
      · have e10 : ((j : Int) == 10) = true := by simp [h10]
        have e11 : decide ((j : Int) < 11) = true := decide_eq_true (by omega)
        have e12 : decide (j < 11) = true := decide_eq_true (by omega)
        have HWL : Hid (T.wl xs k = j + 1) := T.wl_eq (by omega) (fun l hl => by
          rcases Nat.lt_or_ge l j with h | h
          · exact hprev.out l h
          · obtain rfl : l = j := by omega
            exact HX.out) (fun h => by omega)
        have H10 := Lib.hid h10
        clear h10
        go_wp2_with (first
          | (go_at_call 61; (with_reducible refine hrd.out.mono ?_); rintro e w2 ⟨rfl, hm2, hc2⟩; have ho := hWY w2 hc2; have hrr := hRD w2; have hM2 := Lib.hid hm2; have hCC := Lib.hid hc2; have hbs : w.heap.size ≤ ((w2.alloc (ndo W A' ch.length c' ks le gr)).alloc (.cells #[.int .u64 (W : Int), .slice A' ch.length c', .int .i64 (ks : Int), .int .u64 (le : Int), .int .u64 (gr : Int), .int .i64 ((pl j (T.pre j k) : Nat) : Int)] 99)).heap.size := (by have h1 := hc2.size; have h2 := hCh.out.size; simp; omega); clear hm2 hc2)
          | (at_builtin; refine wpList_append_any _ rfl _ _ 83 rfl w.heap.size 99 i0 _ 6 64 Tryd.underlying83 hi hz0 hz1 hz2 rfl (by decide) _ _ _ rfl ho.out (w2.heap.size + 2) _ 1 1 _ rfl hrr.out n0.out n1.out n2.out hbs ?_; intro v' w3 hown' hgrow _; obtain ⟨A3, c3, rfl, HW3, HM3, HC3, hrow3, HK3⟩ := hAP w2 w3 v' hCC.out hM2.out hown' hgrow; obtain ⟨y0, y1, y2, y3, y4⟩ := nd_cells hrow3; clear hown' hgrow hrow3)
          | (go_at_call 64; (with_reducible refine (t_digit _ k j hk (by omega)).mono ?_); rintro e w' ⟨rfl, rfl⟩))
        go_ret
        exact ⟨A3, c3, (by rw [HWL.out]; rfl), by rw [HWL.out]; exact HW3.out, by rw [HWL.out]; exact HM3.out.cast (by omega), HC3.out⟩
      · have hj9 : j < 10 := by omega
        have e10 : ((j : Int) == 10) = false := by simp; omega
        have e11 : decide ((j : Int) < 11) = true := decide_eq_true (by omega)
        have e12 : decide (j < 11) = true := decide_eq_true (by omega)
        have hdl := T.dig_lt j k
        have hget0 := fun V => Lib.hid (bit_get W hWl ((T.dig j k : Nat) : Int) V)
        rw [T.has_bl W _ hdl] at hget0
        by_cases hdm : T.dig j k ∈ M.bl W
        · obtain ⟨hr, hre⟩ := hokH.out.child hj9 hdm
          rw [← T.pre_split (by omega)] at hre
          have hch := fun V (ho : Hid (V.ownsRow 0 3 1 (.slice A' ch.length c') ch.length (iw ch))) => Lib.hid (t_child V W A' ch c' ks le gr (T.dig j k) hWl hdl ho.out hr hlen)
          rw [hre] at hch
          have HX2 : Hid (T.prs xs (j + 1) (T.pre (j + 1) k)) := by
            have h1 := hokH.out.bits
            rw [h1] at hdm
            have := (T.mem_dgs.1 hdm).2
            rw [← T.pre_split (by omega)] at this
            exact this
          rw [decide_eq_true hdm] at hget0
          clear hdm hr hre
          go_wp2_with (first
            | (go_at_call 61; (with_reducible refine hrd.out.mono ?_); rintro e w2 ⟨rfl, hm2, hc2⟩; have ho := hWY w2 hc2; have hrr := hRD w2; have hM2 := Lib.hid hm2; have hCC := Lib.hid hc2; have hbs : w.heap.size ≤ ((w2.alloc (ndo W A' ch.length c' ks le gr)).alloc (.cells #[.int .u64 (W : Int), .slice A' ch.length c', .int .i64 (ks : Int), .int .u64 (le : Int), .int .u64 (gr : Int), .int .i64 ((pl j (T.pre j k) : Nat) : Int)] 99)).heap.size := (by have h1 := hc2.size; have h2 := hCh.out.size; simp; omega); clear hm2 hc2)
            | (at_builtin; refine wpList_append_any _ rfl _ _ 83 rfl w.heap.size 99 i0 _ 6 64 Tryd.underlying83 hi hz0 hz1 hz2 rfl (by decide) _ _ _ rfl ho.out (w2.heap.size + 2) _ 1 1 _ rfl hrr.out n0.out n1.out n2.out hbs ?_; intro v' w3 hown' hgrow _; obtain ⟨A3, c3, rfl, HW3, HM3, HC3, hrow3, HK3⟩ := hAP w2 w3 v' hCC.out hM2.out hown' hgrow; obtain ⟨y0, y1, y2, y3, y4⟩ := nd_cells hrow3; clear hown' hgrow hrow3)
            | (go_at_call 64; (with_reducible refine (t_digit _ k j hk (by omega)).mono ?_); rintro e w' ⟨rfl, rfl⟩)
            | (go_at_call 68; (with_reducible refine (hget0 _).out.mono ?_); rintro e w' ⟨rfl, rfl⟩)
            | (go_at_call 69; (with_reducible refine (hch _ HK3).out.mono ?_); rintro e w4 ⟨rfl, hb4⟩; have HW4 := Lib.hid ((K.Chg.of_below (O := fun _ => False) hb4).own HW3.out (fun _ _ h => h)); have HM4 : Hid (Mx w4 m0 (tk + 0 * (j + 1))) := (HM3.out.chg (K.Chg.of_below (O := fun _ => False) hb4) (fun h => h)).cast (by omega); have HC4 : Hid (K.Chg w w4 (· = m0)) := HC3.out.same (K.Chg.of_below hb4); clear hb4))
          go_roundw
          case rel => exact ⟨j + 1, pl (j + 1) (T.pre (j + 1) k), c3, A3, by omega, by go_num, rfl, rfl, fun l hl => (by
            rcases Nat.lt_or_ge l j with h | h
            · exact hprev.out l h
            · obtain rfl : l = j := by omega
              exact HX.out), fun _ => HX2.out, .inr ⟨by omega, rfl⟩, HW4, HM4, HC4⟩
          case measure => simp [intOf]; omega
        · have HWL : Hid (T.wl xs k = j + 1) := T.wl_eq (by omega) (fun l hl => by
            rcases Nat.lt_or_ge l j with h | h
            · exact hprev.out l h
            · obtain rfl : l = j := by omega
              exact HX.out) (fun _ hp => hdm (by
                rw [hokH.out.bits]
                refine T.mem_dgs.2 ⟨hdl, ?_⟩
                rw [← T.pre_split (by omega)]
                exact hp))
          rw [decide_eq_false hdm] at hget0
          clear hdm
          go_wp2_with (first
            | (go_at_call 61; (with_reducible refine hrd.out.mono ?_); rintro e w2 ⟨rfl, hm2, hc2⟩; have ho := hWY w2 hc2; have hrr := hRD w2; have hM2 := Lib.hid hm2; have hCC := Lib.hid hc2; have hbs : w.heap.size ≤ ((w2.alloc (ndo W A' ch.length c' ks le gr)).alloc (.cells #[.int .u64 (W : Int), .slice A' ch.length c', .int .i64 (ks : Int), .int .u64 (le : Int), .int .u64 (gr : Int), .int .i64 ((pl j (T.pre j k) : Nat) : Int)] 99)).heap.size := (by have h1 := hc2.size; have h2 := hCh.out.size; simp; omega); clear hm2 hc2)
            | (at_builtin; refine wpList_append_any _ rfl _ _ 83 rfl w.heap.size 99 i0 _ 6 64 Tryd.underlying83 hi hz0 hz1 hz2 rfl (by decide) _ _ _ rfl ho.out (w2.heap.size + 2) _ 1 1 _ rfl hrr.out n0.out n1.out n2.out hbs ?_; intro v' w3 hown' hgrow _; obtain ⟨A3, c3, rfl, HW3, HM3, HC3, hrow3, HK3⟩ := hAP w2 w3 v' hCC.out hM2.out hown' hgrow; obtain ⟨y0, y1, y2, y3, y4⟩ := nd_cells hrow3; clear hown' hgrow hrow3)
            | (go_at_call 64; (with_reducible refine (t_digit _ k j hk (by omega)).mono ?_); rintro e w' ⟨rfl, rfl⟩)
            | (go_at_call 68; (with_reducible refine (hget0 _).out.mono ?_); rintro e w' ⟨rfl, rfl⟩))
          go_ret
          exact ⟨A3, c3, (by rw [HWL.out]; rfl), by rw [HWL.out]; exact HW3.out, by rw [HWL.out]; exact HM3.out.cast (by omega), HC3.out⟩
    · have hj0 : j = 0 := by
        rcases Nat.eq_zero_or_pos j with h | h
        · exact h
        · exact absurd (hpos.out h) hx
      subst hj0
      have hxe : xs = [] := by
        rcases Classical.em (xs = []) with h | h
        · exact h
        · exact absurd ((T.prs_zero hk H.out.lt).2 h) hx
      have hir : i = root := by
        rcases hpi.out with ⟨_, h⟩ | ⟨h, _⟩
        · exact h
        · omega
      have hlv := H.out.none hxe
      rw [← hir] at hlv
      have hrd := Lib.hid (q_peek_no wr Q m0 lim cn cf An Af ns fs hQo.out (i : Int) hlv)
      have HWL : Hid (T.wl xs k = 0) := T.wl_eq (by omega) (fun l hl => absurd hl (by omega)) (fun _ => hx)
      clear hx hxe hir hlv
      go_wp2_with (go_at_call 61; (with_reducible refine hrd.out.mono ?_); rintro e w2 ⟨rfl, hb2⟩; have HB2 := Lib.hid hb2; clear hb2)
      go_ret
      have hb3 : K.Chg w (w2.alloc ndzo) (· = m0) := (hCh.out.same (K.Chg.of_below (O := (· = m0)) HB2.out)).same (chg_alloc _ _ _)
      refine ⟨A, c, (by rw [HWL.out]; rfl), ?_, ?_, hb3⟩
      · rw [HWL.out]
        exact (((K.Chg.of_below (O := fun _ => False) HB2.out).own hWy.out (fun _ _ h => h)).alloc _)
      · rw [HWL.out]
        exact ((hMx.out.chg (K.Chg.of_below (O := fun _ => False) HB2.out) (fun h => h)).chg (chg_alloc _ _ (fun _ => False)) (fun h => h)).cast rfl
end Go.Proofs.YtbiingpdchoppaaDoor
end
section
namespace Go.Proofs.YtbiingpdchoppaaDoor
set_option maxRecDepth 40000
open Go.RowKit
namespace T
/-- The keys below the first r digits of a node. -/
def ah (xs : List Nat) (l p r : Nat) : Nat := (((dgs xs l p).take r).map fun d => (sub xs (l + 1) (p * 64 + d)).length).sum
theorem ah_succ (xs : List Nat) (l p r : Nat) (h : r < (dgs xs l p).length) : ah xs l p (r + 1) = ah xs l p r + (sub xs (l + 1) (p * 64 + (dgs xs l p)[r])).length := by
  unfold ah
  rw [List.take_succ_eq_append_getElem h, List.map_append, List.sum_append]
  simp
theorem sub_len_le (xs : List Nat) (l p : Nat) : (sub xs l p).length ≤ xs.length := by
  unfold sub
  exact List.length_filter_le _ _
theorem ah_le (xs : List Nat) (l p : Nat) : ∀ r, r ≤ (dgs xs l p).length → ah xs l p r ≤ r * xs.length
  | 0, _ => by simp [ah]
  | r + 1, h => by
    rw [ah_succ xs l p r (by omega), Nat.succ_mul]
    have := ah_le xs l p r (by omega)
    have := sub_len_le xs (l + 1) (p * 64 + (dgs xs l p)[r])
    omega
theorem dgs_len (xs : List Nat) (l p : Nat) : (dgs xs l p).length ≤ 64 := by
  unfold dgs
  exact Nat.le_trans (List.length_filter_le _ _) (by simp)
end T
section
variable (w : World) (P Q m0 lim tk root cn cf : Nat) (An Af : Option Addr) (ns : List (Nd × Bool)) (fs xs : List Nat) (pl : Nat → Nat → Nat)
/-- A child's node, looked at. -/
theorem t_peek_kid (h : TW w P Q m0 lim tk An cn Af cf ns fs root pl xs) (l q : Nat) (hl : l < 11) (hp : T.prs xs l q) : ∃ (W : Nat) (A : Option Addr) (n c le gr : Nat), Calls Tryd.prog 57 #[.pointer (some ⟨P, 0, none⟩), .int .i64 ((pl l q : Nat) : Int)] w (RetB w (ndv W A n c (T.sub xs l q).length le gr)) := by
  obtain ⟨hi, hn, hok⟩ := h.node hl hp
  have hc := t_peek_yes w P Q m0 lim tk root cn cf An Af ns fs xs pl h (pl l q) hi (by rw [hn])
  rw [hn] at hc
  have hks := hok.ks
  refine ⟨(nat ns (pl l q)).W, (nat ns (pl l q)).A, (nat ns (pl l q)).ch.length, (nat ns (pl l q)).c, (nat ns (pl l q)).le, (nat ns (pl l q)).gr, ?_⟩
  rw [← hks]
  exact hc
set_option maxHeartbeats 2000000 in
theorem t_ahead_in (h : TW w P Q m0 lim tk An cn Af cf ns fs root pl xs) (l p W : Nat) (A : Option Addr) (ch : List Nat) (c ks le gr r : Nat) (hl : l < 10) (hok : T.NdOK xs pl l p W ks le gr ch) (hr : r ≤ ch.length) (hown : w.ownsRow 0 3 1 (.slice A ch.length c) ch.length (iw ch)) :
    Calls Tryd.prog 62 #[.pointer (some ⟨P, 0, none⟩), ndv W A ch.length c ks le gr, .int .i64 (l : Int), .int .i64 (r : Int)] w fun e w' => e = .returned (.int .i64 ((T.ah xs l p r : Nat) : Int)) ∧ Below w.heap.size w w' := by
  have e10 : ((l : Int) == 10) = false := by simp; omega
  have hlim := h.po.lim_le
  have hus := h.used
  have hnl := h.po.ns_le
  have hxl := T.len_trie h.up
  have hch := hok.ch
  rw [if_pos hl] at hch
  have hcl : ch.length = (T.dgs xs l p).length := by rw [hch, List.length_map]
  have hd64 := T.dgs_len xs l p
  have hkid : Hid (∀ V, Below w.heap.size w V → ∀ j (hj : j < r), ∃ (i W : Nat) (A : Option Addr) (n c m le gr : Nat), V.cell? ((A.getD ⟨0, 0, none⟩)) = V.cell? ((A.getD ⟨0, 0, none⟩)) ∧ (iw ch)[j]? = some (.int .i64 (i : Int)) ∧ T.ah xs l p (j + 1) = T.ah xs l p j + m ∧ m ≤ xs.length ∧ Calls Tryd.prog 57 #[.pointer (some ⟨P, 0, none⟩), .int .i64 (i : Int)] V (RetB V (ndv W A n c m le gr))) := Lib.hid (fun V hb j hj => by
    have hjd : j < (T.dgs xs l p).length := by omega
    have hmd := T.mem_dgs.1 (List.getElem_mem hjd)
    obtain ⟨W', A', n', c', le', gr', hc⟩ := t_peek_kid V P Q m0 lim tk root cn cf An Af ns fs xs pl (h.chg (K.Chg.of_below (O := fun _ => False) hb) (fun _ _ h => h)) (l + 1) (p * 64 + (T.dgs xs l p)[j]) (by omega) hmd.2
    refine ⟨_, W', A', n', c', _, le', gr', rfl, ?_, T.ah_succ xs l p j hjd, T.sub_len_le _ _ _, hc⟩
    rw [List.getElem?_map, List.getElem?_eq_getElem (by omega)]
    simp only [Option.map_some, hch, List.getElem_map])
  have hal : ∀ j, j ≤ r → T.ah xs l p j ≤ j * xs.length := fun j hj => T.ah_le xs l p j (by omega)
  have HAL := Lib.hid hal
  have hxs : xs.length ≤ 67108864 := by omega
  have hcap := own_cap hown
  have d0 : decide (0 ≤ (r : Int)) = true := decide_eq_true (by omega)
  have d1 : decide ((r : Int) ≤ (c : Int)) = true := decide_eq_true (by omega)
  have hfd := fun V W A n c ks le gr => run_ks V W A n c ks le gr
  have HOWN := Lib.hid hown
  have hB0 : Hid (Below w.heap.size w (w.alloc (ndo W A ch.length c ks le gr))) := (Below.refl _ w).alloc (Nat.le_refl _) _
  have h0 : T.ah xs l p 0 = 0 := by simp [T.ah]
  have hr64 : r ≤ 64 := by omega
  clear h hok hch hown hal hus hnl hxl hcl hd64
  go_enter Tryd.func62, Tryd.ntmps62
  go_wp2
  go_loopw [9, 20] (fun acc ix wr => ∃ j : Nat, j ≤ r ∧ ix = .int .i64 (j : Int) ∧ acc = .int .i64 ((T.ah xs l p j : Nat) : Int) ∧ Hid (Below w.heap.size w wr)) (fun _ ix _ => r - (intOf ix).toNat)
  case atStart => exact ⟨0, by omega, rfl, by rw [h0]; rfl, hB0⟩
  case round =>
    obtain ⟨j, hj, rfl, rfl, hB⟩ := hrel
    rcases Nat.lt_or_ge j r with hjr | hjr
    · obtain ⟨i, W1, A1, n1, c1, m, le1, gr1, _, hcell, hah, hm, hpk⟩ := hkid.out wr hB.out j hjr
      obtain ⟨g, rfl⟩ := own_some HOWN.out (by omega)
      have hcj : wr.cell? ⟨g, j, none⟩ = some (.int .i64 (i : Int)) := (((K.Chg.of_below (O := fun _ => False) hB.out).own HOWN.out (fun _ _ h => h)).cellAt j (by omega)).trans hcell
      have hHP := Lib.hid hpk
      have hb := HAL.out j hj
      have hjx : j * xs.length ≤ 64 * 67108864 := Nat.mul_le_mul (by omega) hxs
      have gk : (j : Int) < (r : Int) := by omega
      have wa : IntKind.i64.wrap (((T.ah xs l p j : Nat) : Int) + (m : Int)) = ((T.ah xs l p (j + 1) : Nat) : Int) := by rw [hah, IntWalk.i64_in _ (by omega)]; omega
      have wj : IntKind.i64.wrap ((j : Int) + 1) = ((j + 1 : Nat) : Int) := by rw [IntWalk.i64_in _ (by omega)]; omega
      clear hcell hpk hah hb hjx
      go_wp2_with (go_at_call 57; (with_reducible refine hHP.out.mono ?_); rintro e w2 ⟨rfl, hb2⟩; have HB2 : Hid (Below w.heap.size w w2) := Lib.hid (hB.out.trans (hb2.mono hB.out.size)); clear hb2)
      go_roundw
      case rel => exact ⟨j + 1, by omega, by go_num, by go_num, HB2⟩
      case measure => simp [intOf]; omega
    · obtain rfl : j = r := by omega
      have g0 : decide ((j : Int) < (j : Int)) = false := decide_eq_false (by omega)
      go_wp2
      go_ret
      exact ⟨rfl, hB.out⟩
end
end Go.Proofs.YtbiingpdchoppaaDoor
end
section
namespace Go.Proofs.YtbiingpdchoppaaDoor
set_option maxRecDepth 40000
open Go.RowKit
namespace T
theorem ah_last {xs : List Nat} (hu : K.Up xs) (p : Nat) : ∀ r, r ≤ (dgs xs 10 p).length → ah xs 10 p r = r
  | 0, _ => by simp [ah]
  | r + 1, h => by
    rw [ah_succ xs 10 p r (by omega), ah_last hu p r (by omega)]
    have hm := (mem_dgs.1 (List.getElem_mem (l := dgs xs 10 p) (n := r) (by omega))).2
    rw [sub_last hu, if_pos (prs_last.1 hm)]
    rfl
/-- The keys below k that begin as k does. -/
def cb (xs : List Nat) (k l : Nat) : Nat := ((sub xs l (pre l k)).filter fun x => decide (x < k)).length
theorem cb_zero {xs : List Nat} (hu : K.Up xs) {k : Nat} (hk : k < 18446744073709551616) (hl : ∀ x ∈ xs, x < 18446744073709551616) : cb xs k 0 = K.fi xs k := by
  unfold cb
  rw [pre_zero hk, sub_zero hl, filter_while hu]
  rfl
theorem cb_end {xs : List Nat} (hu : K.Up xs) {k m : Nat} (h : m < 11 → ¬ prs xs m (pre m k)) (hm : m ≤ 11) : cb xs k m = 0 := by
  unfold cb
  rcases Nat.lt_or_ge m 11 with h1 | h1
  · have : sub xs m (pre m k) = [] := by
      rcases Classical.em (sub xs m (pre m k) = []) with h2 | h2
      · exact h2
      · exact absurd (prs_sub.2 h2) (h h1)
    rw [this]
    rfl
  · obtain rfl : m = 11 := by omega
    rw [pre_last, sub_last hu]
    split <;> simp
end T
section
variable (w : World) (P Q m0 lim tk root cn cf : Nat) (An Af : Option Addr) (ns : List (Nd × Bool)) (fs xs : List Nat) (pl : Nat → Nat → Nat)
theorem t_ahead (h : TW w P Q m0 lim tk An cn Af cf ns fs root pl xs) (l p r : Nat) (hl : l < 11) (hp : T.prs xs l p) (hr : r ≤ (T.dgs xs l p).length) :
    Calls Tryd.prog 62 #[.pointer (some ⟨P, 0, none⟩), ndv (nat ns (pl l p)).W (nat ns (pl l p)).A (nat ns (pl l p)).ch.length (nat ns (pl l p)).c (nat ns (pl l p)).ks (nat ns (pl l p)).le (nat ns (pl l p)).gr, .int .i64 (l : Int), .int .i64 (r : Int)] w fun e w' => e = .returned (.int .i64 ((T.ah xs l p r : Nat) : Int)) ∧ Below w.heap.size w w' := by
  obtain ⟨hi, hn, hok⟩ := h.node hl hp
  have hown := h.kids.own _ hi
  rw [hn] at hown
  by_cases h10 : l < 10
  · have hch := hok.ch
    rw [if_pos h10] at hch
    exact t_ahead_in w P Q m0 lim tk root cn cf An Af ns fs xs pl h l p _ _ _ _ _ _ _ r h10 hok (by rw [hch, List.length_map]; exact hr) hown
  · obtain rfl : l = 10 := by omega
    rw [T.ah_last h.up p r hr]
    clear h hok hown
    go_enter Tryd.func62, Tryd.ntmps62
    go_wp2
    go_ret
    exact ⟨rfl, (Below.refl _ w).alloc (Nat.le_refl _) _⟩
end
end Go.Proofs.YtbiingpdchoppaaDoor
end
section
namespace Go.Proofs.YtbiingpdchoppaaDoor
set_option maxRecDepth 40000
open Go.RowKit
section
variable (w : World) (P Q m0 lim tk root cn cf : Nat) (An Af : Option Addr) (ns : List (Nd × Bool)) (fs xs : List Nat) (pl : Nat → Nat → Nat)
set_option maxHeartbeats 4000000 in
theorem t_rank (h : TW w P Q m0 lim tk An cn Af cf ns fs root pl xs) (htk : tk < 100000) (k : Nat) (hk : k < 18446744073709551616) :
    Calls Tryd.prog 36 #[.pointer (some ⟨P, 0, none⟩), .int .u64 (k : Int)] w fun e w' => e = .returned (.int .i64 ((K.fi xs k : Nat) : Int)) ∧ Mx w' m0 tk ∧ K.Chg w w' (· = m0) := by
  obtain ⟨m, hm⟩ : ∃ m, T.wl xs k = m := ⟨_, rfl⟩
  have hm11 : m ≤ 11 := by rw [← hm]; exact T.wl_le xs k
  have hP1 := cell_of_row w P 1 _ _ (0, 0) h.row
  simp at hP1
  have hwk := Lib.hid (t_walk_peek w P Q m0 lim tk root cn cf An Af ns fs xs pl h k hk htk)
  have H := Lib.hid h
  have hml := h.mx.lt
  have hlim := h.po.lim_le
  have hus := h.used
  have hnl := h.po.ns_le
  have hxl := T.len_trie h.up
  have hfx : K.fi xs k ≤ 67108864 := by have := K.fi_le xs k; omega
  have h0 : Hid (0 + T.cb xs k 0 = K.fi xs k) := Lib.hid (by rw [T.cb_zero h.up hk h.lt, Nat.zero_add])
  have hend : Hid (T.cb xs k m = 0) := Lib.hid (T.cb_end h.up (fun h1 => by
    have := T.wl_no (xs := xs) (k := k) (by omega)
    rwa [hm] at this) hm11)
  have HMM := Lib.hid hm
  clear h hus hnl hxl hm
  go_enter Tryd.func36, Tryd.ntmps36
  go_wp2_with (go_at_call 46; (with_reducible refine hwk.out.mono ?_); rintro e w1 ⟨Aw, cw, rfl, hw1, hm1, hc1⟩; rw [HMM.out] at hw1 ⊢; have HW1 := Lib.hid hw1; have HM1 : Hid (Mx w1 m0 tk) := Lib.hid (hm1.cast (by omega)); have HC1 : Hid (K.Chg w w1 (· = m0)) := Lib.hid hc1; clear hw1 hm1 hc1)
  go_loopw [5, 19] (fun acc ix wr => ∃ j a : Nat, j ≤ m ∧ ix = .int .i64 (j : Int) ∧ acc = .int .i64 (a : Int) ∧ Hid (a + T.cb xs k j = K.fi xs k) ∧ Hid (K.Chg w1 wr (fun _ => False))) (fun _ ix _ => m - (intOf ix).toNat)
  case atStart => exact ⟨0, 0, by omega, rfl, rfl, h0, chg_refl _ _⟩
  case round =>
    obtain ⟨j, a, hj, rfl, rfl, hA, hC⟩ := hrel
    rcases Nat.lt_or_ge j m with hjm | hjm
    · have hp : T.prs xs j (T.pre j k) := T.wl_yes (by rw [HMM.out]; exact hjm)
      obtain ⟨_, _, hok⟩ := H.out.node (by omega) hp
      have hrow := hC.out.own HW1.out (fun _ _ h => h)
      have hsl := wst_len ns pl k m
      have hrow' : Wy wr w.heap.size (.slice Aw (wst ns pl k m).length cw) (wst ns pl k m) := by
        unfold Wy
        rw [hsl]
        exact hrow
      obtain ⟨g, rfl, x0, x1, x2, x3, x4, x5⟩ := hrow'.at (k := j) (by omega)
      have he : (wst ns pl k m)[j]'(by omega) = (nat ns (pl j (T.pre j k)), pl j (T.pre j k)) := wst_at _ _ _ _ _ _
      rw [he] at x0 x1 x2 x3 x4 x5
      have hrs := T.rank_step xs (l := j) (by omega) k
      have hcb : Hid (a + T.ah xs j (T.pre j k) (K.fi (T.dgs xs j (T.pre j k)) (T.dig j k)) + T.cb xs k (j + 1) = K.fi xs k) := Lib.hid (by
        have h1 := hA.out
        have h2 : T.cb xs k j = T.ah xs j (T.pre j k) (K.fi (T.dgs xs j (T.pre j k)) (T.dig j k)) + T.cb xs k (j + 1) := hrs
        omega)
      have hdg := fun V => Lib.hid (t_digit V k j hk (by omega))
      have hbr := fun V => Lib.hid (bit_rank _ hok.wlt ((T.dig j k : Nat) : Int) V)
      rw [T.rank_fi, hok.bits] at hbr
      have hah := fun V (hb : K.Chg w V (· = m0)) (hm : Mx V m0 tk) => Lib.hid (t_ahead V P Q m0 lim tk root cn cf An Af ns fs xs pl (H.out.met hb hm) j (T.pre j k) (K.fi (T.dgs xs j (T.pre j k)) (T.dig j k)) (by omega) hp (K.fi_le _ _))
      generalize T.ah xs j (T.pre j k) (K.fi (T.dgs xs j (T.pre j k)) (T.dig j k)) = m2 at *
      generalize K.fi (T.dgs xs j (T.pre j k)) (T.dig j k) = rk at *
      generalize T.dig j k = dg at *
      generalize pl j (T.pre j k) = pp at *
      generalize nat ns pp = nd at *
      have hmx : ∀ V, K.Chg wr V (fun _ => False) → Hid (Mx V m0 tk) ∧ Hid (K.Chg w V (· = m0)) := fun V hv => ⟨(HM1.out.chg hC.out (fun h => h)).chg hv (fun h => h), (HC1.out.same (hC.out.mono (fun _ h => h.elim))).same (hv.mono (fun _ h => h.elim))⟩
      have gk : (j : Int) < (m : Int) := by omega
      have wa : IntKind.i64.wrap ((a : Int) + (m2 : Int)) = ((a + m2 : Nat) : Int) := by have := hcb.out; rw [IntWalk.i64_in _ (by omega)]; omega
      have wj : IntKind.i64.wrap ((j : Int) + 1) = ((j + 1 : Nat) : Int) := by rw [IntWalk.i64_in _ (by omega)]; omega
      clear hok hrow hrow' he hrs hp
      have hrw := K.alloc_top wr (.cells #[.int .u64 (nd.W : Int), .slice nd.A nd.ch.length nd.c, .int .i64 (nd.ks : Int), .int .u64 (nd.le : Int), .int .u64 (nd.gr : Int), .int .i64 (pp : Int)] 99)
      have hS0 : (wr.alloc (.cells #[.int .u64 (nd.W : Int), .slice nd.A nd.ch.length nd.c, .int .i64 (nd.ks : Int), .int .u64 (nd.le : Int), .int .u64 (nd.gr : Int), .int .i64 (pp : Int)] 99)).drew.cell? ⟨wr.heap.size, 0, none⟩ = some (.int .u64 (nd.W : Int)) ∧ (wr.alloc (.cells #[.int .u64 (nd.W : Int), .slice nd.A nd.ch.length nd.c, .int .i64 (nd.ks : Int), .int .u64 (nd.le : Int), .int .u64 (nd.gr : Int), .int .i64 (pp : Int)] 99)).drew.cell? ⟨wr.heap.size, 1, none⟩ = some (.slice nd.A nd.ch.length nd.c) ∧ (wr.alloc (.cells #[.int .u64 (nd.W : Int), .slice nd.A nd.ch.length nd.c, .int .i64 (nd.ks : Int), .int .u64 (nd.le : Int), .int .u64 (nd.gr : Int), .int .i64 (pp : Int)] 99)).drew.cell? ⟨wr.heap.size, 2, none⟩ = some (.int .i64 (nd.ks : Int)) ∧ (wr.alloc (.cells #[.int .u64 (nd.W : Int), .slice nd.A nd.ch.length nd.c, .int .i64 (nd.ks : Int), .int .u64 (nd.le : Int), .int .u64 (nd.gr : Int), .int .i64 (pp : Int)] 99)).drew.cell? ⟨wr.heap.size, 3, none⟩ = some (.int .u64 (nd.le : Int)) ∧ (wr.alloc (.cells #[.int .u64 (nd.W : Int), .slice nd.A nd.ch.length nd.c, .int .i64 (nd.ks : Int), .int .u64 (nd.le : Int), .int .u64 (nd.gr : Int), .int .i64 (pp : Int)] 99)).drew.cell? ⟨wr.heap.size, 4, none⟩ = some (.int .u64 (nd.gr : Int)) := by
        have h0 := cell_of_row (wr.alloc (.cells #[.int .u64 (nd.W : Int), .slice nd.A nd.ch.length nd.c, .int .i64 (nd.ks : Int), .int .u64 (nd.le : Int), .int .u64 (nd.gr : Int), .int .i64 (pp : Int)] 99)).drew wr.heap.size 0 _ _ (0, 0) hrw
        have h1 := cell_of_row (wr.alloc (.cells #[.int .u64 (nd.W : Int), .slice nd.A nd.ch.length nd.c, .int .i64 (nd.ks : Int), .int .u64 (nd.le : Int), .int .u64 (nd.gr : Int), .int .i64 (pp : Int)] 99)).drew wr.heap.size 1 _ _ (0, 0) hrw
        have h2 := cell_of_row (wr.alloc (.cells #[.int .u64 (nd.W : Int), .slice nd.A nd.ch.length nd.c, .int .i64 (nd.ks : Int), .int .u64 (nd.le : Int), .int .u64 (nd.gr : Int), .int .i64 (pp : Int)] 99)).drew wr.heap.size 2 _ _ (0, 0) hrw
        have h3 := cell_of_row (wr.alloc (.cells #[.int .u64 (nd.W : Int), .slice nd.A nd.ch.length nd.c, .int .i64 (nd.ks : Int), .int .u64 (nd.le : Int), .int .u64 (nd.gr : Int), .int .i64 (pp : Int)] 99)).drew wr.heap.size 3 _ _ (0, 0) hrw
        have h4 := cell_of_row (wr.alloc (.cells #[.int .u64 (nd.W : Int), .slice nd.A nd.ch.length nd.c, .int .i64 (nd.ks : Int), .int .u64 (nd.le : Int), .int .u64 (nd.gr : Int), .int .i64 (pp : Int)] 99)).drew wr.heap.size 4 _ _ (0, 0) hrw
        exact ⟨h0, h1, h2, h3, h4⟩
      have hSn : ∀ V, K.Chg (wr.alloc (.cells #[.int .u64 (nd.W : Int), .slice nd.A nd.ch.length nd.c, .int .i64 (nd.ks : Int), .int .u64 (nd.le : Int), .int .u64 (nd.gr : Int), .int .i64 (pp : Int)] 99)).drew V (fun _ => False) → V.cell? ⟨wr.heap.size, 0, none⟩ = some (.int .u64 (nd.W : Int)) ∧ V.cell? ⟨wr.heap.size, 1, none⟩ = some (.slice nd.A nd.ch.length nd.c) ∧ V.cell? ⟨wr.heap.size, 2, none⟩ = some (.int .i64 (nd.ks : Int)) ∧ V.cell? ⟨wr.heap.size, 3, none⟩ = some (.int .u64 (nd.le : Int)) ∧ V.cell? ⟨wr.heap.size, 4, none⟩ = some (.int .u64 (nd.gr : Int)) := fun V hv =>
        have hlt : wr.heap.size < (wr.alloc (.cells #[.int .u64 (nd.W : Int), .slice nd.A nd.ch.length nd.c, .int .i64 (nd.ks : Int), .int .u64 (nd.le : Int), .int .u64 (nd.gr : Int), .int .i64 (pp : Int)] 99)).drew.heap.size := row_lt hrw
        ⟨(hv.cell hlt (fun h => h) 0).trans hS0.1, (hv.cell hlt (fun h => h) 1).trans hS0.2.1, (hv.cell hlt (fun h => h) 2).trans hS0.2.2.1, (hv.cell hlt (fun h => h) 3).trans hS0.2.2.2.1, (hv.cell hlt (fun h => h) 4).trans hS0.2.2.2.2⟩
      have HS0 := Lib.hid hS0
      have HSN := Lib.hid hSn
      have hCD : Hid (K.Chg wr (wr.alloc (.cells #[.int .u64 (nd.W : Int), .slice nd.A nd.ch.length nd.c, .int .i64 (nd.ks : Int), .int .u64 (nd.le : Int), .int .u64 (nd.gr : Int), .int .i64 (pp : Int)] 99)).drew (fun _ => False)) := Lib.hid ((chg_alloc wr (.cells #[.int .u64 (nd.W : Int), .slice nd.A nd.ch.length nd.c, .int .i64 (nd.ks : Int), .int .u64 (nd.le : Int), .int .u64 (nd.gr : Int), .int .i64 (pp : Int)] 99) _).drewN 1)
      have hdg0 := hdg (wr.alloc (.cells #[.int .u64 (nd.W : Int), .slice nd.A nd.ch.length nd.c, .int .i64 (nd.ks : Int), .int .u64 (nd.le : Int), .int .u64 (nd.gr : Int), .int .i64 (pp : Int)] 99)).drew
      have hbr0 := hbr (wr.alloc (.cells #[.int .u64 (nd.W : Int), .slice nd.A nd.ch.length nd.c, .int .i64 (nd.ks : Int), .int .u64 (nd.le : Int), .int .u64 (nd.gr : Int), .int .i64 (pp : Int)] 99)).drew
      clear hrw hS0 hSn hdg hbr
      go_wp2
      go_region_held3 (fun X => X.cell? ⟨wr.heap.size, 0, none⟩ = some (.int .u64 (nd.W : Int)) ∧ X.cell? ⟨wr.heap.size, 1, none⟩ = some (.slice nd.A nd.ch.length nd.c) ∧ X.cell? ⟨wr.heap.size, 2, none⟩ = some (.int .i64 (nd.ks : Int)) ∧ X.cell? ⟨wr.heap.size, 3, none⟩ = some (.int .u64 (nd.le : Int)) ∧ X.cell? ⟨wr.heap.size, 4, none⟩ = some (.int .u64 (nd.gr : Int))) (first | (with_reducible exact HS0.out) | (with_reducible exact HS2.out) | (with_reducible exact HS3.out) | go_keep) (first
        | (go_at_call 64; (with_reducible refine hdg0.out.mono ?_); rintro e w' ⟨rfl, rfl⟩)
        | (go_at_call 63; (with_reducible refine hbr0.out.mono ?_); rintro e w2 ⟨rfl, n1, hn1⟩
           have hc2 : K.Chg (wr.alloc (.cells #[.int .u64 (nd.W : Int), .slice nd.A nd.ch.length nd.c, .int .i64 (nd.ks : Int), .int .u64 (nd.le : Int), .int .u64 (nd.gr : Int), .int .i64 (pp : Int)] 99)).drew w2 (fun _ => False) := (by rw [hn1]; exact (chg_refl _ _).drewN n1)
           clear hn1
           have HC2 := Lib.hid (hCD.out.same hc2)
           have HCC := Lib.hid hc2
           have HS2 := Lib.hid (HSN.out w2 hc2)
           have HAH := hah w2 (hmx w2 HC2.out).2.out (hmx w2 HC2.out).1.out
           clear hc2)
        | (go_at_call 62; (with_reducible refine HAH.out.mono ?_); rintro e w3 ⟨rfl, hb3⟩
           have HC3 := Lib.hid (HC2.out.same (K.Chg.of_below (O := fun _ => False) hb3))
           have HS3 := Lib.hid (HSN.out w3 (HCC.out.same (K.Chg.of_below (O := fun _ => False) hb3)))
           clear hb3))
      all_goals
        go_wp2
        go_roundw
        case rel => exact ⟨j + 1, a + m2, by omega, by go_num, by go_num, hcb, hC.out.same HC3.out⟩
        case measure => simp [intOf]; omega
    · obtain rfl : j = m := by omega
      have g0 : decide ((j : Int) < (j : Int)) = false := decide_eq_false (by omega)
      have ha : Hid (a = K.fi xs k) := Lib.hid (by have h1 := hA.out; have h2 := hend.out; omega)
      go_wp2
      go_ret
      exact ⟨by rw [ha.out]; rfl, (HM1.out.chg hC.out (fun h => h)), HC1.out.same (hC.out.mono (fun _ h => h.elim))⟩
end
end Go.Proofs.YtbiingpdchoppaaDoor
end
section
namespace Go.Proofs.YtbiingpdchoppaaDoor
set_option maxRecDepth 40000
open Go.RowKit
namespace T
theorem ah_all (xs : List Nat) {l : Nat} (hl : l < 11) (p : Nat) : ah xs l p (dgs xs l p).length = (sub xs l p).length := by
  unfold ah
  rw [List.take_length, sum_sub xs hl p _ (List.Pairwise.imp (fun h => Nat.ne_of_lt h) (dgs_up xs l p)) (fun d hd => (mem_dgs.1 hd).1)]
  unfold sub
  congr 1
  refine List.filter_congr fun x hx => ?_
  rw [decide_eq_decide]
  exact ⟨fun h => h.1, fun h => ⟨h, mem_dgs.2 ⟨dig_lt l x, x, hx, by rw [pre_split hl x, h]⟩⟩⟩
end T
section
variable (w : World) (P Q m0 lim tk root cn cf : Nat) (An Af : Option Addr) (ns : List (Nd × Bool)) (fs xs : List Nat) (pl : Nat → Nat → Nat)
theorem t_peek_node (h : TW w P Q m0 lim tk An cn Af cf ns fs root pl xs) (l q : Nat) (hl : l < 11) (hp : T.prs xs l q) : (nat ns (pl l q)).ks = (T.sub xs l q).length ∧ Calls Tryd.prog 57 #[.pointer (some ⟨P, 0, none⟩), .int .i64 ((pl l q : Nat) : Int)] w (RetB w (nat ns (pl l q)).v) := by
  obtain ⟨hi, hn, hok⟩ := h.node hl hp
  have hc := t_peek_yes w P Q m0 lim tk root cn cf An Af ns fs xs pl h (pl l q) hi (by rw [hn])
  rw [hn] at hc
  exact ⟨hok.ks, hc⟩
set_option maxHeartbeats 2000000 in
theorem t_part (h : TW w P Q m0 lim tk An cn Af cf ns fs root pl xs) (l p W : Nat) (A : Option Addr) (ch : List Nat) (c ks le gr i : Nat) (hl : l < 10) (hok : T.NdOK xs pl l p W ks le gr ch) (hown : w.ownsRow 0 3 1 (.slice A ch.length c) ch.length (iw ch)) (hi : i < (T.sub xs l p).length) :
    Calls Tryd.prog 58 #[.pointer (some ⟨P, 0, none⟩), ndv W A ch.length c ks le gr, .int .i64 (i : Int)] w fun e w' => ∃ (j : Nat) (hj : j < (T.dgs xs l p).length), T.ah xs l p j ≤ i ∧ i < T.ah xs l p (j + 1) ∧ e = .returned (.tuple #[(nat ns (pl (l + 1) (p * 64 + (T.dgs xs l p)[j]))).v, .int .i64 ((i - T.ah xs l p j : Nat) : Int)]) ∧ Below w.heap.size w w' := by
  have hlim := h.po.lim_le
  have hus := h.used
  have hnl := h.po.ns_le
  have hxl := T.len_trie h.up
  have hch := hok.ch
  rw [if_pos hl] at hch
  have hcl : ch.length = (T.dgs xs l p).length := by rw [hch, List.length_map]
  have hd64 := T.dgs_len xs l p
  have hall := T.ah_all xs (l := l) (by omega) p
  have hsub := T.sub_len_le xs l p
  have hib : i < 67108864 := by omega
  have hkid : Hid (∀ V, Below w.heap.size w V → ∀ j (hj : j < (T.dgs xs l p).length), ∃ q : Nat, q = pl (l + 1) (p * 64 + (T.dgs xs l p)[j]) ∧ (iw ch)[j]? = some (.int .i64 (q : Int)) ∧ T.ah xs l p (j + 1) = T.ah xs l p j + (nat ns q).ks ∧ Calls Tryd.prog 57 #[.pointer (some ⟨P, 0, none⟩), .int .i64 (q : Int)] V (RetB V (nat ns q).v)) := Lib.hid (fun V hb j hj => by
    have hmd := T.mem_dgs.1 (List.getElem_mem hj)
    obtain ⟨hk, hc⟩ := t_peek_node V P Q m0 lim tk root cn cf An Af ns fs xs pl (h.chg (K.Chg.of_below (O := fun _ => False) hb) (fun _ _ h => h)) (l + 1) (p * 64 + (T.dgs xs l p)[j]) (by omega) hmd.2
    refine ⟨_, rfl, ?_, ?_, hc⟩
    · rw [List.getElem?_map, List.getElem?_eq_getElem (by omega)]
      simp only [Option.map_some, hch, List.getElem_map]
    · rw [T.ah_succ xs l p j hj, hk])
  have HOWN := Lib.hid hown
  obtain ⟨n, hn⟩ : ∃ n, (T.dgs xs l p).length = n := ⟨_, rfl⟩
  have HN := Lib.hid hn
  have hn64 : n ≤ 64 := by omega
  have HALL : Hid (T.ah xs l p n = (T.sub xs l p).length) := Lib.hid (by rw [← hn]; exact hall)
  have hcn : ch.length = n := by omega
  have HI := Lib.hid hi
  have hB0 : Hid (Below w.heap.size w ((w.alloc (ndo W A n c ks le gr)).alloc ndzo)) := ((Below.refl _ w).alloc (Nat.le_refl _) _).alloc (by simp) _
  have hz := Lib.hid (top_two w (ndo W A n c ks le gr) ndzo)
  have hs2 : ((w.alloc (ndo W A n c ks le gr)).alloc ndzo).heap.size = w.heap.size + 2 := by simp
  have HS2 := Lib.hid hs2
  have h0 : T.ah xs l p 0 = 0 := by simp [T.ah]
  clear h hok hch hown hall hus hnl hxl hn hcl hi hs2
  rw [hcn] at HOWN ⊢
  clear hcn
  go_enter Tryd.func58, Tryd.ntmps58
  go_wp2
  go_loopw [2, 14] (fun ii ix wr => ∃ j : Nat, j ≤ n ∧ T.ah xs l p j ≤ i ∧ ix = .int .i64 (j : Int) ∧ ii = .int .i64 ((i - T.ah xs l p j : Nat) : Int) ∧ Hid (K.Chg ((w.alloc (ndo W A n c ks le gr)).alloc ndzo) wr (fun _ => False))) (fun _ ix _ => n - (intOf ix).toNat)
  case atStart => exact ⟨0, by omega, by omega, rfl, by rw [h0]; rfl, chg_refl _ _⟩
  case round =>
    obtain ⟨j, hj, hle, rfl, rfl, hC⟩ := hrel
    rcases Nat.lt_or_ge j n with hjr | hjr
    · have hB : Hid (Below w.heap.size w wr) := Lib.hid (hB0.out.trans (hC.out.below (by rw [HS2.out]; omega) (fun _ h => h.elim)))
      obtain ⟨q, hq, hcell, hah, hpk⟩ := hkid.out wr hB.out j (by rw [HN.out]; exact hjr)
      obtain ⟨g, rfl⟩ := own_some HOWN.out (by omega)
      have hcj : wr.cell? ⟨g, j, none⟩ = some (.int .i64 (q : Int)) := (((K.Chg.of_below (O := fun _ => False) hB.out).own HOWN.out (fun _ _ h => h)).cellAt j (by omega)).trans hcell
      have HQ := Lib.hid hq
      have HAH := Lib.hid hah
      generalize hnd : nat ns q = nd at hpk HAH hah
      have HND := Lib.hid hnd
      clear hnd hq hcell hah
      obtain ⟨W1, A1, ch1, c1, ks1, le1, gr1⟩ := nd
      have hpk : Hid (Calls Tryd.prog 57 #[.pointer (some ⟨P, 0, none⟩), .int .i64 (q : Int)] wr (RetB wr (ndv W1 A1 ch1.length c1 ks1 le1 gr1))) := hpk
      have HAH : Hid (T.ah xs l p (j + 1) = T.ah xs l p j + ks1) := HAH
      have gk : (j : Int) < (n : Int) := by omega
      have wj : IntKind.i64.wrap ((j : Int) + 1) = ((j + 1 : Nat) : Int) := by rw [IntWalk.i64_in _ (by omega)]; omega
      have hzr : Hid (wr.heap[w.heap.size + 1]? = some ndzo) := Lib.hid ((hC.out.block (w.heap.size + 1) (by rw [HS2.out]; omega) (fun h => h)).trans hz.out)
      have hlt1 : w.heap.size + 1 < wr.heap.size := row_lt hzr.out
      generalize hch1 : ch1.length = n1 at *
      have HCH := Lib.hid hch1
      clear hch1
      rcases Nat.lt_or_ge (i - T.ah xs l p j) ks1 with hik | hik
      · have d3 : decide (((i - T.ah xs l p j : Nat) : Int) < (ks1 : Int)) = true := decide_eq_true (by omega)
        have d4 : decide (i - T.ah xs l p j < ks1) = true := decide_eq_true hik
        go_wp2_with (go_at_call 57; (with_reducible refine hpk.out.mono ?_); rintro e w2 ⟨rfl, hb2⟩; have zz := (Below.heap_alloc w2 (ndo W1 A1 n1 c1 ks1 le1 gr1) (w.heap.size + 1) (by have := hb2.size; omega)).trans ((hb2.block (w.heap.size + 1) hlt1).trans hzr.out); obtain ⟨t0, t1, t2, t3, t4⟩ := nd_cells zz; have f0 := frozen_of_row _ _ 0 _ _ zz; have f1 := frozen_of_row _ _ 1 _ _ zz; have f2 := frozen_of_row _ _ 2 _ _ zz; have f3 := frozen_of_row _ _ 3 _ _ zz; have f4 := frozen_of_row _ _ 4 _ _ zz; have ZZ := Lib.hid zz; have HB2 : Hid (Below w.heap.size w (w2.alloc (ndo W1 A1 n1 c1 ks1 le1 gr1))) := Lib.hid ((hB.out.trans (hb2.mono hB.out.size)).alloc (by have := hb2.size; omega) _); clear zz hb2)
        refine bodyPost_ret (nd_res rfl _ _ (w.heap.size + 1) _ _ _ _ _ _ rfl (row_z5 ZZ.out _ _ _ _ _) rfl) rfl ?_
        have hah := HAH.out
        refine ⟨j, by rw [HN.out]; exact hjr, hle, by omega, ?_, ?_⟩
        · rw [← HQ.out, HND.out]
          show _ = Ending.returned (.tuple #[ndv W1 A1 ch1.length c1 ks1 le1 gr1, _])
          rw [HCH.out]
          rfl
        · exact ((((HB2.out.setCell (by simp) _).setCell (by simp) _).setCell (by simp) _).setCell (by simp) _).setCell (by simp) _
      · have d3 : decide (((i - T.ah xs l p j : Nat) : Int) < (ks1 : Int)) = false := decide_eq_false (by omega)
        have d4 : decide (i - T.ah xs l p j < ks1) = false := decide_eq_false (by omega)
        have hah := HAH.out
        have wa : IntKind.i64.wrap (((i - T.ah xs l p j : Nat) : Int) - (ks1 : Int)) = ((i - T.ah xs l p (j + 1) : Nat) : Int) := by rw [hah, IntWalk.i64_in _ (by omega)]; omega
        have hle2 : T.ah xs l p (j + 1) ≤ i := by omega
        clear hah
        go_wp2_with (go_at_call 57; (with_reducible refine hpk.out.mono ?_); rintro e w2 ⟨rfl, hb2⟩; have HC2 := Lib.hid ((hC.out.same (K.Chg.of_below (O := fun _ => False) hb2)).same (chg_alloc w2 (ndo W1 A1 n1 c1 ks1 le1 gr1) _)); clear hb2)
        go_roundw
        case rel => exact ⟨j + 1, by omega, hle2, by go_num, by go_num, HC2⟩
        case measure => simp [intOf]; omega
    · obtain rfl : j = n := by omega
      have := HALL.out
      have := HI.out
      omega
end
end Go.Proofs.YtbiingpdchoppaaDoor
end
section
namespace Go.Proofs.YtbiingpdchoppaaDoor
namespace T
theorem flat_at (f : Nat → List Nat) : ∀ (ds : List Nat) (j : Nat) (hj : j < ds.length) (i : Nat), ((ds.take j).map fun d => (f d).length).sum ≤ i → i < ((ds.take (j + 1)).map fun d => (f d).length).sum →
    (ds.flatMap f)[i]? = (f ds[j])[i - ((ds.take j).map fun d => (f d).length).sum]?
  | d :: ds, 0, _, i, _, h2 => by
    simp at h2
    rw [List.flatMap_cons, List.getElem?_append_left h2]
    simp
  | d :: ds, j + 1, hj, i, h1, h2 => by
    simp only [List.take_succ_cons, List.map_cons, List.sum_cons] at h1 h2
    rw [List.flatMap_cons, List.getElem?_append_right (by omega), flat_at f ds j (by simpa using hj) (i - (f d).length) (by omega) (by omega)]
    simp only [List.take_succ_cons, List.map_cons, List.sum_cons, List.getElem_cons_succ]
    congr 1
    omega
theorem sub_flat {xs : List Nat} (hu : K.Up xs) {l : Nat} (hl : l < 11) (p : Nat) : sub xs l p = (dgs xs l p).flatMap fun d => sub xs (l + 1) (p * 64 + d) := by
  refine up_ext (sub_up hu l p) ?_ fun x => ?_
  · refine List.pairwise_flatMap.2 ⟨fun d _ => sub_up hu _ _, ?_⟩
    refine (dgs_up xs l p).imp fun {a b} hab x hx y hy => ?_
    have h1 := (mem_sub.1 hx).2
    have h2 := (mem_sub.1 hy).2
    exact lt_of_pre (l := l + 1) (by omega)
  · rw [mem_sub, List.mem_flatMap]
    constructor
    · rintro ⟨h1, h2⟩
      have h3 : pre (l + 1) x = p * 64 + dig l x := by rw [pre_split hl, h2]
      exact ⟨dig l x, mem_dgs.2 ⟨dig_lt l x, x, h1, h3⟩, mem_sub.2 ⟨h1, h3⟩⟩
    · rintro ⟨d, h1, h2⟩
      have h3 := mem_sub.1 h2
      exact ⟨h3.1, (pre_child hl h3.2 (mem_dgs.1 h1).1).1⟩
theorem sub_at {xs : List Nat} (hu : K.Up xs) {l : Nat} (hl : l < 11) (p j : Nat) (hj : j < (dgs xs l p).length) (i : Nat) (h1 : ah xs l p j ≤ i) (h2 : i < ah xs l p (j + 1)) : (sub xs l p)[i]? = (sub xs (l + 1) (p * 64 + (dgs xs l p)[j]))[i - ah xs l p j]? := by
  rw [sub_flat hu hl p]
  exact flat_at _ _ j hj i h1 h2
theorem flat_one (g : Nat → Nat) : ∀ ds : List Nat, ds.flatMap (fun d => [g d]) = ds.map g
  | [] => rfl
  | d :: ds => by rw [List.flatMap_cons, flat_one g ds]; rfl
theorem sub_ten {xs : List Nat} (hu : K.Up xs) (p : Nat) : sub xs 10 p = (dgs xs 10 p).map fun d => p * 64 + d := by
  rw [sub_flat hu (by omega) p, ← flat_one]
  rw [List.flatMap_def, List.flatMap_def]
  congr 1
  refine List.map_congr_left fun d hd => ?_
  have := (mem_dgs.1 hd).2
  rw [sub_last hu, if_pos (prs_last.1 this)]
end T
end Go.Proofs.YtbiingpdchoppaaDoor
end
section
namespace Go.Proofs.YtbiingpdchoppaaDoor
set_option maxRecDepth 40000
open Go.RowKit
theorem sel_bits (W i : Nat) (h : i < (M.bl W).length) : M.rSel (M.bz W) (i : Int) = (((M.bl W)[i] : Nat) : Int) := by
  unfold M.rSel M.bz
  rw [if_neg (by omega), Int.toNat_natCast, List.getElem?_map, List.getElem?_eq_getElem h]
  rfl
/-- A node's box. -/
abbrev ndb (n : Nd) : Obj := ndo n.W n.A n.ch.length n.c n.ks n.le n.gr
section
variable (w : World) (P Q m0 lim tk root cn cf : Nat) (An Af : Option Addr) (ns : List (Nd × Bool)) (fs xs : List Nat) (pl : Nat → Nat → Nat)
theorem t_select_no (h : TW w P Q m0 lim tk An cn Af cf ns fs root pl xs) (i : Int) (hi : i < 0 ∨ (xs.length : Int) ≤ i) :
    Calls Tryd.prog 35 #[.pointer (some ⟨P, 0, none⟩), .int .i64 i] w (RetB w (.tuple #[.int .u64 0, .bool false])) := by
  have hlen := Lib.hid (t_len w P Q m0 lim tk root cn cf An Af ns fs xs pl h)
  clear h
  by_cases h0 : i < 0
  · have d1 : decide (i < 0) = true := decide_eq_true h0
    go_enter Tryd.func35, Tryd.ntmps35
    go_wp2
    go_ret2
    exact ⟨rfl, Below.refl _ _⟩
  · have d1 : decide (i < 0) = false := decide_eq_false h0
    have d2 : decide ((xs.length : Int) ≤ i) = true := decide_eq_true (by omega)
    generalize xs.length = n at *
    go_enter Tryd.func35, Tryd.ntmps35
    go_wp2_with (go_at_call 32; (with_reducible refine hlen.out.mono ?_); rintro e w1 ⟨rfl, hb1⟩; have HB1 := Lib.hid hb1; clear hb1)
    go_ret2
    exact ⟨rfl, HB1.out⟩
set_option maxHeartbeats 4000000 in
theorem t_select_yes (h : TW w P Q m0 lim tk An cn Af cf ns fs root pl xs) (hT : Tab w) (i z : Nat) (hz : xs[i]? = some z) :
    Calls Tryd.prog 35 #[.pointer (some ⟨P, 0, none⟩), .int .i64 (i : Int)] w (RetB w (.tuple #[.int .u64 (z : Int), .bool true])) := by
  have hi : i < xs.length := (List.getElem?_eq_some_iff.1 hz).1
  have hne : xs ≠ [] := by rintro rfl; simp at hi
  have hroot := h.rt hne
  have hs0 := T.sub_zero h.lt
  have hp0 : T.prs xs 0 0 := T.prs_sub.2 (by rw [hs0]; exact hne)
  have hP2 : Hid (∀ V, Below w.heap.size w V → V.cell? ⟨P, 2, none⟩ = some (.int .i64 (root : Int))) := Lib.hid (fun V hb => by
    have h1 := cell_of_row w P 2 _ _ (0, 0) h.row
    simp at h1
    exact (hb.cell (p := ⟨P, 2, none⟩) (row_lt h.row)).trans h1)
  have hlen := Lib.hid (t_len w P Q m0 lim tk root cn cf An Af ns fs xs pl h)
  have hpk : Hid (∀ V, Below w.heap.size w V → Calls Tryd.prog 57 #[.pointer (some ⟨P, 0, none⟩), .int .i64 (root : Int)] V (RetB V (nat ns (pl 0 0)).v)) := Lib.hid (fun V hb => by
    have := (t_peek_node V P Q m0 lim tk root cn cf An Af ns fs xs pl (h.chg (K.Chg.of_below (O := fun _ => False) hb) (fun _ _ h => h)) 0 0 (by omega) hp0).2
    rw [← hroot] at this
    rw [← hroot]
    exact this)
  have hlx : xs.length ≤ 67108864 := by
    have h1 := T.len_trie h.up
    have h2 := h.used
    have h3 := h.po.ns_le
    have h4 := h.po.lim_le
    omega
  have hiq : i ≤ 67108864 := by omega
  have d1 : decide ((i : Int) < 0) = false := decide_eq_false (by omega)
  have d2 : decide ((xs.length : Int) ≤ (i : Int)) = false := decide_eq_false (by omega)
  have d3 : decide (xs.length ≤ i) = false := decide_eq_false (by omega)
  have H := Lib.hid h
  have HT := Lib.hid hT
  have HK0 : Hid (T.prs xs 0 0 ∧ i < (T.sub xs 0 0).length ∧ (T.sub xs 0 0)[i]? = some z) := Lib.hid ⟨hp0, by rw [hs0]; exact hi, by rw [hs0]; exact hz⟩
  obtain ⟨nd, hnd⟩ : ∃ nd, nat ns (pl 0 0) = nd := ⟨_, rfl⟩
  rw [hnd] at hpk
  have HND := Lib.hid hnd
  clear h hT hz hroot hs0 hp0 hnd hne hi
  obtain ⟨W, A, ch, c, ks, le, gr⟩ := nd
  have hpk : Hid (∀ V, Below w.heap.size w V → Calls Tryd.prog 57 #[.pointer (some ⟨P, 0, none⟩), .int .i64 (root : Int)] V (RetB V (ndv W A ch.length c ks le gr))) := hpk
  obtain ⟨n, hn⟩ : ∃ n, ch.length = n := ⟨_, rfl⟩
  have HN := Lib.hid hn
  rw [hn] at hpk
  clear hn
  have HLX := Lib.hid hlx
  clear hlx
  generalize xs.length = nx at hlen d2 d3
  go_enter Tryd.func35, Tryd.ntmps35
  go_wp2_with (first
    | (go_at_call 32; (with_reducible refine hlen.out.mono ?_); rintro e w1 ⟨rfl, hb1⟩; have HB1 := Lib.hid hb1; have x2 := hP2.out w1 hb1; clear hb1)
    | (go_at_call 57; (with_reducible refine (hpk.out w1 HB1.out).mono ?_); rintro e w2 ⟨rfl, hb2⟩; have HB2 : Hid (Below w.heap.size w (w2.alloc (ndo W A n c ks le gr))) := Lib.hid ((HB1.out.trans (hb2.mono HB1.out.size)).alloc (by have := HB1.out.size; have := hb2.size; omega) _); have HW2 : Hid (w.heap.size ≤ w2.heap.size) := Lib.hid (by have := HB1.out.size; have := hb2.size; omega); have hrow := Lib.hid (K.alloc_top w2 (ndo W A n c ks le gr)); clear hb2 x2))
  go_loopw [1, 21] (fun iv cv wr => ∃ (j p q : Nat), j ≤ 10 ∧ cv = .int .i64 (j : Int) ∧ iv = .int .i64 (q : Int) ∧ q ≤ 67108864 ∧ Hid (T.prs xs j p ∧ q < (T.sub xs j p).length ∧ (T.sub xs j p)[q]? = some z) ∧ Hid (wr.heap[w2.heap.size]? = some (ndb (nat ns (pl j p)))) ∧ Hid (Below w.heap.size w wr)) (fun _ cv _ => 10 - (intOf cv).toNat)
  case atStart =>
    refine ⟨0, 0, i, by omega, rfl, rfl, hiq, HK0, Lib.hid ?_, HB2⟩
    rw [HND.out]
    show _ = some (ndo W A ch.length c ks le gr)
    rw [HN.out]
    exact hrow.out
  case round =>
    obtain ⟨j, p, q, hj, rfl, rfl, hq, HK, HR, HB⟩ := hrel
    have hsub := T.sub_len_le xs
    have h' := Lib.hid (H.out.chg (K.Chg.of_below (O := fun _ => False) HB.out) (fun _ _ h => h))
    obtain ⟨hin, hne, hok⟩ := h'.out.node (by omega) HK.out.1
    have hown := h'.out.kids.own _ hin
    rw [hne] at hown
    obtain ⟨hrd, _⟩ : (wr.heap[w2.heap.size]? = some (ndb (nat ns (pl j p)))) ∧ True := ⟨HR.out, trivial⟩
    generalize nat ns (pl j p) = nd at *
    obtain ⟨W1, A1, ch1, c1, ks1, le1, gr1⟩ := nd
    dsimp only at hown hok
    obtain ⟨x0, x1, x2, x3, x4⟩ := nd_cells hrd
    have f0 := frozen_of_row wr _ 0 _ _ hrd
    have f1 := frozen_of_row wr _ 1 _ _ hrd
    have f2 := frozen_of_row wr _ 2 _ _ hrd
    have f3 := frozen_of_row wr _ 3 _ _ hrd
    have f4 := frozen_of_row wr _ 4 _ _ hrd
    have HRD := Lib.hid hrd
    rcases Nat.lt_or_ge j 10 with hj10 | hj10
    · have e1 : decide ((j : Int) < 10) = true := decide_eq_true (by omega)
      have e2 : decide (j < 10) = true := decide_eq_true hj10
      have wj : IntKind.i64.wrap ((j : Int) + 1) = ((j + 1 : Nat) : Int) := by rw [IntWalk.i64_in _ (by omega)]; omega
      have hpart := Lib.hid (t_part wr P Q m0 lim tk root cn cf An Af ns fs xs pl h'.out j p W1 A1 ch1 c1 ks1 le1 gr1 q hj10 hok hown HK.out.2.1)
      clear hown hok hrd hin hne
      obtain ⟨n1, hn1⟩ : ∃ n1, ch1.length = n1 := ⟨_, rfl⟩
      rw [hn1] at hpart x1
      go_wp2_with (go_at_call 58; (with_reducible refine hpart.out.mono ?_); rintro e w3 ⟨jj, hjj, h1, h2, he, hb3⟩
                   have HK3 : Hid (T.prs xs (j + 1) (p * 64 + (T.dgs xs j p)[jj]) ∧ q - T.ah xs j p jj < (T.sub xs (j + 1) (p * 64 + (T.dgs xs j p)[jj])).length ∧ (T.sub xs (j + 1) (p * 64 + (T.dgs xs j p)[jj]))[q - T.ah xs j p jj]? = some z) := (by
                     have hs := T.sub_at H.out.up (l := j) (by omega) p jj hjj q h1 h2
                     rw [HK.out.2.2] at hs
                     exact Lib.hid ⟨(T.mem_dgs.1 (List.getElem_mem hjj)).2, (List.getElem?_eq_some_iff.1 hs.symm).1, hs.symm⟩)
                   obtain ⟨nd2, hnd2⟩ : ∃ nd2, nat ns (pl (j + 1) (p * 64 + (T.dgs xs j p)[jj])) = nd2 := ⟨_, rfl⟩
                   rw [hnd2] at he
                   have HND2 := Lib.hid hnd2
                   clear hnd2
                   obtain ⟨W2, A2, ch2, c2, ks2, le2, gr2⟩ := nd2
                   obtain ⟨n2, hn2⟩ : ∃ n2, ch2.length = n2 := ⟨_, rfl⟩
                   have HN2 := Lib.hid hn2
                   have he : e = .returned (.tuple #[ndv W2 A2 ch2.length c2 ks2 le2 gr2, .int .i64 ((q - T.ah xs j p jj : Nat) : Int)]) := he
                   rw [hn2] at he
                   clear hn2
                   subst he
                   generalize q - T.ah xs j p jj = q2 at *
                   have y := (hb3.block w2.heap.size (row_lt HRD.out)).trans HRD.out
                   have HY := Lib.hid y
                   have g0 := frozen_of_row w3 _ 0 _ _ y
                   have g1 := frozen_of_row w3 _ 1 _ _ y
                   have g2 := frozen_of_row w3 _ 2 _ _ y
                   have g3 := frozen_of_row w3 _ 3 _ _ y
                   have g4 := frozen_of_row w3 _ 4 _ _ y
                   obtain ⟨y0, y1, y2, y3, y4⟩ := nd_cells y
                   have HB3 := Lib.hid hb3
                   clear y hb3 h1 h2)
      go_roundw
      case rel =>
        have hle : q2 ≤ 67108864 := by
          have := HLX.out
          have := HK3.out.2.1
          have := hsub (j + 1) (p * 64 + (T.dgs xs j p)[jj])
          omega
        refine ⟨j + 1, p * 64 + (T.dgs xs j p)[jj], q2, by omega, by go_num, rfl, hle, HK3, Lib.hid ?_, Lib.hid ?_⟩
        · rw [HND2.out]
          show _ = some (ndo W2 A2 ch2.length c2 ks2 le2 gr2)
          rw [HN2.out]
          exact row_z5 HY.out _ _ _ _ _
        · have hw := HW2.out
          exact (((((HB.out.trans (HB3.out.mono HB.out.size)).setCell (by simpa using hw) _).setCell (by simpa using hw) _).setCell (by simpa using hw) _).setCell (by simpa using hw) _).setCell (by simpa using hw) _
      case measure => simp [intOf]; omega
    · obtain rfl : j = 10 := by omega
      have hlt := H.out.lt
      have hle := T.mem_sub.1 (List.mem_of_head? hok.le)
      have hd : q < (M.bl W1).length := by
        have := HK.out.2.1
        rw [T.sub_ten H.out.up, List.length_map] at this
        rw [hok.bits]
        exact this
      have hzq : Hid (z = p * 64 + (M.bl W1)[q]) := Lib.hid (by
        have h1 := HK.out.2.2
        rw [T.sub_ten H.out.up, List.getElem?_map, ← hok.bits, List.getElem?_eq_getElem hd] at h1
        simpa using h1.symm)
      have hsel := fun V (hV : Tab V) => bit_select W1 hok.wlt (q : Int) V hV
      rw [sel_bits W1 q hd] at hsel
      have hdl : (M.bl W1)[q] < 64 := (M.mem_bl.1 (List.getElem_mem hd)).1
      have hkey := fun V => Lib.hid (t_key V W1 A1 ch1.length c1 ks1 le1 gr1 (M.bl W1)[q] (hlt _ hle.1) hdl)
      rw [hle.2] at hkey
      rw [← hzq.out] at hkey
      generalize (M.bl W1)[q] = d at *
      obtain ⟨n1, hn1⟩ : ∃ n1, ch1.length = n1 := ⟨_, rfl⟩
      rw [hn1] at hkey x1
      have HTr : Hid (Tab wr.drew) := Lib.hid ((HT.out.below HB.out HT.out.pos).drew 1)
      have hS0 : wr.drew.cell? ⟨w2.heap.size, 0, none⟩ = some (.int .u64 (W1 : Int)) ∧ wr.drew.cell? ⟨w2.heap.size, 1, none⟩ = some (.slice A1 n1 c1) ∧ wr.drew.cell? ⟨w2.heap.size, 2, none⟩ = some (.int .i64 (ks1 : Int)) ∧ wr.drew.cell? ⟨w2.heap.size, 3, none⟩ = some (.int .u64 (le1 : Int)) ∧ wr.drew.cell? ⟨w2.heap.size, 4, none⟩ = some (.int .u64 (gr1 : Int)) := ⟨x0, x1, x2, x3, x4⟩
      have HS0 := Lib.hid hS0
      have hlt2 : w2.heap.size < wr.heap.size := row_lt hrd
      have HLT2 := Lib.hid hlt2
      have HBd := Lib.hid (below_drewN HB.out 1)
      have e1 : decide ((10 : Int) < 10) = false := by decide
      clear hown hok hrd hin hne hd hdl hle hlt hS0 hlt2 hsub
      go_wp2
      go_region_held3 (fun X => (X.cell? ⟨w2.heap.size, 0, none⟩ = some (.int .u64 (W1 : Int)) ∧ X.cell? ⟨w2.heap.size, 1, none⟩ = some (.slice A1 n1 c1) ∧ X.cell? ⟨w2.heap.size, 2, none⟩ = some (.int .i64 (ks1 : Int)) ∧ X.cell? ⟨w2.heap.size, 3, none⟩ = some (.int .u64 (le1 : Int)) ∧ X.cell? ⟨w2.heap.size, 4, none⟩ = some (.int .u64 (gr1 : Int)))) (first | exact HS0.out | exact HS1.out | go_keep) (first
        | (go_at_call 60; (with_reducible refine (hsel _ HTr.out).mono ?_); rintro e w4 ⟨rfl, rfl⟩)
        | (go_at_call 59; (with_reducible refine (hkey _).out.mono ?_); rintro e w5 ⟨rfl, hb5⟩
           have HB5 := Lib.hid hb5
           have HS1 : Hid (w5.cell? ⟨w2.heap.size, 0, none⟩ = some (.int .u64 (W1 : Int)) ∧ w5.cell? ⟨w2.heap.size, 1, none⟩ = some (.slice A1 n1 c1) ∧ w5.cell? ⟨w2.heap.size, 2, none⟩ = some (.int .i64 (ks1 : Int)) ∧ w5.cell? ⟨w2.heap.size, 3, none⟩ = some (.int .u64 (le1 : Int)) ∧ w5.cell? ⟨w2.heap.size, 4, none⟩ = some (.int .u64 (gr1 : Int))) := Lib.hid ⟨(hb5.cell (p := ⟨w2.heap.size, 0, none⟩) HLT2.out).trans HS0.out.1, (hb5.cell (p := ⟨w2.heap.size, 1, none⟩) HLT2.out).trans HS0.out.2.1, (hb5.cell (p := ⟨w2.heap.size, 2, none⟩) HLT2.out).trans HS0.out.2.2.1, (hb5.cell (p := ⟨w2.heap.size, 3, none⟩) HLT2.out).trans HS0.out.2.2.2.1, (hb5.cell (p := ⟨w2.heap.size, 4, none⟩) HLT2.out).trans HS0.out.2.2.2.2⟩
           clear hb5))
      all_goals
        go_wp2
        go_ret2
        exact ⟨rfl, HBd.out.trans (HB5.out.mono HBd.out.size)⟩
end
end Go.Proofs.YtbiingpdchoppaaDoor
end
