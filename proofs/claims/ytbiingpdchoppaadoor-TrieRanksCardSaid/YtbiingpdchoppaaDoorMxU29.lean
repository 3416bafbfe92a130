/- A key is taken out of its nodes; the text walked. -/
import Derived.Sort.CutIn
import Derived.Test.YtbiingpdchoppaaDoorMgU
namespace Go.Proofs.YtbiingpdchoppaaDoor
set_option maxRecDepth 40000
open Go.RowKit Go.Shelf
attribute [local go_sem] Oper.semAt_some
attribute [local simp] wide_fn
section
variable (w : World) (P Q m0 lim tk root cn cf : Nat) (An Af : Option Addr) (ns : List (Nd × Bool)) (fs xs : List Nat) (pl : Nat → Nat → Nat)
set_option maxRecDepth 100000 in
set_option maxHeartbeats 4000000 in
theorem t_shrink (h : TW w P Q m0 lim tk An cn Af cf ns fs root pl xs) (htk : tk ≤ 1000) (hT : Tab w) (k : Nat) (hk : k < 18446744073709551616) (hx : k ∈ xs) (cw : Nat) (Aw : Option Addr) (hw : w.ownsRow 0 99 6 (.slice Aw 11 cw) 11 (sv (wst ns pl k 11))) :
    Calls Tryd.prog 51 #[.pointer (some ⟨P, 0, none⟩), .int .u64 (k : Int), .slice Aw 11 cw] w fun e w' => ∃ tk', tk' ≤ tk + 2 ∧ GrowP w P Q m0 lim tk' An Af ns (K.drop xs k) e w' := by
  have hwl : T.wl xs k = 11 := by
    have h0 := T.wl_le xs k
    rcases Nat.lt_or_ge (T.wl xs k) 11 with h1 | h1
    · exact absurd ⟨k, hx, rfl⟩ (T.wl_no (xs := xs) (k := k) h1)
    · omega
  have hab := fun V (hc : K.Chg w V (fun _ => False)) => Lib.hid (t_above V P Q m0 lim tk root cn cf An Af ns fs xs pl (h.chg hc (fun _ _ h => h)) (by omega) (fun j hj => (hc.cell hT.pos (fun h => h) j).trans (hT j hj)) k hk 11 cw Aw hwl (hc.own hw (fun _ _ h => h)))
  have hmw : ∀ b, Aw.map (·.block) = some b → b ≠ m0 := fun b hb e => way_apart h hw hb (.inr (.inl e))
  have hbe := fun V tk1 (hc : K.Chg w V (· = m0)) (hm : Mx V m0 tk1) (ht : tk1 ≤ tk + 1) => Lib.hid (t_below V P Q m0 lim tk1 root cn cf An Af ns fs xs pl (h.met hc hm) (by omega) k hk 11 cw Aw hwl (hc.own hw (fun b hb e => hmw b (own_of_map hb) e)))
  refine (callsIn_wide (n := 9)).1 ?_
  refine callsIn_of_wp_marks Tryd.func51 rfl trivial ?_ rfl
  simp only [Tryd.ntmps51, List.size_toArray, List.length_cons, List.length_nil, Nat.reduceAdd, Nat.reduceSub, Array.replicate_succ, Array.replicate_zero, List.push_toArray, List.append_toArray, List.nil_append, List.cons_append]
  have hb0 : Below w.heap.size w ((w.alloc (.cells #[.pointer (some ⟨P, 0, none⟩)] 25)).alloc (.cells #[.int .u64 (k : Int)] 30)) := ((Below.refl _ w).alloc (Nat.le_refl _) _).alloc (by simp) _
  have HV0 := Lib.hid (K.Chg.of_below (O := fun _ => False) hb0)
  have HR0 : Hid (((w.alloc (.cells #[.pointer (some ⟨P, 0, none⟩)] 25)).alloc (.cells #[.int .u64 (k : Int)] 30)).heap[w.heap.size]? = some (.cells #[.pointer (some ⟨P, 0, none⟩)] 25 (0, 0))) := Lib.hid ((Below.heap_alloc _ _ _ (by simp)).trans (K.alloc_top _ _))
  have HR1 : Hid (((w.alloc (.cells #[.pointer (some ⟨P, 0, none⟩)] 25)).alloc (.cells #[.int .u64 (k : Int)] 30)).heap[w.heap.size + 1]? = some (.cells #[.int .u64 (k : Int)] 30 (0, 0))) := Lib.hid (top_two w _ _)
  have HS0 : Hid (((w.alloc (.cells #[.pointer (some ⟨P, 0, none⟩)] 25)).alloc (.cells #[.int .u64 (k : Int)] 30)).heap.size = w.heap.size + 2) := Lib.hid (by simp)
  have hml := h.mx.lt
  clear hb0
  gi_wp2_with (first
    | (gi_at_call 54; refine (callsIn_wide.2 (hab _ HV0.out).out).mono ?_; rintro e w1 ⟨ab, b1, tk1, rfl, hab1, htk1, hm1, hc1⟩
       have HC1 := Lib.hid (hc1.mono (O' := fun j => j = m0) (fun _ h => h))
       have HM1 := Lib.hid hm1
       have HAB := Lib.hid hab1
       have HT1 := Lib.hid htk1
       have HA0 : Hid (w1.heap[w.heap.size]? = some (.cells #[.pointer (some ⟨P, 0, none⟩)] 25 (0, 0))) := Lib.hid ((hc1.block _ (by rw [HS0.out]; omega) (by omega)).trans HR0.out)
       have HA1 : Hid (w1.heap[w.heap.size + 1]? = some (.cells #[.int .u64 (k : Int)] 30 (0, 0))) := Lib.hid ((hc1.block _ (by rw [HS0.out]; omega) (by omega)).trans HR1.out)
       have x0 := cell_of_row _ _ 0 _ _ (0, 0) HA0.out
       have x1 := cell_of_row _ _ 0 _ _ (0, 0) HA1.out
       simp at x0 x1
       have hlt0 := row_lt HA0.out
       have hlt1 := row_lt HA1.out
       clear hab1 htk1 hm1 hc1)
    | (gi_at_call 55; refine (callsIn_wide.2 (hbe _ tk1 (((HV0.out.mono (O' := fun j => j = m0) (fun _ h => h.elim)).same HC1.out).same (chg_alloc w1 (.cells #[.int .u64 (ab : Int)] 30) _)) (HM1.out.chg (chg_alloc w1 (.cells #[.int .u64 (ab : Int)] 30) (fun _ => False)) (fun h => h)) HT1.out).out).mono ?_; rintro e w2 ⟨bw, b2, tk2, rfl, hbe2, htk2, hm2, hc2⟩
       have HC2 := Lib.hid (hc2.mono (O' := fun j => j = m0) (fun _ h => h))
       have HM2 := Lib.hid hm2
       have HBE := Lib.hid hbe2
       have HT2 := Lib.hid htk2
       have hzz : (w1.alloc (.cells #[.int .u64 (ab : Int)] 30)).heap.size = w1.heap.size + 1 := (by simp)
       have HB0 : Hid (w2.heap[w.heap.size]? = some (.cells #[.pointer (some ⟨P, 0, none⟩)] 25 (0, 0))) := Lib.hid ((hc2.block _ (by omega) (by omega)).trans ((Below.heap_alloc _ _ _ hlt0).trans HA0.out))
       have HB1 : Hid (w2.heap[w.heap.size + 1]? = some (.cells #[.int .u64 (k : Int)] 30 (0, 0))) := Lib.hid ((hc2.block _ (by omega) (by omega)).trans ((Below.heap_alloc _ _ _ hlt1).trans HA1.out))
       have HBA : Hid (w2.heap[w1.heap.size]? = some (.cells #[.int .u64 (ab : Int)] 30 (0, 0))) := Lib.hid ((hc2.block _ (by omega) (by omega)).trans (K.alloc_top _ _))
       have y0 := cell_of_row _ _ 0 _ _ (0, 0) HB0.out
       have y1 := cell_of_row _ _ 0 _ _ (0, 0) HB1.out
       simp at y0 y1
       clear hbe2 htk2 hm2 hc2 hzz)
    | (gi_at_call 74; refine (callsIn_wide.2 (backward_any _ _ Aw 11 cw rfl)).mono ?_; rintro e w' ⟨rfl, rfl⟩))
  have hs2 : w2.heap.size + 3 = (((w2.alloc (.cells #[.int .u64 (bw : Int)] 30)).alloc (.cells #[.bool true] 4)).alloc (.cells #[.slice Aw 11 cw] 83)).heap.size := by simp
  obtain ⟨hsz, r2, r3, r4, hC2⟩ := three_rows w2 (.cells #[.int .u64 (bw : Int)] 30) (.cells #[.bool true] 4) (.cells #[.slice Aw 11 cw] 83)
  have hC02 : K.Chg w w2 (fun j => j = m0) := ((((HV0.out.mono (O' := fun j => j = m0) (fun _ h => h.elim)).same HC1.out).same (chg_alloc w1 (.cells #[.int .u64 (ab : Int)] 30) _)).same HC2.out)
  have hC0 : K.Chg w (((w2.alloc (.cells #[.int .u64 (bw : Int)] 30)).alloc (.cells #[.bool true] 4)).alloc (.cells #[.slice Aw 11 cw] 83)) (fun j => j = m0) := hC02.same (hC2.mono (fun _ h => h.elim))
  have q0 := (hC2.block w.heap.size (row_lt HB0.out) (fun h => h)).trans HB0.out
  have q1 := (hC2.block (w.heap.size + 1) (row_lt HB1.out) (fun h => h)).trans HB1.out
  have qa := (hC2.block w1.heap.size (row_lt HBA.out) (fun h => h)).trans HBA.out
  have hTW0 : TW (((w2.alloc (.cells #[.int .u64 (bw : Int)] 30)).alloc (.cells #[.bool true] 4)).alloc (.cells #[.slice Aw 11 cw] 83)) P Q m0 lim tk2 An cn Af cf ns fs root pl xs := h.met hC0 (HM2.out.chg hC2 (fun h => h))
  have hwy : WyR (((w2.alloc (.cells #[.int .u64 (bw : Int)] 30)).alloc (.cells #[.bool true] 4)).alloc (.cells #[.slice Aw 11 cw] 83)) (w2.heap.size + 2) Aw cw (wst ns pl k 11) := ⟨by rw [wst_len]; exact r4, by rw [wst_len]; exact hC0.own hw (fun b hb e => hmw b (own_of_map hb) e)⟩
  have hl12 : w1.heap.size < w2.heap.size := row_lt HBA.out
  clear HV0 HR0 HR1 HS0 HC1 HM1 HA0 HA1 x0 x1 HC2 HB0 HB1 HBA HM2 y0 y1 hC2 hab hbe
  have htk2 : tk2 ≤ tk + 2 := by have := HT1.out; have := HT2.out; omega
  obtain ⟨W0, hW0⟩ : ∃ W0, (((w2.alloc (.cells #[.int .u64 (bw : Int)] 30)).alloc (.cells #[.bool true] 4)).alloc (.cells #[.slice Aw 11 cw] 83)) = W0 := ⟨_, rfl⟩
  rw [hW0] at hsz r2 r3 r4 hC0 q0 q1 qa hTW0 hwy ⊢
  clear hW0 hs2
  obtain ⟨m, hm⟩ : ∃ m, T.wl (K.drop xs k) k = m := ⟨_, rfl⟩
  have hss := SS.start hTW0 hx hm
  have hBg : ¬ TBk P Q m0 An Af ns (w2.heap.size + 1) := fun ht => by have := (tb_types h ht).1; omega
  have hI0 : ShI W0 P Q m0 lim tk2 root xs k m (w2.heap.size + 1) (fun i => TBk P Q m0 An Af ns i ∨ i = w2.heap.size + 1) ns pl 11 (fun i => TBk P Q m0 An Af ns i ∨ i = w2.heap.size + 1) W0 := by
    refine ⟨An, cn, Af, cf, ns, fs, fun i hi => .inl hi, .inr rfl, fun i hi => ⟨?_, .inl hi⟩, hss.rebase _ (fun i hi => .inl hi), ?_⟩
    · rcases hi with hi | rfl
      · exact (hss.types hi).1
      · omega
    · have hg : shGone xs k 11 = true := by
        unfold shGone
        rw [T.pre_last]
        have : ¬ T.prs (K.drop xs k) 11 k := fun hp => T.drop_not h.up k (T.prs_last.1 hp)
        simp [this]
      rw [hg]
      exact r3
  have hAw : ∀ g, Aw.map (·.block) = some g → g < w.heap.size ∧ ¬ TBk P Q m0 An Af ns g := fun g hg => ⟨(own_block_lt hw hg).1, way_apart h hw hg⟩
  have hTBlt : ∀ i, TBk P Q m0 An Af ns i → i < w.heap.size := fun i hi => (tb_types h hi).1
  have HI0 := Lib.hid hI0
  clear hI0 hss
  refine wpIn_rangeZ (Q := _) rfl (by decide) (gf := 91) (lb := #[.pointer (some ⟨w2.heap.size + 1 + 1, 0, none⟩)]) rfl trivial (enters_of Tryd.func91 (by kernel_rfl) rfl)
    (backward_z 8 (by decide) (w2.heap.size + 2) cw Aw (wst ns pl k 11) (by rw [wst_len]; omega) W0 hwy) (fun j hj => by rcases hj with rfl | hj; omega; have := (hAw j hj).1; omega) (Below.refl _ _) (fun _ => rfl)
    (fun pre O W => ShI W0 P Q m0 lim tk2 root xs k m (w2.heap.size + 1) (fun i => TBk P Q m0 An Af ns i ∨ i = w2.heap.size + 1) ns pl (11 - pre.length) O W)
    (fun _ _ _ _ => False)
    (fun pp a1 O W => ∃ Bx, a1 = { tmps := #[.pointer (some ⟨P, 0, none⟩), .int .u64 (k : Int), .slice Aw 11 cw, .pointer (some ⟨w.heap.size, 0, none⟩), .pointer (some ⟨w.heap.size + 1, 0, none⟩), undef, .pointer (some ⟨w1.heap.size, 0, none⟩), .bool b1, .pointer (some ⟨w2.heap.size, 0, none⟩), .bool b2, .pointer (some ⟨w2.heap.size + 1, 0, none⟩), .int .i64 (pp.2 : Int), .pointer (some ⟨Bx, 0, none⟩), undef, .tuple #[.int .u64 (ab : Int), .bool b1], .pointer (some ⟨P, 0, none⟩), .int .u64 (k : Int), .slice Aw 11 cw, .tuple #[.int .u64 (ab : Int), .bool b1], .int .u64 (ab : Int), .bool b1, .tuple #[.int .u64 (bw : Int), .bool b2], .pointer (some ⟨P, 0, none⟩), .int .u64 (k : Int), .slice Aw 11 cw, .tuple #[.int .u64 (bw : Int), .bool b2], .int .u64 (bw : Int), .bool b2, .slice Aw 11 cw, .func (.func 91) #[] #[.pointer (some ⟨w2.heap.size + 1 + 1, 0, none⟩)], .int .i64 (pp.2 : Int), stv (nat ns (pl pp.2 (T.pre pp.2 k)), pl pp.2 (T.pre pp.2 k)), undef, undef, undef, undef, undef, undef, undef, undef, undef, undef, undef, undef, undef, undef, undef, undef, undef, undef, undef, undef, undef, undef, undef, undef, undef, undef, undef, undef, undef, undef, undef, undef, undef, undef, undef, undef, undef, undef, undef, undef, undef, undef, undef], defers := [] } ∧ pp.1 ++ [pp.2] <+: (List.range 11).reverse ∧ W0.heap.size ≤ Bx ∧ W.heap[Bx]? = some (.cells (scl (nat ns (pl pp.2 (T.pre pp.2 k)), pl pp.2 (T.pre pp.2 k))).toArray 99 (0, 0)) ∧ O Bx ∧ ShI W0 P Q m0 lim tk2 root xs k m (w2.heap.size + 1) (fun i => TBk P Q m0 An Af ns i ∨ i = w2.heap.size + 1) ns pl (11 - pp.1.length) O W)
    ShI.abides (fun _ _ _ _ _ _ h _ _ => h)
    (fun a' pp O W W' R hi hw hR => by
      obtain ⟨Bx, h1, h2, h3, h4, h5, h6⟩ := hi
      exact ⟨Bx, h1, h2, h3, (hw.chg.block Bx (row_lt h4) (fun h => (hR _ h).1 h5)).trans h4, h5, ShI.abides pp.1 O W W' R h6 hw hR⟩)
    (fun pre O W hi j hj hz => by
      obtain ⟨_, _, _, _, _, _, _, _, h3, _⟩ := hi
      rcases hz with rfl | hz
      · rcases (h3 _ hj).2 with (h4 | h4) | h4
        · have := hTBlt _ h4; have := hC02.size; omega
        · omega
        · omega
      · have h5 := hAw j hz
        rcases (h3 _ hj).2 with (h4 | h4) | h4
        · exact h5.2 h4
        · have := hC02.size; omega
        · have := hC0.size; omega)
    (fun i => TBk P Q m0 An Af ns i ∨ i = w2.heap.size + 1) (fun i hi => by rcases hi with hi | rfl; have := hTBlt _ hi; have := hC0.size; omega; omega) HI0.out ?assign ?body ?done ?stop
  case assign =>
    rintro l pre y O W hI hT1
    rw [wst_len] at hT1
    obtain ⟨hpl, hy⟩ := rev_prefix hT1
    have hyl : y < (wst ns pl k 11).length := by rw [wst_len]; omega
    have hbe : ben (wst ns pl k 11) y = #[.int .i64 (y : Int), stv (nat ns (pl y (T.pre y k)), pl y (T.pre y k))] := by
      unfold ben
      rw [List.getElem?_eq_getElem hyl, wst_at]
      rfl
    rw [hbe]
    have HI := Lib.hid hI
    have HTT := Lib.hid hT1
    clear hI hT1 hbe hyl hy hpl
    gi_wp2
    obtain ⟨h1, h2⟩ := HI.out.alloc HI.out.chg.size (.cells (scl (nat ns (pl y (T.pre y k)), pl y (T.pre y k))).toArray 99)
    exact ⟨_, h2, W.heap.size, rfl, HTT.out, HI.out.chg.size, K.alloc_top W _, Or.inr rfl, h1⟩
  case done =>
    rintro D zs O W hD hOD hzs hI hK
    rw [wst_len] at hzs
    subst hzs
    have e11 : 11 - (List.range 11).reverse.length = 0 := by simp
    rw [e11] at hI
    obtain ⟨An', cn', Af', cf', ns', fs', h1, h2, h3, h4, h5⟩ := hI
    have hTWX := h4.tw hTW0 hk hx hm
    have hg := grownBy_putObj' W D (.deferred none)
    have hc : K.Chg W (W.putObj D (.deferred none)) (fun j => j = D) := (chg_refl W _).grown hg (fun j e => .inl (by cases e; rfl))
    have HF : Hid (∃ tk', tk' ≤ tk + 2 ∧ GrowP w P Q m0 lim tk' An Af ns (K.drop xs k) (.returned (.tuple #[])) (W.putObj D (.deferred none))) := Lib.hid (by
      refine ⟨tk2, htk2, rfl, An', cn', Af', cf', ns', fs', root, pl, hTWX.chg hc (fun j hj e => hOD (by subst e; exact h1 _ hj)), ?_, fun b hb => ?_⟩
      · refine ((hC0.mono (O' := TBk P Q m0 An Af ns) (fun j e => .inr (.inl e))).trans h4.chg (fun j hj => ?_)).trans hc (fun j hj => .inr (by have := hC0.size; omega))
        rcases hj with hj | rfl
        · exact .inl hj
        · exact .inr (by have := hC02.size; omega)
      · rcases h4.blk b hb with (hb | rfl) | hb
        · exact .inl hb
        · exact .inr (by have := hC02.size; omega)
        · exact .inr (by have := hC0.size; omega))
    have HK := Lib.hid hK
    clear h1 h2 h3 h4 h5 hTWX hc hg hK
    gi_wp2
    exact ⟨by simp, .inl ⟨_, _, rfl, run_takeDeferred HK.out, ⟨_, results_none rfl _ _ _, HF.out⟩⟩⟩
  case stop =>
    rintro D c pre O W _ _ _ h _
    exact h.elim
  case body =>
    rintro l2 pre y O a1 W ⟨Bx, rfl, hp, hBx, hbx, hOx, hI⟩
    have hp : pre ++ [y] <+: (List.range 11).reverse := hp
    obtain ⟨hpl, hy⟩ := rev_prefix hp
    obtain ⟨l, hl⟩ : ∃ l, 10 - pre.length = l := ⟨_, rfl⟩
    obtain rfl : y = l := by omega
    have e12 : 11 - pre.length = y + 1 := by omega
    have e13 : 11 - (pre ++ [y]).length = y := by simp; omega
    rw [e12] at hI
    have hchg := hI.chg
    obtain ⟨An', cn', Af', cf', ns', fs', hO1, hO2, hO3, hS, hg⟩ := hI
    have hyl : y < 11 := by omega
    have hway := hS.way y (by omega)
    have hok0 : T.NdOK xs pl y (T.pre y k) (nat ns (pl y (T.pre y k))).W (nat ns (pl y (T.pre y k))).ks (nat ns (pl y (T.pre y k))).le (nat ns (pl y (T.pre y k))).gr (nat ns (pl y (T.pre y k))).ch := by
      have e : T.lvd xs k (y + 1) y = xs := by unfold T.lvd; rw [if_pos (by omega)]
      obtain ⟨n, hn, hok⟩ := hS.tr.ok y (T.pre y k) hyl (by rw [e]; exact ⟨k, hx, rfl⟩)
      rw [ndm_of hway] at hn
      cases hn
      rw [e] at hok
      exact hok
    have hil : pl y (T.pre y k) < 1048576 := by
      have := (List.getElem?_eq_some_iff.1 hway).1
      have := hS.po.ns_le
      have := hS.po.lim_le
      omega
    have hks : (nat ns (pl y (T.pre y k))).ks < 1000000000 := by
      rw [hok0.ks]
      have h1 := T.len_trie h.up
      have h2 := h.used
      have h3 := h.po.ns_le
      have h4 := h.po.lim_le
      have h5 : (T.sub xs y (T.pre y k)).length ≤ xs.length := List.length_filter_le _ _
      omega
    have hchl : (nat ns (pl y (T.pre y k))).ch.length ≤ 64 := by
      rw [hok0.ch]
      split
      · rw [List.length_map, ← hok0.bits]
        unfold M.bl
        exact Nat.le_trans (List.length_filter_le _ _) (by simp)
      · simp
    obtain ⟨i, hig⟩ : ∃ i, pl y (T.pre y k) = i := ⟨_, rfl⟩
    have hbx : W.heap[Bx]? = some (.cells (scl (nat ns (pl y (T.pre y k)), pl y (T.pre y k))).toArray 99 (0, 0)) := hbx
    rw [hig] at hway hok0 hil hks hchl hbx
    obtain ⟨nd, hnd⟩ : ∃ nd, nat ns i = nd := ⟨_, rfl⟩
    rw [hnd] at hway hok0 hks hchl hbx
    dsimp only
    rw [hig, hnd]
    clear hnd
    obtain ⟨hi', hie⟩ := List.getElem?_eq_some_iff.1 hway
    have hkid := hS.kids.own _ hi'
    rw [hie] at hkid
    obtain ⟨W1, A, ch, c, ks, le, gr⟩ := nd
    dsimp only at hok0 hkid hks hchl
    have hWl := hok0.wlt
    have hone := T.one_left hok0 hx
    have hgone := T.gone_iff hok0 h.up hx
    have hless := fun h1 => hok0.less hyl h.up hx h1 HAB.out HBE.out
    have hdg := T.dgone hm hyl
    have hAlt : ∀ j, A.map (·.block) = some j → j < W.heap.size := fun j hj => (own_block_lt hkid hj).1
    have hAno : ∀ j, A.map (·.block) = some j → O j := fun j hj => hO1 j (.inr (.inr (.inr ⟨i, hi', by rw [hie]; exact hj⟩)))
    have hAty : ∀ j, A.map (·.block) = some j → ∃ cur, W.heap[j]? = some (.cells cur 3 (0, 0)) := fun j hj => (own_block_lt hkid hj).2
    -- the boxes
    have b0 := (hchg.block w.heap.size (row_lt q0) (fun h => by rcases h with h | h; have := hTBlt _ h; omega; omega)).trans q0
    have b1' := (hchg.block (w.heap.size + 1) (row_lt q1) (fun h => by rcases h with h | h; have := hTBlt _ h; omega; omega)).trans q1
    have ba := (hchg.block w1.heap.size (row_lt qa) (fun h => by rcases h with h | h; have := hTBlt _ h; omega; omega)).trans qa
    have bb := (hchg.block w2.heap.size (row_lt r2) (fun h => by rcases h with h | h; have := hTBlt _ h; have := hC02.size; omega; omega)).trans r2
    have hxP := cell_of_row W P 1 _ _ (0, 0) hS.row
    have c0 := cell_of_row W _ 0 _ _ (0, 0) b0
    have c1 := cell_of_row W _ 0 _ _ (0, 0) b1'
    have ca := cell_of_row W _ 0 _ _ (0, 0) ba
    have cb := cell_of_row W _ 0 _ _ (0, 0) bb
    have cg := cell_of_row W _ 0 _ _ (0, 0) hg
    have x0 := cell_of_row W Bx 0 _ _ (0, 0) hbx
    have x1 := cell_of_row W Bx 1 _ _ (0, 0) hbx
    have x2 := cell_of_row W Bx 2 _ _ (0, 0) hbx
    have x3 := cell_of_row W Bx 3 _ _ (0, 0) hbx
    have x4 := cell_of_row W Bx 4 _ _ (0, 0) hbx
    have x5 := cell_of_row W Bx 5 _ _ (0, 0) hbx
    have fg := frozen_of_row W _ 0 _ _ hg
    simp [scl] at hxP c0 c1 ca cb cg x0 x1 x2 x3 x4 x5
    have l0 := row_lt b0
    have l1 := row_lt b1'
    have la := row_lt ba
    have lb := row_lt bb
    have lg := row_lt hg
    have lx := row_lt hbx
    have lP := row_lt hS.row
    obtain ⟨n, hn⟩ : ∃ n, ch.length = n := ⟨_, rfl⟩
    have HN := Lib.hid hn
    rw [hn] at x1 hkid
    dsimp only [stv]
    rw [hn]
    have HKID := Lib.hid hkid
    have HS := Lib.hid hS
    have HG := Lib.hid hg
    have HOK := Lib.hid hok0
    have HONE := Lib.hid hone
    have HGN := Lib.hid hgone
    have HLS := Lib.hid hless
    have HDG := Lib.hid hdg
    have HAL := Lib.hid (And.intro hAlt (And.intro hAno hAty))
    have HWAY := Lib.hid hway
    have HIG := Lib.hid hig
    have HO := Lib.hid (And.intro hO1 (And.intro hO2 hO3))
    have HOX := Lib.hid hOx
    have HE13 := Lib.hid e13
    have HBX := Lib.hid hbx
    have HCH := Lib.hid hchg
    have HB0 := Lib.hid b0
    have HB1 := Lib.hid b1'
    have HBA := Lib.hid ba
    have HBB := Lib.hid bb
    have HYL := Lib.hid hyl
    have hyl2 : y ≤ 10 := by omega
    have HCL := Lib.hid hchl
    clear hS hg hok0 hone hgone hless hdg hAlt hAno hAty hway hig hO1 hO2 hO3 hOx e13 e12 hbx hchg b0 b1' ba bb hi' hie hkid hp hpl hy hl hyl hchl q0 q1 qa r2 r3 r4 hC0 hTW0 hwy hsz hn
    have hks1 : IntKind.i64.wrap ((ks : Int) - 1) = ((ks - 1 : Nat) : Int) := by rw [IntWalk.i64_in _ (by omega)]; have := HONE.out.1; omega
    have hdig := fun V => Lib.hid (t_digit V k y hk (by omega))
    have n0 : ¬ w.heap.size = W.heap.size := by omega
    have n0' : ¬ W.heap.size = w.heap.size := by omega
    have n1 : ¬ w.heap.size + 1 = W.heap.size := by omega
    have n1' : ¬ W.heap.size = w.heap.size + 1 := by omega
    have n2a : ¬ w1.heap.size = W.heap.size := by omega
    have n2a' : ¬ W.heap.size = w1.heap.size := by omega
    have n3 : ¬ w2.heap.size = W.heap.size := by omega
    have n3' : ¬ W.heap.size = w2.heap.size := by omega
    have n4 : ¬ w2.heap.size + 1 = W.heap.size := by omega
    have n4' : ¬ W.heap.size = w2.heap.size + 1 := by omega
    have n5 : ¬ Bx = W.heap.size := by omega
    have n5' : ¬ W.heap.size = Bx := by omega
    have n6 : ¬ P = W.heap.size := by omega
    have n6' : ¬ W.heap.size = P := by omega
    have n7 : ¬ P = w2.heap.size + 1 := fun e => row_ne HS.out.row HG.out (by decide) e
    have n7' : ¬ w2.heap.size + 1 = P := fun e => n7 e.symm
    have n8 : ¬ Bx = w2.heap.size + 1 := fun e => row_ne HBX.out HG.out (by decide) e
    have n8' : ¬ w2.heap.size + 1 = Bx := fun e => n8 e.symm
    have n9 : ¬ w.heap.size = w2.heap.size + 1 := by omega
    have n9' : ¬ w2.heap.size + 1 = w.heap.size := by omega
    cases hgb : shGone xs k (y + 1) with
    | true =>
      rw [hgb] at cg
      obtain ⟨zs, hzs⟩ : ∃ zs, (if K.fi (M.bl W1) (T.dig y k) < n then ch.take (K.fi (M.bl W1) (T.dig y k)) ++ ch.drop (K.fi (M.bl W1) (T.dig y k) + 1) else ch) = zs := ⟨_, rfl⟩
      obtain ⟨W2, hW2⟩ : ∃ W2, W1 &&& (18446744073709551615 - M.one ((T.dig y k : Nat) : Int)) = W2 := ⟨_, rfl⟩
      have HL : Hid (ks - 1 ≠ 0 → T.NdOK (K.drop xs k) pl y (T.pre y k) W2 (ks - 1) (if le = k then ab else le) (if gr = k then bw else gr) zs) := Lib.hid (fun h1 => by
        have := HLS.out h1
        rw [hgb, HN.out] at this
        simp only [if_true] at this
        rw [hzs, hW2] at this
        exact this)
      have HWO : Hid (∀ V, K.Chg W V (fun _ => False) → Calls Tryd.prog 75 #[ndv W1 A n c ks le gr, .int .i64 ((T.dig y k : Nat) : Int)] V (NdP V A W2 ks le gr zs)) := Lib.hid (fun V hc => by
        have := nd_without V W1 A ch c ks le gr (T.dig y k) hWl (hc.own (by rw [HN.out]; exact HKID.out) (fun _ _ h => h)) HCL.out
        rw [HN.out, hzs, hW2] at this
        exact this)
      have HVC : Hid (K.Chg W (W.alloc (ndo W1 A n c ks le gr)).drew (fun _ => False)) := Lib.hid ((chg_alloc W _ _).drewN 1)
      have HVB : Hid ((W.alloc (ndo W1 A n c ks le gr)).drew.heap[W.heap.size]? = some (ndo W1 A n c ks le gr)) := Lib.hid (K.alloc_top W _)
      have HVS : Hid ((W.alloc (ndo W1 A n c ks le gr)).drew.heap.size = W.heap.size + 1) := Lib.hid (by show (W.heap.push _).size = _; simp)
      obtain ⟨n2, hn2⟩ : ∃ n2, zs.length = n2 := ⟨_, rfl⟩
      have HN2 := Lib.hid hn2
      clear hzs hW2 hn2
      gi_wp2
      refine wpIn_region_any (by kernel_rfl) (wpAnyIn_round (F := Fence.wide) l2 (by kernel_rfl) _ _ _ _ ?_)
      (try (change wpAnyIn _ _ _ _ _ _ _ _ _ (World.drew _)))
      refine with_tail (T := ?TT1) ?tp1 (fun tail => ?bd1)
      case bd1 =>
        refine wpAnyIn_take (i := 2) (v := ?tv2) rfl rfl (by kernel_rfl) (by kernel_rfl) (by kernel_rfl) (fun _ _ _ h => h) ⟨Or.inl ⟨by rfl, ?th2⟩, fun _ => rfl⟩ ?tr2
        case th2 => (intro w; go_simp; try with_reducible rfl)
        refine wpAnyIn_ready (rs := [0, 1]) (by kernel_rfl) (by simp) ?_
        refine AllReadyIn.cons rfl (fun K hK => ?_) ?_
        · go_simp
          refine hK _ _ ?_
          clear hK K
          refine wpAnyIn_ready (rs := [1]) (by kernel_rfl) (by simp) ?_
          refine AllReadyIn.cons rfl (fun K hK => ?_) ?_
          · go_simp
            refine hK _ _ ?_
            clear hK K
            refine wpAnyIn_ready (rs := [3]) (by kernel_rfl) (by simp) ?_
            refine AllReadyIn.cons rfl (fun K hK => ?_) ?_
            · go_simp
              gi_wp2_with (gi_at_call 64; refine (callsIn_wide.2 (hdig _).out).mono ?_; rintro e w' ⟨rfl, rfl⟩)
              exact tail
            exact AllReadyIn.nil
          exact AllReadyIn.nil
        refine AllReadyIn.cons rfl (fun K hK => ?_) ?_
        · go_simp
          refine hK _ _ ?_
          clear hK K
          refine wpAnyIn_ready (rs := [0, 3]) (by kernel_rfl) (by simp) ?_
          refine AllReadyIn.cons rfl (fun K hK => ?_) ?_
          · go_simp
            refine hK _ _ ?_
            clear hK K
            refine wpAnyIn_ready (rs := [3]) (by kernel_rfl) (by simp) ?_
            refine AllReadyIn.cons rfl (fun K hK => ?_) ?_
            · go_simp
              gi_wp2_with (gi_at_call 64; refine (callsIn_wide.2 (hdig _).out).mono ?_; rintro e w' ⟨rfl, rfl⟩)
              exact tail
            exact AllReadyIn.nil
          refine AllReadyIn.cons rfl (fun K hK => ?_) ?_
          · go_simp
            gi_wp2_with (gi_at_call 64; refine (callsIn_wide.2 (hdig _).out).mono ?_; rintro e w' ⟨rfl, rfl⟩)
            refine wpAnyIn_ready (rs := [0]) (by kernel_rfl) (by simp) ?_
            refine AllReadyIn.cons rfl (fun K hK => ?_) ?_
            · go_simp
              refine hK _ _ ?_
              clear hK K
              exact tail
            exact AllReadyIn.nil
          exact AllReadyIn.nil
        exact AllReadyIn.nil
      case tp1 =>
        refine wpAnyIn_ready (rs := [4]) (by kernel_rfl) (by simp) ?_
        refine AllReadyIn.cons rfl (fun K hK => ?_) AllReadyIn.nil
        go_simp
        gi_wp2_with (gi_at_call 75; refine (callsIn_wide.2 (HWO.out _ HVC.out)).mono ?_; rintro e w3 ⟨A2, c2, rfl, ho, hc, hb⟩
                     rw [HN2.out]
                     have HO3 := Lib.hid ho
                     have HC3 := Lib.hid hc
                     have HB3 := Lib.hid hb
                     have z := (hc.block W.heap.size (by rw [HVS.out]; omega) (fun e => by have := HAL.out.1 _ e; omega)).trans HVB.out
                     obtain ⟨z0, z1, z2, z3, z4⟩ := nd_cells z
                     have f0 := frozen_of_row w3 _ 0 _ _ z
                     have f1 := frozen_of_row w3 _ 1 _ _ z
                     have f2 := frozen_of_row w3 _ 2 _ _ z
                     have f3 := frozen_of_row w3 _ 3 _ _ z
                     have f4 := frozen_of_row w3 _ 4 _ _ z
                     have ZZ := Lib.hid z
                     clear ho hc hb z)
        refine wpAnyIn_ready (rs := [5]) (by kernel_rfl) (by simp) ?_
        refine AllReadyIn.cons rfl (fun K hK => ?_) AllReadyIn.nil
        go_simp
        refine hK _ _ ?_
        clear hK K
        refine wpAnyIn_done (by kernel_rfl) ?_ _
        gi_upto_region 10 with (fail)
        refine wpIn_world ?_
        rintro X hX
        have hXb : X.heap[W.heap.size]? = some (ndo W2 A2 n2 c2 ks le gr) := by rw [hX]; exact row_z5 ZZ.out _ _ _ _ _
        have h35 : K.Chg w3 X (fun j => j = W.heap.size) := by rw [hX]; exact chg_five w3 W.heap.size 0 1 2 3 4 _ _ _ _ _ _ rfl
        have hXc : K.Chg W X (fun j => A.map (·.block) = some j) := ((HVC.out.mono (fun _ h => h.elim)).same HC3.out).trans h35 (fun j hj => .inr (by omega))
        have hXa : ∀ j, A2.map (·.block) = some j → A.map (·.block) = some j ∨ W.heap.size < j := fun j hj => (HB3.out j hj).imp (fun h => h) (fun h => by rw [HVS.out] at h; omega)
        have hXo : X.ownsRow 0 3 1 (.slice A2 zs.length c2) zs.length (iw zs) := h35.own HO3.out (fun b h1 h2 => by
          rcases hXa b (own_of_map h1) with h3 | h3
          · have := HAL.out.1 _ h3; omega
          · omega)
        clear hX h35 z0 z1 z2 z3 z4 f0 f1 f2 f3 f4 ZZ HO3 HC3 HB3 HVC HVB HVS HWO HKID
        have hne : ∀ j cs T, W.heap[j]? = some (.cells cs T (0, 0)) → T ≠ 3 → ¬ A.map (·.block) = some j := fun j cs T hr hT hj => by
          obtain ⟨cur, hc⟩ := HAL.out.2.2 j hj
          exact row_ne hc hr (fun e => hT e.symm) rfl
        have X0 := (hXc.block _ l0 (hne _ _ _ HB0.out (by decide))).trans HB0.out
        have X1 := (hXc.block _ l1 (hne _ _ _ HB1.out (by decide))).trans HB1.out
        have XA := (hXc.block _ la (hne _ _ _ HBA.out (by decide))).trans HBA.out
        have XB := (hXc.block _ lb (hne _ _ _ HBB.out (by decide))).trans HBB.out
        have XG := (hXc.block _ lg (hne _ _ _ HG.out (by decide))).trans HG.out
        have XX := (hXc.block _ lx (hne _ _ _ HBX.out (by decide))).trans HBX.out
        have XP := (hXc.block _ lP (hne _ _ _ HS.out.row (by decide))).trans HS.out.row
        have d0 := cell_of_row X _ 0 _ _ (0, 0) X0
        have d1 := cell_of_row X _ 0 _ _ (0, 0) X1
        have da := cell_of_row X _ 0 _ _ (0, 0) XA
        have db := cell_of_row X _ 0 _ _ (0, 0) XB
        have dg := cell_of_row X _ 0 _ _ (0, 0) XG
        have fg2 := frozen_of_row X _ 0 _ _ XG
        obtain ⟨y0, y1, y2, y3, y4⟩ := nd_cells hXb
        have f2 := frozen_of_row X _ 2 _ _ hXb
        have f3 := frozen_of_row X _ 3 _ _ hXb
        have f4 := frozen_of_row X _ 4 _ _ hXb
        simp at d0 d1 da db dg
        have HXB := Lib.hid hXb
        have HXC := Lib.hid hXc
        have HXO := Lib.hid hXo
        have HXA := Lib.hid hXa
        have H0 := Lib.hid X0
        have HGX := Lib.hid XG
        have HXX := Lib.hid XX
        have HPX := Lib.hid XP
        clear hne X0 X1 XA XB XG XX XP hXb hXc hXo hXa
        by_cases hk0 : ks - 1 = 0
        · obtain ⟨hle, hgr⟩ := HONE.out.2 hk0
          have e1 : ((le : Int) == (k : Int)) = true := by rw [hle]; simp
          have e2 : ((gr : Int) == (k : Int)) = true := by rw [hgr]; simp
          have e3 : (((ks - 1 : Nat) : Int) == 0) = true := by rw [hk0]; rfl
          have HLE := Lib.hid hle
          have HGR := Lib.hid hgr
          have HK0 := Lib.hid hk0
          clear hle hgr hk0
          gi_wp2
          refine wpIn_world ?_
          rintro Y hYY
          have hB0 := row_set (row_set (row_set HXB.out 2 (.int .i64 ((ks - 1 : Nat) : Int))) 3 (.int .u64 (ab : Int))) 4 (.int .u64 (bw : Int))
          have hC1 := ((chg_set X W.heap.size 2 (.int .i64 ((ks - 1 : Nat) : Int)) (fun j => j = W.heap.size) rfl).same (chg_set _ W.heap.size 3 (.int .u64 (ab : Int)) _ rfl)).same (chg_set _ W.heap.size 4 (.int .u64 (bw : Int)) _ rfl)
          have hC2 := ((chg_set X W.heap.size 2 (.int .i64 ((ks - 1 : Nat) : Int)) (fun j => j = W.heap.size ∨ j = (w2.heap.size + 1)) (.inl rfl)).same (chg_set _ W.heap.size 3 (.int .u64 (ab : Int)) _ (.inl rfl))).same (chg_set _ W.heap.size 4 (.int .u64 (bw : Int)) _ (.inl rfl))
          simp at hB0
          obtain ⟨Z, hZ⟩ : ∃ Z, Z = (((X.setCell ⟨W.heap.size, 2, none⟩ (.int .i64 ((ks - 1 : Nat) : Int))).setCell ⟨W.heap.size, 3, none⟩ (.int .u64 (ab : Int))).setCell ⟨W.heap.size, 4, none⟩ (.int .u64 (bw : Int))) := ⟨_, rfl⟩
          have hY : Y = Z.setCell ⟨(w2.heap.size + 1), 0, none⟩ (.bool true) := by rw [hYY, hZ]
          have hCZ : K.Chg X Y (fun j => j = W.heap.size ∨ j = (w2.heap.size + 1)) := by rw [hY, hZ]; exact hC2.same (chg_set _ _ 0 _ _ (.inr rfl))
          have hCB : K.Chg Z Y (fun j => j = (w2.heap.size + 1)) := by rw [hY]; exact chg_set _ _ 0 _ _ rfl
          have hZ1 : K.Chg X Z (fun j => j = W.heap.size) := by rw [hZ]; exact hC1
          have hZB : Z.heap[W.heap.size]? = some (.cells #[.int .u64 (W2 : Int), .slice A2 n2 c2, .int .i64 ((ks - 1 : Nat) : Int), .int .u64 (ab : Int), .int .u64 (bw : Int)] 72 (0, 0)) := by rw [hZ]; first | exact hB0 | simpa using hB0
          have YB := (hCB.block W.heap.size (row_lt hZB) (by omega)).trans hZB
          have YG : Y.heap[(w2.heap.size + 1)]? = some (.cells #[.bool true] 4 (0, 0)) := by
            rw [hY]
            have := row_set ((hZ1.block (w2.heap.size + 1) (row_lt HGX.out) (by omega)).trans HGX.out) 0 (.bool true)
            simpa using this
          have Y0 := (hCZ.block _ (row_lt H0.out) (by omega)).trans H0.out
          have YX := (hCZ.block _ (row_lt HXX.out) (by omega)).trans HXX.out
          have YP := (hCZ.block _ (row_lt HPX.out) (by omega)).trans HPX.out
          have k0 := cell_of_row Y _ 0 _ _ (0, 0) Y0
          have k1 := cell_of_row Y _ 1 _ _ (0, 0) YP
          have k2 := cell_of_row Y _ 5 _ _ (0, 0) YX
          simp [scl] at k0 k1 k2
          obtain ⟨u0, u1, u2, u3, u4⟩ := nd_cells YB
          have hWY : K.Chg W Y (fun j => A.map (·.block) = some j ∨ j = (w2.heap.size + 1)) := (HXC.out.mono (fun _ h => .inl h)).trans hCZ (fun j hj => by
            rcases hj with rfl | rfl
            · exact .inr (Nat.le_refl _)
            · exact .inl (.inr rfl))
          obtain ⟨hi', hie⟩ := List.getElem?_eq_some_iff.1 HWAY.out
          have hkn : ∀ j, A.map (·.block) = some j → ¬ QB Q An' Af' j := fun j hj => kid_no HS.out.po HS.out.kids hi' (by rw [hie]; exact hj)
          have hgq : ¬ QB Q An' Af' ((w2.heap.size + 1)) := fun hq => by
            obtain ⟨_, cur, T, hr, _, _, hT, _⟩ := HS.out.types (.inr (.inr (.inl hq)))
            exact row_ne hr HG.out hT rfl
          have hpoY : Qo Y.drew Q m0 lim An' cn' Af' cf' ns' fs' := (HS.out.po.chg hWY (fun j hj h => by
            rcases h with h | rfl
            · exact hkn j h hj
            · exact hgq hj)).drew 1
          have hoY : Y.ownsRow 0 3 1 (.slice A2 zs.length c2) zs.length (iw zs) := hCZ.own HXO.out (fun b h1 h2 => by
            have h3 := own_of_map h1
            rcases HXA.out b h3 with h4 | h4
            · rcases h2 with rfl | rfl
              · have := HAL.out.1 _ h4; omega
              · obtain ⟨cur, hc⟩ := HAL.out.2.2 _ h4
                exact row_ne hc HG.out (by decide) rfl
            · rcases h2 with rfl | rfl
              · omega
              · omega)
          have HWY := Lib.hid hWY
          have HOY := Lib.hid hoY
          have HYG := Lib.hid YG
          have HPO := Lib.hid hpoY
          have hfr := Lib.hid (q_free Y.drew Q m0 lim cn' cf' An' Af' ns' fs' hpoY i hi' (by rw [hie]))
          have hfl := (HS.out.po.fs_lt hi' (by rw [hie])).2
          clear hB0 hC1 hC2 hY hYY hZ hCZ hCB hZ1 hZB YB YG Y0 YX YP hWY hkn hgq hpoY hoY
          refine wpIn_region_any (by kernel_rfl) (wpAnyIn_round (F := Fence.wide) l2 (by kernel_rfl) _ _ _ _ ?_)
          (try (change wpAnyIn _ _ _ _ _ _ _ _ _ (World.drew _)))
          refine with_tail (T := ?TT3) ?tp3 (fun tail => ?bd3)
          case bd3 =>
            refine wpAnyIn_take (i := 4) (v := ?tv4) rfl rfl (by kernel_rfl) (by kernel_rfl) (by kernel_rfl) (fun _ _ _ h => h) ⟨Or.inl ⟨by rfl, ?th4⟩, fun _ => rfl⟩ ?tr4
            case th4 => (intro w; go_simp; try with_reducible rfl)
            refine wpAnyIn_ready (rs := [0, 5]) (by kernel_rfl) (by simp) ?_
            refine AllReadyIn.cons rfl (fun K hK => ?_) ?_
            · go_simp
              refine hK _ _ ?_
              clear hK K
              refine wpAnyIn_take (i := 1) (v := ?tv5) rfl rfl (by kernel_rfl) (by kernel_rfl) (by kernel_rfl) (fun _ _ _ h => h) ⟨Or.inl ⟨by rfl, ?th5⟩, fun _ => rfl⟩ ?tr5
              case th5 => (intro w; go_simp; try with_reducible rfl)
              refine wpAnyIn_take (i := 2) (v := ?tv6) rfl rfl (by kernel_rfl) (by kernel_rfl) (by kernel_rfl) (fun _ _ _ h => h) ⟨Or.inl ⟨by rfl, ?th6⟩, fun _ => rfl⟩ ?tr6
              case th6 => (intro w; go_simp; try with_reducible rfl)
              refine wpAnyIn_ready (rs := [3, 5]) (by kernel_rfl) (by simp) ?_
              refine AllReadyIn.cons rfl (fun K hK => ?_) ?_
              · go_simp
                refine hK _ _ ?_
                clear hK K
                refine wpAnyIn_ready (rs := [5]) (by kernel_rfl) (by simp) ?_
                refine AllReadyIn.cons rfl (fun K hK => ?_) ?_
                · go_simp
                  refine hK _ _ ?_
                  clear hK K
                  exact tail
                exact AllReadyIn.nil
              refine AllReadyIn.cons rfl (fun K hK => ?_) ?_
              · go_simp
                refine hK _ _ ?_
                clear hK K
                refine wpAnyIn_ready (rs := [3]) (by kernel_rfl) (by simp) ?_
                refine AllReadyIn.cons rfl (fun K hK => ?_) ?_
                · go_simp
                  refine hK _ _ ?_
                  clear hK K
                  exact tail
                exact AllReadyIn.nil
              exact AllReadyIn.nil
            refine AllReadyIn.cons rfl (fun K hK => ?_) ?_
            · go_simp
              refine hK _ _ ?_
              clear hK K
              refine wpAnyIn_ready (rs := [0]) (by kernel_rfl) (by simp) ?_
              refine AllReadyIn.cons rfl (fun K hK => ?_) ?_
              · go_simp
                refine hK _ _ ?_
                clear hK K
                refine wpAnyIn_take (i := 1) (v := ?tv7) rfl rfl (by kernel_rfl) (by kernel_rfl) (by kernel_rfl) (fun _ _ _ h => h) ⟨Or.inl ⟨by rfl, ?th7⟩, fun _ => rfl⟩ ?tr7
                case th7 => (intro w; go_simp; try with_reducible rfl)
                refine wpAnyIn_take (i := 2) (v := ?tv8) rfl rfl (by kernel_rfl) (by kernel_rfl) (by kernel_rfl) (fun _ _ _ h => h) ⟨Or.inl ⟨by rfl, ?th8⟩, fun _ => rfl⟩ ?tr8
                case th8 => (intro w; go_simp; try with_reducible rfl)
                refine wpAnyIn_ready (rs := [3]) (by kernel_rfl) (by simp) ?_
                refine AllReadyIn.cons rfl (fun K hK => ?_) ?_
                · go_simp
                  refine hK _ _ ?_
                  clear hK K
                  exact tail
                exact AllReadyIn.nil
              exact AllReadyIn.nil
            exact AllReadyIn.nil
          case tp3 =>
            refine wpAnyIn_ready (rs := [6]) (by kernel_rfl) (by simp) ?_
            refine AllReadyIn.cons rfl (fun K hK => ?_) AllReadyIn.nil
            go_simp
            gi_wp2_with (gi_at_call 76; refine (callsIn_wide.2 hfr.out).mono ?_; rintro e w5 ⟨rfl, hq⟩; have HQS := Lib.hid hq; clear hq)
            refine wpAnyIn_done (by kernel_rfl) ?_ _
            gi_wp2
            show ∃ O', _ ∧ _
            dsimp only
            rw [HE13.out]
            have hgy : shGone xs k y = true := by
              unfold shGone
              have := HGN.out.1 HK0.out
              simp [this]
            have hq' : QStep Y Q m0 lim An' Af' (ns'.set i (Nd.z, false)) (fs' ++ [i]) w5 := by
              obtain ⟨An2, cn2, Af2, cf2, h1, h2, h3⟩ := HQS.out
              exact ⟨An2, cn2, Af2, cf2, h1, chg_of_drew h2, h3⟩
            exact ShI.step (x := Nd.z) (b := false) HO.out HS.out h.up hx HYL.out hm HIG.out.symm HG.out (by rw [hgy]; exact HYG.out) (.inr rfl) A (fun g hg => by obtain ⟨hi', hie⟩ := List.getElem?_eq_some_iff.1 HWAY.out; exact ⟨hi', by rw [hie]; exact hg⟩) HWY.out (World.ownsRow_nil _ _ _ _) (fun j hj => by simp [Nd.z] at hj) hq' (fun j hj => by rw [List.getElem?_set_ne (Ne.symm hj)]) (by rw [List.getElem?_set_self hi']) (.inl ⟨rfl, by
              rcases Nat.lt_or_ge y m with h1 | h1
              · exact absurd (HDG.out.2 h1) (HGN.out.1 HK0.out)
              · exact h1, by rw [List.length_set, List.length_append]; simp; omega⟩)
        · by_cases hle : le = k
          · by_cases hgr : gr = k
            · have e1 : ((le : Int) == (k : Int)) = true := by rw [hle]; simp
              have e2 : ((gr : Int) == (k : Int)) = true := by rw [hgr]; simp
              have e3 : (((ks - 1 : Nat) : Int) == 0) = false := by rw [Bool.eq_false_iff]; intro e; rw [beq_iff_eq] at e; omega
              have HLE := Lib.hid hle
              have HGR := Lib.hid hgr
              have HK0 := Lib.hid hk0
              clear hle hgr hk0
              gi_wp2
              refine wpIn_world ?_
              rintro Y hYY
              have hB0 := row_set (row_set (row_set HXB.out 2 (.int .i64 ((ks - 1 : Nat) : Int))) 3 (.int .u64 (ab : Int))) 4 (.int .u64 (bw : Int))
              have hC1 := ((chg_set X W.heap.size 2 (.int .i64 ((ks - 1 : Nat) : Int)) (fun j => j = W.heap.size) rfl).same (chg_set _ W.heap.size 3 (.int .u64 (ab : Int)) _ rfl)).same (chg_set _ W.heap.size 4 (.int .u64 (bw : Int)) _ rfl)
              have hC2 := ((chg_set X W.heap.size 2 (.int .i64 ((ks - 1 : Nat) : Int)) (fun j => j = W.heap.size ∨ j = (w2.heap.size + 1)) (.inl rfl)).same (chg_set _ W.heap.size 3 (.int .u64 (ab : Int)) _ (.inl rfl))).same (chg_set _ W.heap.size 4 (.int .u64 (bw : Int)) _ (.inl rfl))
              simp at hB0
              obtain ⟨Z, hZ⟩ : ∃ Z, Z = (((X.setCell ⟨W.heap.size, 2, none⟩ (.int .i64 ((ks - 1 : Nat) : Int))).setCell ⟨W.heap.size, 3, none⟩ (.int .u64 (ab : Int))).setCell ⟨W.heap.size, 4, none⟩ (.int .u64 (bw : Int))) := ⟨_, rfl⟩
              have hY : Y = Z.setCell ⟨(w2.heap.size + 1), 0, none⟩ (.bool false) := by rw [hYY, hZ]
              have hCZ : K.Chg X Y (fun j => j = W.heap.size ∨ j = (w2.heap.size + 1)) := by rw [hY, hZ]; exact hC2.same (chg_set _ _ 0 _ _ (.inr rfl))
              have hCB : K.Chg Z Y (fun j => j = (w2.heap.size + 1)) := by rw [hY]; exact chg_set _ _ 0 _ _ rfl
              have hZ1 : K.Chg X Z (fun j => j = W.heap.size) := by rw [hZ]; exact hC1
              have hZB : Z.heap[W.heap.size]? = some (.cells #[.int .u64 (W2 : Int), .slice A2 n2 c2, .int .i64 ((ks - 1 : Nat) : Int), .int .u64 (ab : Int), .int .u64 (bw : Int)] 72 (0, 0)) := by rw [hZ]; first | exact hB0 | simpa using hB0
              have YB := (hCB.block W.heap.size (row_lt hZB) (by omega)).trans hZB
              have YG : Y.heap[(w2.heap.size + 1)]? = some (.cells #[.bool false] 4 (0, 0)) := by
                rw [hY]
                have := row_set ((hZ1.block (w2.heap.size + 1) (row_lt HGX.out) (by omega)).trans HGX.out) 0 (.bool false)
                simpa using this
              have Y0 := (hCZ.block _ (row_lt H0.out) (by omega)).trans H0.out
              have YX := (hCZ.block _ (row_lt HXX.out) (by omega)).trans HXX.out
              have YP := (hCZ.block _ (row_lt HPX.out) (by omega)).trans HPX.out
              have k0 := cell_of_row Y _ 0 _ _ (0, 0) Y0
              have k1 := cell_of_row Y _ 1 _ _ (0, 0) YP
              have k2 := cell_of_row Y _ 5 _ _ (0, 0) YX
              simp [scl] at k0 k1 k2
              obtain ⟨u0, u1, u2, u3, u4⟩ := nd_cells YB
              have hWY : K.Chg W Y (fun j => A.map (·.block) = some j ∨ j = (w2.heap.size + 1)) := (HXC.out.mono (fun _ h => .inl h)).trans hCZ (fun j hj => by
                rcases hj with rfl | rfl
                · exact .inr (Nat.le_refl _)
                · exact .inl (.inr rfl))
              obtain ⟨hi', hie⟩ := List.getElem?_eq_some_iff.1 HWAY.out
              have hkn : ∀ j, A.map (·.block) = some j → ¬ QB Q An' Af' j := fun j hj => kid_no HS.out.po HS.out.kids hi' (by rw [hie]; exact hj)
              have hgq : ¬ QB Q An' Af' ((w2.heap.size + 1)) := fun hq => by
                obtain ⟨_, cur, T, hr, _, _, hT, _⟩ := HS.out.types (.inr (.inr (.inl hq)))
                exact row_ne hr HG.out hT rfl
              have hpoY : Qo Y.drew Q m0 lim An' cn' Af' cf' ns' fs' := (HS.out.po.chg hWY (fun j hj h => by
                rcases h with h | rfl
                · exact hkn j h hj
                · exact hgq hj)).drew 1
              have hoY : Y.ownsRow 0 3 1 (.slice A2 zs.length c2) zs.length (iw zs) := hCZ.own HXO.out (fun b h1 h2 => by
                have h3 := own_of_map h1
                rcases HXA.out b h3 with h4 | h4
                · rcases h2 with rfl | rfl
                  · have := HAL.out.1 _ h4; omega
                  · obtain ⟨cur, hc⟩ := HAL.out.2.2 _ h4
                    exact row_ne hc HG.out (by decide) rfl
                · rcases h2 with rfl | rfl
                  · omega
                  · omega)
              have HWY := Lib.hid hWY
              have HOY := Lib.hid hoY
              have HYG := Lib.hid YG
              have HPO := Lib.hid hpoY
              have hpt := Lib.hid (q_put Y.drew Q m0 lim cn' cf' An' Af' ns' fs' hpoY i hi' (by rw [hie]) W2 A2 zs c2 (ks - 1) ab bw ⟨W2, A2, zs, c2, ks - 1, ab, bw⟩ rfl)
              rw [HN2.out] at hpt
              clear hB0 hC1 hC2 hY hYY hZ hCZ hCB hZ1 hZB YB YG Y0 YX YP hWY hi' hie hkn hgq hpoY hoY
              refine wpIn_region_any (by kernel_rfl) (wpAnyIn_round (F := Fence.wide) l2 (by kernel_rfl) _ _ _ _ ?_)
              (try (change wpAnyIn _ _ _ _ _ _ _ _ _ (World.drew _)))
              refine with_tail (T := ?TT9) ?tp9 (fun tail => ?bd9)
              case bd9 =>
                refine wpAnyIn_take (i := 4) (v := ?tv10) rfl rfl (by kernel_rfl) (by kernel_rfl) (by kernel_rfl) (fun _ _ _ h => h) ⟨Or.inl ⟨by rfl, ?th10⟩, fun _ => rfl⟩ ?tr10
                case th10 => (intro w; go_simp; try with_reducible rfl)
                refine wpAnyIn_ready (rs := [0, 5, 6]) (by kernel_rfl) (by simp) ?_
                refine AllReadyIn.cons rfl (fun K hK => ?_) ?_
                · go_simp
                  refine hK _ _ ?_
                  clear hK K
                  refine wpAnyIn_take (i := 1) (v := ?tv11) rfl rfl (by kernel_rfl) (by kernel_rfl) (by kernel_rfl) (fun _ _ _ h => h) ⟨Or.inl ⟨by rfl, ?th11⟩, fun _ => rfl⟩ ?tr11
                  case th11 => (intro w; go_simp; try with_reducible rfl)
                  refine wpAnyIn_take (i := 2) (v := ?tv12) rfl rfl (by kernel_rfl) (by kernel_rfl) (by kernel_rfl) (fun _ _ _ h => h) ⟨Or.inl ⟨by rfl, ?th12⟩, fun _ => rfl⟩ ?tr12
                  case th12 => (intro w; go_simp; try with_reducible rfl)
                  refine wpAnyIn_ready (rs := [3, 5, 6]) (by kernel_rfl) (by simp) ?_
                  refine AllReadyIn.cons rfl (fun K hK => ?_) ?_
                  · go_simp
                    refine hK _ _ ?_
                    clear hK K
                    refine wpAnyIn_ready (rs := [5, 6]) (by kernel_rfl) (by simp) ?_
                    refine AllReadyIn.cons rfl (fun K hK => ?_) ?_
                    · go_simp
                      refine hK _ _ ?_
                      clear hK K
                      refine wpAnyIn_ready (rs := [6]) (by kernel_rfl) (by simp) ?_
                      refine AllReadyIn.cons rfl (fun K hK => ?_) ?_
                      · go_simp
                        refine hK _ _ ?_
                        clear hK K
                        exact tail
                      exact AllReadyIn.nil
                    refine AllReadyIn.cons rfl (fun K hK => ?_) ?_
                    · go_simp
                      refine hK _ _ ?_
                      clear hK K
                      refine wpAnyIn_ready (rs := [5]) (by kernel_rfl) (by simp) ?_
                      refine AllReadyIn.cons rfl (fun K hK => ?_) ?_
                      · go_simp
                        refine hK _ _ ?_
                        clear hK K
                        exact tail
                      exact AllReadyIn.nil
                    exact AllReadyIn.nil
                  refine AllReadyIn.cons rfl (fun K hK => ?_) ?_
                  · go_simp
                    refine hK _ _ ?_
                    clear hK K
                    refine wpAnyIn_ready (rs := [3, 6]) (by kernel_rfl) (by simp) ?_
                    refine AllReadyIn.cons rfl (fun K hK => ?_) ?_
                    · go_simp
                      refine hK _ _ ?_
                      clear hK K
                      refine wpAnyIn_ready (rs := [6]) (by kernel_rfl) (by simp) ?_
                      refine AllReadyIn.cons rfl (fun K hK => ?_) ?_
                      · go_simp
                        refine hK _ _ ?_
                        clear hK K
                        exact tail
                      exact AllReadyIn.nil
                    refine AllReadyIn.cons rfl (fun K hK => ?_) ?_
                    · go_simp
                      refine hK _ _ ?_
                      clear hK K
                      refine wpAnyIn_ready (rs := [3]) (by kernel_rfl) (by simp) ?_
                      refine AllReadyIn.cons rfl (fun K hK => ?_) ?_
                      · go_simp
                        refine hK _ _ ?_
                        clear hK K
                        exact tail
                      exact AllReadyIn.nil
                    exact AllReadyIn.nil
                  refine AllReadyIn.cons rfl (fun K hK => ?_) ?_
                  · go_simp
                    refine hK _ _ ?_
                    clear hK K
                    refine wpAnyIn_ready (rs := [3, 5]) (by kernel_rfl) (by simp) ?_
                    refine AllReadyIn.cons rfl (fun K hK => ?_) ?_
                    · go_simp
                      refine hK _ _ ?_
                      clear hK K
                      refine wpAnyIn_ready (rs := [5]) (by kernel_rfl) (by simp) ?_
                      refine AllReadyIn.cons rfl (fun K hK => ?_) ?_
                      · go_simp
                        refine hK _ _ ?_
                        clear hK K
                        exact tail
                      exact AllReadyIn.nil
                    refine AllReadyIn.cons rfl (fun K hK => ?_) ?_
                    · go_simp
                      refine hK _ _ ?_
                      clear hK K
                      refine wpAnyIn_ready (rs := [3]) (by kernel_rfl) (by simp) ?_
                      refine AllReadyIn.cons rfl (fun K hK => ?_) ?_
                      · go_simp
                        refine hK _ _ ?_
                        clear hK K
                        exact tail
                      exact AllReadyIn.nil
                    exact AllReadyIn.nil
                  exact AllReadyIn.nil
                refine AllReadyIn.cons rfl (fun K hK => ?_) ?_
                · go_simp
                  refine hK _ _ ?_
                  clear hK K
                  refine wpAnyIn_ready (rs := [0, 6]) (by kernel_rfl) (by simp) ?_
                  refine AllReadyIn.cons rfl (fun K hK => ?_) ?_
                  · go_simp
                    refine hK _ _ ?_
                    clear hK K
                    refine wpAnyIn_take (i := 1) (v := ?tv13) rfl rfl (by kernel_rfl) (by kernel_rfl) (by kernel_rfl) (fun _ _ _ h => h) ⟨Or.inl ⟨by rfl, ?th13⟩, fun _ => rfl⟩ ?tr13
                    case th13 => (intro w; go_simp; try with_reducible rfl)
                    refine wpAnyIn_take (i := 2) (v := ?tv14) rfl rfl (by kernel_rfl) (by kernel_rfl) (by kernel_rfl) (fun _ _ _ h => h) ⟨Or.inl ⟨by rfl, ?th14⟩, fun _ => rfl⟩ ?tr14
                    case th14 => (intro w; go_simp; try with_reducible rfl)
                    refine wpAnyIn_ready (rs := [3, 6]) (by kernel_rfl) (by simp) ?_
                    refine AllReadyIn.cons rfl (fun K hK => ?_) ?_
                    · go_simp
                      refine hK _ _ ?_
                      clear hK K
                      refine wpAnyIn_ready (rs := [6]) (by kernel_rfl) (by simp) ?_
                      refine AllReadyIn.cons rfl (fun K hK => ?_) ?_
                      · go_simp
                        refine hK _ _ ?_
                        clear hK K
                        exact tail
                      exact AllReadyIn.nil
                    refine AllReadyIn.cons rfl (fun K hK => ?_) ?_
                    · go_simp
                      refine hK _ _ ?_
                      clear hK K
                      refine wpAnyIn_ready (rs := [3]) (by kernel_rfl) (by simp) ?_
                      refine AllReadyIn.cons rfl (fun K hK => ?_) ?_
                      · go_simp
                        refine hK _ _ ?_
                        clear hK K
                        exact tail
                      exact AllReadyIn.nil
                    exact AllReadyIn.nil
                  refine AllReadyIn.cons rfl (fun K hK => ?_) ?_
                  · go_simp
                    refine hK _ _ ?_
                    clear hK K
                    refine wpAnyIn_ready (rs := [0]) (by kernel_rfl) (by simp) ?_
                    refine AllReadyIn.cons rfl (fun K hK => ?_) ?_
                    · go_simp
                      refine hK _ _ ?_
                      clear hK K
                      refine wpAnyIn_take (i := 1) (v := ?tv15) rfl rfl (by kernel_rfl) (by kernel_rfl) (by kernel_rfl) (fun _ _ _ h => h) ⟨Or.inl ⟨by rfl, ?th15⟩, fun _ => rfl⟩ ?tr15
                      case th15 => (intro w; go_simp; try with_reducible rfl)
                      refine wpAnyIn_take (i := 2) (v := ?tv16) rfl rfl (by kernel_rfl) (by kernel_rfl) (by kernel_rfl) (fun _ _ _ h => h) ⟨Or.inl ⟨by rfl, ?th16⟩, fun _ => rfl⟩ ?tr16
                      case th16 => (intro w; go_simp; try with_reducible rfl)
                      refine wpAnyIn_ready (rs := [3]) (by kernel_rfl) (by simp) ?_
                      refine AllReadyIn.cons rfl (fun K hK => ?_) ?_
                      · go_simp
                        refine hK _ _ ?_
                        clear hK K
                        exact tail
                      exact AllReadyIn.nil
                    exact AllReadyIn.nil
                  exact AllReadyIn.nil
                refine AllReadyIn.cons rfl (fun K hK => ?_) ?_
                · go_simp
                  refine hK _ _ ?_
                  clear hK K
                  refine wpAnyIn_ready (rs := [0, 5]) (by kernel_rfl) (by simp) ?_
                  refine AllReadyIn.cons rfl (fun K hK => ?_) ?_
                  · go_simp
                    refine hK _ _ ?_
                    clear hK K
                    refine wpAnyIn_take (i := 1) (v := ?tv17) rfl rfl (by kernel_rfl) (by kernel_rfl) (by kernel_rfl) (fun _ _ _ h => h) ⟨Or.inl ⟨by rfl, ?th17⟩, fun _ => rfl⟩ ?tr17
                    case th17 => (intro w; go_simp; try with_reducible rfl)
                    refine wpAnyIn_take (i := 2) (v := ?tv18) rfl rfl (by kernel_rfl) (by kernel_rfl) (by kernel_rfl) (fun _ _ _ h => h) ⟨Or.inl ⟨by rfl, ?th18⟩, fun _ => rfl⟩ ?tr18
                    case th18 => (intro w; go_simp; try with_reducible rfl)
                    refine wpAnyIn_ready (rs := [3, 5]) (by kernel_rfl) (by simp) ?_
                    refine AllReadyIn.cons rfl (fun K hK => ?_) ?_
                    · go_simp
                      refine hK _ _ ?_
                      clear hK K
                      refine wpAnyIn_ready (rs := [5]) (by kernel_rfl) (by simp) ?_
                      refine AllReadyIn.cons rfl (fun K hK => ?_) ?_
                      · go_simp
                        refine hK _ _ ?_
                        clear hK K
                        exact tail
                      exact AllReadyIn.nil
                    refine AllReadyIn.cons rfl (fun K hK => ?_) ?_
                    · go_simp
                      refine hK _ _ ?_
                      clear hK K
                      refine wpAnyIn_ready (rs := [3]) (by kernel_rfl) (by simp) ?_
                      refine AllReadyIn.cons rfl (fun K hK => ?_) ?_
                      · go_simp
                        refine hK _ _ ?_
                        clear hK K
                        exact tail
                      exact AllReadyIn.nil
                    exact AllReadyIn.nil
                  refine AllReadyIn.cons rfl (fun K hK => ?_) ?_
                  · go_simp
                    refine hK _ _ ?_
                    clear hK K
                    refine wpAnyIn_ready (rs := [0]) (by kernel_rfl) (by simp) ?_
                    refine AllReadyIn.cons rfl (fun K hK => ?_) ?_
                    · go_simp
                      refine hK _ _ ?_
                      clear hK K
                      refine wpAnyIn_take (i := 1) (v := ?tv19) rfl rfl (by kernel_rfl) (by kernel_rfl) (by kernel_rfl) (fun _ _ _ h => h) ⟨Or.inl ⟨by rfl, ?th19⟩, fun _ => rfl⟩ ?tr19
                      case th19 => (intro w; go_simp; try with_reducible rfl)
                      refine wpAnyIn_take (i := 2) (v := ?tv20) rfl rfl (by kernel_rfl) (by kernel_rfl) (by kernel_rfl) (fun _ _ _ h => h) ⟨Or.inl ⟨by rfl, ?th20⟩, fun _ => rfl⟩ ?tr20
                      case th20 => (intro w; go_simp; try with_reducible rfl)
                      refine wpAnyIn_ready (rs := [3]) (by kernel_rfl) (by simp) ?_
                      refine AllReadyIn.cons rfl (fun K hK => ?_) ?_
                      · go_simp
                        refine hK _ _ ?_
                        clear hK K
                        exact tail
                      exact AllReadyIn.nil
                    exact AllReadyIn.nil
                  exact AllReadyIn.nil
                exact AllReadyIn.nil
              case tp9 =>
                refine wpAnyIn_ready (rs := [7]) (by kernel_rfl) (by simp) ?_
                refine AllReadyIn.cons rfl (fun K hK => ?_) AllReadyIn.nil
                go_simp
                gi_wp2_with (gi_at_call 73; refine (callsIn_wide.2 hpt.out).mono ?_; rintro e w5 ⟨rfl, hq⟩; have HQS := Lib.hid hq; clear hq)
                refine wpAnyIn_done (by kernel_rfl) ?_ _
                gi_wp2
                show ∃ O', _ ∧ _
                dsimp only
                rw [HE13.out]
                have hpy : T.prs (K.drop xs k) y (T.pre y k) := Classical.not_not.1 (fun h => HK0.out (HGN.out.2 h))
                have hgy : shGone xs k y = false := by
                  unfold shGone
                  simp [hpy]
                have hq' : QStep Y Q m0 lim An' Af' (ns'.set i (⟨W2, A2, zs, c2, ks - 1, ab, bw⟩, true)) fs' w5 := by
                  obtain ⟨An2, cn2, Af2, cf2, h1, h2, h3⟩ := HQS.out
                  exact ⟨An2, cn2, Af2, cf2, h1, chg_of_drew h2, h3⟩
                have hok : T.NdOK (K.drop xs k) pl y (T.pre y k) W2 (ks - 1) ab bw zs := by
                  have := HL.out HK0.out
                  rw [if_pos HLE.out, if_pos HGR.out] at this
                  exact this
                exact ShI.step (x := ⟨W2, A2, zs, c2, ks - 1, ab, bw⟩) (b := true) HO.out HS.out h.up hx HYL.out hm HIG.out.symm HG.out (by rw [hgy]; exact HYG.out) (.inr rfl) A (fun g hg => by obtain ⟨hi', hie⟩ := List.getElem?_eq_some_iff.1 HWAY.out; exact ⟨hi', by rw [hie]; exact hg⟩) HWY.out HOY.out (fun j hj => (HXA.out j hj).imp (fun h => h) (fun h => Nat.le_of_lt h)) hq' (fun j hj => by rw [List.getElem?_set_ne (Ne.symm hj)]) (by rw [List.getElem?_set_self (List.getElem?_eq_some_iff.1 HWAY.out).1]) (.inr ⟨rfl, HDG.out.1 hpy, by rw [List.length_set], hok⟩)
            · have e1 : ((le : Int) == (k : Int)) = true := by rw [hle]; simp
              have e2 : ((gr : Int) == (k : Int)) = false := by rw [Bool.eq_false_iff]; intro e; rw [beq_iff_eq] at e; omega
              have e3 : (((ks - 1 : Nat) : Int) == 0) = false := by rw [Bool.eq_false_iff]; intro e; rw [beq_iff_eq] at e; omega
              have HLE := Lib.hid hle
              have HGR := Lib.hid hgr
              have HK0 := Lib.hid hk0
              clear hle hgr hk0
              gi_wp2
              refine wpIn_world ?_
              rintro Y hYY
              have hB0 := row_set (row_set HXB.out 2 (.int .i64 ((ks - 1 : Nat) : Int))) 3 (.int .u64 (ab : Int))
              have hC1 := (chg_set X W.heap.size 2 (.int .i64 ((ks - 1 : Nat) : Int)) (fun j => j = W.heap.size) rfl).same (chg_set _ W.heap.size 3 (.int .u64 (ab : Int)) _ rfl)
              have hC2 := (chg_set X W.heap.size 2 (.int .i64 ((ks - 1 : Nat) : Int)) (fun j => j = W.heap.size ∨ j = (w2.heap.size + 1)) (.inl rfl)).same (chg_set _ W.heap.size 3 (.int .u64 (ab : Int)) _ (.inl rfl))
              simp at hB0
              obtain ⟨Z, hZ⟩ : ∃ Z, Z = ((X.setCell ⟨W.heap.size, 2, none⟩ (.int .i64 ((ks - 1 : Nat) : Int))).setCell ⟨W.heap.size, 3, none⟩ (.int .u64 (ab : Int))) := ⟨_, rfl⟩
              have hY : Y = Z.setCell ⟨(w2.heap.size + 1), 0, none⟩ (.bool false) := by rw [hYY, hZ]
              have hCZ : K.Chg X Y (fun j => j = W.heap.size ∨ j = (w2.heap.size + 1)) := by rw [hY, hZ]; exact hC2.same (chg_set _ _ 0 _ _ (.inr rfl))
              have hCB : K.Chg Z Y (fun j => j = (w2.heap.size + 1)) := by rw [hY]; exact chg_set _ _ 0 _ _ rfl
              have hZ1 : K.Chg X Z (fun j => j = W.heap.size) := by rw [hZ]; exact hC1
              have hZB : Z.heap[W.heap.size]? = some (.cells #[.int .u64 (W2 : Int), .slice A2 n2 c2, .int .i64 ((ks - 1 : Nat) : Int), .int .u64 (ab : Int), .int .u64 (gr : Int)] 72 (0, 0)) := by rw [hZ]; first | exact hB0 | simpa using hB0
              have YB := (hCB.block W.heap.size (row_lt hZB) (by omega)).trans hZB
              have YG : Y.heap[(w2.heap.size + 1)]? = some (.cells #[.bool false] 4 (0, 0)) := by
                rw [hY]
                have := row_set ((hZ1.block (w2.heap.size + 1) (row_lt HGX.out) (by omega)).trans HGX.out) 0 (.bool false)
                simpa using this
              have Y0 := (hCZ.block _ (row_lt H0.out) (by omega)).trans H0.out
              have YX := (hCZ.block _ (row_lt HXX.out) (by omega)).trans HXX.out
              have YP := (hCZ.block _ (row_lt HPX.out) (by omega)).trans HPX.out
              have k0 := cell_of_row Y _ 0 _ _ (0, 0) Y0
              have k1 := cell_of_row Y _ 1 _ _ (0, 0) YP
              have k2 := cell_of_row Y _ 5 _ _ (0, 0) YX
              simp [scl] at k0 k1 k2
              obtain ⟨u0, u1, u2, u3, u4⟩ := nd_cells YB
              have hWY : K.Chg W Y (fun j => A.map (·.block) = some j ∨ j = (w2.heap.size + 1)) := (HXC.out.mono (fun _ h => .inl h)).trans hCZ (fun j hj => by
                rcases hj with rfl | rfl
                · exact .inr (Nat.le_refl _)
                · exact .inl (.inr rfl))
              obtain ⟨hi', hie⟩ := List.getElem?_eq_some_iff.1 HWAY.out
              have hkn : ∀ j, A.map (·.block) = some j → ¬ QB Q An' Af' j := fun j hj => kid_no HS.out.po HS.out.kids hi' (by rw [hie]; exact hj)
              have hgq : ¬ QB Q An' Af' ((w2.heap.size + 1)) := fun hq => by
                obtain ⟨_, cur, T, hr, _, _, hT, _⟩ := HS.out.types (.inr (.inr (.inl hq)))
                exact row_ne hr HG.out hT rfl
              have hpoY : Qo Y.drew Q m0 lim An' cn' Af' cf' ns' fs' := (HS.out.po.chg hWY (fun j hj h => by
                rcases h with h | rfl
                · exact hkn j h hj
                · exact hgq hj)).drew 1
              have hoY : Y.ownsRow 0 3 1 (.slice A2 zs.length c2) zs.length (iw zs) := hCZ.own HXO.out (fun b h1 h2 => by
                have h3 := own_of_map h1
                rcases HXA.out b h3 with h4 | h4
                · rcases h2 with rfl | rfl
                  · have := HAL.out.1 _ h4; omega
                  · obtain ⟨cur, hc⟩ := HAL.out.2.2 _ h4
                    exact row_ne hc HG.out (by decide) rfl
                · rcases h2 with rfl | rfl
                  · omega
                  · omega)
              have HWY := Lib.hid hWY
              have HOY := Lib.hid hoY
              have HYG := Lib.hid YG
              have HPO := Lib.hid hpoY
              have hpt := Lib.hid (q_put Y.drew Q m0 lim cn' cf' An' Af' ns' fs' hpoY i hi' (by rw [hie]) W2 A2 zs c2 (ks - 1) ab gr ⟨W2, A2, zs, c2, ks - 1, ab, gr⟩ rfl)
              rw [HN2.out] at hpt
              clear hB0 hC1 hC2 hY hYY hZ hCZ hCB hZ1 hZB YB YG Y0 YX YP hWY hi' hie hkn hgq hpoY hoY
              refine wpIn_region_any (by kernel_rfl) (wpAnyIn_round (F := Fence.wide) l2 (by kernel_rfl) _ _ _ _ ?_)
              (try (change wpAnyIn _ _ _ _ _ _ _ _ _ (World.drew _)))
              refine with_tail (T := ?TT21) ?tp21 (fun tail => ?bd21)
              case bd21 =>
                refine wpAnyIn_take (i := 4) (v := ?tv22) rfl rfl (by kernel_rfl) (by kernel_rfl) (by kernel_rfl) (fun _ _ _ h => h) ⟨Or.inl ⟨by rfl, ?th22⟩, fun _ => rfl⟩ ?tr22
                case th22 => (intro w; go_simp; try with_reducible rfl)
                refine wpAnyIn_ready (rs := [0, 5, 6]) (by kernel_rfl) (by simp) ?_
                refine AllReadyIn.cons rfl (fun K hK => ?_) ?_
                · go_simp
                  refine hK _ _ ?_
                  clear hK K
                  refine wpAnyIn_take (i := 1) (v := ?tv23) rfl rfl (by kernel_rfl) (by kernel_rfl) (by kernel_rfl) (fun _ _ _ h => h) ⟨Or.inl ⟨by rfl, ?th23⟩, fun _ => rfl⟩ ?tr23
                  case th23 => (intro w; go_simp; try with_reducible rfl)
                  refine wpAnyIn_take (i := 2) (v := ?tv24) rfl rfl (by kernel_rfl) (by kernel_rfl) (by kernel_rfl) (fun _ _ _ h => h) ⟨Or.inl ⟨by rfl, ?th24⟩, fun _ => rfl⟩ ?tr24
                  case th24 => (intro w; go_simp; try with_reducible rfl)
                  refine wpAnyIn_ready (rs := [3, 5, 6]) (by kernel_rfl) (by simp) ?_
                  refine AllReadyIn.cons rfl (fun K hK => ?_) ?_
                  · go_simp
                    refine hK _ _ ?_
                    clear hK K
                    refine wpAnyIn_ready (rs := [5, 6]) (by kernel_rfl) (by simp) ?_
                    refine AllReadyIn.cons rfl (fun K hK => ?_) ?_
                    · go_simp
                      refine hK _ _ ?_
                      clear hK K
                      refine wpAnyIn_ready (rs := [6]) (by kernel_rfl) (by simp) ?_
                      refine AllReadyIn.cons rfl (fun K hK => ?_) ?_
                      · go_simp
                        refine hK _ _ ?_
                        clear hK K
                        exact tail
                      exact AllReadyIn.nil
                    refine AllReadyIn.cons rfl (fun K hK => ?_) ?_
                    · go_simp
                      refine hK _ _ ?_
                      clear hK K
                      refine wpAnyIn_ready (rs := [5]) (by kernel_rfl) (by simp) ?_
                      refine AllReadyIn.cons rfl (fun K hK => ?_) ?_
                      · go_simp
                        refine hK _ _ ?_
                        clear hK K
                        exact tail
                      exact AllReadyIn.nil
                    exact AllReadyIn.nil
                  refine AllReadyIn.cons rfl (fun K hK => ?_) ?_
                  · go_simp
                    refine hK _ _ ?_
                    clear hK K
                    refine wpAnyIn_ready (rs := [3, 6]) (by kernel_rfl) (by simp) ?_
                    refine AllReadyIn.cons rfl (fun K hK => ?_) ?_
                    · go_simp
                      refine hK _ _ ?_
                      clear hK K
                      refine wpAnyIn_ready (rs := [6]) (by kernel_rfl) (by simp) ?_
                      refine AllReadyIn.cons rfl (fun K hK => ?_) ?_
                      · go_simp
                        refine hK _ _ ?_
                        clear hK K
                        exact tail
                      exact AllReadyIn.nil
                    refine AllReadyIn.cons rfl (fun K hK => ?_) ?_
                    · go_simp
                      refine hK _ _ ?_
                      clear hK K
                      refine wpAnyIn_ready (rs := [3]) (by kernel_rfl) (by simp) ?_
                      refine AllReadyIn.cons rfl (fun K hK => ?_) ?_
                      · go_simp
                        refine hK _ _ ?_
                        clear hK K
                        exact tail
                      exact AllReadyIn.nil
                    exact AllReadyIn.nil
                  refine AllReadyIn.cons rfl (fun K hK => ?_) ?_
                  · go_simp
                    refine hK _ _ ?_
                    clear hK K
                    refine wpAnyIn_ready (rs := [3, 5]) (by kernel_rfl) (by simp) ?_
                    refine AllReadyIn.cons rfl (fun K hK => ?_) ?_
                    · go_simp
                      refine hK _ _ ?_
                      clear hK K
                      refine wpAnyIn_ready (rs := [5]) (by kernel_rfl) (by simp) ?_
                      refine AllReadyIn.cons rfl (fun K hK => ?_) ?_
                      · go_simp
                        refine hK _ _ ?_
                        clear hK K
                        exact tail
                      exact AllReadyIn.nil
                    refine AllReadyIn.cons rfl (fun K hK => ?_) ?_
                    · go_simp
                      refine hK _ _ ?_
                      clear hK K
                      refine wpAnyIn_ready (rs := [3]) (by kernel_rfl) (by simp) ?_
                      refine AllReadyIn.cons rfl (fun K hK => ?_) ?_
                      · go_simp
                        refine hK _ _ ?_
                        clear hK K
                        exact tail
                      exact AllReadyIn.nil
                    exact AllReadyIn.nil
                  exact AllReadyIn.nil
                refine AllReadyIn.cons rfl (fun K hK => ?_) ?_
                · go_simp
                  refine hK _ _ ?_
                  clear hK K
                  refine wpAnyIn_ready (rs := [0, 6]) (by kernel_rfl) (by simp) ?_
                  refine AllReadyIn.cons rfl (fun K hK => ?_) ?_
                  · go_simp
                    refine hK _ _ ?_
                    clear hK K
                    refine wpAnyIn_take (i := 1) (v := ?tv25) rfl rfl (by kernel_rfl) (by kernel_rfl) (by kernel_rfl) (fun _ _ _ h => h) ⟨Or.inl ⟨by rfl, ?th25⟩, fun _ => rfl⟩ ?tr25
                    case th25 => (intro w; go_simp; try with_reducible rfl)
                    refine wpAnyIn_take (i := 2) (v := ?tv26) rfl rfl (by kernel_rfl) (by kernel_rfl) (by kernel_rfl) (fun _ _ _ h => h) ⟨Or.inl ⟨by rfl, ?th26⟩, fun _ => rfl⟩ ?tr26
                    case th26 => (intro w; go_simp; try with_reducible rfl)
                    refine wpAnyIn_ready (rs := [3, 6]) (by kernel_rfl) (by simp) ?_
                    refine AllReadyIn.cons rfl (fun K hK => ?_) ?_
                    · go_simp
                      refine hK _ _ ?_
                      clear hK K
                      refine wpAnyIn_ready (rs := [6]) (by kernel_rfl) (by simp) ?_
                      refine AllReadyIn.cons rfl (fun K hK => ?_) ?_
                      · go_simp
                        refine hK _ _ ?_
                        clear hK K
                        exact tail
                      exact AllReadyIn.nil
                    refine AllReadyIn.cons rfl (fun K hK => ?_) ?_
                    · go_simp
                      refine hK _ _ ?_
                      clear hK K
                      refine wpAnyIn_ready (rs := [3]) (by kernel_rfl) (by simp) ?_
                      refine AllReadyIn.cons rfl (fun K hK => ?_) ?_
                      · go_simp
                        refine hK _ _ ?_
                        clear hK K
                        exact tail
                      exact AllReadyIn.nil
                    exact AllReadyIn.nil
                  refine AllReadyIn.cons rfl (fun K hK => ?_) ?_
                  · go_simp
                    refine hK _ _ ?_
                    clear hK K
                    refine wpAnyIn_ready (rs := [0]) (by kernel_rfl) (by simp) ?_
                    refine AllReadyIn.cons rfl (fun K hK => ?_) ?_
                    · go_simp
                      refine hK _ _ ?_
                      clear hK K
                      refine wpAnyIn_take (i := 1) (v := ?tv27) rfl rfl (by kernel_rfl) (by kernel_rfl) (by kernel_rfl) (fun _ _ _ h => h) ⟨Or.inl ⟨by rfl, ?th27⟩, fun _ => rfl⟩ ?tr27
                      case th27 => (intro w; go_simp; try with_reducible rfl)
                      refine wpAnyIn_take (i := 2) (v := ?tv28) rfl rfl (by kernel_rfl) (by kernel_rfl) (by kernel_rfl) (fun _ _ _ h => h) ⟨Or.inl ⟨by rfl, ?th28⟩, fun _ => rfl⟩ ?tr28
                      case th28 => (intro w; go_simp; try with_reducible rfl)
                      refine wpAnyIn_ready (rs := [3]) (by kernel_rfl) (by simp) ?_
                      refine AllReadyIn.cons rfl (fun K hK => ?_) ?_
                      · go_simp
                        refine hK _ _ ?_
                        clear hK K
                        exact tail
                      exact AllReadyIn.nil
                    exact AllReadyIn.nil
                  exact AllReadyIn.nil
                refine AllReadyIn.cons rfl (fun K hK => ?_) ?_
                · go_simp
                  refine hK _ _ ?_
                  clear hK K
                  refine wpAnyIn_ready (rs := [0, 5]) (by kernel_rfl) (by simp) ?_
                  refine AllReadyIn.cons rfl (fun K hK => ?_) ?_
                  · go_simp
                    refine hK _ _ ?_
                    clear hK K
                    refine wpAnyIn_take (i := 1) (v := ?tv29) rfl rfl (by kernel_rfl) (by kernel_rfl) (by kernel_rfl) (fun _ _ _ h => h) ⟨Or.inl ⟨by rfl, ?th29⟩, fun _ => rfl⟩ ?tr29
                    case th29 => (intro w; go_simp; try with_reducible rfl)
                    refine wpAnyIn_take (i := 2) (v := ?tv30) rfl rfl (by kernel_rfl) (by kernel_rfl) (by kernel_rfl) (fun _ _ _ h => h) ⟨Or.inl ⟨by rfl, ?th30⟩, fun _ => rfl⟩ ?tr30
                    case th30 => (intro w; go_simp; try with_reducible rfl)
                    refine wpAnyIn_ready (rs := [3, 5]) (by kernel_rfl) (by simp) ?_
                    refine AllReadyIn.cons rfl (fun K hK => ?_) ?_
                    · go_simp
                      refine hK _ _ ?_
                      clear hK K
                      refine wpAnyIn_ready (rs := [5]) (by kernel_rfl) (by simp) ?_
                      refine AllReadyIn.cons rfl (fun K hK => ?_) ?_
                      · go_simp
                        refine hK _ _ ?_
                        clear hK K
                        exact tail
                      exact AllReadyIn.nil
                    refine AllReadyIn.cons rfl (fun K hK => ?_) ?_
                    · go_simp
                      refine hK _ _ ?_
                      clear hK K
                      refine wpAnyIn_ready (rs := [3]) (by kernel_rfl) (by simp) ?_
                      refine AllReadyIn.cons rfl (fun K hK => ?_) ?_
                      · go_simp
                        refine hK _ _ ?_
                        clear hK K
                        exact tail
                      exact AllReadyIn.nil
                    exact AllReadyIn.nil
                  refine AllReadyIn.cons rfl (fun K hK => ?_) ?_
                  · go_simp
                    refine hK _ _ ?_
                    clear hK K
                    refine wpAnyIn_ready (rs := [0]) (by kernel_rfl) (by simp) ?_
                    refine AllReadyIn.cons rfl (fun K hK => ?_) ?_
                    · go_simp
                      refine hK _ _ ?_
                      clear hK K
                      refine wpAnyIn_take (i := 1) (v := ?tv31) rfl rfl (by kernel_rfl) (by kernel_rfl) (by kernel_rfl) (fun _ _ _ h => h) ⟨Or.inl ⟨by rfl, ?th31⟩, fun _ => rfl⟩ ?tr31
                      case th31 => (intro w; go_simp; try with_reducible rfl)
                      refine wpAnyIn_take (i := 2) (v := ?tv32) rfl rfl (by kernel_rfl) (by kernel_rfl) (by kernel_rfl) (fun _ _ _ h => h) ⟨Or.inl ⟨by rfl, ?th32⟩, fun _ => rfl⟩ ?tr32
                      case th32 => (intro w; go_simp; try with_reducible rfl)
                      refine wpAnyIn_ready (rs := [3]) (by kernel_rfl) (by simp) ?_
                      refine AllReadyIn.cons rfl (fun K hK => ?_) ?_
                      · go_simp
                        refine hK _ _ ?_
                        clear hK K
                        exact tail
                      exact AllReadyIn.nil
                    exact AllReadyIn.nil
                  exact AllReadyIn.nil
                exact AllReadyIn.nil
              case tp21 =>
                refine wpAnyIn_ready (rs := [7]) (by kernel_rfl) (by simp) ?_
                refine AllReadyIn.cons rfl (fun K hK => ?_) AllReadyIn.nil
                go_simp
                gi_wp2_with (gi_at_call 73; refine (callsIn_wide.2 hpt.out).mono ?_; rintro e w5 ⟨rfl, hq⟩; have HQS := Lib.hid hq; clear hq)
                refine wpAnyIn_done (by kernel_rfl) ?_ _
                gi_wp2
                show ∃ O', _ ∧ _
                dsimp only
                rw [HE13.out]
                have hpy : T.prs (K.drop xs k) y (T.pre y k) := Classical.not_not.1 (fun h => HK0.out (HGN.out.2 h))
                have hgy : shGone xs k y = false := by
                  unfold shGone
                  simp [hpy]
                have hq' : QStep Y Q m0 lim An' Af' (ns'.set i (⟨W2, A2, zs, c2, ks - 1, ab, gr⟩, true)) fs' w5 := by
                  obtain ⟨An2, cn2, Af2, cf2, h1, h2, h3⟩ := HQS.out
                  exact ⟨An2, cn2, Af2, cf2, h1, chg_of_drew h2, h3⟩
                have hok : T.NdOK (K.drop xs k) pl y (T.pre y k) W2 (ks - 1) ab gr zs := by
                  have := HL.out HK0.out
                  rw [if_pos HLE.out, if_neg HGR.out] at this
                  exact this
                exact ShI.step (x := ⟨W2, A2, zs, c2, ks - 1, ab, gr⟩) (b := true) HO.out HS.out h.up hx HYL.out hm HIG.out.symm HG.out (by rw [hgy]; exact HYG.out) (.inr rfl) A (fun g hg => by obtain ⟨hi', hie⟩ := List.getElem?_eq_some_iff.1 HWAY.out; exact ⟨hi', by rw [hie]; exact hg⟩) HWY.out HOY.out (fun j hj => (HXA.out j hj).imp (fun h => h) (fun h => Nat.le_of_lt h)) hq' (fun j hj => by rw [List.getElem?_set_ne (Ne.symm hj)]) (by rw [List.getElem?_set_self (List.getElem?_eq_some_iff.1 HWAY.out).1]) (.inr ⟨rfl, HDG.out.1 hpy, by rw [List.length_set], hok⟩)
          · by_cases hgr : gr = k
            · have e1 : ((le : Int) == (k : Int)) = false := by rw [Bool.eq_false_iff]; intro e; rw [beq_iff_eq] at e; omega
              have e2 : ((gr : Int) == (k : Int)) = true := by rw [hgr]; simp
              have e3 : (((ks - 1 : Nat) : Int) == 0) = false := by rw [Bool.eq_false_iff]; intro e; rw [beq_iff_eq] at e; omega
              have HLE := Lib.hid hle
              have HGR := Lib.hid hgr
              have HK0 := Lib.hid hk0
              clear hle hgr hk0
              gi_wp2
              refine wpIn_world ?_
              rintro Y hYY
              have hB0 := row_set (row_set HXB.out 2 (.int .i64 ((ks - 1 : Nat) : Int))) 4 (.int .u64 (bw : Int))
              have hC1 := (chg_set X W.heap.size 2 (.int .i64 ((ks - 1 : Nat) : Int)) (fun j => j = W.heap.size) rfl).same (chg_set _ W.heap.size 4 (.int .u64 (bw : Int)) _ rfl)
              have hC2 := (chg_set X W.heap.size 2 (.int .i64 ((ks - 1 : Nat) : Int)) (fun j => j = W.heap.size ∨ j = (w2.heap.size + 1)) (.inl rfl)).same (chg_set _ W.heap.size 4 (.int .u64 (bw : Int)) _ (.inl rfl))
              simp at hB0
              obtain ⟨Z, hZ⟩ : ∃ Z, Z = ((X.setCell ⟨W.heap.size, 2, none⟩ (.int .i64 ((ks - 1 : Nat) : Int))).setCell ⟨W.heap.size, 4, none⟩ (.int .u64 (bw : Int))) := ⟨_, rfl⟩
              have hY : Y = Z.setCell ⟨(w2.heap.size + 1), 0, none⟩ (.bool false) := by rw [hYY, hZ]
              have hCZ : K.Chg X Y (fun j => j = W.heap.size ∨ j = (w2.heap.size + 1)) := by rw [hY, hZ]; exact hC2.same (chg_set _ _ 0 _ _ (.inr rfl))
              have hCB : K.Chg Z Y (fun j => j = (w2.heap.size + 1)) := by rw [hY]; exact chg_set _ _ 0 _ _ rfl
              have hZ1 : K.Chg X Z (fun j => j = W.heap.size) := by rw [hZ]; exact hC1
              have hZB : Z.heap[W.heap.size]? = some (.cells #[.int .u64 (W2 : Int), .slice A2 n2 c2, .int .i64 ((ks - 1 : Nat) : Int), .int .u64 (le : Int), .int .u64 (bw : Int)] 72 (0, 0)) := by rw [hZ]; first | exact hB0 | simpa using hB0
              have YB := (hCB.block W.heap.size (row_lt hZB) (by omega)).trans hZB
              have YG : Y.heap[(w2.heap.size + 1)]? = some (.cells #[.bool false] 4 (0, 0)) := by
                rw [hY]
                have := row_set ((hZ1.block (w2.heap.size + 1) (row_lt HGX.out) (by omega)).trans HGX.out) 0 (.bool false)
                simpa using this
              have Y0 := (hCZ.block _ (row_lt H0.out) (by omega)).trans H0.out
              have YX := (hCZ.block _ (row_lt HXX.out) (by omega)).trans HXX.out
              have YP := (hCZ.block _ (row_lt HPX.out) (by omega)).trans HPX.out
              have k0 := cell_of_row Y _ 0 _ _ (0, 0) Y0
              have k1 := cell_of_row Y _ 1 _ _ (0, 0) YP
              have k2 := cell_of_row Y _ 5 _ _ (0, 0) YX
              simp [scl] at k0 k1 k2
              obtain ⟨u0, u1, u2, u3, u4⟩ := nd_cells YB
              have hWY : K.Chg W Y (fun j => A.map (·.block) = some j ∨ j = (w2.heap.size + 1)) := (HXC.out.mono (fun _ h => .inl h)).trans hCZ (fun j hj => by
                rcases hj with rfl | rfl
                · exact .inr (Nat.le_refl _)
                · exact .inl (.inr rfl))
              obtain ⟨hi', hie⟩ := List.getElem?_eq_some_iff.1 HWAY.out
              have hkn : ∀ j, A.map (·.block) = some j → ¬ QB Q An' Af' j := fun j hj => kid_no HS.out.po HS.out.kids hi' (by rw [hie]; exact hj)
              have hgq : ¬ QB Q An' Af' ((w2.heap.size + 1)) := fun hq => by
                obtain ⟨_, cur, T, hr, _, _, hT, _⟩ := HS.out.types (.inr (.inr (.inl hq)))
                exact row_ne hr HG.out hT rfl
              have hpoY : Qo Y.drew Q m0 lim An' cn' Af' cf' ns' fs' := (HS.out.po.chg hWY (fun j hj h => by
                rcases h with h | rfl
                · exact hkn j h hj
                · exact hgq hj)).drew 1
              have hoY : Y.ownsRow 0 3 1 (.slice A2 zs.length c2) zs.length (iw zs) := hCZ.own HXO.out (fun b h1 h2 => by
                have h3 := own_of_map h1
                rcases HXA.out b h3 with h4 | h4
                · rcases h2 with rfl | rfl
                  · have := HAL.out.1 _ h4; omega
                  · obtain ⟨cur, hc⟩ := HAL.out.2.2 _ h4
                    exact row_ne hc HG.out (by decide) rfl
                · rcases h2 with rfl | rfl
                  · omega
                  · omega)
              have HWY := Lib.hid hWY
              have HOY := Lib.hid hoY
              have HYG := Lib.hid YG
              have HPO := Lib.hid hpoY
              have hpt := Lib.hid (q_put Y.drew Q m0 lim cn' cf' An' Af' ns' fs' hpoY i hi' (by rw [hie]) W2 A2 zs c2 (ks - 1) le bw ⟨W2, A2, zs, c2, ks - 1, le, bw⟩ rfl)
              rw [HN2.out] at hpt
              clear hB0 hC1 hC2 hY hYY hZ hCZ hCB hZ1 hZB YB YG Y0 YX YP hWY hi' hie hkn hgq hpoY hoY
              refine wpIn_region_any (by kernel_rfl) (wpAnyIn_round (F := Fence.wide) l2 (by kernel_rfl) _ _ _ _ ?_)
              (try (change wpAnyIn _ _ _ _ _ _ _ _ _ (World.drew _)))
              refine with_tail (T := ?TT33) ?tp33 (fun tail => ?bd33)
              case bd33 =>
                refine wpAnyIn_take (i := 4) (v := ?tv34) rfl rfl (by kernel_rfl) (by kernel_rfl) (by kernel_rfl) (fun _ _ _ h => h) ⟨Or.inl ⟨by rfl, ?th34⟩, fun _ => rfl⟩ ?tr34
                case th34 => (intro w; go_simp; try with_reducible rfl)
                refine wpAnyIn_ready (rs := [0, 5, 6]) (by kernel_rfl) (by simp) ?_
                refine AllReadyIn.cons rfl (fun K hK => ?_) ?_
                · go_simp
                  refine hK _ _ ?_
                  clear hK K
                  refine wpAnyIn_take (i := 1) (v := ?tv35) rfl rfl (by kernel_rfl) (by kernel_rfl) (by kernel_rfl) (fun _ _ _ h => h) ⟨Or.inl ⟨by rfl, ?th35⟩, fun _ => rfl⟩ ?tr35
                  case th35 => (intro w; go_simp; try with_reducible rfl)
                  refine wpAnyIn_take (i := 2) (v := ?tv36) rfl rfl (by kernel_rfl) (by kernel_rfl) (by kernel_rfl) (fun _ _ _ h => h) ⟨Or.inl ⟨by rfl, ?th36⟩, fun _ => rfl⟩ ?tr36
                  case th36 => (intro w; go_simp; try with_reducible rfl)
                  refine wpAnyIn_ready (rs := [3, 5, 6]) (by kernel_rfl) (by simp) ?_
                  refine AllReadyIn.cons rfl (fun K hK => ?_) ?_
                  · go_simp
                    refine hK _ _ ?_
                    clear hK K
                    refine wpAnyIn_ready (rs := [5, 6]) (by kernel_rfl) (by simp) ?_
                    refine AllReadyIn.cons rfl (fun K hK => ?_) ?_
                    · go_simp
                      refine hK _ _ ?_
                      clear hK K
                      refine wpAnyIn_ready (rs := [6]) (by kernel_rfl) (by simp) ?_
                      refine AllReadyIn.cons rfl (fun K hK => ?_) ?_
                      · go_simp
                        refine hK _ _ ?_
                        clear hK K
                        exact tail
                      exact AllReadyIn.nil
                    refine AllReadyIn.cons rfl (fun K hK => ?_) ?_
                    · go_simp
                      refine hK _ _ ?_
                      clear hK K
                      refine wpAnyIn_ready (rs := [5]) (by kernel_rfl) (by simp) ?_
                      refine AllReadyIn.cons rfl (fun K hK => ?_) ?_
                      · go_simp
                        refine hK _ _ ?_
                        clear hK K
                        exact tail
                      exact AllReadyIn.nil
                    exact AllReadyIn.nil
                  refine AllReadyIn.cons rfl (fun K hK => ?_) ?_
                  · go_simp
                    refine hK _ _ ?_
                    clear hK K
                    refine wpAnyIn_ready (rs := [3, 6]) (by kernel_rfl) (by simp) ?_
                    refine AllReadyIn.cons rfl (fun K hK => ?_) ?_
                    · go_simp
                      refine hK _ _ ?_
                      clear hK K
                      refine wpAnyIn_ready (rs := [6]) (by kernel_rfl) (by simp) ?_
                      refine AllReadyIn.cons rfl (fun K hK => ?_) ?_
                      · go_simp
                        refine hK _ _ ?_
                        clear hK K
                        exact tail
                      exact AllReadyIn.nil
                    refine AllReadyIn.cons rfl (fun K hK => ?_) ?_
                    · go_simp
                      refine hK _ _ ?_
                      clear hK K
                      refine wpAnyIn_ready (rs := [3]) (by kernel_rfl) (by simp) ?_
                      refine AllReadyIn.cons rfl (fun K hK => ?_) ?_
                      · go_simp
                        refine hK _ _ ?_
                        clear hK K
                        exact tail
                      exact AllReadyIn.nil
                    exact AllReadyIn.nil
                  refine AllReadyIn.cons rfl (fun K hK => ?_) ?_
                  · go_simp
                    refine hK _ _ ?_
                    clear hK K
                    refine wpAnyIn_ready (rs := [3, 5]) (by kernel_rfl) (by simp) ?_
                    refine AllReadyIn.cons rfl (fun K hK => ?_) ?_
                    · go_simp
                      refine hK _ _ ?_
                      clear hK K
                      refine wpAnyIn_ready (rs := [5]) (by kernel_rfl) (by simp) ?_
                      refine AllReadyIn.cons rfl (fun K hK => ?_) ?_
                      · go_simp
                        refine hK _ _ ?_
                        clear hK K
                        exact tail
                      exact AllReadyIn.nil
                    refine AllReadyIn.cons rfl (fun K hK => ?_) ?_
                    · go_simp
                      refine hK _ _ ?_
                      clear hK K
                      refine wpAnyIn_ready (rs := [3]) (by kernel_rfl) (by simp) ?_
                      refine AllReadyIn.cons rfl (fun K hK => ?_) ?_
                      · go_simp
                        refine hK _ _ ?_
                        clear hK K
                        exact tail
                      exact AllReadyIn.nil
                    exact AllReadyIn.nil
                  exact AllReadyIn.nil
                refine AllReadyIn.cons rfl (fun K hK => ?_) ?_
                · go_simp
                  refine hK _ _ ?_
                  clear hK K
                  refine wpAnyIn_ready (rs := [0, 6]) (by kernel_rfl) (by simp) ?_
                  refine AllReadyIn.cons rfl (fun K hK => ?_) ?_
                  · go_simp
                    refine hK _ _ ?_
                    clear hK K
                    refine wpAnyIn_take (i := 1) (v := ?tv37) rfl rfl (by kernel_rfl) (by kernel_rfl) (by kernel_rfl) (fun _ _ _ h => h) ⟨Or.inl ⟨by rfl, ?th37⟩, fun _ => rfl⟩ ?tr37
                    case th37 => (intro w; go_simp; try with_reducible rfl)
                    refine wpAnyIn_take (i := 2) (v := ?tv38) rfl rfl (by kernel_rfl) (by kernel_rfl) (by kernel_rfl) (fun _ _ _ h => h) ⟨Or.inl ⟨by rfl, ?th38⟩, fun _ => rfl⟩ ?tr38
                    case th38 => (intro w; go_simp; try with_reducible rfl)
                    refine wpAnyIn_ready (rs := [3, 6]) (by kernel_rfl) (by simp) ?_
                    refine AllReadyIn.cons rfl (fun K hK => ?_) ?_
                    · go_simp
                      refine hK _ _ ?_
                      clear hK K
                      refine wpAnyIn_ready (rs := [6]) (by kernel_rfl) (by simp) ?_
                      refine AllReadyIn.cons rfl (fun K hK => ?_) ?_
                      · go_simp
                        refine hK _ _ ?_
                        clear hK K
                        exact tail
                      exact AllReadyIn.nil
                    refine AllReadyIn.cons rfl (fun K hK => ?_) ?_
                    · go_simp
                      refine hK _ _ ?_
                      clear hK K
                      refine wpAnyIn_ready (rs := [3]) (by kernel_rfl) (by simp) ?_
                      refine AllReadyIn.cons rfl (fun K hK => ?_) ?_
                      · go_simp
                        refine hK _ _ ?_
                        clear hK K
                        exact tail
                      exact AllReadyIn.nil
                    exact AllReadyIn.nil
                  refine AllReadyIn.cons rfl (fun K hK => ?_) ?_
                  · go_simp
                    refine hK _ _ ?_
                    clear hK K
                    refine wpAnyIn_ready (rs := [0]) (by kernel_rfl) (by simp) ?_
                    refine AllReadyIn.cons rfl (fun K hK => ?_) ?_
                    · go_simp
                      refine hK _ _ ?_
                      clear hK K
                      refine wpAnyIn_take (i := 1) (v := ?tv39) rfl rfl (by kernel_rfl) (by kernel_rfl) (by kernel_rfl) (fun _ _ _ h => h) ⟨Or.inl ⟨by rfl, ?th39⟩, fun _ => rfl⟩ ?tr39
                      case th39 => (intro w; go_simp; try with_reducible rfl)
                      refine wpAnyIn_take (i := 2) (v := ?tv40) rfl rfl (by kernel_rfl) (by kernel_rfl) (by kernel_rfl) (fun _ _ _ h => h) ⟨Or.inl ⟨by rfl, ?th40⟩, fun _ => rfl⟩ ?tr40
                      case th40 => (intro w; go_simp; try with_reducible rfl)
                      refine wpAnyIn_ready (rs := [3]) (by kernel_rfl) (by simp) ?_
                      refine AllReadyIn.cons rfl (fun K hK => ?_) ?_
                      · go_simp
                        refine hK _ _ ?_
                        clear hK K
                        exact tail
                      exact AllReadyIn.nil
                    exact AllReadyIn.nil
                  exact AllReadyIn.nil
                refine AllReadyIn.cons rfl (fun K hK => ?_) ?_
                · go_simp
                  refine hK _ _ ?_
                  clear hK K
                  refine wpAnyIn_ready (rs := [0, 5]) (by kernel_rfl) (by simp) ?_
                  refine AllReadyIn.cons rfl (fun K hK => ?_) ?_
                  · go_simp
                    refine hK _ _ ?_
                    clear hK K
                    refine wpAnyIn_take (i := 1) (v := ?tv41) rfl rfl (by kernel_rfl) (by kernel_rfl) (by kernel_rfl) (fun _ _ _ h => h) ⟨Or.inl ⟨by rfl, ?th41⟩, fun _ => rfl⟩ ?tr41
                    case th41 => (intro w; go_simp; try with_reducible rfl)
                    refine wpAnyIn_take (i := 2) (v := ?tv42) rfl rfl (by kernel_rfl) (by kernel_rfl) (by kernel_rfl) (fun _ _ _ h => h) ⟨Or.inl ⟨by rfl, ?th42⟩, fun _ => rfl⟩ ?tr42
                    case th42 => (intro w; go_simp; try with_reducible rfl)
                    refine wpAnyIn_ready (rs := [3, 5]) (by kernel_rfl) (by simp) ?_
                    refine AllReadyIn.cons rfl (fun K hK => ?_) ?_
                    · go_simp
                      refine hK _ _ ?_
                      clear hK K
                      refine wpAnyIn_ready (rs := [5]) (by kernel_rfl) (by simp) ?_
                      refine AllReadyIn.cons rfl (fun K hK => ?_) ?_
                      · go_simp
                        refine hK _ _ ?_
                        clear hK K
                        exact tail
                      exact AllReadyIn.nil
                    refine AllReadyIn.cons rfl (fun K hK => ?_) ?_
                    · go_simp
                      refine hK _ _ ?_
                      clear hK K
                      refine wpAnyIn_ready (rs := [3]) (by kernel_rfl) (by simp) ?_
                      refine AllReadyIn.cons rfl (fun K hK => ?_) ?_
                      · go_simp
                        refine hK _ _ ?_
                        clear hK K
                        exact tail
                      exact AllReadyIn.nil
                    exact AllReadyIn.nil
                  refine AllReadyIn.cons rfl (fun K hK => ?_) ?_
                  · go_simp
                    refine hK _ _ ?_
                    clear hK K
                    refine wpAnyIn_ready (rs := [0]) (by kernel_rfl) (by simp) ?_
                    refine AllReadyIn.cons rfl (fun K hK => ?_) ?_
                    · go_simp
                      refine hK _ _ ?_
                      clear hK K
                      refine wpAnyIn_take (i := 1) (v := ?tv43) rfl rfl (by kernel_rfl) (by kernel_rfl) (by kernel_rfl) (fun _ _ _ h => h) ⟨Or.inl ⟨by rfl, ?th43⟩, fun _ => rfl⟩ ?tr43
                      case th43 => (intro w; go_simp; try with_reducible rfl)
                      refine wpAnyIn_take (i := 2) (v := ?tv44) rfl rfl (by kernel_rfl) (by kernel_rfl) (by kernel_rfl) (fun _ _ _ h => h) ⟨Or.inl ⟨by rfl, ?th44⟩, fun _ => rfl⟩ ?tr44
                      case th44 => (intro w; go_simp; try with_reducible rfl)
                      refine wpAnyIn_ready (rs := [3]) (by kernel_rfl) (by simp) ?_
                      refine AllReadyIn.cons rfl (fun K hK => ?_) ?_
                      · go_simp
                        refine hK _ _ ?_
                        clear hK K
                        exact tail
                      exact AllReadyIn.nil
                    exact AllReadyIn.nil
                  exact AllReadyIn.nil
                exact AllReadyIn.nil
              case tp33 =>
                refine wpAnyIn_ready (rs := [7]) (by kernel_rfl) (by simp) ?_
                refine AllReadyIn.cons rfl (fun K hK => ?_) AllReadyIn.nil
                go_simp
                gi_wp2_with (gi_at_call 73; refine (callsIn_wide.2 hpt.out).mono ?_; rintro e w5 ⟨rfl, hq⟩; have HQS := Lib.hid hq; clear hq)
                refine wpAnyIn_done (by kernel_rfl) ?_ _
                gi_wp2
                show ∃ O', _ ∧ _
                dsimp only
                rw [HE13.out]
                have hpy : T.prs (K.drop xs k) y (T.pre y k) := Classical.not_not.1 (fun h => HK0.out (HGN.out.2 h))
                have hgy : shGone xs k y = false := by
                  unfold shGone
                  simp [hpy]
                have hq' : QStep Y Q m0 lim An' Af' (ns'.set i (⟨W2, A2, zs, c2, ks - 1, le, bw⟩, true)) fs' w5 := by
                  obtain ⟨An2, cn2, Af2, cf2, h1, h2, h3⟩ := HQS.out
                  exact ⟨An2, cn2, Af2, cf2, h1, chg_of_drew h2, h3⟩
                have hok : T.NdOK (K.drop xs k) pl y (T.pre y k) W2 (ks - 1) le bw zs := by
                  have := HL.out HK0.out
                  rw [if_neg HLE.out, if_pos HGR.out] at this
                  exact this
                exact ShI.step (x := ⟨W2, A2, zs, c2, ks - 1, le, bw⟩) (b := true) HO.out HS.out h.up hx HYL.out hm HIG.out.symm HG.out (by rw [hgy]; exact HYG.out) (.inr rfl) A (fun g hg => by obtain ⟨hi', hie⟩ := List.getElem?_eq_some_iff.1 HWAY.out; exact ⟨hi', by rw [hie]; exact hg⟩) HWY.out HOY.out (fun j hj => (HXA.out j hj).imp (fun h => h) (fun h => Nat.le_of_lt h)) hq' (fun j hj => by rw [List.getElem?_set_ne (Ne.symm hj)]) (by rw [List.getElem?_set_self (List.getElem?_eq_some_iff.1 HWAY.out).1]) (.inr ⟨rfl, HDG.out.1 hpy, by rw [List.length_set], hok⟩)
            · have e1 : ((le : Int) == (k : Int)) = false := by rw [Bool.eq_false_iff]; intro e; rw [beq_iff_eq] at e; omega
              have e2 : ((gr : Int) == (k : Int)) = false := by rw [Bool.eq_false_iff]; intro e; rw [beq_iff_eq] at e; omega
              have e3 : (((ks - 1 : Nat) : Int) == 0) = false := by rw [Bool.eq_false_iff]; intro e; rw [beq_iff_eq] at e; omega
              have HLE := Lib.hid hle
              have HGR := Lib.hid hgr
              have HK0 := Lib.hid hk0
              clear hle hgr hk0
              gi_wp2
              refine wpIn_world ?_
              rintro Y hYY
              have hB0 := row_set HXB.out 2 (.int .i64 ((ks - 1 : Nat) : Int))
              have hC1 := chg_set X W.heap.size 2 (.int .i64 ((ks - 1 : Nat) : Int)) (fun j => j = W.heap.size) rfl
              have hC2 := chg_set X W.heap.size 2 (.int .i64 ((ks - 1 : Nat) : Int)) (fun j => j = W.heap.size ∨ j = (w2.heap.size + 1)) (.inl rfl)
              simp at hB0
              obtain ⟨Z, hZ⟩ : ∃ Z, Z = (X.setCell ⟨W.heap.size, 2, none⟩ (.int .i64 ((ks - 1 : Nat) : Int))) := ⟨_, rfl⟩
              have hY : Y = Z.setCell ⟨(w2.heap.size + 1), 0, none⟩ (.bool false) := by rw [hYY, hZ]
              have hCZ : K.Chg X Y (fun j => j = W.heap.size ∨ j = (w2.heap.size + 1)) := by rw [hY, hZ]; exact hC2.same (chg_set _ _ 0 _ _ (.inr rfl))
              have hCB : K.Chg Z Y (fun j => j = (w2.heap.size + 1)) := by rw [hY]; exact chg_set _ _ 0 _ _ rfl
              have hZ1 : K.Chg X Z (fun j => j = W.heap.size) := by rw [hZ]; exact hC1
              have hZB : Z.heap[W.heap.size]? = some (.cells #[.int .u64 (W2 : Int), .slice A2 n2 c2, .int .i64 ((ks - 1 : Nat) : Int), .int .u64 (le : Int), .int .u64 (gr : Int)] 72 (0, 0)) := by rw [hZ]; first | exact hB0 | simpa using hB0
              have YB := (hCB.block W.heap.size (row_lt hZB) (by omega)).trans hZB
              have YG : Y.heap[(w2.heap.size + 1)]? = some (.cells #[.bool false] 4 (0, 0)) := by
                rw [hY]
                have := row_set ((hZ1.block (w2.heap.size + 1) (row_lt HGX.out) (by omega)).trans HGX.out) 0 (.bool false)
                simpa using this
              have Y0 := (hCZ.block _ (row_lt H0.out) (by omega)).trans H0.out
              have YX := (hCZ.block _ (row_lt HXX.out) (by omega)).trans HXX.out
              have YP := (hCZ.block _ (row_lt HPX.out) (by omega)).trans HPX.out
              have k0 := cell_of_row Y _ 0 _ _ (0, 0) Y0
              have k1 := cell_of_row Y _ 1 _ _ (0, 0) YP
              have k2 := cell_of_row Y _ 5 _ _ (0, 0) YX
              simp [scl] at k0 k1 k2
              obtain ⟨u0, u1, u2, u3, u4⟩ := nd_cells YB
              have hWY : K.Chg W Y (fun j => A.map (·.block) = some j ∨ j = (w2.heap.size + 1)) := (HXC.out.mono (fun _ h => .inl h)).trans hCZ (fun j hj => by
                rcases hj with rfl | rfl
                · exact .inr (Nat.le_refl _)
                · exact .inl (.inr rfl))
              obtain ⟨hi', hie⟩ := List.getElem?_eq_some_iff.1 HWAY.out
              have hkn : ∀ j, A.map (·.block) = some j → ¬ QB Q An' Af' j := fun j hj => kid_no HS.out.po HS.out.kids hi' (by rw [hie]; exact hj)
              have hgq : ¬ QB Q An' Af' ((w2.heap.size + 1)) := fun hq => by
                obtain ⟨_, cur, T, hr, _, _, hT, _⟩ := HS.out.types (.inr (.inr (.inl hq)))
                exact row_ne hr HG.out hT rfl
              have hpoY : Qo Y.drew Q m0 lim An' cn' Af' cf' ns' fs' := (HS.out.po.chg hWY (fun j hj h => by
                rcases h with h | rfl
                · exact hkn j h hj
                · exact hgq hj)).drew 1
              have hoY : Y.ownsRow 0 3 1 (.slice A2 zs.length c2) zs.length (iw zs) := hCZ.own HXO.out (fun b h1 h2 => by
                have h3 := own_of_map h1
                rcases HXA.out b h3 with h4 | h4
                · rcases h2 with rfl | rfl
                  · have := HAL.out.1 _ h4; omega
                  · obtain ⟨cur, hc⟩ := HAL.out.2.2 _ h4
                    exact row_ne hc HG.out (by decide) rfl
                · rcases h2 with rfl | rfl
                  · omega
                  · omega)
              have HWY := Lib.hid hWY
              have HOY := Lib.hid hoY
              have HYG := Lib.hid YG
              have HPO := Lib.hid hpoY
              have hpt := Lib.hid (q_put Y.drew Q m0 lim cn' cf' An' Af' ns' fs' hpoY i hi' (by rw [hie]) W2 A2 zs c2 (ks - 1) le gr ⟨W2, A2, zs, c2, ks - 1, le, gr⟩ rfl)
              rw [HN2.out] at hpt
              clear hB0 hC1 hC2 hY hYY hZ hCZ hCB hZ1 hZB YB YG Y0 YX YP hWY hi' hie hkn hgq hpoY hoY
              refine wpIn_region_any (by kernel_rfl) (wpAnyIn_round (F := Fence.wide) l2 (by kernel_rfl) _ _ _ _ ?_)
              (try (change wpAnyIn _ _ _ _ _ _ _ _ _ (World.drew _)))
              refine with_tail (T := ?TT45) ?tp45 (fun tail => ?bd45)
              case bd45 =>
                refine wpAnyIn_take (i := 4) (v := ?tv46) rfl rfl (by kernel_rfl) (by kernel_rfl) (by kernel_rfl) (fun _ _ _ h => h) ⟨Or.inl ⟨by rfl, ?th46⟩, fun _ => rfl⟩ ?tr46
                case th46 => (intro w; go_simp; try with_reducible rfl)
                refine wpAnyIn_ready (rs := [0, 5, 6]) (by kernel_rfl) (by simp) ?_
                refine AllReadyIn.cons rfl (fun K hK => ?_) ?_
                · go_simp
                  refine hK _ _ ?_
                  clear hK K
                  refine wpAnyIn_take (i := 1) (v := ?tv47) rfl rfl (by kernel_rfl) (by kernel_rfl) (by kernel_rfl) (fun _ _ _ h => h) ⟨Or.inl ⟨by rfl, ?th47⟩, fun _ => rfl⟩ ?tr47
                  case th47 => (intro w; go_simp; try with_reducible rfl)
                  refine wpAnyIn_take (i := 2) (v := ?tv48) rfl rfl (by kernel_rfl) (by kernel_rfl) (by kernel_rfl) (fun _ _ _ h => h) ⟨Or.inl ⟨by rfl, ?th48⟩, fun _ => rfl⟩ ?tr48
                  case th48 => (intro w; go_simp; try with_reducible rfl)
                  refine wpAnyIn_ready (rs := [3, 5, 6]) (by kernel_rfl) (by simp) ?_
                  refine AllReadyIn.cons rfl (fun K hK => ?_) ?_
                  · go_simp
                    refine hK _ _ ?_
                    clear hK K
                    refine wpAnyIn_ready (rs := [5, 6]) (by kernel_rfl) (by simp) ?_
                    refine AllReadyIn.cons rfl (fun K hK => ?_) ?_
                    · go_simp
                      refine hK _ _ ?_
                      clear hK K
                      refine wpAnyIn_ready (rs := [6]) (by kernel_rfl) (by simp) ?_
                      refine AllReadyIn.cons rfl (fun K hK => ?_) ?_
                      · go_simp
                        refine hK _ _ ?_
                        clear hK K
                        exact tail
                      exact AllReadyIn.nil
                    refine AllReadyIn.cons rfl (fun K hK => ?_) ?_
                    · go_simp
                      refine hK _ _ ?_
                      clear hK K
                      refine wpAnyIn_ready (rs := [5]) (by kernel_rfl) (by simp) ?_
                      refine AllReadyIn.cons rfl (fun K hK => ?_) ?_
                      · go_simp
                        refine hK _ _ ?_
                        clear hK K
                        exact tail
                      exact AllReadyIn.nil
                    exact AllReadyIn.nil
                  refine AllReadyIn.cons rfl (fun K hK => ?_) ?_
                  · go_simp
                    refine hK _ _ ?_
                    clear hK K
                    refine wpAnyIn_ready (rs := [3, 6]) (by kernel_rfl) (by simp) ?_
                    refine AllReadyIn.cons rfl (fun K hK => ?_) ?_
                    · go_simp
                      refine hK _ _ ?_
                      clear hK K
                      refine wpAnyIn_ready (rs := [6]) (by kernel_rfl) (by simp) ?_
                      refine AllReadyIn.cons rfl (fun K hK => ?_) ?_
                      · go_simp
                        refine hK _ _ ?_
                        clear hK K
                        exact tail
                      exact AllReadyIn.nil
                    refine AllReadyIn.cons rfl (fun K hK => ?_) ?_
                    · go_simp
                      refine hK _ _ ?_
                      clear hK K
                      refine wpAnyIn_ready (rs := [3]) (by kernel_rfl) (by simp) ?_
                      refine AllReadyIn.cons rfl (fun K hK => ?_) ?_
                      · go_simp
                        refine hK _ _ ?_
                        clear hK K
                        exact tail
                      exact AllReadyIn.nil
                    exact AllReadyIn.nil
                  refine AllReadyIn.cons rfl (fun K hK => ?_) ?_
                  · go_simp
                    refine hK _ _ ?_
                    clear hK K
                    refine wpAnyIn_ready (rs := [3, 5]) (by kernel_rfl) (by simp) ?_
                    refine AllReadyIn.cons rfl (fun K hK => ?_) ?_
                    · go_simp
                      refine hK _ _ ?_
                      clear hK K
                      refine wpAnyIn_ready (rs := [5]) (by kernel_rfl) (by simp) ?_
                      refine AllReadyIn.cons rfl (fun K hK => ?_) ?_
                      · go_simp
                        refine hK _ _ ?_
                        clear hK K
                        exact tail
                      exact AllReadyIn.nil
                    refine AllReadyIn.cons rfl (fun K hK => ?_) ?_
                    · go_simp
                      refine hK _ _ ?_
                      clear hK K
                      refine wpAnyIn_ready (rs := [3]) (by kernel_rfl) (by simp) ?_
                      refine AllReadyIn.cons rfl (fun K hK => ?_) ?_
                      · go_simp
                        refine hK _ _ ?_
                        clear hK K
                        exact tail
                      exact AllReadyIn.nil
                    exact AllReadyIn.nil
                  exact AllReadyIn.nil
                refine AllReadyIn.cons rfl (fun K hK => ?_) ?_
                · go_simp
                  refine hK _ _ ?_
                  clear hK K
                  refine wpAnyIn_ready (rs := [0, 6]) (by kernel_rfl) (by simp) ?_
                  refine AllReadyIn.cons rfl (fun K hK => ?_) ?_
                  · go_simp
                    refine hK _ _ ?_
                    clear hK K
                    refine wpAnyIn_take (i := 1) (v := ?tv49) rfl rfl (by kernel_rfl) (by kernel_rfl) (by kernel_rfl) (fun _ _ _ h => h) ⟨Or.inl ⟨by rfl, ?th49⟩, fun _ => rfl⟩ ?tr49
                    case th49 => (intro w; go_simp; try with_reducible rfl)
                    refine wpAnyIn_take (i := 2) (v := ?tv50) rfl rfl (by kernel_rfl) (by kernel_rfl) (by kernel_rfl) (fun _ _ _ h => h) ⟨Or.inl ⟨by rfl, ?th50⟩, fun _ => rfl⟩ ?tr50
                    case th50 => (intro w; go_simp; try with_reducible rfl)
                    refine wpAnyIn_ready (rs := [3, 6]) (by kernel_rfl) (by simp) ?_
                    refine AllReadyIn.cons rfl (fun K hK => ?_) ?_
                    · go_simp
                      refine hK _ _ ?_
                      clear hK K
                      refine wpAnyIn_ready (rs := [6]) (by kernel_rfl) (by simp) ?_
                      refine AllReadyIn.cons rfl (fun K hK => ?_) ?_
                      · go_simp
                        refine hK _ _ ?_
                        clear hK K
                        exact tail
                      exact AllReadyIn.nil
                    refine AllReadyIn.cons rfl (fun K hK => ?_) ?_
                    · go_simp
                      refine hK _ _ ?_
                      clear hK K
                      refine wpAnyIn_ready (rs := [3]) (by kernel_rfl) (by simp) ?_
                      refine AllReadyIn.cons rfl (fun K hK => ?_) ?_
                      · go_simp
                        refine hK _ _ ?_
                        clear hK K
                        exact tail
                      exact AllReadyIn.nil
                    exact AllReadyIn.nil
                  refine AllReadyIn.cons rfl (fun K hK => ?_) ?_
                  · go_simp
                    refine hK _ _ ?_
                    clear hK K
                    refine wpAnyIn_ready (rs := [0]) (by kernel_rfl) (by simp) ?_
                    refine AllReadyIn.cons rfl (fun K hK => ?_) ?_
                    · go_simp
                      refine hK _ _ ?_
                      clear hK K
                      refine wpAnyIn_take (i := 1) (v := ?tv51) rfl rfl (by kernel_rfl) (by kernel_rfl) (by kernel_rfl) (fun _ _ _ h => h) ⟨Or.inl ⟨by rfl, ?th51⟩, fun _ => rfl⟩ ?tr51
                      case th51 => (intro w; go_simp; try with_reducible rfl)
                      refine wpAnyIn_take (i := 2) (v := ?tv52) rfl rfl (by kernel_rfl) (by kernel_rfl) (by kernel_rfl) (fun _ _ _ h => h) ⟨Or.inl ⟨by rfl, ?th52⟩, fun _ => rfl⟩ ?tr52
                      case th52 => (intro w; go_simp; try with_reducible rfl)
                      refine wpAnyIn_ready (rs := [3]) (by kernel_rfl) (by simp) ?_
                      refine AllReadyIn.cons rfl (fun K hK => ?_) ?_
                      · go_simp
                        refine hK _ _ ?_
                        clear hK K
                        exact tail
                      exact AllReadyIn.nil
                    exact AllReadyIn.nil
                  exact AllReadyIn.nil
                refine AllReadyIn.cons rfl (fun K hK => ?_) ?_
                · go_simp
                  refine hK _ _ ?_
                  clear hK K
                  refine wpAnyIn_ready (rs := [0, 5]) (by kernel_rfl) (by simp) ?_
                  refine AllReadyIn.cons rfl (fun K hK => ?_) ?_
                  · go_simp
                    refine hK _ _ ?_
                    clear hK K
                    refine wpAnyIn_take (i := 1) (v := ?tv53) rfl rfl (by kernel_rfl) (by kernel_rfl) (by kernel_rfl) (fun _ _ _ h => h) ⟨Or.inl ⟨by rfl, ?th53⟩, fun _ => rfl⟩ ?tr53
                    case th53 => (intro w; go_simp; try with_reducible rfl)
                    refine wpAnyIn_take (i := 2) (v := ?tv54) rfl rfl (by kernel_rfl) (by kernel_rfl) (by kernel_rfl) (fun _ _ _ h => h) ⟨Or.inl ⟨by rfl, ?th54⟩, fun _ => rfl⟩ ?tr54
                    case th54 => (intro w; go_simp; try with_reducible rfl)
                    refine wpAnyIn_ready (rs := [3, 5]) (by kernel_rfl) (by simp) ?_
                    refine AllReadyIn.cons rfl (fun K hK => ?_) ?_
                    · go_simp
                      refine hK _ _ ?_
                      clear hK K
                      refine wpAnyIn_ready (rs := [5]) (by kernel_rfl) (by simp) ?_
                      refine AllReadyIn.cons rfl (fun K hK => ?_) ?_
                      · go_simp
                        refine hK _ _ ?_
                        clear hK K
                        exact tail
                      exact AllReadyIn.nil
                    refine AllReadyIn.cons rfl (fun K hK => ?_) ?_
                    · go_simp
                      refine hK _ _ ?_
                      clear hK K
                      refine wpAnyIn_ready (rs := [3]) (by kernel_rfl) (by simp) ?_
                      refine AllReadyIn.cons rfl (fun K hK => ?_) ?_
                      · go_simp
                        refine hK _ _ ?_
                        clear hK K
                        exact tail
                      exact AllReadyIn.nil
                    exact AllReadyIn.nil
                  refine AllReadyIn.cons rfl (fun K hK => ?_) ?_
                  · go_simp
                    refine hK _ _ ?_
                    clear hK K
                    refine wpAnyIn_ready (rs := [0]) (by kernel_rfl) (by simp) ?_
                    refine AllReadyIn.cons rfl (fun K hK => ?_) ?_
                    · go_simp
                      refine hK _ _ ?_
                      clear hK K
                      refine wpAnyIn_take (i := 1) (v := ?tv55) rfl rfl (by kernel_rfl) (by kernel_rfl) (by kernel_rfl) (fun _ _ _ h => h) ⟨Or.inl ⟨by rfl, ?th55⟩, fun _ => rfl⟩ ?tr55
                      case th55 => (intro w; go_simp; try with_reducible rfl)
                      refine wpAnyIn_take (i := 2) (v := ?tv56) rfl rfl (by kernel_rfl) (by kernel_rfl) (by kernel_rfl) (fun _ _ _ h => h) ⟨Or.inl ⟨by rfl, ?th56⟩, fun _ => rfl⟩ ?tr56
                      case th56 => (intro w; go_simp; try with_reducible rfl)
                      refine wpAnyIn_ready (rs := [3]) (by kernel_rfl) (by simp) ?_
                      refine AllReadyIn.cons rfl (fun K hK => ?_) ?_
                      · go_simp
                        refine hK _ _ ?_
                        clear hK K
                        exact tail
                      exact AllReadyIn.nil
                    exact AllReadyIn.nil
                  exact AllReadyIn.nil
                exact AllReadyIn.nil
              case tp45 =>
                refine wpAnyIn_ready (rs := [7]) (by kernel_rfl) (by simp) ?_
                refine AllReadyIn.cons rfl (fun K hK => ?_) AllReadyIn.nil
                go_simp
                gi_wp2_with (gi_at_call 73; refine (callsIn_wide.2 hpt.out).mono ?_; rintro e w5 ⟨rfl, hq⟩; have HQS := Lib.hid hq; clear hq)
                refine wpAnyIn_done (by kernel_rfl) ?_ _
                gi_wp2
                show ∃ O', _ ∧ _
                dsimp only
                rw [HE13.out]
                have hpy : T.prs (K.drop xs k) y (T.pre y k) := Classical.not_not.1 (fun h => HK0.out (HGN.out.2 h))
                have hgy : shGone xs k y = false := by
                  unfold shGone
                  simp [hpy]
                have hq' : QStep Y Q m0 lim An' Af' (ns'.set i (⟨W2, A2, zs, c2, ks - 1, le, gr⟩, true)) fs' w5 := by
                  obtain ⟨An2, cn2, Af2, cf2, h1, h2, h3⟩ := HQS.out
                  exact ⟨An2, cn2, Af2, cf2, h1, chg_of_drew h2, h3⟩
                have hok : T.NdOK (K.drop xs k) pl y (T.pre y k) W2 (ks - 1) le gr zs := by
                  have := HL.out HK0.out
                  rw [if_neg HLE.out, if_neg HGR.out] at this
                  exact this
                exact ShI.step (x := ⟨W2, A2, zs, c2, ks - 1, le, gr⟩) (b := true) HO.out HS.out h.up hx HYL.out hm HIG.out.symm HG.out (by rw [hgy]; exact HYG.out) (.inr rfl) A (fun g hg => by obtain ⟨hi', hie⟩ := List.getElem?_eq_some_iff.1 HWAY.out; exact ⟨hi', by rw [hie]; exact hg⟩) HWY.out HOY.out (fun j hj => (HXA.out j hj).imp (fun h => h) (fun h => Nat.le_of_lt h)) hq' (fun j hj => by rw [List.getElem?_set_ne (Ne.symm hj)]) (by rw [List.getElem?_set_self (List.getElem?_eq_some_iff.1 HWAY.out).1]) (.inr ⟨rfl, HDG.out.1 hpy, by rw [List.length_set], hok⟩)
    | false =>
      rw [hgb] at cg
      obtain ⟨zs, hzs⟩ : ∃ zs, ch = zs := ⟨_, rfl⟩
      obtain ⟨n2, hn2⟩ : ∃ n2, n = n2 := ⟨_, rfl⟩
      have HL : Hid (ks - 1 ≠ 0 → T.NdOK (K.drop xs k) pl y (T.pre y k) W1 (ks - 1) (if le = k then ab else le) (if gr = k then bw else gr) zs) := Lib.hid (fun h1 => by
        have := HLS.out h1
        rw [hgb] at this
        simp only [Bool.false_eq_true, if_false] at this
        rw [hzs] at this
        exact this)
      have HN2 : Hid (zs.length = n2) := Lib.hid (by rw [← hzs, HN.out]; exact hn2)
      have HKZ : Hid (W.ownsRow 0 3 1 (.slice A zs.length c) zs.length (iw zs)) := Lib.hid (by rw [← hzs, HN.out]; exact HKID.out)
      have hk0' : ks - 1 ≠ 0 := fun e => by
        have h1 := HGN.out.1 e
        refine h1 (T.prs_up HYL.out ?_)
        unfold shGone at hgb
        simpa using hgb
      have HK00 := Lib.hid hk0'
      subst hn2
      clear hzs hk0'
      gi_upto_region 10 with (fail)
      refine wpIn_world ?_
      rintro X hX
      have hXb : X.heap[W.heap.size]? = some (ndo W1 A n c ks le gr) := by rw [hX]; exact K.alloc_top W _
      have h35 : K.Chg W X (fun _ => False) := by rw [hX]; exact chg_alloc W _ _
      have hXc : K.Chg W X (fun j => A.map (·.block) = some j) := h35.mono (fun _ h => h.elim)
      have hXa : ∀ j, A.map (·.block) = some j → A.map (·.block) = some j ∨ W.heap.size < j := fun j hj => .inl hj
      have hXo : X.ownsRow 0 3 1 (.slice A zs.length c) zs.length (iw zs) := h35.own HKZ.out (fun _ _ h => h)
      clear hX h35 HKID HKZ
      have hne : ∀ j cs T, W.heap[j]? = some (.cells cs T (0, 0)) → T ≠ 3 → ¬ A.map (·.block) = some j := fun j cs T hr hT hj => by
        obtain ⟨cur, hc⟩ := HAL.out.2.2 j hj
        exact row_ne hc hr (fun e => hT e.symm) rfl
      have X0 := (hXc.block _ l0 (hne _ _ _ HB0.out (by decide))).trans HB0.out
      have X1 := (hXc.block _ l1 (hne _ _ _ HB1.out (by decide))).trans HB1.out
      have XA := (hXc.block _ la (hne _ _ _ HBA.out (by decide))).trans HBA.out
      have XB := (hXc.block _ lb (hne _ _ _ HBB.out (by decide))).trans HBB.out
      have XG := (hXc.block _ lg (hne _ _ _ HG.out (by decide))).trans HG.out
      have XX := (hXc.block _ lx (hne _ _ _ HBX.out (by decide))).trans HBX.out
      have XP := (hXc.block _ lP (hne _ _ _ HS.out.row (by decide))).trans HS.out.row
      have d0 := cell_of_row X _ 0 _ _ (0, 0) X0
      have d1 := cell_of_row X _ 0 _ _ (0, 0) X1
      have da := cell_of_row X _ 0 _ _ (0, 0) XA
      have db := cell_of_row X _ 0 _ _ (0, 0) XB
      have dg := cell_of_row X _ 0 _ _ (0, 0) XG
      have fg2 := frozen_of_row X _ 0 _ _ XG
      obtain ⟨y0, y1, y2, y3, y4⟩ := nd_cells hXb
      have f2 := frozen_of_row X _ 2 _ _ hXb
      have f3 := frozen_of_row X _ 3 _ _ hXb
      have f4 := frozen_of_row X _ 4 _ _ hXb
      simp at d0 d1 da db dg
      have HXB := Lib.hid hXb
      have HXC := Lib.hid hXc
      have HXO := Lib.hid hXo
      have HXA := Lib.hid hXa
      have H0 := Lib.hid X0
      have HGX := Lib.hid XG
      have HXX := Lib.hid XX
      have HPX := Lib.hid XP
      clear hne X0 X1 XA XB XG XX XP hXb hXc hXo hXa
      have hk0 : ks - 1 ≠ 0 := HK00.out
      by_cases hle : le = k
      · by_cases hgr : gr = k
        · have e1 : ((le : Int) == (k : Int)) = true := by rw [hle]; simp
          have e2 : ((gr : Int) == (k : Int)) = true := by rw [hgr]; simp
          have e3 : (((ks - 1 : Nat) : Int) == 0) = false := by rw [Bool.eq_false_iff]; intro e; rw [beq_iff_eq] at e; omega
          have HLE := Lib.hid hle
          have HGR := Lib.hid hgr
          have HK0 := Lib.hid hk0
          clear hle hgr hk0
          gi_wp2
          refine wpIn_world ?_
          rintro Y hYY
          have hB0 := row_set (row_set (row_set HXB.out 2 (.int .i64 ((ks - 1 : Nat) : Int))) 3 (.int .u64 (ab : Int))) 4 (.int .u64 (bw : Int))
          have hC1 := ((chg_set X W.heap.size 2 (.int .i64 ((ks - 1 : Nat) : Int)) (fun j => j = W.heap.size) rfl).same (chg_set _ W.heap.size 3 (.int .u64 (ab : Int)) _ rfl)).same (chg_set _ W.heap.size 4 (.int .u64 (bw : Int)) _ rfl)
          have hC2 := ((chg_set X W.heap.size 2 (.int .i64 ((ks - 1 : Nat) : Int)) (fun j => j = W.heap.size ∨ j = (w2.heap.size + 1)) (.inl rfl)).same (chg_set _ W.heap.size 3 (.int .u64 (ab : Int)) _ (.inl rfl))).same (chg_set _ W.heap.size 4 (.int .u64 (bw : Int)) _ (.inl rfl))
          simp at hB0
          obtain ⟨Z, hZ⟩ : ∃ Z, Z = (((X.setCell ⟨W.heap.size, 2, none⟩ (.int .i64 ((ks - 1 : Nat) : Int))).setCell ⟨W.heap.size, 3, none⟩ (.int .u64 (ab : Int))).setCell ⟨W.heap.size, 4, none⟩ (.int .u64 (bw : Int))) := ⟨_, rfl⟩
          have hY : Y = Z.setCell ⟨(w2.heap.size + 1), 0, none⟩ (.bool false) := by rw [hYY, hZ]
          have hCZ : K.Chg X Y (fun j => j = W.heap.size ∨ j = (w2.heap.size + 1)) := by rw [hY, hZ]; exact hC2.same (chg_set _ _ 0 _ _ (.inr rfl))
          have hCB : K.Chg Z Y (fun j => j = (w2.heap.size + 1)) := by rw [hY]; exact chg_set _ _ 0 _ _ rfl
          have hZ1 : K.Chg X Z (fun j => j = W.heap.size) := by rw [hZ]; exact hC1
          have hZB : Z.heap[W.heap.size]? = some (.cells #[.int .u64 (W1 : Int), .slice A n c, .int .i64 ((ks - 1 : Nat) : Int), .int .u64 (ab : Int), .int .u64 (bw : Int)] 72 (0, 0)) := by rw [hZ]; first | exact hB0 | simpa using hB0
          have YB := (hCB.block W.heap.size (row_lt hZB) (by omega)).trans hZB
          have YG : Y.heap[(w2.heap.size + 1)]? = some (.cells #[.bool false] 4 (0, 0)) := by
            rw [hY]
            have := row_set ((hZ1.block (w2.heap.size + 1) (row_lt HGX.out) (by omega)).trans HGX.out) 0 (.bool false)
            simpa using this
          have Y0 := (hCZ.block _ (row_lt H0.out) (by omega)).trans H0.out
          have YX := (hCZ.block _ (row_lt HXX.out) (by omega)).trans HXX.out
          have YP := (hCZ.block _ (row_lt HPX.out) (by omega)).trans HPX.out
          have k0 := cell_of_row Y _ 0 _ _ (0, 0) Y0
          have k1 := cell_of_row Y _ 1 _ _ (0, 0) YP
          have k2 := cell_of_row Y _ 5 _ _ (0, 0) YX
          simp [scl] at k0 k1 k2
          obtain ⟨u0, u1, u2, u3, u4⟩ := nd_cells YB
          have hWY : K.Chg W Y (fun j => A.map (·.block) = some j ∨ j = (w2.heap.size + 1)) := (HXC.out.mono (fun _ h => .inl h)).trans hCZ (fun j hj => by
            rcases hj with rfl | rfl
            · exact .inr (Nat.le_refl _)
            · exact .inl (.inr rfl))
          obtain ⟨hi', hie⟩ := List.getElem?_eq_some_iff.1 HWAY.out
          have hkn : ∀ j, A.map (·.block) = some j → ¬ QB Q An' Af' j := fun j hj => kid_no HS.out.po HS.out.kids hi' (by rw [hie]; exact hj)
          have hgq : ¬ QB Q An' Af' ((w2.heap.size + 1)) := fun hq => by
            obtain ⟨_, cur, T, hr, _, _, hT, _⟩ := HS.out.types (.inr (.inr (.inl hq)))
            exact row_ne hr HG.out hT rfl
          have hpoY : Qo Y.drew Q m0 lim An' cn' Af' cf' ns' fs' := (HS.out.po.chg hWY (fun j hj h => by
            rcases h with h | rfl
            · exact hkn j h hj
            · exact hgq hj)).drew 1
          have hoY : Y.ownsRow 0 3 1 (.slice A zs.length c) zs.length (iw zs) := hCZ.own HXO.out (fun b h1 h2 => by
            have h3 := own_of_map h1
            rcases HXA.out b h3 with h4 | h4
            · rcases h2 with rfl | rfl
              · have := HAL.out.1 _ h4; omega
              · obtain ⟨cur, hc⟩ := HAL.out.2.2 _ h4
                exact row_ne hc HG.out (by decide) rfl
            · rcases h2 with rfl | rfl
              · omega
              · omega)
          have HWY := Lib.hid hWY
          have HOY := Lib.hid hoY
          have HYG := Lib.hid YG
          have HPO := Lib.hid hpoY
          have hpt := Lib.hid (q_put Y.drew Q m0 lim cn' cf' An' Af' ns' fs' hpoY i hi' (by rw [hie]) W1 A zs c (ks - 1) ab bw ⟨W1, A, zs, c, ks - 1, ab, bw⟩ rfl)
          rw [HN2.out] at hpt
          clear hB0 hC1 hC2 hY hYY hZ hCZ hCB hZ1 hZB YB YG Y0 YX YP hWY hi' hie hkn hgq hpoY hoY
          refine wpIn_region_any (by kernel_rfl) (wpAnyIn_round (F := Fence.wide) l2 (by kernel_rfl) _ _ _ _ ?_)
          (try (change wpAnyIn _ _ _ _ _ _ _ _ _ (World.drew _)))
          refine with_tail (T := ?TT57) ?tp57 (fun tail => ?bd57)
          case bd57 =>
            refine wpAnyIn_take (i := 4) (v := ?tv58) rfl rfl (by kernel_rfl) (by kernel_rfl) (by kernel_rfl) (fun _ _ _ h => h) ⟨Or.inl ⟨by rfl, ?th58⟩, fun _ => rfl⟩ ?tr58
            case th58 => (intro w; go_simp; try with_reducible rfl)
            refine wpAnyIn_ready (rs := [0, 5, 6]) (by kernel_rfl) (by simp) ?_
            refine AllReadyIn.cons rfl (fun K hK => ?_) ?_
            · go_simp
              refine hK _ _ ?_
              clear hK K
              refine wpAnyIn_take (i := 1) (v := ?tv59) rfl rfl (by kernel_rfl) (by kernel_rfl) (by kernel_rfl) (fun _ _ _ h => h) ⟨Or.inl ⟨by rfl, ?th59⟩, fun _ => rfl⟩ ?tr59
              case th59 => (intro w; go_simp; try with_reducible rfl)
              refine wpAnyIn_take (i := 2) (v := ?tv60) rfl rfl (by kernel_rfl) (by kernel_rfl) (by kernel_rfl) (fun _ _ _ h => h) ⟨Or.inl ⟨by rfl, ?th60⟩, fun _ => rfl⟩ ?tr60
              case th60 => (intro w; go_simp; try with_reducible rfl)
              refine wpAnyIn_ready (rs := [3, 5, 6]) (by kernel_rfl) (by simp) ?_
              refine AllReadyIn.cons rfl (fun K hK => ?_) ?_
              · go_simp
                refine hK _ _ ?_
                clear hK K
                refine wpAnyIn_ready (rs := [5, 6]) (by kernel_rfl) (by simp) ?_
                refine AllReadyIn.cons rfl (fun K hK => ?_) ?_
                · go_simp
                  refine hK _ _ ?_
                  clear hK K
                  refine wpAnyIn_ready (rs := [6]) (by kernel_rfl) (by simp) ?_
                  refine AllReadyIn.cons rfl (fun K hK => ?_) ?_
                  · go_simp
                    refine hK _ _ ?_
                    clear hK K
                    exact tail
                  exact AllReadyIn.nil
                refine AllReadyIn.cons rfl (fun K hK => ?_) ?_
                · go_simp
                  refine hK _ _ ?_
                  clear hK K
                  refine wpAnyIn_ready (rs := [5]) (by kernel_rfl) (by simp) ?_
                  refine AllReadyIn.cons rfl (fun K hK => ?_) ?_
                  · go_simp
                    refine hK _ _ ?_
                    clear hK K
                    exact tail
                  exact AllReadyIn.nil
                exact AllReadyIn.nil
              refine AllReadyIn.cons rfl (fun K hK => ?_) ?_
              · go_simp
                refine hK _ _ ?_
                clear hK K
                refine wpAnyIn_ready (rs := [3, 6]) (by kernel_rfl) (by simp) ?_
                refine AllReadyIn.cons rfl (fun K hK => ?_) ?_
                · go_simp
                  refine hK _ _ ?_
                  clear hK K
                  refine wpAnyIn_ready (rs := [6]) (by kernel_rfl) (by simp) ?_
                  refine AllReadyIn.cons rfl (fun K hK => ?_) ?_
                  · go_simp
                    refine hK _ _ ?_
                    clear hK K
                    exact tail
                  exact AllReadyIn.nil
                refine AllReadyIn.cons rfl (fun K hK => ?_) ?_
                · go_simp
                  refine hK _ _ ?_
                  clear hK K
                  refine wpAnyIn_ready (rs := [3]) (by kernel_rfl) (by simp) ?_
                  refine AllReadyIn.cons rfl (fun K hK => ?_) ?_
                  · go_simp
                    refine hK _ _ ?_
                    clear hK K
                    exact tail
                  exact AllReadyIn.nil
                exact AllReadyIn.nil
              refine AllReadyIn.cons rfl (fun K hK => ?_) ?_
              · go_simp
                refine hK _ _ ?_
                clear hK K
                refine wpAnyIn_ready (rs := [3, 5]) (by kernel_rfl) (by simp) ?_
                refine AllReadyIn.cons rfl (fun K hK => ?_) ?_
                · go_simp
                  refine hK _ _ ?_
                  clear hK K
                  refine wpAnyIn_ready (rs := [5]) (by kernel_rfl) (by simp) ?_
                  refine AllReadyIn.cons rfl (fun K hK => ?_) ?_
                  · go_simp
                    refine hK _ _ ?_
                    clear hK K
                    exact tail
                  exact AllReadyIn.nil
                refine AllReadyIn.cons rfl (fun K hK => ?_) ?_
                · go_simp
                  refine hK _ _ ?_
                  clear hK K
                  refine wpAnyIn_ready (rs := [3]) (by kernel_rfl) (by simp) ?_
                  refine AllReadyIn.cons rfl (fun K hK => ?_) ?_
                  · go_simp
                    refine hK _ _ ?_
                    clear hK K
                    exact tail
                  exact AllReadyIn.nil
                exact AllReadyIn.nil
              exact AllReadyIn.nil
            refine AllReadyIn.cons rfl (fun K hK => ?_) ?_
            · go_simp
              refine hK _ _ ?_
              clear hK K
              refine wpAnyIn_ready (rs := [0, 6]) (by kernel_rfl) (by simp) ?_
              refine AllReadyIn.cons rfl (fun K hK => ?_) ?_
              · go_simp
                refine hK _ _ ?_
                clear hK K
                refine wpAnyIn_take (i := 1) (v := ?tv61) rfl rfl (by kernel_rfl) (by kernel_rfl) (by kernel_rfl) (fun _ _ _ h => h) ⟨Or.inl ⟨by rfl, ?th61⟩, fun _ => rfl⟩ ?tr61
                case th61 => (intro w; go_simp; try with_reducible rfl)
                refine wpAnyIn_take (i := 2) (v := ?tv62) rfl rfl (by kernel_rfl) (by kernel_rfl) (by kernel_rfl) (fun _ _ _ h => h) ⟨Or.inl ⟨by rfl, ?th62⟩, fun _ => rfl⟩ ?tr62
                case th62 => (intro w; go_simp; try with_reducible rfl)
                refine wpAnyIn_ready (rs := [3, 6]) (by kernel_rfl) (by simp) ?_
                refine AllReadyIn.cons rfl (fun K hK => ?_) ?_
                · go_simp
                  refine hK _ _ ?_
                  clear hK K
                  refine wpAnyIn_ready (rs := [6]) (by kernel_rfl) (by simp) ?_
                  refine AllReadyIn.cons rfl (fun K hK => ?_) ?_
                  · go_simp
                    refine hK _ _ ?_
                    clear hK K
                    exact tail
                  exact AllReadyIn.nil
                refine AllReadyIn.cons rfl (fun K hK => ?_) ?_
                · go_simp
                  refine hK _ _ ?_
                  clear hK K
                  refine wpAnyIn_ready (rs := [3]) (by kernel_rfl) (by simp) ?_
                  refine AllReadyIn.cons rfl (fun K hK => ?_) ?_
                  · go_simp
                    refine hK _ _ ?_
                    clear hK K
                    exact tail
                  exact AllReadyIn.nil
                exact AllReadyIn.nil
              refine AllReadyIn.cons rfl (fun K hK => ?_) ?_
              · go_simp
                refine hK _ _ ?_
                clear hK K
                refine wpAnyIn_ready (rs := [0]) (by kernel_rfl) (by simp) ?_
                refine AllReadyIn.cons rfl (fun K hK => ?_) ?_
                · go_simp
                  refine hK _ _ ?_
                  clear hK K
                  refine wpAnyIn_take (i := 1) (v := ?tv63) rfl rfl (by kernel_rfl) (by kernel_rfl) (by kernel_rfl) (fun _ _ _ h => h) ⟨Or.inl ⟨by rfl, ?th63⟩, fun _ => rfl⟩ ?tr63
                  case th63 => (intro w; go_simp; try with_reducible rfl)
                  refine wpAnyIn_take (i := 2) (v := ?tv64) rfl rfl (by kernel_rfl) (by kernel_rfl) (by kernel_rfl) (fun _ _ _ h => h) ⟨Or.inl ⟨by rfl, ?th64⟩, fun _ => rfl⟩ ?tr64
                  case th64 => (intro w; go_simp; try with_reducible rfl)
                  refine wpAnyIn_ready (rs := [3]) (by kernel_rfl) (by simp) ?_
                  refine AllReadyIn.cons rfl (fun K hK => ?_) ?_
                  · go_simp
                    refine hK _ _ ?_
                    clear hK K
                    exact tail
                  exact AllReadyIn.nil
                exact AllReadyIn.nil
              exact AllReadyIn.nil
            refine AllReadyIn.cons rfl (fun K hK => ?_) ?_
            · go_simp
              refine hK _ _ ?_
              clear hK K
              refine wpAnyIn_ready (rs := [0, 5]) (by kernel_rfl) (by simp) ?_
              refine AllReadyIn.cons rfl (fun K hK => ?_) ?_
              · go_simp
                refine hK _ _ ?_
                clear hK K
                refine wpAnyIn_take (i := 1) (v := ?tv65) rfl rfl (by kernel_rfl) (by kernel_rfl) (by kernel_rfl) (fun _ _ _ h => h) ⟨Or.inl ⟨by rfl, ?th65⟩, fun _ => rfl⟩ ?tr65
                case th65 => (intro w; go_simp; try with_reducible rfl)
                refine wpAnyIn_take (i := 2) (v := ?tv66) rfl rfl (by kernel_rfl) (by kernel_rfl) (by kernel_rfl) (fun _ _ _ h => h) ⟨Or.inl ⟨by rfl, ?th66⟩, fun _ => rfl⟩ ?tr66
                case th66 => (intro w; go_simp; try with_reducible rfl)
                refine wpAnyIn_ready (rs := [3, 5]) (by kernel_rfl) (by simp) ?_
                refine AllReadyIn.cons rfl (fun K hK => ?_) ?_
                · go_simp
                  refine hK _ _ ?_
                  clear hK K
                  refine wpAnyIn_ready (rs := [5]) (by kernel_rfl) (by simp) ?_
                  refine AllReadyIn.cons rfl (fun K hK => ?_) ?_
                  · go_simp
                    refine hK _ _ ?_
                    clear hK K
                    exact tail
                  exact AllReadyIn.nil
                refine AllReadyIn.cons rfl (fun K hK => ?_) ?_
                · go_simp
                  refine hK _ _ ?_
                  clear hK K
                  refine wpAnyIn_ready (rs := [3]) (by kernel_rfl) (by simp) ?_
                  refine AllReadyIn.cons rfl (fun K hK => ?_) ?_
                  · go_simp
                    refine hK _ _ ?_
                    clear hK K
                    exact tail
                  exact AllReadyIn.nil
                exact AllReadyIn.nil
              refine AllReadyIn.cons rfl (fun K hK => ?_) ?_
              · go_simp
                refine hK _ _ ?_
                clear hK K
                refine wpAnyIn_ready (rs := [0]) (by kernel_rfl) (by simp) ?_
                refine AllReadyIn.cons rfl (fun K hK => ?_) ?_
                · go_simp
                  refine hK _ _ ?_
                  clear hK K
                  refine wpAnyIn_take (i := 1) (v := ?tv67) rfl rfl (by kernel_rfl) (by kernel_rfl) (by kernel_rfl) (fun _ _ _ h => h) ⟨Or.inl ⟨by rfl, ?th67⟩, fun _ => rfl⟩ ?tr67
                  case th67 => (intro w; go_simp; try with_reducible rfl)
                  refine wpAnyIn_take (i := 2) (v := ?tv68) rfl rfl (by kernel_rfl) (by kernel_rfl) (by kernel_rfl) (fun _ _ _ h => h) ⟨Or.inl ⟨by rfl, ?th68⟩, fun _ => rfl⟩ ?tr68
                  case th68 => (intro w; go_simp; try with_reducible rfl)
                  refine wpAnyIn_ready (rs := [3]) (by kernel_rfl) (by simp) ?_
                  refine AllReadyIn.cons rfl (fun K hK => ?_) ?_
                  · go_simp
                    refine hK _ _ ?_
                    clear hK K
                    exact tail
                  exact AllReadyIn.nil
                exact AllReadyIn.nil
              exact AllReadyIn.nil
            exact AllReadyIn.nil
          case tp57 =>
            refine wpAnyIn_ready (rs := [7]) (by kernel_rfl) (by simp) ?_
            refine AllReadyIn.cons rfl (fun K hK => ?_) AllReadyIn.nil
            go_simp
            gi_wp2_with (gi_at_call 73; refine (callsIn_wide.2 hpt.out).mono ?_; rintro e w5 ⟨rfl, hq⟩; have HQS := Lib.hid hq; clear hq)
            refine wpAnyIn_done (by kernel_rfl) ?_ _
            gi_wp2
            show ∃ O', _ ∧ _
            dsimp only
            rw [HE13.out]
            have hpy : T.prs (K.drop xs k) y (T.pre y k) := Classical.not_not.1 (fun h => HK0.out (HGN.out.2 h))
            have hgy : shGone xs k y = false := by
              unfold shGone
              simp [hpy]
            have hq' : QStep Y Q m0 lim An' Af' (ns'.set i (⟨W1, A, zs, c, ks - 1, ab, bw⟩, true)) fs' w5 := by
              obtain ⟨An2, cn2, Af2, cf2, h1, h2, h3⟩ := HQS.out
              exact ⟨An2, cn2, Af2, cf2, h1, chg_of_drew h2, h3⟩
            have hok : T.NdOK (K.drop xs k) pl y (T.pre y k) W1 (ks - 1) ab bw zs := by
              have := HL.out HK0.out
              rw [if_pos HLE.out, if_pos HGR.out] at this
              exact this
            exact ShI.step (x := ⟨W1, A, zs, c, ks - 1, ab, bw⟩) (b := true) HO.out HS.out h.up hx HYL.out hm HIG.out.symm HG.out (by rw [hgy]; exact HYG.out) (.inr rfl) A (fun g hg => by obtain ⟨hi', hie⟩ := List.getElem?_eq_some_iff.1 HWAY.out; exact ⟨hi', by rw [hie]; exact hg⟩) HWY.out HOY.out (fun j hj => (HXA.out j hj).imp (fun h => h) (fun h => Nat.le_of_lt h)) hq' (fun j hj => by rw [List.getElem?_set_ne (Ne.symm hj)]) (by rw [List.getElem?_set_self (List.getElem?_eq_some_iff.1 HWAY.out).1]) (.inr ⟨rfl, HDG.out.1 hpy, by rw [List.length_set], hok⟩)
        · have e1 : ((le : Int) == (k : Int)) = true := by rw [hle]; simp
          have e2 : ((gr : Int) == (k : Int)) = false := by rw [Bool.eq_false_iff]; intro e; rw [beq_iff_eq] at e; omega
          have e3 : (((ks - 1 : Nat) : Int) == 0) = false := by rw [Bool.eq_false_iff]; intro e; rw [beq_iff_eq] at e; omega
          have HLE := Lib.hid hle
          have HGR := Lib.hid hgr
          have HK0 := Lib.hid hk0
          clear hle hgr hk0
          gi_wp2
          refine wpIn_world ?_
          rintro Y hYY
          have hB0 := row_set (row_set HXB.out 2 (.int .i64 ((ks - 1 : Nat) : Int))) 3 (.int .u64 (ab : Int))
          have hC1 := (chg_set X W.heap.size 2 (.int .i64 ((ks - 1 : Nat) : Int)) (fun j => j = W.heap.size) rfl).same (chg_set _ W.heap.size 3 (.int .u64 (ab : Int)) _ rfl)
          have hC2 := (chg_set X W.heap.size 2 (.int .i64 ((ks - 1 : Nat) : Int)) (fun j => j = W.heap.size ∨ j = (w2.heap.size + 1)) (.inl rfl)).same (chg_set _ W.heap.size 3 (.int .u64 (ab : Int)) _ (.inl rfl))
          simp at hB0
          obtain ⟨Z, hZ⟩ : ∃ Z, Z = ((X.setCell ⟨W.heap.size, 2, none⟩ (.int .i64 ((ks - 1 : Nat) : Int))).setCell ⟨W.heap.size, 3, none⟩ (.int .u64 (ab : Int))) := ⟨_, rfl⟩
          have hY : Y = Z.setCell ⟨(w2.heap.size + 1), 0, none⟩ (.bool false) := by rw [hYY, hZ]
          have hCZ : K.Chg X Y (fun j => j = W.heap.size ∨ j = (w2.heap.size + 1)) := by rw [hY, hZ]; exact hC2.same (chg_set _ _ 0 _ _ (.inr rfl))
          have hCB : K.Chg Z Y (fun j => j = (w2.heap.size + 1)) := by rw [hY]; exact chg_set _ _ 0 _ _ rfl
          have hZ1 : K.Chg X Z (fun j => j = W.heap.size) := by rw [hZ]; exact hC1
          have hZB : Z.heap[W.heap.size]? = some (.cells #[.int .u64 (W1 : Int), .slice A n c, .int .i64 ((ks - 1 : Nat) : Int), .int .u64 (ab : Int), .int .u64 (gr : Int)] 72 (0, 0)) := by rw [hZ]; first | exact hB0 | simpa using hB0
          have YB := (hCB.block W.heap.size (row_lt hZB) (by omega)).trans hZB
          have YG : Y.heap[(w2.heap.size + 1)]? = some (.cells #[.bool false] 4 (0, 0)) := by
            rw [hY]
            have := row_set ((hZ1.block (w2.heap.size + 1) (row_lt HGX.out) (by omega)).trans HGX.out) 0 (.bool false)
            simpa using this
          have Y0 := (hCZ.block _ (row_lt H0.out) (by omega)).trans H0.out
          have YX := (hCZ.block _ (row_lt HXX.out) (by omega)).trans HXX.out
          have YP := (hCZ.block _ (row_lt HPX.out) (by omega)).trans HPX.out
          have k0 := cell_of_row Y _ 0 _ _ (0, 0) Y0
          have k1 := cell_of_row Y _ 1 _ _ (0, 0) YP
          have k2 := cell_of_row Y _ 5 _ _ (0, 0) YX
          simp [scl] at k0 k1 k2
          obtain ⟨u0, u1, u2, u3, u4⟩ := nd_cells YB
          have hWY : K.Chg W Y (fun j => A.map (·.block) = some j ∨ j = (w2.heap.size + 1)) := (HXC.out.mono (fun _ h => .inl h)).trans hCZ (fun j hj => by
            rcases hj with rfl | rfl
            · exact .inr (Nat.le_refl _)
            · exact .inl (.inr rfl))
          obtain ⟨hi', hie⟩ := List.getElem?_eq_some_iff.1 HWAY.out
          have hkn : ∀ j, A.map (·.block) = some j → ¬ QB Q An' Af' j := fun j hj => kid_no HS.out.po HS.out.kids hi' (by rw [hie]; exact hj)
          have hgq : ¬ QB Q An' Af' ((w2.heap.size + 1)) := fun hq => by
            obtain ⟨_, cur, T, hr, _, _, hT, _⟩ := HS.out.types (.inr (.inr (.inl hq)))
            exact row_ne hr HG.out hT rfl
          have hpoY : Qo Y.drew Q m0 lim An' cn' Af' cf' ns' fs' := (HS.out.po.chg hWY (fun j hj h => by
            rcases h with h | rfl
            · exact hkn j h hj
            · exact hgq hj)).drew 1
          have hoY : Y.ownsRow 0 3 1 (.slice A zs.length c) zs.length (iw zs) := hCZ.own HXO.out (fun b h1 h2 => by
            have h3 := own_of_map h1
            rcases HXA.out b h3 with h4 | h4
            · rcases h2 with rfl | rfl
              · have := HAL.out.1 _ h4; omega
              · obtain ⟨cur, hc⟩ := HAL.out.2.2 _ h4
                exact row_ne hc HG.out (by decide) rfl
            · rcases h2 with rfl | rfl
              · omega
              · omega)
          have HWY := Lib.hid hWY
          have HOY := Lib.hid hoY
          have HYG := Lib.hid YG
          have HPO := Lib.hid hpoY
          have hpt := Lib.hid (q_put Y.drew Q m0 lim cn' cf' An' Af' ns' fs' hpoY i hi' (by rw [hie]) W1 A zs c (ks - 1) ab gr ⟨W1, A, zs, c, ks - 1, ab, gr⟩ rfl)
          rw [HN2.out] at hpt
          clear hB0 hC1 hC2 hY hYY hZ hCZ hCB hZ1 hZB YB YG Y0 YX YP hWY hi' hie hkn hgq hpoY hoY
          refine wpIn_region_any (by kernel_rfl) (wpAnyIn_round (F := Fence.wide) l2 (by kernel_rfl) _ _ _ _ ?_)
          (try (change wpAnyIn _ _ _ _ _ _ _ _ _ (World.drew _)))
          refine with_tail (T := ?TT69) ?tp69 (fun tail => ?bd69)
          case bd69 =>
            refine wpAnyIn_take (i := 4) (v := ?tv70) rfl rfl (by kernel_rfl) (by kernel_rfl) (by kernel_rfl) (fun _ _ _ h => h) ⟨Or.inl ⟨by rfl, ?th70⟩, fun _ => rfl⟩ ?tr70
            case th70 => (intro w; go_simp; try with_reducible rfl)
            refine wpAnyIn_ready (rs := [0, 5, 6]) (by kernel_rfl) (by simp) ?_
            refine AllReadyIn.cons rfl (fun K hK => ?_) ?_
            · go_simp
              refine hK _ _ ?_
              clear hK K
              refine wpAnyIn_take (i := 1) (v := ?tv71) rfl rfl (by kernel_rfl) (by kernel_rfl) (by kernel_rfl) (fun _ _ _ h => h) ⟨Or.inl ⟨by rfl, ?th71⟩, fun _ => rfl⟩ ?tr71
              case th71 => (intro w; go_simp; try with_reducible rfl)
              refine wpAnyIn_take (i := 2) (v := ?tv72) rfl rfl (by kernel_rfl) (by kernel_rfl) (by kernel_rfl) (fun _ _ _ h => h) ⟨Or.inl ⟨by rfl, ?th72⟩, fun _ => rfl⟩ ?tr72
              case th72 => (intro w; go_simp; try with_reducible rfl)
              refine wpAnyIn_ready (rs := [3, 5, 6]) (by kernel_rfl) (by simp) ?_
              refine AllReadyIn.cons rfl (fun K hK => ?_) ?_
              · go_simp
                refine hK _ _ ?_
                clear hK K
                refine wpAnyIn_ready (rs := [5, 6]) (by kernel_rfl) (by simp) ?_
                refine AllReadyIn.cons rfl (fun K hK => ?_) ?_
                · go_simp
                  refine hK _ _ ?_
                  clear hK K
                  refine wpAnyIn_ready (rs := [6]) (by kernel_rfl) (by simp) ?_
                  refine AllReadyIn.cons rfl (fun K hK => ?_) ?_
                  · go_simp
                    refine hK _ _ ?_
                    clear hK K
                    exact tail
                  exact AllReadyIn.nil
                refine AllReadyIn.cons rfl (fun K hK => ?_) ?_
                · go_simp
                  refine hK _ _ ?_
                  clear hK K
                  refine wpAnyIn_ready (rs := [5]) (by kernel_rfl) (by simp) ?_
                  refine AllReadyIn.cons rfl (fun K hK => ?_) ?_
                  · go_simp
                    refine hK _ _ ?_
                    clear hK K
                    exact tail
                  exact AllReadyIn.nil
                exact AllReadyIn.nil
              refine AllReadyIn.cons rfl (fun K hK => ?_) ?_
              · go_simp
                refine hK _ _ ?_
                clear hK K
                refine wpAnyIn_ready (rs := [3, 6]) (by kernel_rfl) (by simp) ?_
                refine AllReadyIn.cons rfl (fun K hK => ?_) ?_
                · go_simp
                  refine hK _ _ ?_
                  clear hK K
                  refine wpAnyIn_ready (rs := [6]) (by kernel_rfl) (by simp) ?_
                  refine AllReadyIn.cons rfl (fun K hK => ?_) ?_
                  · go_simp
                    refine hK _ _ ?_
                    clear hK K
                    exact tail
                  exact AllReadyIn.nil
                refine AllReadyIn.cons rfl (fun K hK => ?_) ?_
                · go_simp
                  refine hK _ _ ?_
                  clear hK K
                  refine wpAnyIn_ready (rs := [3]) (by kernel_rfl) (by simp) ?_
                  refine AllReadyIn.cons rfl (fun K hK => ?_) ?_
                  · go_simp
                    refine hK _ _ ?_
                    clear hK K
                    exact tail
                  exact AllReadyIn.nil
                exact AllReadyIn.nil
              refine AllReadyIn.cons rfl (fun K hK => ?_) ?_
              · go_simp
                refine hK _ _ ?_
                clear hK K
                refine wpAnyIn_ready (rs := [3, 5]) (by kernel_rfl) (by simp) ?_
                refine AllReadyIn.cons rfl (fun K hK => ?_) ?_
                · go_simp
                  refine hK _ _ ?_
                  clear hK K
                  refine wpAnyIn_ready (rs := [5]) (by kernel_rfl) (by simp) ?_
                  refine AllReadyIn.cons rfl (fun K hK => ?_) ?_
                  · go_simp
                    refine hK _ _ ?_
                    clear hK K
                    exact tail
                  exact AllReadyIn.nil
                refine AllReadyIn.cons rfl (fun K hK => ?_) ?_
                · go_simp
                  refine hK _ _ ?_
                  clear hK K
                  refine wpAnyIn_ready (rs := [3]) (by kernel_rfl) (by simp) ?_
                  refine AllReadyIn.cons rfl (fun K hK => ?_) ?_
                  · go_simp
                    refine hK _ _ ?_
                    clear hK K
                    exact tail
                  exact AllReadyIn.nil
                exact AllReadyIn.nil
              exact AllReadyIn.nil
            refine AllReadyIn.cons rfl (fun K hK => ?_) ?_
            · go_simp
              refine hK _ _ ?_
              clear hK K
              refine wpAnyIn_ready (rs := [0, 6]) (by kernel_rfl) (by simp) ?_
              refine AllReadyIn.cons rfl (fun K hK => ?_) ?_
              · go_simp
                refine hK _ _ ?_
                clear hK K
                refine wpAnyIn_take (i := 1) (v := ?tv73) rfl rfl (by kernel_rfl) (by kernel_rfl) (by kernel_rfl) (fun _ _ _ h => h) ⟨Or.inl ⟨by rfl, ?th73⟩, fun _ => rfl⟩ ?tr73
                case th73 => (intro w; go_simp; try with_reducible rfl)
                refine wpAnyIn_take (i := 2) (v := ?tv74) rfl rfl (by kernel_rfl) (by kernel_rfl) (by kernel_rfl) (fun _ _ _ h => h) ⟨Or.inl ⟨by rfl, ?th74⟩, fun _ => rfl⟩ ?tr74
                case th74 => (intro w; go_simp; try with_reducible rfl)
                refine wpAnyIn_ready (rs := [3, 6]) (by kernel_rfl) (by simp) ?_
                refine AllReadyIn.cons rfl (fun K hK => ?_) ?_
                · go_simp
                  refine hK _ _ ?_
                  clear hK K
                  refine wpAnyIn_ready (rs := [6]) (by kernel_rfl) (by simp) ?_
                  refine AllReadyIn.cons rfl (fun K hK => ?_) ?_
                  · go_simp
                    refine hK _ _ ?_
                    clear hK K
                    exact tail
                  exact AllReadyIn.nil
                refine AllReadyIn.cons rfl (fun K hK => ?_) ?_
                · go_simp
                  refine hK _ _ ?_
                  clear hK K
                  refine wpAnyIn_ready (rs := [3]) (by kernel_rfl) (by simp) ?_
                  refine AllReadyIn.cons rfl (fun K hK => ?_) ?_
                  · go_simp
                    refine hK _ _ ?_
                    clear hK K
                    exact tail
                  exact AllReadyIn.nil
                exact AllReadyIn.nil
              refine AllReadyIn.cons rfl (fun K hK => ?_) ?_
              · go_simp
                refine hK _ _ ?_
                clear hK K
                refine wpAnyIn_ready (rs := [0]) (by kernel_rfl) (by simp) ?_
                refine AllReadyIn.cons rfl (fun K hK => ?_) ?_
                · go_simp
                  refine hK _ _ ?_
                  clear hK K
                  refine wpAnyIn_take (i := 1) (v := ?tv75) rfl rfl (by kernel_rfl) (by kernel_rfl) (by kernel_rfl) (fun _ _ _ h => h) ⟨Or.inl ⟨by rfl, ?th75⟩, fun _ => rfl⟩ ?tr75
                  case th75 => (intro w; go_simp; try with_reducible rfl)
                  refine wpAnyIn_take (i := 2) (v := ?tv76) rfl rfl (by kernel_rfl) (by kernel_rfl) (by kernel_rfl) (fun _ _ _ h => h) ⟨Or.inl ⟨by rfl, ?th76⟩, fun _ => rfl⟩ ?tr76
                  case th76 => (intro w; go_simp; try with_reducible rfl)
                  refine wpAnyIn_ready (rs := [3]) (by kernel_rfl) (by simp) ?_
                  refine AllReadyIn.cons rfl (fun K hK => ?_) ?_
                  · go_simp
                    refine hK _ _ ?_
                    clear hK K
                    exact tail
                  exact AllReadyIn.nil
                exact AllReadyIn.nil
              exact AllReadyIn.nil
            refine AllReadyIn.cons rfl (fun K hK => ?_) ?_
            · go_simp
              refine hK _ _ ?_
              clear hK K
              refine wpAnyIn_ready (rs := [0, 5]) (by kernel_rfl) (by simp) ?_
              refine AllReadyIn.cons rfl (fun K hK => ?_) ?_
              · go_simp
                refine hK _ _ ?_
                clear hK K
                refine wpAnyIn_take (i := 1) (v := ?tv77) rfl rfl (by kernel_rfl) (by kernel_rfl) (by kernel_rfl) (fun _ _ _ h => h) ⟨Or.inl ⟨by rfl, ?th77⟩, fun _ => rfl⟩ ?tr77
                case th77 => (intro w; go_simp; try with_reducible rfl)
                refine wpAnyIn_take (i := 2) (v := ?tv78) rfl rfl (by kernel_rfl) (by kernel_rfl) (by kernel_rfl) (fun _ _ _ h => h) ⟨Or.inl ⟨by rfl, ?th78⟩, fun _ => rfl⟩ ?tr78
                case th78 => (intro w; go_simp; try with_reducible rfl)
                refine wpAnyIn_ready (rs := [3, 5]) (by kernel_rfl) (by simp) ?_
                refine AllReadyIn.cons rfl (fun K hK => ?_) ?_
                · go_simp
                  refine hK _ _ ?_
                  clear hK K
                  refine wpAnyIn_ready (rs := [5]) (by kernel_rfl) (by simp) ?_
                  refine AllReadyIn.cons rfl (fun K hK => ?_) ?_
                  · go_simp
                    refine hK _ _ ?_
                    clear hK K
                    exact tail
                  exact AllReadyIn.nil
                refine AllReadyIn.cons rfl (fun K hK => ?_) ?_
                · go_simp
                  refine hK _ _ ?_
                  clear hK K
                  refine wpAnyIn_ready (rs := [3]) (by kernel_rfl) (by simp) ?_
                  refine AllReadyIn.cons rfl (fun K hK => ?_) ?_
                  · go_simp
                    refine hK _ _ ?_
                    clear hK K
                    exact tail
                  exact AllReadyIn.nil
                exact AllReadyIn.nil
              refine AllReadyIn.cons rfl (fun K hK => ?_) ?_
              · go_simp
                refine hK _ _ ?_
                clear hK K
                refine wpAnyIn_ready (rs := [0]) (by kernel_rfl) (by simp) ?_
                refine AllReadyIn.cons rfl (fun K hK => ?_) ?_
                · go_simp
                  refine hK _ _ ?_
                  clear hK K
                  refine wpAnyIn_take (i := 1) (v := ?tv79) rfl rfl (by kernel_rfl) (by kernel_rfl) (by kernel_rfl) (fun _ _ _ h => h) ⟨Or.inl ⟨by rfl, ?th79⟩, fun _ => rfl⟩ ?tr79
                  case th79 => (intro w; go_simp; try with_reducible rfl)
                  refine wpAnyIn_take (i := 2) (v := ?tv80) rfl rfl (by kernel_rfl) (by kernel_rfl) (by kernel_rfl) (fun _ _ _ h => h) ⟨Or.inl ⟨by rfl, ?th80⟩, fun _ => rfl⟩ ?tr80
                  case th80 => (intro w; go_simp; try with_reducible rfl)
                  refine wpAnyIn_ready (rs := [3]) (by kernel_rfl) (by simp) ?_
                  refine AllReadyIn.cons rfl (fun K hK => ?_) ?_
                  · go_simp
                    refine hK _ _ ?_
                    clear hK K
                    exact tail
                  exact AllReadyIn.nil
                exact AllReadyIn.nil
              exact AllReadyIn.nil
            exact AllReadyIn.nil
          case tp69 =>
            refine wpAnyIn_ready (rs := [7]) (by kernel_rfl) (by simp) ?_
            refine AllReadyIn.cons rfl (fun K hK => ?_) AllReadyIn.nil
            go_simp
            gi_wp2_with (gi_at_call 73; refine (callsIn_wide.2 hpt.out).mono ?_; rintro e w5 ⟨rfl, hq⟩; have HQS := Lib.hid hq; clear hq)
            refine wpAnyIn_done (by kernel_rfl) ?_ _
            gi_wp2
            show ∃ O', _ ∧ _
            dsimp only
            rw [HE13.out]
            have hpy : T.prs (K.drop xs k) y (T.pre y k) := Classical.not_not.1 (fun h => HK0.out (HGN.out.2 h))
            have hgy : shGone xs k y = false := by
              unfold shGone
              simp [hpy]
            have hq' : QStep Y Q m0 lim An' Af' (ns'.set i (⟨W1, A, zs, c, ks - 1, ab, gr⟩, true)) fs' w5 := by
              obtain ⟨An2, cn2, Af2, cf2, h1, h2, h3⟩ := HQS.out
              exact ⟨An2, cn2, Af2, cf2, h1, chg_of_drew h2, h3⟩
            have hok : T.NdOK (K.drop xs k) pl y (T.pre y k) W1 (ks - 1) ab gr zs := by
              have := HL.out HK0.out
              rw [if_pos HLE.out, if_neg HGR.out] at this
              exact this
            exact ShI.step (x := ⟨W1, A, zs, c, ks - 1, ab, gr⟩) (b := true) HO.out HS.out h.up hx HYL.out hm HIG.out.symm HG.out (by rw [hgy]; exact HYG.out) (.inr rfl) A (fun g hg => by obtain ⟨hi', hie⟩ := List.getElem?_eq_some_iff.1 HWAY.out; exact ⟨hi', by rw [hie]; exact hg⟩) HWY.out HOY.out (fun j hj => (HXA.out j hj).imp (fun h => h) (fun h => Nat.le_of_lt h)) hq' (fun j hj => by rw [List.getElem?_set_ne (Ne.symm hj)]) (by rw [List.getElem?_set_self (List.getElem?_eq_some_iff.1 HWAY.out).1]) (.inr ⟨rfl, HDG.out.1 hpy, by rw [List.length_set], hok⟩)
      · by_cases hgr : gr = k
        · have e1 : ((le : Int) == (k : Int)) = false := by rw [Bool.eq_false_iff]; intro e; rw [beq_iff_eq] at e; omega
          have e2 : ((gr : Int) == (k : Int)) = true := by rw [hgr]; simp
          have e3 : (((ks - 1 : Nat) : Int) == 0) = false := by rw [Bool.eq_false_iff]; intro e; rw [beq_iff_eq] at e; omega
          have HLE := Lib.hid hle
          have HGR := Lib.hid hgr
          have HK0 := Lib.hid hk0
          clear hle hgr hk0
          gi_wp2
          refine wpIn_world ?_
          rintro Y hYY
          have hB0 := row_set (row_set HXB.out 2 (.int .i64 ((ks - 1 : Nat) : Int))) 4 (.int .u64 (bw : Int))
          have hC1 := (chg_set X W.heap.size 2 (.int .i64 ((ks - 1 : Nat) : Int)) (fun j => j = W.heap.size) rfl).same (chg_set _ W.heap.size 4 (.int .u64 (bw : Int)) _ rfl)
          have hC2 := (chg_set X W.heap.size 2 (.int .i64 ((ks - 1 : Nat) : Int)) (fun j => j = W.heap.size ∨ j = (w2.heap.size + 1)) (.inl rfl)).same (chg_set _ W.heap.size 4 (.int .u64 (bw : Int)) _ (.inl rfl))
          simp at hB0
          obtain ⟨Z, hZ⟩ : ∃ Z, Z = ((X.setCell ⟨W.heap.size, 2, none⟩ (.int .i64 ((ks - 1 : Nat) : Int))).setCell ⟨W.heap.size, 4, none⟩ (.int .u64 (bw : Int))) := ⟨_, rfl⟩
          have hY : Y = Z.setCell ⟨(w2.heap.size + 1), 0, none⟩ (.bool false) := by rw [hYY, hZ]
          have hCZ : K.Chg X Y (fun j => j = W.heap.size ∨ j = (w2.heap.size + 1)) := by rw [hY, hZ]; exact hC2.same (chg_set _ _ 0 _ _ (.inr rfl))
          have hCB : K.Chg Z Y (fun j => j = (w2.heap.size + 1)) := by rw [hY]; exact chg_set _ _ 0 _ _ rfl
          have hZ1 : K.Chg X Z (fun j => j = W.heap.size) := by rw [hZ]; exact hC1
          have hZB : Z.heap[W.heap.size]? = some (.cells #[.int .u64 (W1 : Int), .slice A n c, .int .i64 ((ks - 1 : Nat) : Int), .int .u64 (le : Int), .int .u64 (bw : Int)] 72 (0, 0)) := by rw [hZ]; first | exact hB0 | simpa using hB0
          have YB := (hCB.block W.heap.size (row_lt hZB) (by omega)).trans hZB
          have YG : Y.heap[(w2.heap.size + 1)]? = some (.cells #[.bool false] 4 (0, 0)) := by
            rw [hY]
            have := row_set ((hZ1.block (w2.heap.size + 1) (row_lt HGX.out) (by omega)).trans HGX.out) 0 (.bool false)
            simpa using this
          have Y0 := (hCZ.block _ (row_lt H0.out) (by omega)).trans H0.out
          have YX := (hCZ.block _ (row_lt HXX.out) (by omega)).trans HXX.out
          have YP := (hCZ.block _ (row_lt HPX.out) (by omega)).trans HPX.out
          have k0 := cell_of_row Y _ 0 _ _ (0, 0) Y0
          have k1 := cell_of_row Y _ 1 _ _ (0, 0) YP
          have k2 := cell_of_row Y _ 5 _ _ (0, 0) YX
          simp [scl] at k0 k1 k2
          obtain ⟨u0, u1, u2, u3, u4⟩ := nd_cells YB
          have hWY : K.Chg W Y (fun j => A.map (·.block) = some j ∨ j = (w2.heap.size + 1)) := (HXC.out.mono (fun _ h => .inl h)).trans hCZ (fun j hj => by
            rcases hj with rfl | rfl
            · exact .inr (Nat.le_refl _)
            · exact .inl (.inr rfl))
          obtain ⟨hi', hie⟩ := List.getElem?_eq_some_iff.1 HWAY.out
          have hkn : ∀ j, A.map (·.block) = some j → ¬ QB Q An' Af' j := fun j hj => kid_no HS.out.po HS.out.kids hi' (by rw [hie]; exact hj)
          have hgq : ¬ QB Q An' Af' ((w2.heap.size + 1)) := fun hq => by
            obtain ⟨_, cur, T, hr, _, _, hT, _⟩ := HS.out.types (.inr (.inr (.inl hq)))
            exact row_ne hr HG.out hT rfl
          have hpoY : Qo Y.drew Q m0 lim An' cn' Af' cf' ns' fs' := (HS.out.po.chg hWY (fun j hj h => by
            rcases h with h | rfl
            · exact hkn j h hj
            · exact hgq hj)).drew 1
          have hoY : Y.ownsRow 0 3 1 (.slice A zs.length c) zs.length (iw zs) := hCZ.own HXO.out (fun b h1 h2 => by
            have h3 := own_of_map h1
            rcases HXA.out b h3 with h4 | h4
            · rcases h2 with rfl | rfl
              · have := HAL.out.1 _ h4; omega
              · obtain ⟨cur, hc⟩ := HAL.out.2.2 _ h4
                exact row_ne hc HG.out (by decide) rfl
            · rcases h2 with rfl | rfl
              · omega
              · omega)
          have HWY := Lib.hid hWY
          have HOY := Lib.hid hoY
          have HYG := Lib.hid YG
          have HPO := Lib.hid hpoY
          have hpt := Lib.hid (q_put Y.drew Q m0 lim cn' cf' An' Af' ns' fs' hpoY i hi' (by rw [hie]) W1 A zs c (ks - 1) le bw ⟨W1, A, zs, c, ks - 1, le, bw⟩ rfl)
          rw [HN2.out] at hpt
          clear hB0 hC1 hC2 hY hYY hZ hCZ hCB hZ1 hZB YB YG Y0 YX YP hWY hi' hie hkn hgq hpoY hoY
          refine wpIn_region_any (by kernel_rfl) (wpAnyIn_round (F := Fence.wide) l2 (by kernel_rfl) _ _ _ _ ?_)
          (try (change wpAnyIn _ _ _ _ _ _ _ _ _ (World.drew _)))
          refine with_tail (T := ?TT81) ?tp81 (fun tail => ?bd81)
          case bd81 =>
            refine wpAnyIn_take (i := 4) (v := ?tv82) rfl rfl (by kernel_rfl) (by kernel_rfl) (by kernel_rfl) (fun _ _ _ h => h) ⟨Or.inl ⟨by rfl, ?th82⟩, fun _ => rfl⟩ ?tr82
            case th82 => (intro w; go_simp; try with_reducible rfl)
            refine wpAnyIn_ready (rs := [0, 5, 6]) (by kernel_rfl) (by simp) ?_
            refine AllReadyIn.cons rfl (fun K hK => ?_) ?_
            · go_simp
              refine hK _ _ ?_
              clear hK K
              refine wpAnyIn_take (i := 1) (v := ?tv83) rfl rfl (by kernel_rfl) (by kernel_rfl) (by kernel_rfl) (fun _ _ _ h => h) ⟨Or.inl ⟨by rfl, ?th83⟩, fun _ => rfl⟩ ?tr83
              case th83 => (intro w; go_simp; try with_reducible rfl)
              refine wpAnyIn_take (i := 2) (v := ?tv84) rfl rfl (by kernel_rfl) (by kernel_rfl) (by kernel_rfl) (fun _ _ _ h => h) ⟨Or.inl ⟨by rfl, ?th84⟩, fun _ => rfl⟩ ?tr84
              case th84 => (intro w; go_simp; try with_reducible rfl)
              refine wpAnyIn_ready (rs := [3, 5, 6]) (by kernel_rfl) (by simp) ?_
              refine AllReadyIn.cons rfl (fun K hK => ?_) ?_
              · go_simp
                refine hK _ _ ?_
                clear hK K
                refine wpAnyIn_ready (rs := [5, 6]) (by kernel_rfl) (by simp) ?_
                refine AllReadyIn.cons rfl (fun K hK => ?_) ?_
                · go_simp
                  refine hK _ _ ?_
                  clear hK K
                  refine wpAnyIn_ready (rs := [6]) (by kernel_rfl) (by simp) ?_
                  refine AllReadyIn.cons rfl (fun K hK => ?_) ?_
                  · go_simp
                    refine hK _ _ ?_
                    clear hK K
                    exact tail
                  exact AllReadyIn.nil
                refine AllReadyIn.cons rfl (fun K hK => ?_) ?_
                · go_simp
                  refine hK _ _ ?_
                  clear hK K
                  refine wpAnyIn_ready (rs := [5]) (by kernel_rfl) (by simp) ?_
                  refine AllReadyIn.cons rfl (fun K hK => ?_) ?_
                  · go_simp
                    refine hK _ _ ?_
                    clear hK K
                    exact tail
                  exact AllReadyIn.nil
                exact AllReadyIn.nil
              refine AllReadyIn.cons rfl (fun K hK => ?_) ?_
              · go_simp
                refine hK _ _ ?_
                clear hK K
                refine wpAnyIn_ready (rs := [3, 6]) (by kernel_rfl) (by simp) ?_
                refine AllReadyIn.cons rfl (fun K hK => ?_) ?_
                · go_simp
                  refine hK _ _ ?_
                  clear hK K
                  refine wpAnyIn_ready (rs := [6]) (by kernel_rfl) (by simp) ?_
                  refine AllReadyIn.cons rfl (fun K hK => ?_) ?_
                  · go_simp
                    refine hK _ _ ?_
                    clear hK K
                    exact tail
                  exact AllReadyIn.nil
                refine AllReadyIn.cons rfl (fun K hK => ?_) ?_
                · go_simp
                  refine hK _ _ ?_
                  clear hK K
                  refine wpAnyIn_ready (rs := [3]) (by kernel_rfl) (by simp) ?_
                  refine AllReadyIn.cons rfl (fun K hK => ?_) ?_
                  · go_simp
                    refine hK _ _ ?_
                    clear hK K
                    exact tail
                  exact AllReadyIn.nil
                exact AllReadyIn.nil
              refine AllReadyIn.cons rfl (fun K hK => ?_) ?_
              · go_simp
                refine hK _ _ ?_
                clear hK K
                refine wpAnyIn_ready (rs := [3, 5]) (by kernel_rfl) (by simp) ?_
                refine AllReadyIn.cons rfl (fun K hK => ?_) ?_
                · go_simp
                  refine hK _ _ ?_
                  clear hK K
                  refine wpAnyIn_ready (rs := [5]) (by kernel_rfl) (by simp) ?_
                  refine AllReadyIn.cons rfl (fun K hK => ?_) ?_
                  · go_simp
                    refine hK _ _ ?_
                    clear hK K
                    exact tail
                  exact AllReadyIn.nil
                refine AllReadyIn.cons rfl (fun K hK => ?_) ?_
                · go_simp
                  refine hK _ _ ?_
                  clear hK K
                  refine wpAnyIn_ready (rs := [3]) (by kernel_rfl) (by simp) ?_
                  refine AllReadyIn.cons rfl (fun K hK => ?_) ?_
                  · go_simp
                    refine hK _ _ ?_
                    clear hK K
                    exact tail
                  exact AllReadyIn.nil
                exact AllReadyIn.nil
              exact AllReadyIn.nil
            refine AllReadyIn.cons rfl (fun K hK => ?_) ?_
            · go_simp
              refine hK _ _ ?_
              clear hK K
              refine wpAnyIn_ready (rs := [0, 6]) (by kernel_rfl) (by simp) ?_
              refine AllReadyIn.cons rfl (fun K hK => ?_) ?_
              · go_simp
                refine hK _ _ ?_
                clear hK K
                refine wpAnyIn_take (i := 1) (v := ?tv85) rfl rfl (by kernel_rfl) (by kernel_rfl) (by kernel_rfl) (fun _ _ _ h => h) ⟨Or.inl ⟨by rfl, ?th85⟩, fun _ => rfl⟩ ?tr85
                case th85 => (intro w; go_simp; try with_reducible rfl)
                refine wpAnyIn_take (i := 2) (v := ?tv86) rfl rfl (by kernel_rfl) (by kernel_rfl) (by kernel_rfl) (fun _ _ _ h => h) ⟨Or.inl ⟨by rfl, ?th86⟩, fun _ => rfl⟩ ?tr86
                case th86 => (intro w; go_simp; try with_reducible rfl)
                refine wpAnyIn_ready (rs := [3, 6]) (by kernel_rfl) (by simp) ?_
                refine AllReadyIn.cons rfl (fun K hK => ?_) ?_
                · go_simp
                  refine hK _ _ ?_
                  clear hK K
                  refine wpAnyIn_ready (rs := [6]) (by kernel_rfl) (by simp) ?_
                  refine AllReadyIn.cons rfl (fun K hK => ?_) ?_
                  · go_simp
                    refine hK _ _ ?_
                    clear hK K
                    exact tail
                  exact AllReadyIn.nil
                refine AllReadyIn.cons rfl (fun K hK => ?_) ?_
                · go_simp
                  refine hK _ _ ?_
                  clear hK K
                  refine wpAnyIn_ready (rs := [3]) (by kernel_rfl) (by simp) ?_
                  refine AllReadyIn.cons rfl (fun K hK => ?_) ?_
                  · go_simp
                    refine hK _ _ ?_
                    clear hK K
                    exact tail
                  exact AllReadyIn.nil
                exact AllReadyIn.nil
              refine AllReadyIn.cons rfl (fun K hK => ?_) ?_
              · go_simp
                refine hK _ _ ?_
                clear hK K
                refine wpAnyIn_ready (rs := [0]) (by kernel_rfl) (by simp) ?_
                refine AllReadyIn.cons rfl (fun K hK => ?_) ?_
                · go_simp
                  refine hK _ _ ?_
                  clear hK K
                  refine wpAnyIn_take (i := 1) (v := ?tv87) rfl rfl (by kernel_rfl) (by kernel_rfl) (by kernel_rfl) (fun _ _ _ h => h) ⟨Or.inl ⟨by rfl, ?th87⟩, fun _ => rfl⟩ ?tr87
                  case th87 => (intro w; go_simp; try with_reducible rfl)
                  refine wpAnyIn_take (i := 2) (v := ?tv88) rfl rfl (by kernel_rfl) (by kernel_rfl) (by kernel_rfl) (fun _ _ _ h => h) ⟨Or.inl ⟨by rfl, ?th88⟩, fun _ => rfl⟩ ?tr88
                  case th88 => (intro w; go_simp; try with_reducible rfl)
                  refine wpAnyIn_ready (rs := [3]) (by kernel_rfl) (by simp) ?_
                  refine AllReadyIn.cons rfl (fun K hK => ?_) ?_
                  · go_simp
                    refine hK _ _ ?_
                    clear hK K
                    exact tail
                  exact AllReadyIn.nil
                exact AllReadyIn.nil
              exact AllReadyIn.nil
            refine AllReadyIn.cons rfl (fun K hK => ?_) ?_
            · go_simp
              refine hK _ _ ?_
              clear hK K
              refine wpAnyIn_ready (rs := [0, 5]) (by kernel_rfl) (by simp) ?_
              refine AllReadyIn.cons rfl (fun K hK => ?_) ?_
              · go_simp
                refine hK _ _ ?_
                clear hK K
                refine wpAnyIn_take (i := 1) (v := ?tv89) rfl rfl (by kernel_rfl) (by kernel_rfl) (by kernel_rfl) (fun _ _ _ h => h) ⟨Or.inl ⟨by rfl, ?th89⟩, fun _ => rfl⟩ ?tr89
                case th89 => (intro w; go_simp; try with_reducible rfl)
                refine wpAnyIn_take (i := 2) (v := ?tv90) rfl rfl (by kernel_rfl) (by kernel_rfl) (by kernel_rfl) (fun _ _ _ h => h) ⟨Or.inl ⟨by rfl, ?th90⟩, fun _ => rfl⟩ ?tr90
                case th90 => (intro w; go_simp; try with_reducible rfl)
                refine wpAnyIn_ready (rs := [3, 5]) (by kernel_rfl) (by simp) ?_
                refine AllReadyIn.cons rfl (fun K hK => ?_) ?_
                · go_simp
                  refine hK _ _ ?_
                  clear hK K
                  refine wpAnyIn_ready (rs := [5]) (by kernel_rfl) (by simp) ?_
                  refine AllReadyIn.cons rfl (fun K hK => ?_) ?_
                  · go_simp
                    refine hK _ _ ?_
                    clear hK K
                    exact tail
                  exact AllReadyIn.nil
                refine AllReadyIn.cons rfl (fun K hK => ?_) ?_
                · go_simp
                  refine hK _ _ ?_
                  clear hK K
                  refine wpAnyIn_ready (rs := [3]) (by kernel_rfl) (by simp) ?_
                  refine AllReadyIn.cons rfl (fun K hK => ?_) ?_
                  · go_simp
                    refine hK _ _ ?_
                    clear hK K
                    exact tail
                  exact AllReadyIn.nil
                exact AllReadyIn.nil
              refine AllReadyIn.cons rfl (fun K hK => ?_) ?_
              · go_simp
                refine hK _ _ ?_
                clear hK K
                refine wpAnyIn_ready (rs := [0]) (by kernel_rfl) (by simp) ?_
                refine AllReadyIn.cons rfl (fun K hK => ?_) ?_
                · go_simp
                  refine hK _ _ ?_
                  clear hK K
                  refine wpAnyIn_take (i := 1) (v := ?tv91) rfl rfl (by kernel_rfl) (by kernel_rfl) (by kernel_rfl) (fun _ _ _ h => h) ⟨Or.inl ⟨by rfl, ?th91⟩, fun _ => rfl⟩ ?tr91
                  case th91 => (intro w; go_simp; try with_reducible rfl)
                  refine wpAnyIn_take (i := 2) (v := ?tv92) rfl rfl (by kernel_rfl) (by kernel_rfl) (by kernel_rfl) (fun _ _ _ h => h) ⟨Or.inl ⟨by rfl, ?th92⟩, fun _ => rfl⟩ ?tr92
                  case th92 => (intro w; go_simp; try with_reducible rfl)
                  refine wpAnyIn_ready (rs := [3]) (by kernel_rfl) (by simp) ?_
                  refine AllReadyIn.cons rfl (fun K hK => ?_) ?_
                  · go_simp
                    refine hK _ _ ?_
                    clear hK K
                    exact tail
                  exact AllReadyIn.nil
                exact AllReadyIn.nil
              exact AllReadyIn.nil
            exact AllReadyIn.nil
          case tp81 =>
            refine wpAnyIn_ready (rs := [7]) (by kernel_rfl) (by simp) ?_
            refine AllReadyIn.cons rfl (fun K hK => ?_) AllReadyIn.nil
            go_simp
            gi_wp2_with (gi_at_call 73; refine (callsIn_wide.2 hpt.out).mono ?_; rintro e w5 ⟨rfl, hq⟩; have HQS := Lib.hid hq; clear hq)
            refine wpAnyIn_done (by kernel_rfl) ?_ _
            gi_wp2
            show ∃ O', _ ∧ _
            dsimp only
            rw [HE13.out]
            have hpy : T.prs (K.drop xs k) y (T.pre y k) := Classical.not_not.1 (fun h => HK0.out (HGN.out.2 h))
            have hgy : shGone xs k y = false := by
              unfold shGone
              simp [hpy]
            have hq' : QStep Y Q m0 lim An' Af' (ns'.set i (⟨W1, A, zs, c, ks - 1, le, bw⟩, true)) fs' w5 := by
              obtain ⟨An2, cn2, Af2, cf2, h1, h2, h3⟩ := HQS.out
              exact ⟨An2, cn2, Af2, cf2, h1, chg_of_drew h2, h3⟩
            have hok : T.NdOK (K.drop xs k) pl y (T.pre y k) W1 (ks - 1) le bw zs := by
              have := HL.out HK0.out
              rw [if_neg HLE.out, if_pos HGR.out] at this
              exact this
            exact ShI.step (x := ⟨W1, A, zs, c, ks - 1, le, bw⟩) (b := true) HO.out HS.out h.up hx HYL.out hm HIG.out.symm HG.out (by rw [hgy]; exact HYG.out) (.inr rfl) A (fun g hg => by obtain ⟨hi', hie⟩ := List.getElem?_eq_some_iff.1 HWAY.out; exact ⟨hi', by rw [hie]; exact hg⟩) HWY.out HOY.out (fun j hj => (HXA.out j hj).imp (fun h => h) (fun h => Nat.le_of_lt h)) hq' (fun j hj => by rw [List.getElem?_set_ne (Ne.symm hj)]) (by rw [List.getElem?_set_self (List.getElem?_eq_some_iff.1 HWAY.out).1]) (.inr ⟨rfl, HDG.out.1 hpy, by rw [List.length_set], hok⟩)
        · have e1 : ((le : Int) == (k : Int)) = false := by rw [Bool.eq_false_iff]; intro e; rw [beq_iff_eq] at e; omega
          have e2 : ((gr : Int) == (k : Int)) = false := by rw [Bool.eq_false_iff]; intro e; rw [beq_iff_eq] at e; omega
          have e3 : (((ks - 1 : Nat) : Int) == 0) = false := by rw [Bool.eq_false_iff]; intro e; rw [beq_iff_eq] at e; omega
          have HLE := Lib.hid hle
          have HGR := Lib.hid hgr
          have HK0 := Lib.hid hk0
          clear hle hgr hk0
          gi_wp2
          refine wpIn_world ?_
          rintro Y hYY
          have hB0 := row_set HXB.out 2 (.int .i64 ((ks - 1 : Nat) : Int))
          have hC1 := chg_set X W.heap.size 2 (.int .i64 ((ks - 1 : Nat) : Int)) (fun j => j = W.heap.size) rfl
          have hC2 := chg_set X W.heap.size 2 (.int .i64 ((ks - 1 : Nat) : Int)) (fun j => j = W.heap.size ∨ j = (w2.heap.size + 1)) (.inl rfl)
          simp at hB0
          obtain ⟨Z, hZ⟩ : ∃ Z, Z = (X.setCell ⟨W.heap.size, 2, none⟩ (.int .i64 ((ks - 1 : Nat) : Int))) := ⟨_, rfl⟩
          have hY : Y = Z.setCell ⟨(w2.heap.size + 1), 0, none⟩ (.bool false) := by rw [hYY, hZ]
          have hCZ : K.Chg X Y (fun j => j = W.heap.size ∨ j = (w2.heap.size + 1)) := by rw [hY, hZ]; exact hC2.same (chg_set _ _ 0 _ _ (.inr rfl))
          have hCB : K.Chg Z Y (fun j => j = (w2.heap.size + 1)) := by rw [hY]; exact chg_set _ _ 0 _ _ rfl
          have hZ1 : K.Chg X Z (fun j => j = W.heap.size) := by rw [hZ]; exact hC1
          have hZB : Z.heap[W.heap.size]? = some (.cells #[.int .u64 (W1 : Int), .slice A n c, .int .i64 ((ks - 1 : Nat) : Int), .int .u64 (le : Int), .int .u64 (gr : Int)] 72 (0, 0)) := by rw [hZ]; first | exact hB0 | simpa using hB0
          have YB := (hCB.block W.heap.size (row_lt hZB) (by omega)).trans hZB
          have YG : Y.heap[(w2.heap.size + 1)]? = some (.cells #[.bool false] 4 (0, 0)) := by
            rw [hY]
            have := row_set ((hZ1.block (w2.heap.size + 1) (row_lt HGX.out) (by omega)).trans HGX.out) 0 (.bool false)
            simpa using this
          have Y0 := (hCZ.block _ (row_lt H0.out) (by omega)).trans H0.out
          have YX := (hCZ.block _ (row_lt HXX.out) (by omega)).trans HXX.out
          have YP := (hCZ.block _ (row_lt HPX.out) (by omega)).trans HPX.out
          have k0 := cell_of_row Y _ 0 _ _ (0, 0) Y0
          have k1 := cell_of_row Y _ 1 _ _ (0, 0) YP
          have k2 := cell_of_row Y _ 5 _ _ (0, 0) YX
          simp [scl] at k0 k1 k2
          obtain ⟨u0, u1, u2, u3, u4⟩ := nd_cells YB
          have hWY : K.Chg W Y (fun j => A.map (·.block) = some j ∨ j = (w2.heap.size + 1)) := (HXC.out.mono (fun _ h => .inl h)).trans hCZ (fun j hj => by
            rcases hj with rfl | rfl
            · exact .inr (Nat.le_refl _)
            · exact .inl (.inr rfl))
          obtain ⟨hi', hie⟩ := List.getElem?_eq_some_iff.1 HWAY.out
          have hkn : ∀ j, A.map (·.block) = some j → ¬ QB Q An' Af' j := fun j hj => kid_no HS.out.po HS.out.kids hi' (by rw [hie]; exact hj)
          have hgq : ¬ QB Q An' Af' ((w2.heap.size + 1)) := fun hq => by
            obtain ⟨_, cur, T, hr, _, _, hT, _⟩ := HS.out.types (.inr (.inr (.inl hq)))
            exact row_ne hr HG.out hT rfl
          have hpoY : Qo Y.drew Q m0 lim An' cn' Af' cf' ns' fs' := (HS.out.po.chg hWY (fun j hj h => by
            rcases h with h | rfl
            · exact hkn j h hj
            · exact hgq hj)).drew 1
          have hoY : Y.ownsRow 0 3 1 (.slice A zs.length c) zs.length (iw zs) := hCZ.own HXO.out (fun b h1 h2 => by
            have h3 := own_of_map h1
            rcases HXA.out b h3 with h4 | h4
            · rcases h2 with rfl | rfl
              · have := HAL.out.1 _ h4; omega
              · obtain ⟨cur, hc⟩ := HAL.out.2.2 _ h4
                exact row_ne hc HG.out (by decide) rfl
            · rcases h2 with rfl | rfl
              · omega
              · omega)
          have HWY := Lib.hid hWY
          have HOY := Lib.hid hoY
          have HYG := Lib.hid YG
          have HPO := Lib.hid hpoY
          have hpt := Lib.hid (q_put Y.drew Q m0 lim cn' cf' An' Af' ns' fs' hpoY i hi' (by rw [hie]) W1 A zs c (ks - 1) le gr ⟨W1, A, zs, c, ks - 1, le, gr⟩ rfl)
          rw [HN2.out] at hpt
          clear hB0 hC1 hC2 hY hYY hZ hCZ hCB hZ1 hZB YB YG Y0 YX YP hWY hi' hie hkn hgq hpoY hoY
          refine wpIn_region_any (by kernel_rfl) (wpAnyIn_round (F := Fence.wide) l2 (by kernel_rfl) _ _ _ _ ?_)
          (try (change wpAnyIn _ _ _ _ _ _ _ _ _ (World.drew _)))
          refine with_tail (T := ?TT93) ?tp93 (fun tail => ?bd93)
          case bd93 =>
            refine wpAnyIn_take (i := 4) (v := ?tv94) rfl rfl (by kernel_rfl) (by kernel_rfl) (by kernel_rfl) (fun _ _ _ h => h) ⟨Or.inl ⟨by rfl, ?th94⟩, fun _ => rfl⟩ ?tr94
            case th94 => (intro w; go_simp; try with_reducible rfl)
            refine wpAnyIn_ready (rs := [0, 5, 6]) (by kernel_rfl) (by simp) ?_
            refine AllReadyIn.cons rfl (fun K hK => ?_) ?_
            · go_simp
              refine hK _ _ ?_
              clear hK K
              refine wpAnyIn_take (i := 1) (v := ?tv95) rfl rfl (by kernel_rfl) (by kernel_rfl) (by kernel_rfl) (fun _ _ _ h => h) ⟨Or.inl ⟨by rfl, ?th95⟩, fun _ => rfl⟩ ?tr95
              case th95 => (intro w; go_simp; try with_reducible rfl)
              refine wpAnyIn_take (i := 2) (v := ?tv96) rfl rfl (by kernel_rfl) (by kernel_rfl) (by kernel_rfl) (fun _ _ _ h => h) ⟨Or.inl ⟨by rfl, ?th96⟩, fun _ => rfl⟩ ?tr96
              case th96 => (intro w; go_simp; try with_reducible rfl)
              refine wpAnyIn_ready (rs := [3, 5, 6]) (by kernel_rfl) (by simp) ?_
              refine AllReadyIn.cons rfl (fun K hK => ?_) ?_
              · go_simp
                refine hK _ _ ?_
                clear hK K
                refine wpAnyIn_ready (rs := [5, 6]) (by kernel_rfl) (by simp) ?_
                refine AllReadyIn.cons rfl (fun K hK => ?_) ?_
                · go_simp
                  refine hK _ _ ?_
                  clear hK K
                  refine wpAnyIn_ready (rs := [6]) (by kernel_rfl) (by simp) ?_
                  refine AllReadyIn.cons rfl (fun K hK => ?_) ?_
                  · go_simp
                    refine hK _ _ ?_
                    clear hK K
                    exact tail
                  exact AllReadyIn.nil
                refine AllReadyIn.cons rfl (fun K hK => ?_) ?_
                · go_simp
                  refine hK _ _ ?_
                  clear hK K
                  refine wpAnyIn_ready (rs := [5]) (by kernel_rfl) (by simp) ?_
                  refine AllReadyIn.cons rfl (fun K hK => ?_) ?_
                  · go_simp
                    refine hK _ _ ?_
                    clear hK K
                    exact tail
                  exact AllReadyIn.nil
                exact AllReadyIn.nil
              refine AllReadyIn.cons rfl (fun K hK => ?_) ?_
              · go_simp
                refine hK _ _ ?_
                clear hK K
                refine wpAnyIn_ready (rs := [3, 6]) (by kernel_rfl) (by simp) ?_
                refine AllReadyIn.cons rfl (fun K hK => ?_) ?_
                · go_simp
                  refine hK _ _ ?_
                  clear hK K
                  refine wpAnyIn_ready (rs := [6]) (by kernel_rfl) (by simp) ?_
                  refine AllReadyIn.cons rfl (fun K hK => ?_) ?_
                  · go_simp
                    refine hK _ _ ?_
                    clear hK K
                    exact tail
                  exact AllReadyIn.nil
                refine AllReadyIn.cons rfl (fun K hK => ?_) ?_
                · go_simp
                  refine hK _ _ ?_
                  clear hK K
                  refine wpAnyIn_ready (rs := [3]) (by kernel_rfl) (by simp) ?_
                  refine AllReadyIn.cons rfl (fun K hK => ?_) ?_
                  · go_simp
                    refine hK _ _ ?_
                    clear hK K
                    exact tail
                  exact AllReadyIn.nil
                exact AllReadyIn.nil
              refine AllReadyIn.cons rfl (fun K hK => ?_) ?_
              · go_simp
                refine hK _ _ ?_
                clear hK K
                refine wpAnyIn_ready (rs := [3, 5]) (by kernel_rfl) (by simp) ?_
                refine AllReadyIn.cons rfl (fun K hK => ?_) ?_
                · go_simp
                  refine hK _ _ ?_
                  clear hK K
                  refine wpAnyIn_ready (rs := [5]) (by kernel_rfl) (by simp) ?_
                  refine AllReadyIn.cons rfl (fun K hK => ?_) ?_
                  · go_simp
                    refine hK _ _ ?_
                    clear hK K
                    exact tail
                  exact AllReadyIn.nil
                refine AllReadyIn.cons rfl (fun K hK => ?_) ?_
                · go_simp
                  refine hK _ _ ?_
                  clear hK K
                  refine wpAnyIn_ready (rs := [3]) (by kernel_rfl) (by simp) ?_
                  refine AllReadyIn.cons rfl (fun K hK => ?_) ?_
                  · go_simp
                    refine hK _ _ ?_
                    clear hK K
                    exact tail
                  exact AllReadyIn.nil
                exact AllReadyIn.nil
              exact AllReadyIn.nil
            refine AllReadyIn.cons rfl (fun K hK => ?_) ?_
            · go_simp
              refine hK _ _ ?_
              clear hK K
              refine wpAnyIn_ready (rs := [0, 6]) (by kernel_rfl) (by simp) ?_
              refine AllReadyIn.cons rfl (fun K hK => ?_) ?_
              · go_simp
                refine hK _ _ ?_
                clear hK K
                refine wpAnyIn_take (i := 1) (v := ?tv97) rfl rfl (by kernel_rfl) (by kernel_rfl) (by kernel_rfl) (fun _ _ _ h => h) ⟨Or.inl ⟨by rfl, ?th97⟩, fun _ => rfl⟩ ?tr97
                case th97 => (intro w; go_simp; try with_reducible rfl)
                refine wpAnyIn_take (i := 2) (v := ?tv98) rfl rfl (by kernel_rfl) (by kernel_rfl) (by kernel_rfl) (fun _ _ _ h => h) ⟨Or.inl ⟨by rfl, ?th98⟩, fun _ => rfl⟩ ?tr98
                case th98 => (intro w; go_simp; try with_reducible rfl)
                refine wpAnyIn_ready (rs := [3, 6]) (by kernel_rfl) (by simp) ?_
                refine AllReadyIn.cons rfl (fun K hK => ?_) ?_
                · go_simp
                  refine hK _ _ ?_
                  clear hK K
                  refine wpAnyIn_ready (rs := [6]) (by kernel_rfl) (by simp) ?_
                  refine AllReadyIn.cons rfl (fun K hK => ?_) ?_
                  · go_simp
                    refine hK _ _ ?_
                    clear hK K
                    exact tail
                  exact AllReadyIn.nil
                refine AllReadyIn.cons rfl (fun K hK => ?_) ?_
                · go_simp
                  refine hK _ _ ?_
                  clear hK K
                  refine wpAnyIn_ready (rs := [3]) (by kernel_rfl) (by simp) ?_
                  refine AllReadyIn.cons rfl (fun K hK => ?_) ?_
                  · go_simp
                    refine hK _ _ ?_
                    clear hK K
                    exact tail
                  exact AllReadyIn.nil
                exact AllReadyIn.nil
              refine AllReadyIn.cons rfl (fun K hK => ?_) ?_
              · go_simp
                refine hK _ _ ?_
                clear hK K
                refine wpAnyIn_ready (rs := [0]) (by kernel_rfl) (by simp) ?_
                refine AllReadyIn.cons rfl (fun K hK => ?_) ?_
                · go_simp
                  refine hK _ _ ?_
                  clear hK K
                  refine wpAnyIn_take (i := 1) (v := ?tv99) rfl rfl (by kernel_rfl) (by kernel_rfl) (by kernel_rfl) (fun _ _ _ h => h) ⟨Or.inl ⟨by rfl, ?th99⟩, fun _ => rfl⟩ ?tr99
                  case th99 => (intro w; go_simp; try with_reducible rfl)
                  refine wpAnyIn_take (i := 2) (v := ?tv100) rfl rfl (by kernel_rfl) (by kernel_rfl) (by kernel_rfl) (fun _ _ _ h => h) ⟨Or.inl ⟨by rfl, ?th100⟩, fun _ => rfl⟩ ?tr100
                  case th100 => (intro w; go_simp; try with_reducible rfl)
                  refine wpAnyIn_ready (rs := [3]) (by kernel_rfl) (by simp) ?_
                  refine AllReadyIn.cons rfl (fun K hK => ?_) ?_
                  · go_simp
                    refine hK _ _ ?_
                    clear hK K
                    exact tail
                  exact AllReadyIn.nil
                exact AllReadyIn.nil
              exact AllReadyIn.nil
            refine AllReadyIn.cons rfl (fun K hK => ?_) ?_
            · go_simp
              refine hK _ _ ?_
              clear hK K
              refine wpAnyIn_ready (rs := [0, 5]) (by kernel_rfl) (by simp) ?_
              refine AllReadyIn.cons rfl (fun K hK => ?_) ?_
              · go_simp
                refine hK _ _ ?_
                clear hK K
                refine wpAnyIn_take (i := 1) (v := ?tv101) rfl rfl (by kernel_rfl) (by kernel_rfl) (by kernel_rfl) (fun _ _ _ h => h) ⟨Or.inl ⟨by rfl, ?th101⟩, fun _ => rfl⟩ ?tr101
                case th101 => (intro w; go_simp; try with_reducible rfl)
                refine wpAnyIn_take (i := 2) (v := ?tv102) rfl rfl (by kernel_rfl) (by kernel_rfl) (by kernel_rfl) (fun _ _ _ h => h) ⟨Or.inl ⟨by rfl, ?th102⟩, fun _ => rfl⟩ ?tr102
                case th102 => (intro w; go_simp; try with_reducible rfl)
                refine wpAnyIn_ready (rs := [3, 5]) (by kernel_rfl) (by simp) ?_
                refine AllReadyIn.cons rfl (fun K hK => ?_) ?_
                · go_simp
                  refine hK _ _ ?_
                  clear hK K
                  refine wpAnyIn_ready (rs := [5]) (by kernel_rfl) (by simp) ?_
                  refine AllReadyIn.cons rfl (fun K hK => ?_) ?_
                  · go_simp
                    refine hK _ _ ?_
                    clear hK K
                    exact tail
                  exact AllReadyIn.nil
                refine AllReadyIn.cons rfl (fun K hK => ?_) ?_
                · go_simp
                  refine hK _ _ ?_
                  clear hK K
                  refine wpAnyIn_ready (rs := [3]) (by kernel_rfl) (by simp) ?_
                  refine AllReadyIn.cons rfl (fun K hK => ?_) ?_
                  · go_simp
                    refine hK _ _ ?_
                    clear hK K
                    exact tail
                  exact AllReadyIn.nil
                exact AllReadyIn.nil
              refine AllReadyIn.cons rfl (fun K hK => ?_) ?_
              · go_simp
                refine hK _ _ ?_
                clear hK K
                refine wpAnyIn_ready (rs := [0]) (by kernel_rfl) (by simp) ?_
                refine AllReadyIn.cons rfl (fun K hK => ?_) ?_
                · go_simp
                  refine hK _ _ ?_
                  clear hK K
                  refine wpAnyIn_take (i := 1) (v := ?tv103) rfl rfl (by kernel_rfl) (by kernel_rfl) (by kernel_rfl) (fun _ _ _ h => h) ⟨Or.inl ⟨by rfl, ?th103⟩, fun _ => rfl⟩ ?tr103
                  case th103 => (intro w; go_simp; try with_reducible rfl)
                  refine wpAnyIn_take (i := 2) (v := ?tv104) rfl rfl (by kernel_rfl) (by kernel_rfl) (by kernel_rfl) (fun _ _ _ h => h) ⟨Or.inl ⟨by rfl, ?th104⟩, fun _ => rfl⟩ ?tr104
                  case th104 => (intro w; go_simp; try with_reducible rfl)
                  refine wpAnyIn_ready (rs := [3]) (by kernel_rfl) (by simp) ?_
                  refine AllReadyIn.cons rfl (fun K hK => ?_) ?_
                  · go_simp
                    refine hK _ _ ?_
                    clear hK K
                    exact tail
                  exact AllReadyIn.nil
                exact AllReadyIn.nil
              exact AllReadyIn.nil
            exact AllReadyIn.nil
          case tp93 =>
            refine wpAnyIn_ready (rs := [7]) (by kernel_rfl) (by simp) ?_
            refine AllReadyIn.cons rfl (fun K hK => ?_) AllReadyIn.nil
            go_simp
            gi_wp2_with (gi_at_call 73; refine (callsIn_wide.2 hpt.out).mono ?_; rintro e w5 ⟨rfl, hq⟩; have HQS := Lib.hid hq; clear hq)
            refine wpAnyIn_done (by kernel_rfl) ?_ _
            gi_wp2
            show ∃ O', _ ∧ _
            dsimp only
            rw [HE13.out]
            have hpy : T.prs (K.drop xs k) y (T.pre y k) := Classical.not_not.1 (fun h => HK0.out (HGN.out.2 h))
            have hgy : shGone xs k y = false := by
              unfold shGone
              simp [hpy]
            have hq' : QStep Y Q m0 lim An' Af' (ns'.set i (⟨W1, A, zs, c, ks - 1, le, gr⟩, true)) fs' w5 := by
              obtain ⟨An2, cn2, Af2, cf2, h1, h2, h3⟩ := HQS.out
              exact ⟨An2, cn2, Af2, cf2, h1, chg_of_drew h2, h3⟩
            have hok : T.NdOK (K.drop xs k) pl y (T.pre y k) W1 (ks - 1) le gr zs := by
              have := HL.out HK0.out
              rw [if_neg HLE.out, if_neg HGR.out] at this
              exact this
            exact ShI.step (x := ⟨W1, A, zs, c, ks - 1, le, gr⟩) (b := true) HO.out HS.out h.up hx HYL.out hm HIG.out.symm HG.out (by rw [hgy]; exact HYG.out) (.inr rfl) A (fun g hg => by obtain ⟨hi', hie⟩ := List.getElem?_eq_some_iff.1 HWAY.out; exact ⟨hi', by rw [hie]; exact hg⟩) HWY.out HOY.out (fun j hj => (HXA.out j hj).imp (fun h => h) (fun h => Nat.le_of_lt h)) hq' (fun j hj => by rw [List.getElem?_set_ne (Ne.symm hj)]) (by rw [List.getElem?_set_self (List.getElem?_eq_some_iff.1 HWAY.out).1]) (.inr ⟨rfl, HDG.out.1 hpy, by rw [List.length_set], hok⟩)
end
end Go.Proofs.YtbiingpdchoppaaDoor
