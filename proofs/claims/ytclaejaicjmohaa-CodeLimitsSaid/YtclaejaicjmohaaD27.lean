
/- The law CodePrefixes; the text walked. -/
import Derived.Test.YtclaejaicjmohaaD26
import Derived.Test.YtclaejaicjmohaaD13
namespace Go.Proofs.Ytclaejaicjmohaa
set_option maxRecDepth 20000
open Go.RowKit
namespace E
/-- The numbers of keys, or of pairs, behind their count. -/
def NN (two : Bool) (m : Nat) (l : List (Nat × Nat)) : List Nat := m :: (if two then nums 0 l else gp 0 (l.map (·.1)))
theorem gp_app : ∀ (l : List (Nat × Nat)) (a : Nat) (x : Nat × Nat), gp a ((l ++ [x]).map (·.1)) = gp a (l.map (·.1)) ++ [x.1 - nxt a l]
  | [], _, _ => rfl
  | y :: t, a, x => by
    show (y.1 - a) :: gp (y.1 + 1) ((t ++ [x]).map (·.1)) = ((y.1 - a) :: gp (y.1 + 1) (t.map (·.1))) ++ [x.1 - nxt (y.1 + 1) t]
    rw [gp_app t (y.1 + 1) x]
    rfl
theorem nn_false (m : Nat) (l : List (Nat × Nat)) (x : Nat × Nat) : NN false m (l ++ [x]) = NN false m l ++ [x.1 - nxt 0 l] := by
  show m :: gp 0 ((l ++ [x]).map (·.1)) = (m :: gp 0 (l.map (·.1))) ++ [x.1 - nxt 0 l]
  rw [gp_app]
  rfl
theorem nn_true (m : Nat) (l : List (Nat × Nat)) (x : Nat × Nat) : NN true m (l ++ [x]) = (NN true m l ++ [x.1 - nxt 0 l]) ++ [x.2] := by
  show m :: nums 0 (l ++ [x]) = ((m :: nums 0 l) ++ [x.1 - nxt 0 l]) ++ [x.2]
  rw [nums_app]
  simp
theorem nn_len (two : Bool) (m : Nat) (l : List (Nat × Nat)) : (NN two m l).length ≤ 1 + 2 * l.length := by
  unfold NN
  cases two
  · rw [List.length_cons]; simp only [Bool.false_eq_true, if_false]; rw [gp_len, List.length_map]; omega
  · rw [List.length_cons]; simp only [if_true]; rw [nums_len]; omega
theorem pfx_apart {W : World} {b1 b2 s1 s2 n1 n2 : Nat} {T1 T2 : TypeId} {v1 v2 : Value} {xs1 xs2 : List Value} (h1 : W.ownsRow b1 T1 s1 v1 n1 xs1) (h2 : W.ownsRow b2 T2 s2 v2 n2 xs2) (hT : T1 ≠ T2) : ∀ g, v1.ownBlock = some g → v2.ownBlock ≠ some g := fun g e1 e2 => by
  obtain ⟨A1, c1, rfl⟩ := K.own_form h1
  obtain ⟨A2, c2, rfl⟩ := K.own_form h2
  rcases own_addr h1 with ⟨rfl, _⟩ | ⟨g1, rfl, _, _, cur, hc⟩
  · simp [Value.ownBlock] at e1
  · rcases own_addr h2 with ⟨rfl, _⟩ | ⟨g2, rfl, _, _, cur2, hc2⟩
    · simp [Value.ownBlock] at e2
    · obtain rfl : g1 = g := by simpa [Value.ownBlock] using e1
      obtain rfl : g2 = g1 := by simpa [Value.ownBlock] using e2
      exact row_ne hc hc2 hT rfl
theorem one_u8 {a : Int} : ∀ u ∈ [Value.int .u8 a], u.oneCell' = true := fun u hu => by simp at hu; subst hu; rfl
theorem ty12 : (22 : TypeId) ≠ 39 := by decide
theorem ty21 : (39 : TypeId) ≠ 22 := by decide
theorem own_lit1 (w : World) (a : Value) (T : TypeId) : (w.alloc (.cells #[a] T)).ownsRow w.heap.size T 1 (.slice (some ⟨w.heap.size, 0, none⟩) 1 1) 1 [a] :=
  ⟨rfl, .inr ⟨w.heap.size, 1, #[a], rfl, Nat.le_refl _, heap_alloc_new w _, Nat.le_refl _, by unfold maxLen; omega, rfl, rfl⟩⟩
theorem bb_cut {w W : World} {M N : List (Value × List Nat)} (h : Bb w W M N) {A : Option Addr} {b c t : Nat} {bs : List Nat} (hm : (Value.slice A b c, bs) ∈ M) (ht : t ≤ b) : Bb w W ((.slice A t c, bs.take t) :: M) N :=
  ⟨h.low, fun p hp => by
    rcases List.mem_cons.1 hp with rfl | hp
    · have h1 := h.bx _ hm
      have hl := (h.rb hm).1
      unfold BX at h1 ⊢
      rw [hl] at h1
      have h2 := own_cut h1 ht
      rw [List.length_take, hl, Nat.min_eq_left ht]
      rw [Nat.mul_one, bv, ← List.map_take] at h2
      exact h2
    · exact h.bx p hp, h.kx⟩
/-- One more in a row of a law's own, beside another row of another type. -/
theorem pfx_step {B : Nat} {w W W' : World} {v v2 : Value} {n n2 : Nat} {xs xs2 : List Value} {T T2 : TypeId} {s s2 : Nat} {o : Obj} (hB : B ≤ W.heap.size) (hb : Below B w W) (ho : W.ownsRow B T s v n xs) (h2 : W.ownsRow B T2 s2 v2 n2 xs2) (hT : T ≠ T2) (hg : (W.alloc o).grownBy W' v.ownBlock) :
    W'.ownsRow B T2 s2 v2 n2 xs2 ∧ Below B w W' ∧ B ≤ W'.heap.size :=
  have hbl : Below B w W' := (hb.alloc hB o).grown hg (Nat.le_trans hB (by simp)) (fun g e => (ho.lt g e).1)
  ⟨(ButS.of_grown (S := fun j => v.ownBlock = some j) hg (fun j e => e)).own (h2.alloc o) (fun g hg e => pfx_apart ho h2 hT g e hg), hbl, Nat.le_trans hB (Nat.le_trans (by simp) hg.size)⟩
theorem own_moreW {w : World} {base : Nat} {v : Value} {gs : List Nat} {a : Nat} (h : w.ownsRow base 22 1 v (gs.length + 1) (wv gs ++ [.int .u64 (a : Int)])) : w.ownsRow base 22 1 v (gs ++ [a]).length (wv (gs ++ [a])) := by
  have e : wv (gs ++ [a]) = wv gs ++ [.int .u64 (a : Int)] := by simp [wv]
  rw [e, List.length_append]
  exact h
theorem sub_w1 {a p : Nat} (hp : p < a) (ha : a < 18446744073709551616) : IntKind.u64.wrap ((a : Int) - (p : Int)) = ((a - p : Nat) : Int) := by simp [IntKind.wrap, IntKind.signed, IntKind.bits]; omega
theorem sub_w2 {a p d : Nat} (hp : p < a) (ha : a < 18446744073709551616) (hd : d = a - p - 1) : IntKind.u64.wrap (((a - p : Nat) : Int) - 1) = (d : Int) := by simp [IntKind.wrap, IntKind.signed, IntKind.bits]; omega
theorem sub_w3 {a p d : Nat} (hp : p < a) (ha : a < 18446744073709551616) (hd : d = a - p - 1) : IntKind.u64.wrap ((a : Int) - (p : Int) - 1) = (d : Int) := by simp [IntKind.wrap, IntKind.signed, IntKind.bits]; omega
theorem idx_k {k j : Nat} (h : k = j + 1) (hj : j < 1000) : IntKind.i64.wrap ((k : Int) - 1) = (j : Int) := by rw [IntWalk.i64_in _ (by omega)]; omega
theorem pos_no {k : Nat} (h : k = 0) : decide ((0 : Int) < (k : Int)) = false := decide_eq_false (by omega)
theorem pos_yes {k j : Nat} (h : k = j + 1) : decide ((0 : Int) < (k : Int)) = true := decide_eq_true (by omega)
set_option maxRecDepth 100000 in
set_option maxHeartbeats 8000000 in
theorem law_prefixes (A1 : Option Addr) (c1 : Nat) (xs1 : List (Nat × Nat)) (values : Bool) (cut more : Nat) (w : World) (hr1 : Pq w w.heap.size A1 xs1) (hl1 : xs1.length ≤ 9223372036854775807) (hb1 : ∀ x ∈ xs1, x.1 < 18446744073709551616 ∧ x.2 < 18446744073709551616) (hcut : cut < 65536) (hmore : more < 256) :
    Calls Try.prog 7 #[.slice A1 xs1.length c1, .bool values, .int .u16 (cut : Int), .int .u8 (more : Int)] w fun e w' => e = .returned (.bool true) ∧ Below w.heap.size w w' := by
  obtain ⟨i0, hi, hz0, hz1, hz2⟩ := info_parts3 pair_info
  obtain ⟨j0, hj0, hy0, hy1, hy2⟩ := info_parts u64_info
  obtain ⟨k0, hk0, hb0, hb1z, hb2z⟩ := info_parts byte_info
  obtain ⟨L, hL⟩ : ∃ L, xs1.length = L := ⟨_, rfl⟩
  have HLL := Lib.hid hL
  have HR1 := Lib.hid hr1
  have HB1 := Lib.hid hb1
  have HMB := Lib.hid hmore
  rw [hL] at hl1
  rw [hL]
  clear hL hr1 hb1 hmore
  go_enter Try.func7, Try.ntmps7
  go_wp2_with (go_at_call 8; (with_reducible refine (awake_any _).mono ?_); rintro e W1 ⟨rfl, h⟩; have H1 := Lib.hid h; clear h)
  go_loopw [10, 29] (fun v i wr => ∃ k : Nat, k ≤ L ∧ i = .int .i64 k ∧ Hid (KX wr v (ad ((xs1.take (min k 30)).map (·.1)))) ∧ Hid (Below w.heap.size w wr)) (fun _ i _ => L - (intOf i).toNat)
  case atStart => exact ⟨0, by omega, rfl, Lib.hid (KX.nil _), H1⟩
  case round =>
    obtain ⟨k, hk, rfl, HK, HBL⟩ := hrel
    clear H1
    by_cases hlt : k < L
    · have hlt' : k < xs1.length := by rw [HLL.out]; exact hlt
      obtain ⟨b, off, rfl, hb3, hc0, hc1⟩ := (HR1.out.below HBL.out (Nat.le_refl _)).at hlt'
      have d0 : decide ((k : Int) < (L : Int)) = true := decide_eq_true (by omega)
      have wk : IntKind.i64.wrap ((k : Int) + 1) = (k : Int) + 1 := IntWalk.i64_in _ (by omega)
      have hal : (ad ((xs1.take (min k 30)).map (·.1))).length ≤ 1000000 := by have := ad_len ((xs1.take (min k 30)).map (·.1)); rw [List.length_map, List.length_take] at this; omega
      have hsz := HBL.out.size
      by_cases h30 : k < 30
      · have T2 : decide ((k : Int) < 30) = true := decide_eq_true (by omega)
        have T3 : decide (k < 30) = true := decide_eq_true h30
        have HT : Hid (ad ((xs1.take (min (k + 1) 30)).map (·.1)) = K.add (ad ((xs1.take (min k 30)).map (·.1))) xs1[k].1) := Lib.hid (by
          rw [show min (k + 1) 30 = k + 1 by omega, show min k 30 = k by omega, take_snocQ hlt', List.map_append]
          exact ad_snoc _ _)
        generalize xs1[k] = x at *
        obtain ⟨xa, xb⟩ := x
        dsimp only at hc0 hc1 HT
        generalize ad ((xs1.take (min k 30)).map (·.1)) = ds at *
        have hx0 : (wr.alloc (.cells #[.int .u64 (xa : Int), .int .u64 (xb : Int)] 39)).cell? ⟨wr.heap.size, 0, none⟩ = some (.int .u64 (xa : Int)) := by simp
        have HA := Lib.hid (k_add (wr.alloc (.cells #[.int .u64 (xa : Int), .int .u64 (xb : Int)] 39)) _ ds (HK.out.below ((Below.refl _ wr).alloc (Nat.le_refl _) (.cells #[.int .u64 (xa : Int), .int .u64 (xb : Int)] 39))) hal xa)
        have HBA := Lib.hid (HBL.out.alloc hsz (.cells #[.int .u64 (xa : Int), .int .u64 (xb : Int)] 39))
        clear hal hsz
        go_wp2_with (go_at_call 17; (with_reducible refine HA.out.mono ?_); rintro e w5 ⟨v5, rfl, hk5, hb5, _⟩; have HK5 := Lib.hid hk5; have HB5 := Lib.hid hb5; clear hk5 hb5)
        go_roundw
        case rel => exact ⟨k + 1, by omega, by go_num, Lib.hid (by rw [HT.out]; exact HK5.out), Lib.hid (HBA.out.trans (HB5.out.mono HBA.out.size))⟩
        case measure => simp [intOf]; omega
      · have T2 : decide ((k : Int) < 30) = false := decide_eq_false (by omega)
        have T3 : decide (k < 30) = false := decide_eq_false h30
        have HT : Hid (min (k + 1) 30 = min k 30) := Lib.hid (by omega)
        generalize xs1[k] = x at *
        obtain ⟨xa, xb⟩ := x
        dsimp only at hc0 hc1
        have HBA := Lib.hid (HBL.out.alloc hsz (.cells #[.int .u64 (xa : Int), .int .u64 (xb : Int)] 39))
        have HKA := Lib.hid (HK.out.below ((Below.refl _ wr).alloc (Nat.le_refl _) (.cells #[.int .u64 (xa : Int), .int .u64 (xb : Int)] 39)))
        clear hal hsz
        go_wp2
        go_roundw
        case rel => exact ⟨k + 1, by omega, by go_num, Lib.hid (by rw [HT.out]; exact HKA.out), HBA⟩
        case measure => simp [intOf]; omega
    · have hkn : L = k := by omega
      subst hkn
      obtain ⟨ks, hks⟩ : ∃ ks, ad ((xs1.take (min L 30)).map (·.1)) = ks := ⟨_, rfl⟩
      have hK := HK.out
      rw [hks] at hK
      obtain ⟨m, hm⟩ : ∃ m, ks.length = m := ⟨_, rfl⟩
      have hml : m ≤ L ∧ m ≤ 30 := by
        have := ad_len ((xs1.take (min L 30)).map (·.1))
        rw [hks, List.length_map, List.length_take, hm] at this
        omega
      obtain ⟨hml, hm30⟩ := hml
      have HUK : Hid (K.Up ks) := Lib.hid (by rw [← hks]; exact ad_up _)
      have HXK : Hid (∀ x ∈ ks, x < 18446744073709551616) := Lib.hid (fun x hx => by
        rw [← hks] at hx
        obtain ⟨y, hy, rfl⟩ := List.mem_map.1 (ad_mem _ x hx)
        exact (HB1.out y (List.mem_of_mem_take hy)).1)
      obtain ⟨Z, hZ⟩ : ∃ Z, zp ks xs1 = Z := ⟨_, rfl⟩
      have hkx : ks.length ≤ xs1.length := by rw [hm, HLL.out]; exact hml
      have hZl : Z.length = m := by rw [← hZ, zp_len hkx, hm]
      have HZF : Hid (Z.map (·.1) = ks) := Lib.hid (by rw [← hZ]; exact zp_fst hkx)
      have HZB : Hid (∀ x ∈ Z, x.1 < 18446744073709551616 ∧ x.2 < 18446744073709551616) := Lib.hid (by rw [← hZ]; exact zp_bd HXK.out HB1.out)
      have HZA : Hid (∀ k (h1 : k < Z.length) (h2 : k < ks.length) (h3 : k < xs1.length), Z[k] = (ks[k], xs1[k].2)) := Lib.hid (fun k h1 h2 h3 => by subst hZ; exact zp_at h2 h3)
      obtain ⟨wo, hwo⟩ : ∃ W, W = wr := ⟨_, rfl⟩
      subst hwo
      obtain ⟨Ak, ck, rfl⟩ := K.own_form hK
      rw [hm]
      have HKW : Hid (KX wo (.slice Ak m ck) ks) := Lib.hid (by rw [hm] at hK; exact hK)
      have HM := Lib.hid hm
      have HZL := Lib.hid hZl
      have HLO := HBL
      have wm : IntKind.u64.wrap (m : Int) = (m : Int) := by simp [IntKind.wrap, IntKind.signed, IntKind.bits]; omega
      have HN0 : Hid ((wo.alloc (.cells #[.int .u64 (m : Int)] 22)).ownsRow wo.heap.size 22 1 (.slice (some ⟨wo.heap.size, 0, none⟩) 1 1) (NN values m (Z.take 0)).length (wv (NN values m (Z.take 0)))) := Lib.hid (by cases values <;> exact own_lit1 wo (.int .u64 (m : Int)) 22)
      have HB0 : Hid (Below wo.heap.size wo (wo.alloc (.cells #[.int .u64 (m : Int)] 22))) := Lib.hid ((Below.refl _ wo).alloc (Nat.le_refl _) _)
      clear hK hks hm HK HBL hkx hZl hZ hlt
      go_wp2
      go_loopw [9, 13, 47] (fun mv nv i WQ => ∃ k : Nat, k ≤ m ∧ i = .int .i64 k ∧ Hid (WQ.ownsRow wo.heap.size 39 2 mv (Z.take k).length (pv (Z.take k))) ∧ Hid (WQ.ownsRow wo.heap.size 22 1 nv (NN values m (Z.take k)).length (wv (NN values m (Z.take k)))) ∧ Hid (Below wo.heap.size wo WQ)) (fun _ _ i _ => m - (intOf i).toNat)
      case atStart => exact ⟨0, by omega, rfl, Lib.hid (World.ownsRow_nil _ _ _ _), HN0, HB0⟩
      case round =>
        obtain ⟨k, hk, rfl, HO, HN, HBW⟩ := hrel
        clear HN0 HB0
        obtain ⟨mv, hmv⟩ : ∃ v, v = u9 := ⟨_, rfl⟩
        obtain ⟨nv, hnv⟩ : ∃ v, v = u13 := ⟨_, rfl⟩
        subst hmv hnv
        by_cases hlt : k < m
        · have hk1 : k < ks.length := by rw [HM.out]; exact hlt
          have hk2 : k < xs1.length := by rw [HLL.out]; omega
          have hk3 : k < Z.length := by rw [HZL.out]; exact hlt
          obtain ⟨bk, offk, rfl, _, hck⟩ := ((KX.rwE HKW.out).2.below HBW.out (Nat.le_refl _)).at hk1
          obtain ⟨b, off, rfl, hb3, _, _⟩ := HR1.out.at hk2
          have HVAL : Hid (∀ W, Below wo.heap.size wo W → W.cell? ⟨b, off + k * 2 + 1, none⟩ = some (.int .u64 (xs1[k].2 : Int))) := Lib.hid (fun W hW => by
            obtain ⟨b', off', e, _, _, h⟩ := (HR1.out.below (HLO.out.trans (hW.mono HLO.out.size)) (Nat.le_refl _)).at hk2
            simp only [Option.some.injEq, Addr.mk.injEq] at e
            obtain ⟨rfl, rfl, _⟩ := e
            exact h)
          have hvr := HVAL.out _ HBW.out
          have d0 : (k : Int) < (m : Int) := by omega
          have d1 : (k : Int) < (L : Int) := by omega
          have wk : IntKind.i64.wrap ((k : Int) + 1) = (k : Int) + 1 := IntWalk.i64_in _ (by omega)
          have HT : Hid (Z.take (k + 1) = Z.take k ++ [(ks[k], xs1[k].2)]) := Lib.hid (by rw [take_snocQ hk3, HZA.out k hk3 hk1 hk2])
          have hlen : (Z.take k).length ≤ 30 := by rw [List.length_take]; omega
          have hnl : (NN values m (Z.take k)).length ≤ 61 := by have := nn_len values m (Z.take k); omega
          obtain ⟨dl, hdl⟩ : ∃ dl, ks[k] - nxt 0 (Z.take k) = dl := ⟨_, rfl⟩
          have HDL : Hid (k = 0 ∧ dl = ks[k] ∨ ∃ (j : Nat) (hj : j < ks.length), k = j + 1 ∧ ks[j] < ks[k] ∧ dl = ks[k] - ks[j] - 1) := Lib.hid (by
            rcases Nat.eq_zero_or_pos k with h0 | h0
            · left
              refine ⟨h0, ?_⟩
              subst h0
              rw [← hdl]
              rfl
            · right
              obtain ⟨j, rfl⟩ : ∃ j, k = j + 1 := ⟨k - 1, by omega⟩
              have hj : j < ks.length := by omega
              have hjz : j < Z.length := by omega
              refine ⟨j, hj, rfl, K.up_lt HUK.out (Nat.lt_succ_self _) hk1, ?_⟩
              rw [← hdl, nxt_take hjz, HZA.out j hjz hj (by omega)]
              omega)
          have HS0 : Hid (wo.heap.size ≤ wr.heap.size) := HBW.out.size
          have HTN : Hid (∀ two, NN two m (Z.take (k + 1)) = (if two then (NN two m (Z.take k) ++ [dl]) ++ [xs1[k].2] else NN two m (Z.take k) ++ [dl])) := Lib.hid (fun two => by
            rw [HT.out, ← hdl]
            cases two
            · exact nn_false m _ _
            · exact nn_true m _ _)
          clear hdl
          have hka := HXK.out _ (List.getElem_mem hk1)
          generalize hkv : ks[k] = xa at *
          generalize xs1[k].2 = xb at *
          generalize Z.take k = zk at *
          cases values with
          | false =>
            have HTF : Hid (NN false m (Z.take (k + 1)) = NN false m zk ++ [dl]) := Lib.hid (HTN.out false)
            generalize NN false m zk = nk at *
            rcases HDL.out with ⟨h0, rfl⟩ | ⟨j, hj, hkj, hlt2, hdd⟩
            · have T0 : decide ((0 : Int) < (k : Int)) = false := pos_no h0
              have T1 : decide (0 < k) = false := by rw [h0]; rfl
              clear HDL HTN h0
              go_wp2_with (first
                | (at_builtin; refine wpList_append_own _ rfl (.tmp 63) (.tmp 65) 24 rfl wo.heap.size 22 j0 (.int .u64 0) 1 8 Try.underlying24 hj0 hy0 hy1 hy2 rfl (by decide) nv nk.length (wv nk) rfl (HN.out.alloc _) ⟨wr.heap.size, 0, none⟩ 1 1 [.int .u64 (dl : Int)] rfl rfl (cell_one _ _ _) one_u (by unfold maxLen; omega) (by omega) (by rw [World.size_alloc]; have := HS0.out; omega) ?_
                   intro v5 w5 h5 g5 _
                   have HN5 := Lib.hid (own_moreW h5)
                   have HX5 : Hid (w5.ownsRow wo.heap.size 39 2 mv zk.length (pv zk) ∧ Below wo.heap.size wo w5 ∧ wo.heap.size ≤ w5.heap.size) := Lib.hid (pfx_step HS0.out HBW.out HN.out HO.out ty12 g5)
                   have hv5 := HVAL.out _ HX5.out.2.1
                   clear h5 g5)
                | (at_builtin; refine wpList_append_own _ rfl (.tmp 76) (.tmp 84) 37 rfl wo.heap.size 39 i0 _ 2 16 Try.underlying37 hi hz0 hz1 hz2 rfl (by decide) mv zk.length (pv zk) rfl (HX5.out.1.alloc _) ⟨w5.heap.size, 0, none⟩ 1 1 [.int .u64 (dl : Int), .int .u64 (xb : Int)] rfl rfl (newsP _ _ rfl _ _ _) (fun u hu => int_oneP hu) (by unfold maxLen; omega) (by omega) (by rw [World.size_alloc]; have := HX5.out.2.2; omega) ?_
                   intro v7 w7 h7 g7 _
                   have HO7 := Lib.hid (own_more2 h7)
                   have HX7 := Lib.hid (pfx_step HX5.out.2.2 HX5.out.2.1 HX5.out.1 HN5.out ty21 g7)
                   clear h7 g7))
              go_roundw
              case rel => exact ⟨k + 1, by omega, by go_num, Lib.hid (by rw [HT.out]; exact HO7.out), Lib.hid (by rw [HTF.out]; exact HX7.out.1), Lib.hid HX7.out.2.1⟩
              case measure => simp [intOf]; omega
            · obtain ⟨bk2, offk2, e2, _, hcp⟩ := ((KX.rwE HKW.out).2.below HBW.out (Nat.le_refl _)).at hj
              simp only [Option.some.injEq, Addr.mk.injEq] at e2
              obtain ⟨rfl, rfl, _⟩ := e2
              generalize ks[j] = xp at *
              have hjk : j < k := by rw [hkj]; exact Nat.lt_succ_self j
              have hj9 : j < 1000 := Nat.lt_of_lt_of_le (Nat.lt_trans hjk hlt) (Nat.le_trans hm30 (by decide))
              have wj := idx_k hkj hj9
              have T0 : decide ((0 : Int) < (k : Int)) = true := pos_yes hkj
              have T1 : decide (0 < k) = true := by rw [hkj]; exact decide_eq_true (Nat.succ_pos j)
              have wd1 := sub_w1 hlt2 hka
              have wd2 := sub_w2 hlt2 hka hdd
              have wd3 := sub_w3 hlt2 hka hdd
              have dj : (j : Int) < (m : Int) := Int.ofNat_lt.2 (Nat.lt_trans hjk hlt)
              clear HDL HTN hdd hkj hjk hj9 hlt2
              go_wp2_with (first
                | (at_builtin; refine wpList_append_own _ rfl (.tmp 63) (.tmp 65) 24 rfl wo.heap.size 22 j0 (.int .u64 0) 1 8 Try.underlying24 hj0 hy0 hy1 hy2 rfl (by decide) nv nk.length (wv nk) rfl (HN.out.alloc _) ⟨wr.heap.size, 0, none⟩ 1 1 [.int .u64 (dl : Int)] rfl rfl (cell_one _ _ _) one_u (by unfold maxLen; omega) (by omega) (by rw [World.size_alloc]; have := HS0.out; omega) ?_
                   intro v5 w5 h5 g5 _
                   have HN5 := Lib.hid (own_moreW h5)
                   have HX5 : Hid (w5.ownsRow wo.heap.size 39 2 mv zk.length (pv zk) ∧ Below wo.heap.size wo w5 ∧ wo.heap.size ≤ w5.heap.size) := Lib.hid (pfx_step HS0.out HBW.out HN.out HO.out ty12 g5)
                   have hv5 := HVAL.out _ HX5.out.2.1
                   clear h5 g5)
                | (at_builtin; refine wpList_append_own _ rfl (.tmp 76) (.tmp 84) 37 rfl wo.heap.size 39 i0 _ 2 16 Try.underlying37 hi hz0 hz1 hz2 rfl (by decide) mv zk.length (pv zk) rfl (HX5.out.1.alloc _) ⟨w5.heap.size, 0, none⟩ 1 1 [.int .u64 (xa : Int), .int .u64 (xb : Int)] rfl rfl (newsP _ _ rfl _ _ _) (fun u hu => int_oneP hu) (by unfold maxLen; omega) (by omega) (by rw [World.size_alloc]; have := HX5.out.2.2; omega) ?_
                   intro v7 w7 h7 g7 _
                   have HO7 := Lib.hid (own_more2 h7)
                   have HX7 := Lib.hid (pfx_step HX5.out.2.2 HX5.out.2.1 HX5.out.1 HN5.out ty21 g7)
                   clear h7 g7))
              go_roundw
              case rel => exact ⟨k + 1, by omega, by go_num, Lib.hid (by rw [HT.out]; exact HO7.out), Lib.hid (by rw [HTF.out]; exact HX7.out.1), Lib.hid HX7.out.2.1⟩
              case measure => simp [intOf]; omega
          | true =>
            have HTF : Hid (NN true m (Z.take (k + 1)) = (NN true m zk ++ [dl]) ++ [xb]) := Lib.hid (HTN.out true)
            generalize NN true m zk = nk at *
            rcases HDL.out with ⟨h0, rfl⟩ | ⟨j, hj, hkj, hlt2, hdd⟩
            · have T0 : decide ((0 : Int) < (k : Int)) = false := pos_no h0
              have T1 : decide (0 < k) = false := by rw [h0]; rfl
              clear HDL HTN h0
              go_wp2_with (first
                | (at_builtin; refine wpList_append_own _ rfl (.tmp 63) (.tmp 65) 24 rfl wo.heap.size 22 j0 (.int .u64 0) 1 8 Try.underlying24 hj0 hy0 hy1 hy2 rfl (by decide) nv nk.length (wv nk) rfl (HN.out.alloc _) ⟨wr.heap.size, 0, none⟩ 1 1 [.int .u64 (dl : Int)] rfl rfl (cell_one _ _ _) one_u (by unfold maxLen; omega) (by omega) (by rw [World.size_alloc]; have := HS0.out; omega) ?_
                   intro v5 w5 h5 g5 _
                   have HN5 := Lib.hid (own_moreW h5)
                   have HX5 : Hid (w5.ownsRow wo.heap.size 39 2 mv zk.length (pv zk) ∧ Below wo.heap.size wo w5 ∧ wo.heap.size ≤ w5.heap.size) := Lib.hid (pfx_step HS0.out HBW.out HN.out HO.out ty12 g5)
                   have hv5 := HVAL.out _ HX5.out.2.1
                   clear h5 g5)
                | (at_builtin; refine wpList_append_own _ rfl (.tmp 68) (.tmp 74) 24 rfl wo.heap.size 22 j0 (.int .u64 0) 1 8 Try.underlying24 hj0 hy0 hy1 hy2 rfl (by decide) v5 (nk ++ [dl]).length (wv (nk ++ [dl])) rfl (HN5.out.alloc _) ⟨w5.heap.size, 0, none⟩ 1 1 [.int .u64 (xb : Int)] rfl rfl (cell_one _ _ _) one_u (by unfold maxLen; simp; omega) (by simp; omega) (by rw [World.size_alloc]; have := HX5.out.2.2; omega) ?_
                   intro v6 w6 h6 g6 _
                   have HN6 := Lib.hid (own_moreW h6)
                   have HX6 : Hid (w6.ownsRow wo.heap.size 39 2 mv zk.length (pv zk) ∧ Below wo.heap.size wo w6 ∧ wo.heap.size ≤ w6.heap.size) := Lib.hid (pfx_step HX5.out.2.2 HX5.out.2.1 HN5.out HX5.out.1 ty12 g6)
                   have hv6 := HVAL.out _ HX6.out.2.1
                   clear h6 g6)
                | (at_builtin; refine wpList_append_own _ rfl (.tmp 76) (.tmp 84) 37 rfl wo.heap.size 39 i0 _ 2 16 Try.underlying37 hi hz0 hz1 hz2 rfl (by decide) mv zk.length (pv zk) rfl (HX6.out.1.alloc _) ⟨w6.heap.size, 0, none⟩ 1 1 [.int .u64 (dl : Int), .int .u64 (xb : Int)] rfl rfl (newsP _ _ rfl _ _ _) (fun u hu => int_oneP hu) (by unfold maxLen; omega) (by omega) (by rw [World.size_alloc]; have := HX6.out.2.2; omega) ?_
                   intro v7 w7 h7 g7 _
                   have HO7 := Lib.hid (own_more2 h7)
                   have HX7 := Lib.hid (pfx_step HX6.out.2.2 HX6.out.2.1 HX6.out.1 HN6.out ty21 g7)
                   clear h7 g7))
              go_roundw
              case rel => exact ⟨k + 1, by omega, by go_num, Lib.hid (by rw [HT.out]; exact HO7.out), Lib.hid (by rw [HTF.out]; exact HX7.out.1), Lib.hid HX7.out.2.1⟩
              case measure => simp [intOf]; omega
            · obtain ⟨bk2, offk2, e2, _, hcp⟩ := ((KX.rwE HKW.out).2.below HBW.out (Nat.le_refl _)).at hj
              simp only [Option.some.injEq, Addr.mk.injEq] at e2
              obtain ⟨rfl, rfl, _⟩ := e2
              generalize ks[j] = xp at *
              have hjk : j < k := by rw [hkj]; exact Nat.lt_succ_self j
              have hj9 : j < 1000 := Nat.lt_of_lt_of_le (Nat.lt_trans hjk hlt) (Nat.le_trans hm30 (by decide))
              have wj := idx_k hkj hj9
              have T0 : decide ((0 : Int) < (k : Int)) = true := pos_yes hkj
              have T1 : decide (0 < k) = true := by rw [hkj]; exact decide_eq_true (Nat.succ_pos j)
              have wd1 := sub_w1 hlt2 hka
              have wd2 := sub_w2 hlt2 hka hdd
              have wd3 := sub_w3 hlt2 hka hdd
              have dj : (j : Int) < (m : Int) := Int.ofNat_lt.2 (Nat.lt_trans hjk hlt)
              clear HDL HTN hdd hkj hjk hj9 hlt2
              go_wp2_with (first
                | (at_builtin; refine wpList_append_own _ rfl (.tmp 63) (.tmp 65) 24 rfl wo.heap.size 22 j0 (.int .u64 0) 1 8 Try.underlying24 hj0 hy0 hy1 hy2 rfl (by decide) nv nk.length (wv nk) rfl (HN.out.alloc _) ⟨wr.heap.size, 0, none⟩ 1 1 [.int .u64 (dl : Int)] rfl rfl (cell_one _ _ _) one_u (by unfold maxLen; omega) (by omega) (by rw [World.size_alloc]; have := HS0.out; omega) ?_
                   intro v5 w5 h5 g5 _
                   have HN5 := Lib.hid (own_moreW h5)
                   have HX5 : Hid (w5.ownsRow wo.heap.size 39 2 mv zk.length (pv zk) ∧ Below wo.heap.size wo w5 ∧ wo.heap.size ≤ w5.heap.size) := Lib.hid (pfx_step HS0.out HBW.out HN.out HO.out ty12 g5)
                   have hv5 := HVAL.out _ HX5.out.2.1
                   clear h5 g5)
                | (at_builtin; refine wpList_append_own _ rfl (.tmp 68) (.tmp 74) 24 rfl wo.heap.size 22 j0 (.int .u64 0) 1 8 Try.underlying24 hj0 hy0 hy1 hy2 rfl (by decide) v5 (nk ++ [dl]).length (wv (nk ++ [dl])) rfl (HN5.out.alloc _) ⟨w5.heap.size, 0, none⟩ 1 1 [.int .u64 (xb : Int)] rfl rfl (cell_one _ _ _) one_u (by unfold maxLen; simp; omega) (by simp; omega) (by rw [World.size_alloc]; have := HX5.out.2.2; omega) ?_
                   intro v6 w6 h6 g6 _
                   have HN6 := Lib.hid (own_moreW h6)
                   have HX6 : Hid (w6.ownsRow wo.heap.size 39 2 mv zk.length (pv zk) ∧ Below wo.heap.size wo w6 ∧ wo.heap.size ≤ w6.heap.size) := Lib.hid (pfx_step HX5.out.2.2 HX5.out.2.1 HN5.out HX5.out.1 ty12 g6)
                   have hv6 := HVAL.out _ HX6.out.2.1
                   clear h6 g6)
                | (at_builtin; refine wpList_append_own _ rfl (.tmp 76) (.tmp 84) 37 rfl wo.heap.size 39 i0 _ 2 16 Try.underlying37 hi hz0 hz1 hz2 rfl (by decide) mv zk.length (pv zk) rfl (HX6.out.1.alloc _) ⟨w6.heap.size, 0, none⟩ 1 1 [.int .u64 (xa : Int), .int .u64 (xb : Int)] rfl rfl (newsP _ _ rfl _ _ _) (fun u hu => int_oneP hu) (by unfold maxLen; omega) (by omega) (by rw [World.size_alloc]; have := HX6.out.2.2; omega) ?_
                   intro v7 w7 h7 g7 _
                   have HO7 := Lib.hid (own_more2 h7)
                   have HX7 := Lib.hid (pfx_step HX6.out.2.2 HX6.out.2.1 HX6.out.1 HN6.out ty21 g7)
                   clear h7 g7))
              go_roundw
              case rel => exact ⟨k + 1, by omega, by go_num, Lib.hid (by rw [HT.out]; exact HO7.out), Lib.hid (by rw [HTF.out]; exact HX7.out.1), Lib.hid HX7.out.2.1⟩
              case measure => simp [intOf]; omega
        · have hkm : m = k := by omega
          subst hkm
          have hT : Z.take m = Z := by rw [← HZL.out, List.take_length]
          have hO := HO.out
          have hN := HN.out
          rw [hT] at hO hN
          obtain ⟨nk, hnk⟩ : ∃ l, NN values m Z = l := ⟨_, rfl⟩
          rw [hnk] at hN
          obtain ⟨n2, hn2⟩ : ∃ n, nk.length = n := ⟨_, rfl⟩
          have hn61 : n2 ≤ 61 := by rw [← hn2, ← hnk]; have := nn_len values m Z; rw [HZL.out] at this; omega
          obtain ⟨An, cn, rfl⟩ := K.own_form hN
          obtain ⟨Am, cm, rfl⟩ := own_formP hO
          have HS : Hid (Bb wr wr [] [(.slice Ak m ck, ks), (.slice An n2 cn, nk)]) := Lib.hid ⟨Below.refl _ _, (fun p hp => by cases hp), fun p hp => by
            rcases List.mem_cons.1 hp with rfl | hp
            · exact HKW.out.below HBW.out
            · obtain rfl : p = (.slice An n2 cn, nk) := by simpa using hp
              have := K.kx_of hN rfl
              rw [hn2] at this
              exact this⟩
          have HPQ2 : Hid (Pq wr wr.heap.size Am Z) := Lib.hid (by
            obtain ⟨_, _, e, hq, _⟩ := Pq.of_own hO
            injection e with q1 _ _
            subst q1
            exact hq)
          have HPW : Hid (∀ W M N, Bb wr W M N → Pq W W.heap.size Am Z) := Lib.hid fun W M N h => (HPQ2.out.below h.low (Nat.le_refl _)).more h.low.size
          have HLF : Hid (Below w.heap.size w wr) := Lib.hid (HLO.out.trans (HBW.out.mono HLO.out.size))
          rw [hn2, HZL.out]
          have hnx : ∀ x ∈ nk, x < 18446744073709551616 := fun x hx => by
            rw [← hnk] at hx
            rcases List.mem_cons.1 hx with rfl | hx
            · omega
            · cases values
              · exact gp_lt _ 0 (by rw [HZF.out]; exact HXK.out) x hx
              · exact nums_lt _ 0 HZB.out x hx
          obtain ⟨s, hs⟩ : ∃ s, szs nk = s := ⟨_, rfl⟩
          have hs6 : s ≤ 610 := by rw [← hs]; have := szs_le hnx; rw [hn2] at this; omega
          obtain ⟨b, hb⟩ : ∃ b, b = 1 + s := ⟨_, rfl⟩
          have hb1 : 1 ≤ b := by omega
          have hb6 : b ≤ 611 := by omega
          have ws : IntKind.i64.wrap (1 + (s : Int)) = (b : Int) := by rw [IntWalk.i64_in _ (by omega)]; omega
          have wc : IntKind.i64.wrap (cut : Int) = (cut : Int) := IntWalk.i64_in _ (by omega)
          obtain ⟨t, hti⟩ : ∃ t, t = cut % b := ⟨_, rfl⟩
          have ht2 : t < b := by rw [hti]; exact Nat.mod_lt _ (by omega)
          have ht : t ≤ b := Nat.le_of_lt ht2
          have e1 : (cut : Int) % (b : Int) = (t : Int) := by rw [hti]; exact (Int.natCast_emod _ _).symm
          have e2 : (cut : Int).tmod (b : Int) = (t : Int) := by rw [Int.tmod_eq_emod_of_nonneg (by omega)]; exact e1
          have hti0 : (0 : Int) ≤ (t : Int) := by omega
          have hmx : b + 1 ≤ maxLen := by unfold maxLen; omega
          have hmy : (b + 1) * 1 ≤ 140737488355328 := by omega
          have hbn : ((b : Int) == 0) = false := by simp; omega
          have hbne : (b : Int) ≠ 0 := by omega
          have hmore := HMB.out
          have CS : Hid (∀ W M, Bb wr W M [(.slice Ak m ck, ks), (.slice An n2 cn, nk)] → Calls Try.prog 16 #[.slice An n2 cn] W fun e w' => e = .returned (.int .i64 (s : Int)) ∧ Bb wr w' M [(.slice Ak m ck, ks), (.slice An n2 cn, nk)]) := Lib.hid fun W M h => bb_size h (l := n2) (by simp) (by omega) hnx hs
          have hn6 : m ≤ 262144 := by omega
          cases values with
          | false =>
            obtain ⟨zs, hzs⟩ : ∃ zs, (Z.map fun x => (x.1, 0)) = zs := ⟨_, rfl⟩
            have hzl : zs.length = m := by rw [← hzs, List.length_map, HZL.out]
            have hzk : zs.map (·.1) = ks := by rw [← hzs, List.map_map, ← HZF.out]; rfl
            obtain ⟨B, hB⟩ : ∃ B, bts false zs = B := ⟨_, rfl⟩
            have hBl : B.length = b := by rw [← hB, gaps_len, hzl, hzk, hb, ← hs, ← hnk]; unfold NN; rw [HZF.out]; rfl
            have q1 : Rs 0 zs := rs_of zs 0 (by rw [hzk]; exact HUK.out) (fun x hx => by rw [← hzs] at hx; obtain ⟨y, hy, rfl⟩ := List.mem_map.1 hx; exact ⟨Nat.zero_le _, (HZB.out y hy).1, by show 0 < _; decide⟩)
            have q2 : Vd false zs := fun _ x hx => by rw [← hzs] at hx; obtain ⟨y, _, rfl⟩ := List.mem_map.1 hx; rfl
            have CK : Hid (∀ W M, Bb wr W M [(.slice Ak m ck, ks), (.slice An n2 cn, nk)] → Calls Try.prog 18 #[.slice Ak m ck] W fun e w' => ∃ A' c', e = .returned (.tuple #[.slice A' b c', .int .i64 0]) ∧ Bb wr w' ((.slice A' b c', B) :: M) [(.slice Ak m ck, ks), (.slice An n2 cn, nk)]) := Lib.hid fun W M h => by have := bb_keys_up h (A := Ak) (n := m) (c := ck) (b := b) (zs := zs) (by simp) hzk HUK.out hn6 HXK.out (by rw [hB, hBl]); rw [hB] at this; exact this
            have hby : ∀ x ∈ B, x < 256 := by rw [← hB]; exact bts_byte _ _
            have HLN : Hid ((B ++ [more]).length = b + 1) := Lib.hid (by rw [List.length_append, hBl]; rfl)
            have hp1 : Ps (B.take t) none := ps_less (r := B.drop t) q1 q2 (by rw [hB, List.take_append_drop]) (fun e => by have := congrArg List.length e; rw [List.length_drop, hBl] at this; simp at this; omega)
            have hp2 : Ps (B ++ [more]) none := by rw [← hB]; exact ps_more q1 q2 (by simp)
            have P1 : Hid (∀ W M N A c, Bb wr W M N → (Value.slice A b c, B) ∈ M → Calls Try.prog 21 #[.slice A t c] W fun e w' => e = .returned (.tuple #[.slice none 0 0, .bool false, .int .i64 2]) ∧ Bb wr w' M N) := Lib.hid fun W M N A c h hm => (bb_parse_no (bb_cut h hm ht) (A := A) (b := t) (c := c) (bs := B.take t) (by simp) (by omega) (fun x hx => hby x (List.mem_of_mem_take hx)) hp1).mono (by rintro e w' ⟨rfl, h2⟩; exact ⟨rfl, h2.sub (fun p hp => List.mem_cons_of_mem _ hp) (fun p hp => hp)⟩)
            have P2 : Hid (∀ W M N A c, Bb wr W M N → (Value.slice A (b + 1) c, B ++ [more]) ∈ M → Calls Try.prog 21 #[.slice A (b + 1) c] W fun e w' => e = .returned (.tuple #[.slice none 0 0, .bool false, .int .i64 2]) ∧ Bb wr w' M N) := Lib.hid fun W M N A c h hm => bb_parse_no h hm (by omega) (fun x hx => by
              rcases List.mem_append.1 hx with hx | hx
              · exact hby x hx
              · obtain rfl : x = more := by simpa using hx
                exact hmore) hp2
            have CB : Hid (∀ W M N A c, Bb wr W M N → (Value.slice A b c, B) ∈ M → Calls Try.prog 9 #[.slice A b c, .int .i64 10000] W fun e w' => ∃ A' c', e = .returned (.slice A' b c') ∧ w'.ownsRow W.heap.size 5 1 (.slice A' b c') b (bv B) ∧ Below W.heap.size W w') := Lib.hid fun W M N A c h hm => bb_copy h hm 10000 (by omega) (by decide)
            clear hp1 hp2 hby q1 q2 hB hBl hs hnk hnx hn2 hn61 hs6 hb hti hO hN hT hmore HKW HXK HUK HZB HZF HZA HZL HN HO HBW HR1 HB1
            go_wp2_with (first
              | (go_at_call 18; (with_reducible refine (CK.out _ _ HS.out).mono ?_); rintro e w5 ⟨A5, c5, rfl, h⟩; obtain ⟨cu1, cu2⟩ := cutb_h A5 b c5 t (t : Int) rfl ht (h.rb (A := A5) (n := b) (c := c5) (xs := B) (by simp)).2.1; have H5 := Lib.hid h; clear h)
              | (go_at_call 16; (with_reducible refine (CS.out _ _ H5.out).mono ?_); rintro e w6 ⟨rfl, h⟩; have H6 := Lib.hid h; clear h)
              | (go_at_call 21; (with_reducible refine (P2.out _ _ _ _ _ H10.out (by simp)).mono ?_); rintro e w11 ⟨rfl, h⟩; have H11 := Lib.hid h; clear h)
              | (go_at_call 21; (with_reducible refine (P1.out _ _ _ _ _ H6.out (by simp)).mono ?_); rintro e w7 ⟨rfl, h⟩; have H7 := Lib.hid h; clear h)
              | (go_at_call 9; (with_reducible refine (CB.out _ _ _ _ _ H7.out (by simp)).mono ?_); rintro e w8 ⟨A8, c8, rfl, ho, hb⟩; have HO8 := Lib.hid (ho.alloc (.cells #[.int .u8 (more : Int)] 5)); have HB8 := Lib.hid (hb.alloc hb.size (.cells #[.int .u8 (more : Int)] 5)); have HZ8 : Hid (w7.heap.size ≤ (w8.alloc (.cells #[.int .u8 (more : Int)] 5)).heap.size) := Lib.hid (HB8.out.size); clear ho hb)
              | (at_builtin; refine wpList_append_own _ rfl (.tmp 122) (.tmp 124) 23 rfl w7.heap.size 5 k0 (.int .u8 0) 1 1 Try.underlying23 hk0 hb0 hb1z hb2z rfl (by decide) (.slice A8 b c8) b (bv B) rfl HO8.out ⟨w8.heap.size, 0, none⟩ 1 1 [.int .u8 (more : Int)] rfl rfl (cell_one _ _ _) one_u8 hmx hmy HZ8.out ?_; intro v10 w10 h10 g10 _; obtain ⟨h, A10, c10, hv⟩ := bb_app (ys := [more]) H7.out HB8.out g10 HO8.out h10 rfl HLN.out; subst hv; have H10 := Lib.hid h; clear h h10 g10))
            go_ret
            exact ⟨rfl, HLF.out.trans (H11.out.low.mono HLF.out.size)⟩
          | true =>
            have hup : K.Up (Z.map (·.1)) := by rw [HZF.out]; exact HUK.out
            obtain ⟨B, hB⟩ : ∃ B, bts true Z = B := ⟨_, rfl⟩
            have hBl : B.length = b := by rw [← hB, nums_len2, HZL.out, hb, ← hs, ← hnk]; rfl
            have q1 : Rs 0 Z := rs_of Z 0 hup (fun x hx => ⟨Nat.zero_le _, HZB.out x hx⟩)
            have q2 : Vd true Z := fun h => by cases h
            have CK : Hid (∀ W M, Bb wr W M [(.slice Ak m ck, ks), (.slice An n2 cn, nk)] → Calls Try.prog 18 #[.slice Ak m ck] W fun e w' => ∃ A' b' c', e = .returned (.tuple #[.slice A' b' c', .int .i64 0]) ∧ Bb wr w' M [(.slice Ak m ck, ks), (.slice An n2 cn, nk)]) := Lib.hid fun W M h => (bb_keys_up h (A := Ak) (n := m) (c := ck) (zs := Z) (by simp) HZF.out HUK.out hn6 HXK.out rfl).mono (by rintro e w' ⟨A', c', rfl, h2⟩; exact ⟨A', _, c', rfl, h2.sub (fun p hp => List.mem_cons_of_mem _ hp) (fun p hp => hp)⟩)
            have CP : Hid (∀ W M N, Bb wr W M N → Calls Try.prog 19 #[.slice Am m cm] W fun e w' => ∃ A' c', e = .returned (.tuple #[.slice A' b c', .int .i64 0]) ∧ Bb wr w' ((.slice A' b c', B) :: M) N) := Lib.hid fun W M N h => by have := bb_pairs_up h (b := b) (c := cm) (HPW.out W M N h) HZL.out hup hn6 HZB.out (by rw [hB, hBl]); rw [hB] at this; exact this
            have hby : ∀ x ∈ B, x < 256 := by rw [← hB]; exact bts_byte _ _
            have HLN : Hid ((B ++ [more]).length = b + 1) := Lib.hid (by rw [List.length_append, hBl]; rfl)
            have hp1 : Ps (B.take t) none := ps_less (r := B.drop t) q1 q2 (by rw [hB, List.take_append_drop]) (fun e => by have := congrArg List.length e; rw [List.length_drop, hBl] at this; simp at this; omega)
            have hp2 : Ps (B ++ [more]) none := by rw [← hB]; exact ps_more q1 q2 (by simp)
            have P1 : Hid (∀ W M N A c, Bb wr W M N → (Value.slice A b c, B) ∈ M → Calls Try.prog 21 #[.slice A t c] W fun e w' => e = .returned (.tuple #[.slice none 0 0, .bool false, .int .i64 2]) ∧ Bb wr w' M N) := Lib.hid fun W M N A c h hm => (bb_parse_no (bb_cut h hm ht) (A := A) (b := t) (c := c) (bs := B.take t) (by simp) (by omega) (fun x hx => hby x (List.mem_of_mem_take hx)) hp1).mono (by rintro e w' ⟨rfl, h2⟩; exact ⟨rfl, h2.sub (fun p hp => List.mem_cons_of_mem _ hp) (fun p hp => hp)⟩)
            have P2 : Hid (∀ W M N A c, Bb wr W M N → (Value.slice A (b + 1) c, B ++ [more]) ∈ M → Calls Try.prog 21 #[.slice A (b + 1) c] W fun e w' => e = .returned (.tuple #[.slice none 0 0, .bool false, .int .i64 2]) ∧ Bb wr w' M N) := Lib.hid fun W M N A c h hm => bb_parse_no h hm (by omega) (fun x hx => by
              rcases List.mem_append.1 hx with hx | hx
              · exact hby x hx
              · obtain rfl : x = more := by simpa using hx
                exact hmore) hp2
            have CB : Hid (∀ W M N A c, Bb wr W M N → (Value.slice A b c, B) ∈ M → Calls Try.prog 9 #[.slice A b c, .int .i64 10000] W fun e w' => ∃ A' c', e = .returned (.slice A' b c') ∧ w'.ownsRow W.heap.size 5 1 (.slice A' b c') b (bv B) ∧ Below W.heap.size W w') := Lib.hid fun W M N A c h hm => bb_copy h hm 10000 (by omega) (by decide)
            clear hp1 hp2 hby q1 q2 hB hBl hs hnk hnx hn2 hn61 hs6 hb hti hO hN hT hmore HKW HXK HUK HZB HZF HZA HZL HN HO HBW HR1 HB1
            go_wp2_with (first
              | (go_at_call 18; (with_reducible refine (CK.out _ _ HS.out).mono ?_); rintro e w4 ⟨A4, b4, c4, rfl, h⟩; have H4 := Lib.hid h; clear h)
              | (go_at_call 19; (with_reducible refine (CP.out _ _ _ H4.out).mono ?_); rintro e w5 ⟨A5, c5, rfl, h⟩; obtain ⟨cu1, cu2⟩ := cutb_h A5 b c5 t (t : Int) rfl ht (h.rb (A := A5) (n := b) (c := c5) (xs := B) (by simp)).2.1; have H5 := Lib.hid h; clear h)
              | (go_at_call 16; (with_reducible refine (CS.out _ _ H5.out).mono ?_); rintro e w6 ⟨rfl, h⟩; have H6 := Lib.hid h; clear h)
              | (go_at_call 21; (with_reducible refine (P2.out _ _ _ _ _ H10.out (by simp)).mono ?_); rintro e w11 ⟨rfl, h⟩; have H11 := Lib.hid h; clear h)
              | (go_at_call 21; (with_reducible refine (P1.out _ _ _ _ _ H6.out (by simp)).mono ?_); rintro e w7 ⟨rfl, h⟩; have H7 := Lib.hid h; clear h)
              | (go_at_call 9; (with_reducible refine (CB.out _ _ _ _ _ H7.out (by simp)).mono ?_); rintro e w8 ⟨A8, c8, rfl, ho, hb⟩; have HO8 := Lib.hid (ho.alloc (.cells #[.int .u8 (more : Int)] 5)); have HB8 := Lib.hid (hb.alloc hb.size (.cells #[.int .u8 (more : Int)] 5)); have HZ8 : Hid (w7.heap.size ≤ (w8.alloc (.cells #[.int .u8 (more : Int)] 5)).heap.size) := Lib.hid (HB8.out.size); clear ho hb)
              | (at_builtin; refine wpList_append_own _ rfl (.tmp 122) (.tmp 124) 23 rfl w7.heap.size 5 k0 (.int .u8 0) 1 1 Try.underlying23 hk0 hb0 hb1z hb2z rfl (by decide) (.slice A8 b c8) b (bv B) rfl HO8.out ⟨w8.heap.size, 0, none⟩ 1 1 [.int .u8 (more : Int)] rfl rfl (cell_one _ _ _) one_u8 hmx hmy HZ8.out ?_; intro v10 w10 h10 g10 _; obtain ⟨h, A10, c10, hv⟩ := bb_app (ys := [more]) H7.out HB8.out g10 HO8.out h10 rfl HLN.out; subst hv; have H10 := Lib.hid h; clear h h10 g10))
            go_ret
            exact ⟨rfl, HLF.out.trans (H11.out.low.mono HLF.out.size)⟩
end E
end Go.Proofs.Ytclaejaicjmohaa
