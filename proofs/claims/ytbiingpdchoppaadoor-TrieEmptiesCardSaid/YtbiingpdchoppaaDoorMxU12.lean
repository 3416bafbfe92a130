/- The least and the greatest key below a digit; the text walked. -/
import Derived.Deep.RegionHeld3
import Derived.Test.YtbiingpdchoppaaDoorMgN
import Derived.Test.YtbiingpdchoppaaDoorMgJ
namespace Go.Proofs.YtbiingpdchoppaaDoor
set_option maxRecDepth 40000
open Go.RowKit
def EndsP (w : World) (m0 tk : Nat) (ys : List Nat) (e : Ending) (w' : World) : Prop :=
  ∃ a b tk', e = .returned (.tuple #[.int .u64 ((a : Nat) : Int), .int .u64 ((b : Nat) : Int)]) ∧ ys.head? = some a ∧ ys.getLast? = some b ∧ tk' ≤ tk + 1 ∧ Mx w' m0 tk' ∧ K.Chg w w' (· = m0)
section
variable (w : World) (P Q m0 lim tk root cn cf : Nat) (An Af : Option Addr) (ns : List (Nd × Bool)) (fs xs : List Nat) (pl : Nat → Nat → Nat)
set_option maxHeartbeats 4000000 in
theorem t_ends_last (h : TW w P Q m0 lim tk An cn Af cf ns fs root pl xs) (p W : Nat) (A : Option Addr) (ch : List Nat) (c ks le gr d : Nat) (hok : T.NdOK xs pl 10 p W ks le gr ch) (hd : d ∈ M.bl W) :
    Calls Tryd.prog 78 #[.pointer (some ⟨P, 0, none⟩), ndv W A ch.length c ks le gr, .int .i64 10, .int .i64 (d : Int)] w (EndsP w m0 tk (T.sub xs 11 (p * 64 + d))) := by
  have hdd := T.mem_dgs.1 (hok.bits ▸ hd)
  have hle := T.mem_sub.1 (List.mem_of_head? hok.le)
  have hlt := h.lt _ hle.1
  have hkey := fun V => Lib.hid (t_key V W A ch.length c ks le gr d hlt hdd.1)
  rw [hle.2] at hkey
  have hsub : T.sub xs 11 (p * 64 + d) = [p * 64 + d] := by
    rw [T.sub_last h.up, if_pos (T.prs_last.1 hdd.2)]
  rw [hsub]
  have HX := Lib.hid h.mx
  have hml := h.mx.lt
  generalize p * 64 + d = z at *
  clear h hok hd hdd hle hsub
  have hb0 : Below w.heap.size w (w.alloc (ndo W A ch.length c ks le gr)).drew := below_drewN ((Below.refl _ w).alloc (Nat.le_refl _) _) 1
  have hrow := K.alloc_top w (ndo W A ch.length c ks le gr)
  have hS0 : (w.alloc (ndo W A ch.length c ks le gr)).drew.cell? ⟨w.heap.size, 0, none⟩ = some (.int .u64 (W : Int)) ∧ (w.alloc (ndo W A ch.length c ks le gr)).drew.cell? ⟨w.heap.size, 1, none⟩ = some (.slice A ch.length c) ∧ (w.alloc (ndo W A ch.length c ks le gr)).drew.cell? ⟨w.heap.size, 2, none⟩ = some (.int .i64 (ks : Int)) ∧ (w.alloc (ndo W A ch.length c ks le gr)).drew.cell? ⟨w.heap.size, 3, none⟩ = some (.int .u64 (le : Int)) ∧ (w.alloc (ndo W A ch.length c ks le gr)).drew.cell? ⟨w.heap.size, 4, none⟩ = some (.int .u64 (gr : Int)) := nd_cells (w := (w.alloc (ndo W A ch.length c ks le gr)).drew) hrow
  have hSn : ∀ V V', V.heap.size ≤ V'.heap.size → w.heap.size < V.heap.size → Below V.heap.size V V' → (V.cell? ⟨w.heap.size, 0, none⟩ = some (.int .u64 (W : Int)) ∧ V.cell? ⟨w.heap.size, 1, none⟩ = some (.slice A ch.length c) ∧ V.cell? ⟨w.heap.size, 2, none⟩ = some (.int .i64 (ks : Int)) ∧ V.cell? ⟨w.heap.size, 3, none⟩ = some (.int .u64 (le : Int)) ∧ V.cell? ⟨w.heap.size, 4, none⟩ = some (.int .u64 (gr : Int))) → (V'.cell? ⟨w.heap.size, 0, none⟩ = some (.int .u64 (W : Int)) ∧ V'.cell? ⟨w.heap.size, 1, none⟩ = some (.slice A ch.length c) ∧ V'.cell? ⟨w.heap.size, 2, none⟩ = some (.int .i64 (ks : Int)) ∧ V'.cell? ⟨w.heap.size, 3, none⟩ = some (.int .u64 (le : Int)) ∧ V'.cell? ⟨w.heap.size, 4, none⟩ = some (.int .u64 (gr : Int))) := fun V V' _ hlt hb hs =>
    ⟨(hb.cell (p := ⟨w.heap.size, 0, none⟩) hlt).trans hs.1, (hb.cell (p := ⟨w.heap.size, 1, none⟩) hlt).trans hs.2.1, (hb.cell (p := ⟨w.heap.size, 2, none⟩) hlt).trans hs.2.2.1, (hb.cell (p := ⟨w.heap.size, 3, none⟩) hlt).trans hs.2.2.2.1, (hb.cell (p := ⟨w.heap.size, 4, none⟩) hlt).trans hs.2.2.2.2⟩
  have HSN := Lib.hid hSn
  have HS0 := Lib.hid hS0
  have HB0 := Lib.hid hb0
  have hsz : (w.alloc (ndo W A ch.length c ks le gr)).drew.heap.size = w.heap.size + 1 := by show (w.heap.push _).size = _; simp
  have HSZ := Lib.hid hsz
  clear hrow hS0 hSn hb0 hsz
  go_enter Tryd.func78, Tryd.ntmps78
  go_wp2
  go_region_held3 (fun X => (X.cell? ⟨w.heap.size, 0, none⟩ = some (.int .u64 (W : Int)) ∧ X.cell? ⟨w.heap.size, 1, none⟩ = some (.slice A ch.length c) ∧ X.cell? ⟨w.heap.size, 2, none⟩ = some (.int .i64 (ks : Int)) ∧ X.cell? ⟨w.heap.size, 3, none⟩ = some (.int .u64 (le : Int)) ∧ X.cell? ⟨w.heap.size, 4, none⟩ = some (.int .u64 (gr : Int)))) (first | exact HS0.out | exact HS2.out | exact HS1.out | go_keep) (first
    | (go_at_call 59; refine (hkey (w.alloc (ndo W A ch.length c ks le gr)).drew).out.mono ?_; rintro e w1 ⟨rfl, hb1⟩
       have HB1 := Lib.hid hb1
       have hs1 := hb1.size
       rw [HSZ.out] at hs1
       have HS1 := Lib.hid (HSN.out _ _ hb1.size (by rw [HSZ.out]; omega) hb1 HS0.out)
       clear hb1)
    | (go_at_call 59; refine (hkey w1).out.mono ?_; rintro e w2 ⟨rfl, hb2⟩
       have HB2 := Lib.hid hb2
       have HS2 := Lib.hid (HSN.out _ _ hb2.size (by omega) hb2 HS1.out)
       clear hb2))
  all_goals
    go_wp2
    go_ret2
    have hb3 : Below w.heap.size w w2 := (HB0.out.trans (HB1.out.mono (by rw [HSZ.out]; omega))).trans (HB2.out.mono (by omega))
    exact ⟨z, z, tk, rfl, rfl, rfl, by omega, HX.out.chg (K.Chg.of_below (O := fun _ => False) hb3) (fun h => h), K.Chg.of_below hb3⟩
set_option maxHeartbeats 4000000 in
theorem t_ends_in (h : TW w P Q m0 lim tk An cn Af cf ns fs root pl xs) (htk : tk < 100000) (l p W : Nat) (A : Option Addr) (ch : List Nat) (c ks le gr d : Nat) (hl : l < 10) (hok : T.NdOK xs pl l p W ks le gr ch) (hd : d ∈ M.bl W) (hown : w.ownsRow 0 3 1 (.slice A ch.length c) ch.length (iw ch)) :
    Calls Tryd.prog 78 #[.pointer (some ⟨P, 0, none⟩), ndv W A ch.length c ks le gr, .int .i64 (l : Int), .int .i64 (d : Int)] w (EndsP w m0 tk (T.sub xs (l + 1) (p * 64 + d))) := by
  have hdd := T.mem_dgs.1 (hok.bits ▸ hd)
  obtain ⟨hr, hre⟩ := hok.child hl hd
  have hchl : ch.length ≤ 64 := by
    rw [hok.ch, if_pos hl, List.length_map]
    unfold T.dgs
    exact Nat.le_trans (List.length_filter_le _ _) (by simp)
  have hb0 : Below w.heap.size w (w.alloc (ndo W A ch.length c ks le gr)) := (Below.refl _ w).alloc (Nat.le_refl _) _
  have hb0d : Below w.heap.size w (w.alloc (ndo W A ch.length c ks le gr)).drew := below_drewN hb0 1
  have hown0 := (K.Chg.of_below (O := fun _ => False) hb0d).own hown (fun _ _ h => h)
  have hch := Lib.hid (t_child (w.alloc (ndo W A ch.length c ks le gr)).drew W A ch c ks le gr d hok.wlt hdd.1 hown0 hr hchl)
  have hchg := fun V (hb : Below w.heap.size w V) => t_child V W A ch c ks le gr d hok.wlt hdd.1 ((K.Chg.of_below (O := fun _ => False) hb).own hown (fun _ _ h => h)) hr hchl
  rw [hre] at hch hchg
  obtain ⟨hci, hcn, hcok⟩ := h.node (l := l + 1) (p := p * 64 + d) (by omega) hdd.2
  have hHE := Lib.hid (And.intro hcok.le hcok.gr)
  have hat := fun V (hb : Below w.heap.size w V) => Lib.hid (q_at_yes V Q m0 lim cn cf An Af ns fs (h.po.chg (K.Chg.of_below (O := fun _ => False) hb) (fun _ _ h => h)) _ hci (by rw [hcn]) tk (h.mx.chg (K.Chg.of_below (O := fun _ => False) hb) (fun h => h)) (by omega))
  rw [hcn] at hat
  have HX := Lib.hid h.mx
  have hml := h.mx.lt
  have HP := row_lt h.row
  have hP1 := cell_of_row w P 1 _ _ (0, 0) h.row
  have hP1 : w.cell? ⟨P, 1, none⟩ = some (.pointer (some ⟨Q, 0, none⟩)) := hP1
  have hnePM := h.ne_m.2.1
  have e10 : ((l : Int) == 10) = false := by simp; omega
  generalize pl (l + 1) (p * 64 + d) = ci at *
  generalize nat ns ci = nd at *
  obtain ⟨W', A', ch', c', ks', le', gr'⟩ := nd
  have hHE : Hid ((T.sub xs (l + 1) (p * 64 + d)).head? = some le' ∧ (T.sub xs (l + 1) (p * 64 + d)).getLast? = some gr') := hHE
  have hat : ∀ V (hb : Below w.heap.size w V), Hid (Calls Tryd.prog 47 #[.pointer (some ⟨Q, 0, none⟩), .int .i64 (ci : Int)] V (AtP V m0 (tk + 1) (ndv W' A' ch'.length c' ks' le' gr') true)) := hat
  generalize T.sub xs (l + 1) (p * 64 + d) = ys at *
  clear h hok hd hdd hr hre hci hcn hcok hown hown0
  have hrow := K.alloc_top w (ndo W A ch.length c ks le gr)
  have hS0 : (w.alloc (ndo W A ch.length c ks le gr)).drew.cell? ⟨P, 1, none⟩ = some (.pointer (some ⟨Q, 0, none⟩)) ∧ (w.alloc (ndo W A ch.length c ks le gr)).drew.cell? ⟨w.heap.size, 0, none⟩ = some (.int .u64 (W : Int)) ∧ (w.alloc (ndo W A ch.length c ks le gr)).drew.cell? ⟨w.heap.size, 1, none⟩ = some (.slice A ch.length c) ∧ (w.alloc (ndo W A ch.length c ks le gr)).drew.cell? ⟨w.heap.size, 2, none⟩ = some (.int .i64 (ks : Int)) ∧ (w.alloc (ndo W A ch.length c ks le gr)).drew.cell? ⟨w.heap.size, 3, none⟩ = some (.int .u64 (le : Int)) ∧ (w.alloc (ndo W A ch.length c ks le gr)).drew.cell? ⟨w.heap.size, 4, none⟩ = some (.int .u64 (gr : Int)) := ⟨(hb0d.cell (p := ⟨P, 1, none⟩) HP).trans hP1, nd_cells (w := (w.alloc (ndo W A ch.length c ks le gr)).drew) hrow⟩
  have hsz : (w.alloc (ndo W A ch.length c ks le gr)).drew.heap.size = w.heap.size + 1 := by show (w.heap.push _).size = _; simp
  have hSn : ∀ (O : Nat → Prop) V', ¬ O P → ¬ O w.heap.size → K.Chg (w.alloc (ndo W A ch.length c ks le gr)).drew V' O → (V'.cell? ⟨P, 1, none⟩ = some (.pointer (some ⟨Q, 0, none⟩)) ∧ V'.cell? ⟨w.heap.size, 0, none⟩ = some (.int .u64 (W : Int)) ∧ V'.cell? ⟨w.heap.size, 1, none⟩ = some (.slice A ch.length c) ∧ V'.cell? ⟨w.heap.size, 2, none⟩ = some (.int .i64 (ks : Int)) ∧ V'.cell? ⟨w.heap.size, 3, none⟩ = some (.int .u64 (le : Int)) ∧ V'.cell? ⟨w.heap.size, 4, none⟩ = some (.int .u64 (gr : Int))) := fun O V' h1 h2 hc =>
    ⟨(hc.cell (by omega) h1 1).trans hS0.1, (hc.cell (by omega) h2 0).trans hS0.2.1, (hc.cell (by omega) h2 1).trans hS0.2.2.1, (hc.cell (by omega) h2 2).trans hS0.2.2.2.1, (hc.cell (by omega) h2 3).trans hS0.2.2.2.2.1, (hc.cell (by omega) h2 4).trans hS0.2.2.2.2.2⟩
  have HSN := Lib.hid hSn
  have HS0 := Lib.hid hS0
  have HB0 := Lib.hid hb0d
  have HSZ := Lib.hid hsz
  have HNE := Lib.hid hnePM
  clear hrow hS0 hSn hb0 hb0d hsz hnePM
  go_enter Tryd.func78, Tryd.ntmps78
  go_wp2
  have hz0b : K.Chg (w.alloc (ndo W A ch.length c ks le gr)).drew ((w.alloc (ndo W A ch.length c ks le gr)).alloc ndzo).drew (fun _ => False) := ⟨rfl, rfl, rfl, by show (w.heap.push _).size ≤ ((w.heap.push _).push _).size; simp, fun g hg _ => Below.heap_alloc (w.alloc (ndo W A ch.length c ks le gr)) ndzo g hg⟩
  have HC0b := Lib.hid hz0b
  have HS0b := Lib.hid (HSN.out _ _ (fun h => h) (fun h => h) hz0b)
  have hzb := top_two w (ndo W A ch.length c ks le gr) ndzo
  have HZB := Lib.hid hzb
  have hszb : ((w.alloc (ndo W A ch.length c ks le gr)).alloc ndzo).drew.heap.size = w.heap.size + 2 := by show ((w.heap.push _).push _).size = _; simp
  have HSZB := Lib.hid hszb
  have hBb : Below w.heap.size w ((w.alloc (ndo W A ch.length c ks le gr)).alloc ndzo).drew := below_drewN (((Below.refl _ w).alloc (Nat.le_refl _) _).alloc (by simp) _) 1
  have HBB := Lib.hid hBb
  have hch2 := Lib.hid (hchg _ hBb)
  clear hz0b hzb hszb hBb
  go_region_held3 (fun X => X.cell? ⟨P, 1, none⟩ = some (.pointer (some ⟨Q, 0, none⟩)) ∧ X.cell? ⟨w.heap.size, 0, none⟩ = some (.int .u64 (W : Int)) ∧ X.cell? ⟨w.heap.size, 1, none⟩ = some (.slice A ch.length c) ∧ X.cell? ⟨w.heap.size, 2, none⟩ = some (.int .i64 (ks : Int)) ∧ X.cell? ⟨w.heap.size, 3, none⟩ = some (.int .u64 (le : Int)) ∧ X.cell? ⟨w.heap.size, 4, none⟩ = some (.int .u64 (gr : Int))) (first | (with_reducible exact HS0.out) | (with_reducible exact HS0b.out) | (with_reducible exact HS5.out _ _ _ _ _) | (with_reducible exact HS2.out) | (with_reducible exact HS1.out) | (with_reducible exact HS1a.out _) | (with_reducible exact HS3.out _) | go_keep) (first
    | (go_at_call 69; (with_reducible refine hch.out.mono ?_); rintro e w1 ⟨rfl, hb1⟩
       have hs1 := hb1.size
       rw [HSZ.out] at hs1
       have HB1 := Lib.hid (HB0.out.trans (hb1.mono (by rw [HSZ.out]; omega)))
       have HC1 : Hid (K.Chg (w.alloc (ndo W A ch.length c ks le gr)).drew w1 (fun _ => False)) := Lib.hid (K.Chg.of_below hb1)
       have HS1 := Lib.hid (HSN.out _ _ (fun h => h) (fun h => h) HC1.out)
       have HS1a := Lib.hid (fun o => HSN.out _ _ (fun h => h) (fun h => h) (HC1.out.same (chg_alloc w1 o _)))
       have HN := Lib.hid True.intro
       clear hb1)
    | (go_at_call 69; (with_reducible refine hch2.out.mono ?_); rintro e w1 ⟨rfl, hb1⟩
       have hs1 := hb1.size
       rw [HSZB.out] at hs1
       have HB1 := Lib.hid (HBB.out.trans (hb1.mono (by rw [HSZB.out]; omega)))
       have HC1 : Hid (K.Chg (w.alloc (ndo W A ch.length c ks le gr)).drew w1 (fun _ => False)) := Lib.hid (HC0b.out.same (K.Chg.of_below hb1))
       have HS1 := Lib.hid (HSN.out _ _ (fun h => h) (fun h => h) HC1.out)
       have ZB1 := Lib.hid ((hb1.block (w.heap.size + 1) (by rw [HSZB.out]; omega)).trans HZB.out)
       clear hb1)
    | (go_at_call 47; (with_reducible refine (hat w1 HB1.out).out.mono ?_); rintro e w2 ⟨rfl, hm2, hc2⟩
       have zz := (hc2.block (w.heap.size + 1) (by omega) (by omega)).trans ZB1.out
       obtain ⟨t0, t1, t2, t3, t4⟩ := nd_cells zz
       have f0 := frozen_of_row _ _ 0 _ _ zz
       have f1 := frozen_of_row _ _ 1 _ _ zz
       have f2 := frozen_of_row _ _ 2 _ _ zz
       have f3 := frozen_of_row _ _ 3 _ _ zz
       have f4 := frozen_of_row _ _ 4 _ _ zz
       have HM2 := Lib.hid hm2
       have hs2 := hc2.size
       have HC2 : Hid (K.Chg w w2 (· = m0)) := Lib.hid ((K.Chg.of_below (O := (· = m0)) HB1.out).same hc2)
       have HCC : Hid (K.Chg (w.alloc (ndo W A ch.length c ks le gr)).drew w2 (· = m0)) := Lib.hid ((HC1.out.mono (fun _ h => h.elim)).same hc2)
       have HS2 := Lib.hid (HSN.out (· = m0) _ HNE.out (by omega) HCC.out)
       have HS5 := Lib.hid (fun a b c d e => HSN.out (fun j => j = m0 ∨ j = w.heap.size + 1) (((((w2.setCell ⟨w.heap.size + 1, 0, none⟩ a).setCell ⟨w.heap.size + 1, 1, none⟩ b).setCell ⟨w.heap.size + 1, 2, none⟩ c).setCell ⟨w.heap.size + 1, 3, none⟩ d).setCell ⟨w.heap.size + 1, 4, none⟩ e) (fun h => by rcases h with h | h; exact HNE.out h; omega) (by omega) ((HCC.out.mono (fun _ h => .inl h)).same (chg_five w2 (w.heap.size + 1) 0 1 2 3 4 a b c d e _ (.inr rfl))))
       have HG := Lib.hid (fun a b c d e => chg_five w2 (w.heap.size + 1) 0 1 2 3 4 a b c d e (fun j => j = w.heap.size + 1) rfl)
       have HGE := Lib.hid (show w.heap.size ≤ w.heap.size + 1 ∧ w.heap.size + 1 ≠ m0 from ⟨by omega, by omega⟩)
       clear hm2 hc2 zz)
    | (go_at_call 47; (with_reducible refine (hat w1 HB1.out).out.mono ?_); rintro e w2 ⟨rfl, hm2, hc2⟩
       have hN := HN
       have HM2 := Lib.hid hm2
       have hs2 := hc2.size
       have HC2 : Hid (K.Chg w w2 (· = m0)) := Lib.hid ((K.Chg.of_below (O := (· = m0)) HB1.out).same hc2)
       have HS2 := Lib.hid (HSN.out (· = m0) _ HNE.out (by omega) ((HC1.out.mono (fun _ h => h.elim)).same hc2))
       have HS3 := Lib.hid (fun o => HSN.out (· = m0) (w2.alloc o) HNE.out (by omega) (((HC1.out.mono (fun _ h => h.elim)).same hc2).same (chg_alloc w2 o _)))
       clear hm2 hc2)
    | (go_at_call 47; (with_reducible refine (hat (w1.alloc ndzo) (HB1.out.alloc HB1.out.size _)).out.mono ?_); rintro e w2 ⟨rfl, hm2, hc2⟩
       have hsa : (w1.alloc ndzo).heap.size = w1.heap.size + 1 := (by simp)
       have zz := (hc2.block w1.heap.size (by omega) (by omega)).trans (K.alloc_top w1 ndzo)
       obtain ⟨t0, t1, t2, t3, t4⟩ := nd_cells zz
       have f0 := frozen_of_row _ _ 0 _ _ zz
       have f1 := frozen_of_row _ _ 1 _ _ zz
       have f2 := frozen_of_row _ _ 2 _ _ zz
       have f3 := frozen_of_row _ _ 3 _ _ zz
       have f4 := frozen_of_row _ _ 4 _ _ zz
       have HM2 := Lib.hid hm2
       have hs2 := hc2.size
       rw [hsa] at hs2
       have HC2 : Hid (K.Chg w w2 (· = m0)) := Lib.hid ((K.Chg.of_below (O := (· = m0)) (HB1.out.alloc HB1.out.size _)).same hc2)
       have HCC : Hid (K.Chg (w.alloc (ndo W A ch.length c ks le gr)).drew w2 (· = m0)) := Lib.hid (((HC1.out.same (chg_alloc w1 ndzo _)).mono (fun _ h => h.elim)).same hc2)
       have HS2 := Lib.hid (HSN.out (· = m0) _ HNE.out (by omega) HCC.out)
       have HS5 := Lib.hid (fun a b c d e => HSN.out (fun j => j = m0 ∨ j = w1.heap.size) (((((w2.setCell ⟨w1.heap.size, 0, none⟩ a).setCell ⟨w1.heap.size, 1, none⟩ b).setCell ⟨w1.heap.size, 2, none⟩ c).setCell ⟨w1.heap.size, 3, none⟩ d).setCell ⟨w1.heap.size, 4, none⟩ e) (fun h => by rcases h with h | h; exact HNE.out h; omega) (by omega) ((HCC.out.mono (fun _ h => .inl h)).same (chg_five w2 w1.heap.size 0 1 2 3 4 a b c d e _ (.inr rfl))))
       have HG := Lib.hid (fun a b c d e => chg_five w2 w1.heap.size 0 1 2 3 4 a b c d e (fun j => j = w1.heap.size) rfl)
       have HGE := Lib.hid (show w.heap.size ≤ w1.heap.size ∧ w1.heap.size ≠ m0 from ⟨by omega, by omega⟩)
       clear hm2 hc2 zz hsa))
  all_goals
    go_wp2
    go_quiet (fail)
    go_wp2
    go_ret2
    first
    | (have hgg := HGE.out
       exact ⟨le', gr', tk + 1, rfl, hHE.out.1, hHE.out.2, Nat.le_refl _, HM2.out.chg (O := fun j => j = _) (by repeat (first | exact HG.out _ _ _ _ _ | refine K.Chg.drewN ?_ _)) (fun h => hgg.2 h.symm), HC2.out.trans (O1 := fun j => j = _) (by repeat (first | exact HG.out _ _ _ _ _ | refine K.Chg.drewN ?_ _)) (fun j h => .inr (by omega))⟩)
    | exact ⟨le', gr', tk + 1, rfl, hHE.out.1, hHE.out.2, Nat.le_refl _, HM2.out.chg (O := fun _ => False) (by repeat (first | exact chg_alloc _ _ _ | refine K.Chg.drewN ?_ _)) (fun h => h), HC2.out.same (by repeat (first | exact chg_alloc _ _ _ | refine K.Chg.drewN ?_ _))⟩
end
end Go.Proofs.YtbiingpdchoppaaDoor
