
/- The document's Bits: a strip's words out of its list; the text walked. -/
import Derived.Test.YtnpdndcgmfhbdaaDoorSLay
import Derived.Test.YtnpdndcgmfhbdaaDoorButG
namespace Go.Proofs.YtnpdndcgmfhbdaaDoor
open Go.RowKit
theorem wd_step (u i : Nat) : u / 2 ^ i = 2 * (u / 2 ^ (i + 1)) + (if u.testBit i then 1 else 0) := by
  have h1 : u / 2 ^ (i + 1) = u / 2 ^ i / 2 := by rw [Nat.pow_succ, Nat.div_div_eq_div_mul]
  rw [h1, Nat.testBit_eq_decide_div_mod_eq]
  have h2 := Nat.div_add_mod (u / 2 ^ i) 2
  have h3 := Nat.mod_lt (u / 2 ^ i) (show 0 < 2 by omega)
  by_cases h : u / 2 ^ i % 2 = 1
  · simp only [h, decide_true, if_true]; omega
  · simp only [h, decide_false, Bool.false_eq_true, if_false]; omega
theorem wd_lt {u : Nat} (hu : u < 18446744073709551616) (i : Nat) : u / 2 ^ i < 18446744073709551616 := Nat.lt_of_le_of_lt (Nat.div_le_self _ _) hu
set_option maxHeartbeats 1000000 in
theorem ref_word (A : Option Addr) (c : Nat) (xs : List Int) (u : Nat) (hu : u < 18446744073709551616) (hx : ∀ j : Nat, j < 64 → M.rHas xs (j : Int) = u.testBit j) (w : World) (B : Nat) (hr : Rd w B A xs) (hl : xs.length ≤ 4611686018427387904) :
    Calls Tryd.prog 20 #[.slice A xs.length c] w fun e w' => e = .returned (.int .u64 (u : Int)) ∧ w = w' := by
  have hxH := Lib.hid hx
  clear hx
  have huH := Lib.hid hu
  clear hu
  go_enter Tryd.func20, Tryd.ntmps20
  go_wp2
  go_loop [3, 4] (fun q i => ∃ k m : Nat, k ≤ 64 ∧ i = .int .i64 ((k : Int) - 1) ∧ q = .int .u64 (m : Int) ∧ Hid (m = u / 2 ^ k)) (fun _ i => (intOf i + 1).toNat)
  case atStart => exact ⟨64, 0, by omega, rfl, rfl, (Nat.div_eq_of_lt (by have := huH.out; omega)).symm⟩
  case round =>
    obtain ⟨k, m, hk, rfl, rfl, hm⟩ := hrel
    by_cases hlt : 1 ≤ k
    · obtain ⟨j, rfl⟩ : ∃ j, k = j + 1 := ⟨k - 1, by omega⟩
      have e0 : (((j + 1 : Nat) : Int) - 1) = (j : Int) := by omega
      have g1 : decide ((0 : Int) ≤ (j : Int)) = true := decide_eq_true (by omega)
      have hst := wd_step u j
      rw [← show m = u / 2 ^ (j + 1) from hm] at hst
      have hlt2 := wd_lt huH.out j
      have e1 : IntKind.u64.wrap ((m : Int) * 2) = ((2 * m : Nat) : Int) := by
        have : 2 * m < 18446744073709551616 := by omega
        unfold IntKind.wrap; simp [IntKind.signed, IntKind.bits]; omega
      have e3 : IntKind.i64.wrap ((j : Int) - 1) = (j : Int) - 1 := by unfold IntKind.wrap; simp [IntKind.signed, IntKind.bits]; omega
      have hhas := hxH.out j (by omega)
      rw [e0]
      by_cases hb : u.testBit j = true
      · rw [hb] at hhas hst
        rw [if_pos rfl] at hst
        have e2 : IntKind.u64.wrap (((2 * m : Nat) : Int) + 1) = ((2 * m + 1 : Nat) : Int) := by
          have : 2 * m + 1 < 18446744073709551616 := by omega
          unfold IntKind.wrap; simp [IntKind.signed, IntKind.bits]; omega
        have hres : Hid (2 * m + 1 = u / 2 ^ j) := hst.symm
        clear hst hlt2 hm
        generalize 2 * m = m2 at *
        go_wp2_with (go_at_call 32; (with_reducible refine (ref_has A c xs _ w B hr hl).mono ?_); rintro e w' ⟨rfl, rfl⟩)
        go_round
        case rel => exact ⟨j, m2 + 1, by omega, by go_num, by go_num, hres⟩
        case measure => simp [intOf]
      · rw [Bool.not_eq_true] at hb
        rw [hb] at hhas hst
        have hst2 : u / 2 ^ j = 2 * m := by simpa using hst
        have hres : Hid (2 * m = u / 2 ^ j) := hst2.symm
        clear hst hst2 hlt2 hm
        generalize 2 * m = m2 at *
        go_wp2_with (go_at_call 32; (with_reducible refine (ref_has A c xs _ w B hr hl).mono ?_); rintro e w' ⟨rfl, rfl⟩)
        go_round
        case rel => exact ⟨j, m2, by omega, by go_num, by go_num, hres⟩
        case measure => simp [intOf]
    · obtain rfl : k = 0 := by omega
      have hfin : m = u := by have := hm; unfold Hid at this; simpa using this
      subst hfin
      go_wp2
      go_ret
      exact ⟨rfl, rfl⟩
/-- Those of the list in word k, told within it. -/
def inw (k : Nat) (ys : List Int) : List Int := (ys.filter fun y => decide (y / 64 = (k : Int))).map fun y => y % 64
theorem inw_take {xs : List Int} {k j q m : Nat} {b : Nat} (h : j < xs.length) (e : xs[j] = (b : Int)) (hq : b / 64 = q) (hm : b % 64 = m) : inw k (xs.take (j + 1)) = inw k (xs.take j) ++ if q = k then [(m : Int)] else [] := by
  rw [List.take_succ_eq_append_getElem h, e]
  unfold inw
  rw [List.filter_append, List.map_append]
  congr 1
  by_cases hk : q = k
  · rw [if_pos hk, List.filter_cons_of_pos (by simp; omega)]; simp; omega
  · rw [if_neg hk, List.filter_cons_of_neg (by simp; omega)]; rfl
theorem inw_has {us : List Nat} {k : Nat} (hk : k < us.length) (j : Nat) (hj : j < 64) : M.rHas (inw k (sl us)) (j : Int) = us[k].testBit j := by
  rw [Bool.eq_iff_iff]
  unfold M.rHas inw
  rw [List.any_eq_true]
  constructor
  · rintro ⟨y, hy, he⟩
    obtain ⟨z, hz, rfl⟩ := List.mem_map.1 hy
    obtain ⟨hz1, hz2⟩ := List.mem_filter.1 hz
    have h1 := sl_in.1 hz1
    have h2 : z / 64 = (k : Int) := by simpa using hz2
    have h3 : z % 64 = (j : Int) := by simpa using he
    have h4 := h1.2.2
    unfold sbit at h4
    have e1 : z.toNat / 64 = k := by omega
    have e2 : z.toNat % 64 = j := by omega
    rw [e1, e2] at h4
    simpa [hk] using h4
  · intro hb
    refine ⟨(j : Int), List.mem_map.2 ⟨((64 * k + j : Nat) : Int), List.mem_filter.2 ⟨sl_in.2 ⟨by omega, by omega, ?_⟩, by simp; omega⟩, by simp; omega⟩, by simp⟩
    unfold sbit
    have e1 : (64 * k + j) / 64 = k := by omega
    have e2 : (64 * k + j) % 64 = j := by omega
    rw [Int.toNat_natCast, e1, e2]
    simpa [hk] using hb
theorem inw_len (k : Nat) (ys : List Int) : (inw k ys).length ≤ ys.length := by
  unfold inw
  rw [List.length_map]
  exact List.length_filter_le _ _
theorem inw_nil (k : Nat) : inw k [] = [] := rfl
theorem sl_leng (us : List Nat) : (sl us).length ≤ 64 * us.length := by
  unfold sl
  rw [List.length_map]
  exact Nat.le_trans (List.length_filter_le _ _) (by simp)
theorem own_snocA {w w0 w1 : World} {b : Nat} {xs : List Int} {y : Int} {v v' : Value} {t : TypeId} (hz : b ≤ w0.heap.size) (hb : Below b w w0) (hown : w0.ownsRow b 3 1 v xs.length (iv xs))
    (hown' : w1.ownsRow b 3 1 v' (xs.length + 1) (iv xs ++ [.int .i64 y])) (hgrow : (w0.alloc (.cells #[.int .i64 y] t)).grownBy w1 v.ownBlock) :
    w1.ownsRow b 3 1 v' (xs ++ [y]).length (iv (xs ++ [y])) ∧ Below b w w1 :=
  ⟨by rw [iv, List.map_append, List.length_append]; exact hown', (hb.alloc hz _).grown hgrow (by simp; omega) (fun g hg => (hown.lt g hg).1)⟩
theorem wv_at {L : List Nat} {k : Nat} (h : k < L.length) : (wv L).toArray[k]? = some (.int .u64 (L[k] : Nat)) := by simp [wv, h]
theorem fill_set (us : List Nat) (n k : Nat) (hn : us.length = n) (hk : k < n) : (us.take k ++ List.replicate (n - k) 0).set k (us[k]?.getD 0) = us.take (k + 1) ++ List.replicate (n - (k + 1)) 0 := by
  have e : n - k = (n - (k + 1)) + 1 := by omega
  have hl : (us.take k).length = k := by rw [List.length_take]; omega
  rw [e, List.replicate_succ, List.set_append, if_neg (by omega), hl, Nat.sub_self, List.set_cons_zero, List.take_succ_eq_append_getElem (by omega), List.append_assoc]
  simp [show k < us.length by omega]
set_option maxHeartbeats 4000000 in
theorem ref_bits (A : Option Addr) (c : Nat) (us : List Nat) (hu : ∀ x ∈ us, x < 18446744073709551616) (hn : us.length ≤ 4096) (w : World) (hr : Rd w w.heap.size A (sl us)) :
    Calls Tryd.prog 8 #[.agg #[.int .i64 (us.length : Int), .slice A (sl us).length c]] w fun e w' => ∃ g c', e = .returned (.slice (some ⟨g, 0, none⟩) us.length c') ∧ Rw w' w'.heap.size (some ⟨g, 0, none⟩) us ∧ Below w.heap.size w w' := by
  obtain ⟨n, hnu⟩ : ∃ n, us.length = n := ⟨_, rfl⟩
  obtain ⟨xs, hxs⟩ : ∃ xs, sl us = xs := ⟨_, rfl⟩
  have hxl : xs.length ≤ 1000000 := by have := sl_leng us; rw [hxs] at this; omega
  have hpos : Hid (∀ y ∈ xs, 0 ≤ y ∧ y ≤ 9223372036854775807) := fun y hy => by
    rw [← hxs] at hy
    have := sl_in.1 hy
    omega
  have hxsH := Lib.hid hxs
  have hnuH := Lib.hid hnu
  have huH := Lib.hid hu
  rw [hnu] at hn
  rw [hnu]
  rw [hxs] at hr
  rw [hxs]
  clear hnu hxs hu
  obtain ⟨i0, hi, hz0, hz1, hz2⟩ := info_parts int_info
  have hmk : ∀ w : World, (Instr.makeSlice 31 (.int .i64 (n : Int)) (.int .i64 (n : Int))).run Tryd.prog w = .ok (.slice (some ⟨w.heap.size, 0, none⟩) n n) (w.alloc (.cells (madeCells (Value.int .u64 0).cells n) 49)) := by
    intro w
    obtain ⟨ti, hi, hb, hz, hsz⟩ : ∃ ti, Tryd.prog.info? 49 = some ti ∧ ti.bytes = 8 ∧ ti.zero = some (.int .u64 0) ∧ ti.size = 1 := ⟨_, rfl, rfl, rfl, rfl⟩
    have := run_make (P := Tryd.prog) w 31 49 ti _ (by kernel_rfl) hi hz .i64 .i64 (n : Int) (n : Int) (by omega) (by omega) (by rw [hb]; omega) (by omega)
    simpa [hsz] using this
  have h0n : (0 : Int) ≤ (n : Int) := by omega
  go_enter Tryd.func8, Tryd.ntmps8
  go_wp2
  obtain ⟨B, hB⟩ : ∃ B, w.heap.size = B := ⟨_, rfl⟩
  obtain ⟨w2, hw2⟩ : ∃ w2, ((w.alloc (Obj.cells #[Value.int IntKind.i64 (n : Int), Value.slice A xs.length c] 27)).alloc (Obj.cells (madeCells #[Value.int IntKind.u64 0] n) 49)) = w2 := ⟨_, rfl⟩
  have b2 : Below B w w2 := by rw [← hw2, ← hB]; exact ((Below.refl _ w).alloc (Nat.le_refl _) _).alloc (by simp) _
  have z2 : w2.heap.size = B + 2 := by rw [← hw2, ← hB]; simp
  have hbox : w2.heap[B]? = some (.cells #[Value.int IntKind.i64 (n : Int), Value.slice A xs.length c] 27 (0, 0)) := by
    rw [← hw2, Below.heap_alloc _ _ _ (by simp; omega)]; exact alloc_top _ _ hB.symm
  have hout : w2.heap[B + 1]? = some (.cells (wv (List.replicate n 0)).toArray 49 (0, 0)) := by
    rw [← hw2, alloc_top _ _ (by simp; omega)]
    have := made_zero n
    simpa using this
  have hr2 : Rd w2 B A xs := by rw [hB] at hr; exact hr.below b2 (Nat.le_refl _)
  have HB := Lib.hid hB
  have B2 := Lib.hid b2
  have HR := Lib.hid hr2
  have Z2 := Lib.hid z2
  have HX := Lib.hid hbox
  rw [hw2, hB]
  clear hw2 hr b2 hr2 z2 hbox
  go_loopw [13] (fun i wo => ∃ k : Nat, k ≤ n ∧ i = .int .i64 k ∧ wo.heap[B + 1]? = some (.cells (wv (us.take k ++ List.replicate (n - k) 0)).toArray 49 (0, 0)) ∧ Below (B + 1) w2 wo) (fun i _ => n - (intOf i).toNat)
  case atStart => exact ⟨0, by omega, rfl, by simpa using hout, Below.refl _ _⟩
  case round =>
    obtain ⟨k, hk, rfl, hrow, hb⟩ := hrel
    obtain ⟨wo, hwo⟩ : ∃ wo, wo = wr := ⟨_, rfl⟩
    subst hwo
    have HW := Lib.hid hrow
    have HBL := Lib.hid hb
    by_cases hlt : k < n
    · have hX2 := (hb.block B (by omega)).trans HX.out
      have hc0 : wo.cell? ⟨B, 0, none⟩ = some (.int .i64 (n : Int)) := cell_of_row wo B 0 _ _ (0, 0) hX2
      have hc1 : wo.cell? ⟨B, 1, none⟩ = some (.slice A xs.length c) := cell_of_row wo B 1 _ _ (0, 0) hX2
      have HRR := Lib.hid (HR.out.below hb (by omega))
      have hsz := hb.size
      rw [Z2.out] at hsz
      clear hrow hb hX2
      go_wp2
      go_loopw [5, 19] (fun v i wi => ∃ j : Nat, j ≤ xs.length ∧ i = .int .i64 j ∧ wi.ownsRow (B + 2) 3 1 v (inw k (xs.take j)).length (iv (inw k (xs.take j))) ∧ Below (B + 2) wo wi)
        (fun _ i _ => xs.length - (intOf i).toNat)
      case atStart => exact ⟨0, by omega, rfl, by rw [List.take_zero, inw_nil]; exact World.ownsRow_nil _ _ _ _, Below.refl _ _⟩
      case round =>
        obtain ⟨j, hj, rfl, hown, hbi⟩ := hrel
        obtain ⟨wi, hwi⟩ : ∃ wi, wi = wr := ⟨_, rfl⟩
        subst hwi
        have hzi := hbi.size
        by_cases hjl : j < xs.length
        · obtain ⟨b, off, rfl, hc⟩ := (HRR.out.below hbi (by omega)).at hjl
          have hy := hpos.out _ (List.getElem_mem hjl)
          obtain ⟨x, hxe⟩ : ∃ x : Nat, xs[j] = (x : Int) := ⟨xs[j].toNat, by omega⟩
          obtain ⟨q, hq⟩ : ∃ q, x / 64 = q := ⟨_, rfl⟩
          obtain ⟨m, hm⟩ : ∃ m, x % 64 = m := ⟨_, rfl⟩
          have hs := Lib.hid (inw_take (k := k) hjl hxe hq hm)
          rw [hxe] at hc hy
          have t1 : ((x : Int).tdiv 64) = (q : Int) := by rw [Int.tdiv_eq_ediv_of_nonneg (by omega)]; omega
          have t2 : ((x : Int).tmod 64) = (m : Int) := by rw [Int.tmod_eq_emod_of_nonneg (by omega)]; omega
          have t3 : (x : Int) / 64 = (q : Int) := by omega
          have t4 : (x : Int) % 64 = (m : Int) := by omega
          have hlen := inw_len k (xs.take j)
          rw [List.length_take] at hlen
          have hlen2 : (inw k (xs.take j)).length ≤ 1000000 := by omega
          have hqb : q ≤ 9223372036854775807 := by omega
          have HBI := Lib.hid hbi
          have HOW := Lib.hid hown
          clear hy hlen hxe hq hm
          generalize inw k (xs.take j) = ds at *
          by_cases hqk : q = k
          · rw [hqk, if_pos rfl] at hs
            subst hqk
            have g1 : ((q : Int) == (q : Int)) = true := by simp
            go_wp2_with (at_builtin; refine wpList_append_own _ rfl _ _ 25 rfl (B + 2) 3 i0 (.int .i64 0) 1 8 Tryd.underlying25 hi hz0 hz1 hz2 rfl (by decide) _ _ _ rfl (hown.alloc _) ⟨_, 0, none⟩ 1 1 [.int .i64 (m : Int)] rfl rfl ?c1 ?c2 ?c3 ?c4 ?c5 ?_)
            case c1 => exact cell_one _ _ _
            case c2 => first | exact one_int _ _ | rfl
            case c3 => unfold maxLen; omega
            case c4 => omega
            case c5 => simp; omega
            intro v' w1 hown' hgrow _
            obtain ⟨hown2, hb2⟩ := own_snocA (by omega) HBI.out HOW.out hown' hgrow
            rw [← hs.out] at hown2
            clear hown' hgrow hown hbi HBI HOW
            go_wp2
            go_roundw
            case rel => exact ⟨j + 1, by omega, by go_num, hown2, hb2⟩
            case measure => simp [intOf]; omega
          · rw [if_neg hqk, List.append_nil] at hs
            have g1 : ((q : Int) == (k : Int)) = false := by simp; omega
            have g2 : (q == k) = false := by simp; omega
            have g3 : decide (q = k) = false := decide_eq_false hqk
            rw [← hs.out] at hown
            go_wp2
            go_roundw
            case rel => exact ⟨j + 1, by omega, by go_num, hown, hbi⟩
            case measure => simp [intOf]; omega
        · obtain rfl : j = xs.length := by omega
          rw [List.take_length] at hown
          obtain ⟨A', c', rfl, hrd, hF⟩ := Rd.of_own hown
          have hkl : k < us.length := by rw [hnuH.out]; exact hlt
          have hlen := inw_len k xs
          have hx : ∀ j : Nat, j < 64 → M.rHas (inw k xs) (j : Int) = us[k].testBit j := by rw [← hxsH.out]; exact fun j hj => inw_has hkl j hj
          have hu0 : us[k] < 18446744073709551616 := huH.out _ (List.getElem_mem hkl)
          have hset := Lib.hid (fill_set us n k hnuH.out hlt)
          have e0 : us[k]?.getD 0 = us[k] := by simp [hkl]
          rw [e0] at hset
          have hrow2 := (hbi.block (B + 1) (by omega)).trans HW.out
          have hL : (us.take k ++ List.replicate (n - k) 0).length = n := by have := hnuH.out; simp; omega
          have hcell : ∃ o : Nat, wi.cell? ⟨B + 1, k, none⟩ = some (.int .u64 (o : Int)) := ⟨(us.take k ++ List.replicate (n - k) 0)[k], by rw [cell_of_row wi (B + 1) k _ _ (0, 0) hrow2]; exact wv_at (by omega)⟩
          obtain ⟨o, hcell⟩ := hcell
          have hfz : wi.frozen? ⟨B + 1, k, none⟩ = false := by simp [World.frozen?, hrow2]
          have HX2 := Lib.hid hx
          have HBI := Lib.hid hbi
          have HRD := Lib.hid hrd
          have HR2 := Lib.hid hrow2
          clear hx hrow2 hown hrd hbi hF hL e0
          generalize us.take k ++ List.replicate (n - k) 0 = L at *
          generalize us[k] = u at *
          go_wp2_with (go_at_call 20; (with_reducible refine (ref_word A' c' (inw k xs) u hu0 HX2.out _ _ HRD.out (by omega)).mono ?_); rintro e w' ⟨rfl, rfl⟩)
          go_roundw
          case rel =>
            refine ⟨k + 1, by omega, by go_num, ?_, ?_⟩
            · rw [← hset.out]
              simp [World.setCell, Array.getElem?_modify, HR2.out, wv, List.map_set]
            · exact (HBL.out.trans (HBI.out.mono (by omega))).trans (below_grown_at (set_grown wi (B + 1) k _) (by omega) (Nat.le_refl _))
          case measure => simp [intOf]; omega
    · obtain rfl : k = n := by omega
      have e1 : us.take k ++ List.replicate (k - k) 0 = us := by rw [Nat.sub_self, List.replicate_zero, List.append_nil, List.take_of_length_le (by rw [hnuH.out]; omega)]
      rw [e1] at HW
      clear hrow hb
      go_wp2
      go_ret
      have hlt := (Array.getElem?_eq_some_iff.1 HW.out).1
      refine ⟨B + 1, _, rfl, fun _ => ⟨B + 1, 0, rfl, hlt, fun i hi => ?_⟩, by rw [HB.out]; exact B2.out.trans (HBL.out.mono (by omega))⟩
      rw [Nat.zero_add, cell_of_row wo (B + 1) i _ _ (0, 0) HW.out]
      simp [wv, hi]
end Go.Proofs.YtnpdndcgmfhbdaaDoor
