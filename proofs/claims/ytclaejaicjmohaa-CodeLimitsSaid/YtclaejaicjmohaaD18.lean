
/- The bytes of pairs: Pairs; the text walked. -/
import Derived.Test.YtclaejaicjmohaaD17
import Derived.Deep.RegionHeld3
import Derived.Deep.AppendLies
namespace Go.Proofs.Ytclaejaicjmohaa
set_option maxRecDepth 20000
open Go.RowKit
namespace E
/-- The numbers that stand for pairs. -/
def nums (a : Nat) : List (Nat × Nat) → List Nat
  | [] => []
  | x :: t => (x.1 - a) :: x.2 :: nums (x.1 + 1) t
theorem ebs_cons (x : Nat) (t : List Nat) : ebs (x :: t) = enc x ++ ebs t := by simp [ebs]
theorem body_nums : ∀ (l : List (Nat × Nat)) (a : Nat), body true a l = ebs (nums a l)
  | [], _ => rfl
  | x :: t, a => by
    show enc (x.1 - a) ++ (enc x.2 ++ body true (x.1 + 1) t) = ebs ((x.1 - a) :: x.2 :: nums (x.1 + 1) t)
    rw [ebs_cons, ebs_cons, body_nums t]
theorem body_gaps : ∀ (l : List (Nat × Nat)) (a : Nat), body false a l = ebs (gp a (l.map (·.1)))
  | [], _ => rfl
  | x :: t, a => by
    show enc (x.1 - a) ++ ([] ++ body false (x.1 + 1) t) = ebs ((x.1 - a) :: gp (x.1 + 1) (t.map (·.1)))
    rw [ebs_cons, List.nil_append, body_gaps t]
theorem nums_len : ∀ (l : List (Nat × Nat)) (a : Nat), (nums a l).length = 2 * l.length
  | [], _ => rfl
  | x :: t, a => by
    show (nums (x.1 + 1) t).length + 1 + 1 = 2 * (t.length + 1)
    rw [nums_len t]
    omega
theorem nums_app : ∀ (l : List (Nat × Nat)) (a : Nat) (x : Nat × Nat), nums a (l ++ [x]) = nums a l ++ [x.1 - nxt a l, x.2]
  | [], _, _ => rfl
  | y :: t, a, x => by
    show (y.1 - a) :: y.2 :: nums (y.1 + 1) (t ++ [x]) = (y.1 - a) :: y.2 :: (nums (y.1 + 1) t ++ _)
    rw [nums_app t]
    rfl
theorem gp_at : ∀ (l : List (Nat × Nat)) (a : Nat) (k : Nat) (h : k < l.length), (gp a (l.map (·.1)))[k]? = some (l[k].1 - nxt a (l.take k))
  | [], _, _, h => by simp at h
  | x :: t, a, 0, _ => rfl
  | x :: t, a, k + 1, h => by
    have := gp_at t (x.1 + 1) k (by simpa using h)
    show (gp (x.1 + 1) (t.map (·.1)))[k]? = _
    rw [this]
    rfl
theorem nums_lt : ∀ (l : List (Nat × Nat)) (a : Nat), (∀ x ∈ l, x.1 < 18446744073709551616 ∧ x.2 < 18446744073709551616) → ∀ y ∈ nums a l, y < 18446744073709551616
  | [], _, _, y, h => by cases h
  | x :: t, a, h, y, hy => by
    have hx := h x (by simp)
    rcases List.mem_cons.1 hy with rfl | hy
    · omega
    · rcases List.mem_cons.1 hy with rfl | hy
      · exact hx.2
      · exact nums_lt t (x.1 + 1) (fun z hz => h z (List.mem_cons_of_mem _ hz)) y hy
theorem mk_wordsA (n : Nat) (hn : n ≤ 1000000000) : ∃ cur, (∀ w, (Instr.makeSlice 24 (.int .i64 0) (.int .i64 (n : Int))).run Try.prog w = .ok (.slice (some ⟨w.heap.size, 0, none⟩) 0 n) (w.alloc (.cells cur 22))) ∧ cur.size = n := by
  obtain ⟨ti, hi, hb, hz, hsz⟩ : ∃ ti, Try.prog.info? 22 = some ti ∧ ti.bytes = 8 ∧ ti.zero = some (.int .u64 0) ∧ ti.size = 1 := ⟨_, rfl, rfl, rfl, rfl⟩
  exact ⟨_, fun w => run_make (P := Try.prog) w 24 22 ti _ (by kernel_rfl) hi hz .i64 .i64 0 (n : Int) (by omega) (by omega) (by rw [hb]; omega) (by omega), by simp [madeCells, hsz]⟩
theorem newsW (W : World) (g : Nat) (hg : g = W.heap.size) (a : Value) (T : TypeId) : ∀ j u, [a][j]? = some u → (W.alloc (.cells #[a] T)).cell? ((⟨g, 0, none⟩ : Addr).add j) = some u := by
  subst hg
  exact cell_one W a T
theorem own_two {B : Nat} {w w0 w1 : World} {xs : List Nat} {y z : Nat} {v v' : Value} {t : TypeId} (hB : B ≤ w0.heap.size) (hb : Below B w w0) (hown : w0.ownsRow B 22 1 v xs.length (wv xs))
    (hown' : w1.ownsRow B 22 1 v' (xs.length + 2) (wv xs ++ [.int .u64 (y : Int), .int .u64 (z : Int)])) (hgrow : (w0.alloc (.cells #[.int .u64 (y : Int), .int .u64 (z : Int)] t)).drew.grownBy w1 v.ownBlock) :
    w1.ownsRow B 22 1 v' (xs ++ [y, z]).length (wv (xs ++ [y, z])) ∧ Below B w w1 :=
  ⟨by rw [wv, List.map_append, List.length_append]; exact hown', (below_drewN (hb.alloc hB (.cells #[.int .u64 (y : Int), .int .u64 (z : Int)] t)) 1).grown hgrow (Nat.le_trans hB (by show w0.heap.size ≤ (w0.alloc _).heap.size; simp)) (fun g hg => (hown.lt g hg).1)⟩
theorem take_snocP {ps : List (Nat × Nat)} {k : Nat} (h : k < ps.length) : ps.take (k + 1) = ps.take k ++ [ps[k]] := by rw [List.take_succ_eq_append_getElem h]
set_option maxRecDepth 100000 in
set_option maxHeartbeats 8000000 in
theorem Pairs_any (w : World) (A : Option Addr) (c : Nat) (ps : List (Nat × Nat)) (l : Nat) (hl : ps.length = l) (hl2 : l ≤ 400000) (hx : ∀ x ∈ ps, x.1 < 18446744073709551616 ∧ x.2 < 18446744073709551616) (hr : Pq w w.heap.size A ps) :
    Calls Try.prog 19 #[.slice A l c] w (KB w (ps.map (·.1)) l (1 :: (enc l ++ ebs (nums 0 ps)))) := by
  obtain ⟨i0, hi, hz0, hz1, hz2⟩ := info_parts u64_info
  have HL := Lib.hid hl
  have HX := Lib.hid hx
  have HR := Lib.hid hr
  obtain ⟨cur, hmk, hcur⟩ := mk_wordsA l (by omega)
  have hb : Below w.heap.size w (w.alloc (.cells cur 22)) := (Below.refl _ w).alloc (Nat.le_refl _) _
  have hown : (w.alloc (.cells cur 22)).ownsRow w.heap.size 22 1 (.slice (some ⟨w.heap.size, 0, none⟩) 0 l) 0 [] := World.ownsRow_made w cur l (Nat.le_refl _) (by unfold maxLen; omega) (by omega)
  have HB := Lib.hid hb
  have HO := Lib.hid hown
  obtain ⟨cur2, hmk2, hcur2⟩ := mk_wordsA (2 * l) (by omega)
  have HC2 := Lib.hid hcur2
  have hx2 : IntKind.i64.wrap (2 * (l : Int)) = ((2 * l : Nat) : Int) := by rw [show 2 * (l : Int) = ((2 * l : Nat) : Int) by omega]; exact IntWalk.i64_in _ (by omega)
  obtain ⟨L2, hL2⟩ : ∃ L2, 2 * l = L2 := ⟨_, rfl⟩
  rw [hL2] at hmk2 hx2 HC2
  clear hb hown hcur hcur2 hl hx hr
  go_enter Try.func19, Try.ntmps19
  go_wp2
  go_loopw [4, 17] (fun v i wr => ∃ k : Nat, k ≤ l ∧ i = .int .i64 k ∧ Hid (wr.ownsRow w.heap.size 22 1 v ((ps.map (·.1)).take k).length (wv ((ps.map (·.1)).take k))) ∧ Hid (Below w.heap.size w wr)) (fun _ i _ => l - (intOf i).toNat)
  case atStart => exact ⟨0, by omega, rfl, HO, HB⟩
  case round =>
    obtain ⟨k, hk, rfl, HW, HBL⟩ := hrel
    by_cases hlt : k < l
    · have hlt' : k < ps.length := by rw [HL.out]; exact hlt
      obtain ⟨b, off, rfl, _, hc0, hc1⟩ := (HR.out.below HBL.out (Nat.le_refl _)).at hlt'
      have d0 : decide ((k : Int) < (l : Int)) = true := decide_eq_true (by omega)
      have wk : IntKind.i64.wrap ((k : Int) + 1) = (k : Int) + 1 := IntWalk.i64_in _ (by omega)
      have HN : Hid ((ps.map (·.1)).take (k + 1) = (ps.map (·.1)).take k ++ [ps[k].1]) := Lib.hid (by rw [take_snocN (by rw [List.length_map]; exact hlt'), List.getElem_map])
      have hlen : ((ps.map (·.1)).take k).length ≤ 400000 := by rw [List.length_take]; omega
      have hsz := HBL.out.size
      have HSZ0 : Hid (w.heap.size ≤ wr.heap.size) := Lib.hid hsz
      generalize ps[k] = x at *
      obtain ⟨xa, xb⟩ := x
      dsimp only at hc0 hc1 HN
      generalize (ps.map (·.1)).take k = ds at *
      have HW0 := Lib.hid (HW.out.alloc (.cells #[.int .u64 (xa : Int), .int .u64 (xb : Int)] 39))
      have HB0 := Lib.hid (HBL.out.alloc hsz (.cells #[.int .u64 (xa : Int), .int .u64 (xb : Int)] 39))
      go_wp2_with (at_builtin; refine wpList_append_own _ rfl _ _ 24 rfl w.heap.size 22 i0 (.int .u64 0) 1 8 Try.underlying24 hi hz0 hz1 hz2 rfl (by decide) _ _ _ rfl (HW0.out.alloc _) ⟨_, 0, none⟩ 1 1 [.int .u64 (xa : Int)] rfl rfl ?c1 ?c2 ?c3 ?c4 ?c5 ?_)
      case c1 => exact newsW _ _ (by simp) _ _
      case c2 => first | exact one_int _ _ | rfl
      case c3 => unfold maxLen; omega
      case c4 => omega
      case c5 => simp; omega
      intro v' w1 hown' hgrow _
      obtain ⟨hown2, hb2⟩ := own_putN (by simp; omega) HB0.out HW0.out hown' hgrow
      have HW2 := Lib.hid hown2
      have HB2 := Lib.hid hb2
      clear hown' hgrow hown2 hb2
      go_wp2
      go_roundw
      case rel => exact ⟨k + 1, by omega, by go_num, Lib.hid (by rw [HN.out]; exact HW2.out), HB2⟩
      case measure => simp [intOf]; omega
    · have hkl : k = l := by omega
      have e1 : (ps.map (·.1)).take k = ps.map (·.1) := List.take_of_length_le (by rw [List.length_map, HL.out]; omega)
      have hW := HW.out
      have hlm : (ps.map (·.1)).length = l := by rw [List.length_map, HL.out]
      rw [e1, hlm] at hW
      obtain ⟨A2, c2, hv⟩ := own_formW hW
      subst hv
      obtain ⟨_, hrw⟩ := own_rwB hW
      have hxk : ∀ x ∈ ps.map (·.1), x < 18446744073709551616 := fun x hx => by
        obtain ⟨p, hp, rfl⟩ := List.mem_map.1 hx
        exact (HX.out p hp).1
      have HA := Lib.hid (above_any wr A2 c2 (ps.map (·.1)) l hlm (by omega) hxk hrw)
      have d0 : decide ((k : Int) < (l : Int)) = false := decide_eq_false (by omega)
      have d0n : decide (k < l) = false := decide_eq_false hlt
      have HLM := Lib.hid hlm
      clear hW hrw hxk e1 hlt hkl hlm HW
      go_wp2_with (fail)
      refine HA.out.mono ?_
      rintro e wA ⟨hb1, ⟨hu, hle, A1, c1, rfl, ho⟩ | ⟨hu, hgt, rfl⟩ | ⟨hu, rfl⟩⟩
      · obtain ⟨hgl, hrw⟩ := own_rwB ho
        have HU := Lib.hid hu
        have HB1 := Lib.hid (HBL.out.trans (hb1.mono HBL.out.size))
        have HG := Lib.hid (And.intro hgl hrw)
        have hb2 : Below wA.heap.size wA (wA.alloc (.cells cur2 22)) := (Below.refl _ wA).alloc (Nat.le_refl _) _
        have hown2 : (wA.alloc (.cells cur2 22)).ownsRow wA.heap.size 22 1 (.slice (some ⟨wA.heap.size, 0, none⟩) 0 L2) 0 [] := World.ownsRow_made wA cur2 L2 (Nat.le_refl _) (by unfold maxLen; omega) (by rw [HC2.out]; omega)
        have HB2 := Lib.hid hb2
        have HO2 := Lib.hid hown2
        have HSZA : Hid (wA.heap.size ≤ (wA.alloc (.cells cur2 22)).heap.size) := Lib.hid (by simp)
        obtain ⟨W2, hW2⟩ : ∃ W, wA.alloc (.cells cur2 22) = W := ⟨_, rfl⟩
        rw [hW2] at HB2 HO2 HSZA
        clear hu hb1 ho hrw hb2 hown2 hgl
        go_wp2
        go_loopw [9, 41] (fun v i wr2 => ∃ k : Nat, k ≤ l ∧ i = .int .i64 k ∧ Hid (wr2.ownsRow wA.heap.size 22 1 v (nums 0 (ps.take k)).length (wv (nums 0 (ps.take k)))) ∧ Hid (Below wA.heap.size wA wr2)) (fun _ i _ => l - (intOf i).toNat)
        case atStart => exact ⟨0, by omega, rfl, by simpa [nums] using HO2, HB2⟩
        case round =>
          obtain ⟨k2, hk2, rfl, HW, HBL2⟩ := hrel
          have HBA := Lib.hid (HB1.out.trans (HBL2.out.mono HB1.out.size))
          by_cases hlt : k2 < l
          · have hlt' : k2 < ps.length := by rw [HL.out]; exact hlt
            obtain ⟨b, off, rfl, _, hc0, hc1⟩ := (HR.out.below HBA.out (Nat.le_refl _)).at hlt'
            have hglt : k2 < (gp 0 (ps.map (·.1))).length := by rw [HG.out.1]; exact hlt
            obtain ⟨bg, og, hA1, hbg, hcg⟩ := (HG.out.2.below HBL2.out (Nat.le_refl _)).at hglt
            have hgv := gp_at ps 0 k2 hlt'
            rw [List.getElem?_eq_getElem hglt] at hgv
            injection hgv with hgv
            have HN := Lib.hid (nums_app (ps.take k2) 0 ps[k2])
            rw [← take_snocP hlt', ← hgv] at HN
            have d1 : decide ((k2 : Int) < (l : Int)) = true := decide_eq_true (by omega)
            have wk : IntKind.i64.wrap ((k2 : Int) + 1) = (k2 : Int) + 1 := IntWalk.i64_in _ (by omega)
            have hlen : (nums 0 (ps.take k2)).length ≤ 800000 := by rw [nums_len, List.length_take]; omega
            have hsz := HBL2.out.size
            subst hA1
            generalize ps[k2] = x at *
            obtain ⟨xa, xb⟩ := x
            dsimp only at hc0 hc1 HN
            generalize (gp 0 (ps.map (·.1)))[k2] = gg at *
            generalize nums 0 (ps.take k2) = ds at *
            have HW0 := Lib.hid (HW.out.alloc (.cells #[.int .u64 (xa : Int), .int .u64 (xb : Int)] 39))
            have HB0 := Lib.hid (HBL2.out.alloc hsz (.cells #[.int .u64 (xa : Int), .int .u64 (xb : Int)] 39))
            have hbw := (Below.refl wr.heap.size wr).alloc (Nat.le_refl _) (.cells #[.int .u64 (xa : Int), .int .u64 (xb : Int)] 39)
            have hcg2 := (hbw.cell (p := ⟨bg, og + k2, none⟩) (Nat.lt_of_lt_of_le hbg hsz)).trans hcg
            have hcx1 : (wr.alloc (.cells #[.int .u64 (xa : Int), .int .u64 (xb : Int)] 39)).cell? ⟨wr.heap.size, 1, none⟩ = some (.int .u64 (xb : Int)) := by simp
            have HSZ3 : Hid (wA.heap.size ≤ (wr.alloc (.cells #[.int .u64 (xa : Int), .int .u64 (xb : Int)] 39)).heap.size) := Lib.hid (by simp; omega)
            obtain ⟨W3, hW3⟩ : ∃ W, wr.alloc (.cells #[.int .u64 (xa : Int), .int .u64 (xb : Int)] 39) = W := ⟨_, rfl⟩
            rw [hW3] at HW0 HB0 HSZ3 hcg2 hcx1
            have hHS3 : wr.heap.size < W3.heap.size := by rw [← hW3]; simp
            have hb4 := (Below.refl W3.heap.size W3).alloc (Nat.le_refl _) (.cells #[.int .u64 (gg : Int), .int .u64 (xb : Int)] 22)
            have hcg3 : (W3.alloc (.cells #[.int .u64 (gg : Int), .int .u64 (xb : Int)] 22)).drew.cell? ⟨bg, og + k2, none⟩ = some (.int .u64 (gg : Int)) := (hb4.cell (p := ⟨bg, og + k2, none⟩) (by show bg < _; omega)).trans hcg2
            have hcx3 : (W3.alloc (.cells #[.int .u64 (gg : Int), .int .u64 (xb : Int)] 22)).drew.cell? ⟨wr.heap.size, 1, none⟩ = some (.int .u64 (xb : Int)) := (hb4.cell (p := ⟨wr.heap.size, 1, none⟩) hHS3).trans hcx1
            have hw4 := HW0.out.alloc (.cells #[.int .u64 (gg : Int), .int .u64 (xb : Int)] 22)
            have HW4 : Hid ((W3.alloc (.cells #[.int .u64 (gg : Int), .int .u64 (xb : Int)] 22)).drew.ownsRow wA.heap.size 22 1 u9 ds.length (wv ds)) := Lib.hid hw4
            have hf1 : ∀ j u, [Value.int .u64 (gg : Int), .int .u64 (xb : Int)][j]? = some u → (W3.alloc (.cells #[.int .u64 (gg : Int), .int .u64 (xb : Int)] 22)).drew.cell? ((⟨W3.heap.size, 0, none⟩ : Addr).add j) = some u := newsP W3 W3.heap.size rfl (.int .u64 (gg : Int)) (.int .u64 (xb : Int)) 22
            have hf3 : ds.length + 2 ≤ maxLen := by unfold maxLen; omega
            have hf4 : (ds.length + 2) * 8 ≤ 140737488355328 := by omega
            have hf5 : wA.heap.size ≤ (W3.alloc (.cells #[.int .u64 (gg : Int), .int .u64 (xb : Int)] 22)).drew.heap.size := Nat.le_trans HSZ3.out (by show W3.heap.size ≤ (W3.alloc _).heap.size; simp)
            have hne1 : u9.ownBlock ≠ some bg := fun e => by have := (HW0.out.lt bg e).1; omega
            have HWr := HW
            have hne2 : u9.ownBlock ≠ some wr.heap.size := fun e => by have := (HWr.out.lt wr.heap.size e).2; omega
            clear hw4 hb4
            clear hgv hglt hbw HW HBL2 HBA
            go_wp2
            go_region_held3 (fun W => W.cell? ⟨bg, og + k2, none⟩ = some (.int .u64 (gg : Int)) ∧ W.cell? ⟨wr.heap.size, 1, none⟩ = some (.int .u64 (xb : Int))) (first | exact ⟨hcg2, hcx1⟩ | exact ⟨hcg3, hcx3⟩ | exact ⟨(hgrow.cell_far _ (by simp; omega) (Ne.symm hne1)).trans hcg3, (hgrow.cell_far _ (by simp; omega) (Ne.symm hne2)).trans hcx3⟩)
              ((refine step_append_lies _ (by rfl) _ _ _ (by rfl) wA.heap.size 22 i0 (.int .u64 0) 1 8 Try.underlying24 hi hz0 hz1 hz2 rfl (by decide) u9 ds.length (wv ds) (by rfl) HW4.out ⟨W3.heap.size, 0, none⟩ 2 2 [.int .u64 (gg : Int), .int .u64 (xb : Int)] (by rfl) (by rfl) hf1 (fun u hu => int_oneP hu) (by omega) hf3 hf4 hf5 (W3.heap.size + 1) (by simp) ?_; intro g5 c5 w5 hown1 hgrow hat hlt5))
            obtain ⟨hown2, hb2⟩ := own_two HSZ3.out HB0.out HW0.out hown1 hgrow
            have HW5 := Lib.hid hown2
            have HB5 := Lib.hid hb2
            clear hown1 hgrow hown2 hb2 hlt5 hat hf1 hf3 hf4 hf5 hne1 hne2 HWr
            go_wp2
            go_roundw
            case rel => exact ⟨k2 + 1, by omega, by go_num, Lib.hid (by rw [HN.out]; exact HW5.out), HB5⟩
            case measure => simp [intOf]; omega
          · have hkl : k2 = l := by omega
            have e1 : ps.take k2 = ps := List.take_of_length_le (by rw [HL.out]; omega)
            have hW := HW.out
            have hnl : (nums 0 ps).length = L2 := by rw [nums_len, HL.out]; exact hL2
            rw [e1, hnl] at hW
            obtain ⟨A3, c3, hv⟩ := own_formW hW
            subst hv
            obtain ⟨_, hrw⟩ := own_rwB hW
            have hT0 := tell_any wr 1 l (by omega) A3 c3 (nums 0 ps) L2 (by omega) hnl (by omega) (nums_lt ps 0 HX.out) hrw
            have d0 : decide ((k2 : Int) < (l : Int)) = false := decide_eq_false (by omega)
            have d0n : decide (k2 < l) = false := decide_eq_false hlt
            clear hW hrw e1 hlt hkl HW
            generalize hbs : 1 :: (enc l ++ ebs (nums 0 ps)) = bs at hT0 ⊢
            have HT : Hid (Calls Try.prog 30 #[.int .u8 1, .int .i64 (l : Int), .slice A3 L2 c3] wr fun e w' => ∃ v, e = .returned v ∧ w'.ownsRow wr.heap.size 5 1 v bs.length (bv bs) ∧ Below wr.heap.size wr w') := Lib.hid hT0
            clear hT0 hnl
            go_wp2_with (go_at_call 30; (with_reducible refine HT.out.mono ?_); rintro e w2 ⟨v2, rfl, ho, hb⟩; have HO := Lib.hid ho; have HB9 := Lib.hid (HBA.out.trans (hb.mono HBA.out.size)); clear ho hb)
            go_ret2
            obtain ⟨A2, c2, hv⟩ := own_formB HO.out
            subst hv
            rw [hbs]
            exact ⟨HB9.out, .inl ⟨HU.out, hle, A2, c2, rfl, own_less HO.out HBA.out.size⟩⟩
      · have HB1 := Lib.hid (HBL.out.trans (hb1.mono HBL.out.size))
        have HU := Lib.hid hu
        clear hb1 hu
        go_wp2
        go_ret2
        exact ⟨HB1.out, .inr (.inl ⟨HU.out, hgt, rfl⟩)⟩
      · have HB1 := Lib.hid (HBL.out.trans (hb1.mono HBL.out.size))
        have HU := Lib.hid hu
        clear hb1 hu
        go_wp2
        go_ret2
        exact ⟨HB1.out, .inr (.inr ⟨HU.out, rfl⟩)⟩
end E
end Go.Proofs.Ytclaejaicjmohaa
