
/- The bytes of pairs by the document's reference: Bytes; the text walked. -/
import Derived.Test.YtclaejaicjmohaaD21
import Derived.Deep.RegionHeld3
import Derived.Deep.AppendLies
namespace Go.Proofs.Ytclaejaicjmohaa
set_option maxRecDepth 20000
open Go.RowKit
namespace E
theorem app_put {w W w2 w3 : World} {v v3 : Value} {xs ys : List Nat} {n m : Nat} (hb : Below w.heap.size w W) (hb2 : Below W.heap.size W w2) (ho : W.ownsRow w.heap.size 5 1 v n (bv xs))
    (hv : w3.ownsRow w.heap.size 5 1 v3 (n + m) (bv xs ++ bv ys)) (_hm : ys.length = m) (hg : w2.grownBy w3 v.ownBlock) : w3.ownsRow w.heap.size 5 1 v3 (n + m) (bv (xs ++ ys)) ∧ Below w.heap.size w w3 ∧ ∀ b o, b < W.heap.size → some b ≠ v.ownBlock → w3.cell? ⟨b, o, none⟩ = W.cell? ⟨b, o, none⟩ :=
  ⟨by rw [bv, List.map_append]; exact hv, (hb.trans (hb2.mono hb.size)).grown hg (Nat.le_trans hb.size hb2.size) (fun g hg => (ho.lt g hg).1), fun b o h1 h2 => (hg.cell_far ⟨b, o, none⟩ (Nat.lt_of_lt_of_le h1 hb2.size) h2).trans (hb2.cell (p := ⟨b, o, none⟩) h1)⟩
theorem up_one {xs : List Nat} : K.Up (xs.take (0 + 1)) := by
  cases xs with
  | nil => exact List.Pairwise.nil
  | cons x t => exact List.pairwise_singleton _ _
theorem nxt_take {ps : List (Nat × Nat)} {k : Nat} (h : k < ps.length) : nxt 0 (ps.take (k + 1)) = ps[k].1 + 1 := by
  rw [take_snocP h]
  exact nxt_snoc _ _ _
theorem own_someB {w : World} {base n : Nat} {v : Value} {xs : List Nat} (h : w.ownsRow base 5 1 v n (bv xs)) (hn : 0 < n) : ∃ g c, v = .slice (some ⟨g, 0, none⟩) n c ∧ ∀ (j : Nat) u, (bv xs)[j]? = some u → w.cell? ((⟨g, 0, none⟩ : Addr).add j) = some u := by
  rcases h.2 with ⟨rfl, h0⟩ | ⟨g, cap, cur, rfl, _⟩
  · omega
  · exact ⟨g, cap, rfl, fun j u hj => h.cells (g := g) rfl _ _ hj⟩
theorem body_more (two : Bool) {ps : List (Nat × Nat)} {k : Nat} (h : k < ps.length) : body two 0 (ps.take (k + 1)) = body two 0 (ps.take k) ++ (enc (ps[k].1 - nxt 0 (ps.take k)) ++ (if two then enc ps[k].2 else [])) := by
  rw [take_snocP h, body_app]
  simp [body]
theorem body_lenE (two : Bool) : ∀ (l : List (Nat × Nat)) (a : Nat), Rs a l → (body two a l).length ≤ 20 * l.length
  | [], _, _ => by simp [body]
  | x :: t, a, ⟨h1, h2, h3, h4⟩ => by
    have g1 := enc_ten (n := x.1 - a) (by omega)
    have g2 := enc_ten (n := x.2) (by omega)
    have g3 := body_lenE two t (x.1 + 1) h4
    show (enc (x.1 - a) ++ ((if two then enc x.2 else []) ++ body two (x.1 + 1) t)).length ≤ 20 * (t.length + 1)
    rw [List.length_append, List.length_append]
    cases two <;> simp <;> omega
/-- What Bytes answers. -/
def BA (w : World) (two : Bool) (ps : List (Nat × Nat)) (e : Ending) (w' : World) : Prop := Below w.heap.size w w' ∧
  ((K.Up (ps.map (·.1)) ∧ ∃ A c, e = .returned (.tuple #[.slice A (bts two ps).length c, .int .i64 0]) ∧ w'.ownsRow w.heap.size 5 1 (.slice A (bts two ps).length c) (bts two ps).length (bv (bts two ps))) ∨
   (¬ K.Up (ps.map (·.1)) ∧ e = .returned (.tuple #[.slice none 0 0, .int .i64 8])))
set_option maxRecDepth 100000 in
set_option maxHeartbeats 8000000 in
theorem refbytes_any (w : World) (A : Option Addr) (c : Nat) (ps : List (Nat × Nat)) (l : Nat) (two : Bool) (hl : ps.length = l) (hl2 : l ≤ 400000) (hx : ∀ x ∈ ps, x.1 < 18446744073709551616 ∧ x.2 < 18446744073709551616) (hr : Pq w w.heap.size A ps) :
    Calls Try.prog 20 #[.slice A l c, .bool two] w (BA w two ps) := by
  obtain ⟨i0, hi, hz0, hz1, hz2⟩ := info_parts byte_info
  have HL := Lib.hid hl
  have HX := Lib.hid hx
  have HR := Lib.hid hr
  have HNU : Hid (∀ n : Nat, n < 18446744073709551616 → ∀ W, Calls Try.prog 14 #[.int .u64 (n : Int)] W fun e w' => ∃ v', e = .returned v' ∧ w'.ownsRow W.heap.size 5 1 v' (enc n).length (bv (enc n)) ∧ Below W.heap.size W w') := Lib.hid fun n h W => refnum_any n n (Nat.le_refl _) h W
  have hln := enc_ten (n := l) (by omega)
  have HNLa : Hid (l < 18446744073709551616) := Lib.hid (by omega)
  have HM1a : Hid (1 + (enc l).length ≤ maxLen) := Lib.hid (by unfold maxLen; omega)
  have HM2a : Hid ((1 + (enc l).length) * 1 ≤ 140737488355328) := Lib.hid (by omega)
  have wl : IntKind.u64.wrap (l : Int) = (l : Int) := wrap_u64_small (by omega) (by omega)
  have HLN := Lib.hid hln
  clear hl hx hr hln
  cases two with
  | true =>
    have HOa : Hid ((w.alloc (.cells #[.int .u8 1] 5)).ownsRow w.heap.size 5 1 (.slice (some ⟨w.heap.size, 0, none⟩) 1 1) 1 (bv [1])) := Lib.hid (own_one w 1)
    have HBa : Hid (Below w.heap.size w (w.alloc (.cells #[.int .u8 1] 5))) := Lib.hid ((Below.refl _ w).alloc (Nat.le_refl _) _)
    go_enter Try.func20, Try.ntmps20
    go_wp2_with (first
      | (at_builtin; refine wpList_append_any _ rfl (.tmp 13) (.tmp 17) 23 rfl w.heap.size 5 i0 _ 1 1 Try.underlying23 hi hz0 hz1 hz2 rfl (by decide) _ _ (bv [1]) (by rfl) HO2a.out w2.heap.size A2 _ c2 (bv (enc l)) (by rfl) HRDa.out (bv_one _) HM1a.out HM2a.out HSZa.out ?_; intro v3a w3a hv3 hg3 _; have HVa := Lib.hid (app_put HBa.out HB2a.out HOa.out hv3 rfl hg3); clear hv3 hg3)
      | (go_at_call 14; (with_reducible refine (HNU.out l HNLa.out _).mono ?_); rintro e w2 ⟨v2, rfl, ho, hb⟩; obtain ⟨A2, c2, rfl⟩ := own_formB ho; have HRDa := Lib.hid (Reads.of_own ho); have HO2a := Lib.hid (own_bel HOa.out hb); have HB2a := Lib.hid hb; have HSZa := Lib.hid (Nat.le_trans HBa.out.size hb.size); clear ho hb))
    go_loopw [6, 21] (fun v i wr => ∃ k n : Nat, k ≤ l ∧ i = .int .i64 k ∧ Hid (K.Up ((ps.map (·.1)).take k)) ∧ Hid (wr.ownsRow w.heap.size 5 1 v n (bv ([1] ++ enc l ++ body true 0 (ps.take k)))) ∧ Hid (Below w.heap.size w wr) ∧ n ≤ 11 + 20 * k) (fun _ i _ => l - (intOf i).toNat)
    case atStart => exact ⟨0, _, by omega, rfl, Lib.hid List.Pairwise.nil, Lib.hid (by have := HVa.out.1; simpa [body] using this), Lib.hid HVa.out.2.1, by have := HLN.out; omega⟩
    case round =>
      obtain ⟨k, n, hk, rfl, HUK, HW, HBL, hnk⟩ := hrel
      obtain ⟨vl, hvl⟩ : ∃ v, v = u6 := ⟨_, rfl⟩
      subst hvl
      by_cases hlt : k < l
      · have hlt' : k < ps.length := by rw [HL.out]; exact hlt
        obtain ⟨b, off, rfl, hbw, hc0, hc1⟩ := (HR.out.below HBL.out (Nat.le_refl _)).at hlt'
        have hbl : b < wr.heap.size := Nat.lt_of_lt_of_le hbw HBL.out.size
        have d0 : decide ((k : Int) < (l : Int)) = true := decide_eq_true (by omega)
        have wk : IntKind.i64.wrap ((k : Int) + 1) = (k : Int) + 1 := IntWalk.i64_in _ (by omega)
        have HBX := Lib.hid (body_more true hlt')
        have hxx := HX.out _ (List.getElem_mem hlt')
        have hgm : (ps.map (·.1))[k]'(by rw [List.length_map]; exact hlt') = ps[k].1 := by rw [List.getElem_map]
        have HGM := Lib.hid hgm
        clear hgm
        generalize hxe : ps[k] = x at *
        obtain ⟨xa, xb⟩ := x
        dsimp only at hc0 hc1 HBX HGM hxx
        obtain ⟨hxa, hxb⟩ := hxx
        have HE2 : Hid ((enc xb).length ≤ 10) := Lib.hid (enc_ten hxb)
        generalize hds : body true 0 (ps.take k) = ds at *
        have HO := Lib.hid (HW.out.alloc (.cells #[.int .u64 (xa : Int), .int .u64 (xb : Int)] 39))
        have HB := Lib.hid (HBL.out.alloc HBL.out.size (.cells #[.int .u64 (xa : Int), .int .u64 (xb : Int)] 39))
        have HXlt : Hid (wr.heap.size < (wr.alloc (.cells #[.int .u64 (xa : Int), .int .u64 (xb : Int)] 39)).heap.size) := Lib.hid (by simp)
        have HXne : Hid (some wr.heap.size ≠ vl.ownBlock) := Lib.hid (fun e => by have := (HW.out.lt _ e.symm).2; omega)
        have HX1 : Hid ((wr.alloc (.cells #[.int .u64 (xa : Int), .int .u64 (xb : Int)] 39)).cell? ⟨wr.heap.size, 1, none⟩ = some (.int .u64 (xb : Int))) := Lib.hid (by simp)
        clear hds hxe
        by_cases hk0 : k = 0
        · have g1 : ((k : Int) == 0) = true := by simp; omega
          have g2 : decide ((k : Int) = 0) = true := decide_eq_true (by omega)
          have g3 : decide (k = 0) = true := decide_eq_true hk0
          have HUP : Hid (K.Up ((ps.map (·.1)).take (k + 1))) := Lib.hid (by subst hk0; exact up_one)
          have hnx : nxt 0 (ps.take k) = 0 := by subst hk0; rfl
          rw [hnx, Nat.sub_zero] at HBX
          have HE1 : Hid ((enc xa).length ≤ 10) := Lib.hid (enc_ten hxa)
          have HNLb : Hid (xa < 18446744073709551616) := Lib.hid hxa
          have HM1b : Hid (n + (enc xa).length ≤ maxLen) := Lib.hid (by have := HE1.out; unfold maxLen; omega)
          have HM2b : Hid ((n + (enc xa).length) * 1 ≤ 140737488355328) := Lib.hid (by have := HE1.out; omega)
          clear hk0 hnx
          have HM1bv : Hid (n + (enc xa).length + (enc xb).length ≤ maxLen) := Lib.hid (by have := HE1.out; have := HE2.out; unfold maxLen; omega)
          have HM2bv : Hid ((n + (enc xa).length + (enc xb).length) * 1 ≤ 140737488355328) := Lib.hid (by have := HE1.out; have := HE2.out; omega)
          have HNLbv : Hid (xb < 18446744073709551616) := Lib.hid hxb
          go_wp2_with (first
            | (at_builtin; refine wpList_append_any _ rfl (.tmp 58) (.tmp 61) 23 rfl w.heap.size 5 i0 _ 1 1 Try.underlying23 hi hz0 hz1 hz2 rfl (by decide) _ _ (bv (([1] ++ enc l ++ ds) ++ enc xa)) (by rfl) HO2bv.out w2.heap.size A2 _ c2 (bv (enc xb)) (by rfl) HRDbv.out (bv_one _) HM1bv.out HM2bv.out HSZbv.out ?_; intro v3bv w3bv hv3 hg3 _; have HVbv := Lib.hid (app_put HBLbv.out HB2bv.out HObv.out hv3 rfl hg3); clear hv3 hg3)
            | (go_at_call 14; (with_reducible refine (HNU.out xb HNLbv.out _).mono ?_); rintro e w2 ⟨v2, rfl, ho, hb⟩; obtain ⟨A2, c2, rfl⟩ := own_formB ho; have HRDbv := Lib.hid (Reads.of_own ho); have HO2bv := Lib.hid (own_bel HObv.out hb); have HB2bv := Lib.hid hb; have HSZbv := Lib.hid (Nat.le_trans HBLbv.out.size hb.size); clear ho hb)
            | (at_builtin; refine wpList_append_any _ rfl (.tmp 42) (.tmp 45) 23 rfl w.heap.size 5 i0 _ 1 1 Try.underlying23 hi hz0 hz1 hz2 rfl (by decide) _ _ (bv ([1] ++ enc l ++ ds)) (by rfl) HO2b.out w2.heap.size A2 _ c2 (bv (enc xa)) (by rfl) HRDb.out (bv_one _) HM1b.out HM2b.out HSZb.out ?_; intro v3b w3b hv3 hg3 _; have HVb := Lib.hid (app_put HB.out HB2b.out HO.out hv3 rfl hg3); have cv1b := (HVb.out.2.2 wr.heap.size 1 HXlt.out HXne.out).trans HX1.out; have HObv := Lib.hid HVb.out.1; have HBLbv := Lib.hid HVb.out.2.1; clear hv3 hg3)
            | (go_at_call 14; (with_reducible refine (HNU.out xa HNLb.out _).mono ?_); rintro e w2 ⟨v2, rfl, ho, hb⟩; obtain ⟨A2, c2, rfl⟩ := own_formB ho; have HRDb := Lib.hid (Reads.of_own ho); have HO2b := Lib.hid (own_bel HO.out hb); have HB2b := Lib.hid hb; have HSZb := Lib.hid (Nat.le_trans HB.out.size hb.size); clear ho hb))
          have HBM : Hid ([1] ++ enc l ++ body true 0 (ps.take (k + 1)) = ([1] ++ enc l ++ ds) ++ enc xa ++ enc xb) := Lib.hid (by rw [HBX.out]; simp)
          go_wp2
          go_roundw
          case rel => exact ⟨k + 1, _, by omega, by go_num, HUP, Lib.hid (by rw [HBM.out]; exact HVbv.out.1), Lib.hid HVbv.out.2.1, by have := HE1.out; have := HE2.out; omega⟩
          case measure => simp [intOf]; omega
        · obtain ⟨k1, hk1⟩ : ∃ k1, k = k1 + 1 := ⟨k - 1, by omega⟩
          have hk1' : k1 < ps.length := by omega
          obtain ⟨b', off', hA, _, hp0, _⟩ := (HR.out.below HBL.out (Nat.le_refl _)).at hk1'
          injection hA with hA
          injection hA with ea eb
          subst ea eb
          obtain ⟨la, hla⟩ : ∃ la, ps[k1].1 = la := ⟨_, rfl⟩
          rw [hla] at hp0
          have hnx : nxt 0 (ps.take k) = la + 1 := by rw [hk1, nxt_take hk1', hla]
          rw [hnx] at HBX
          have g1 : ((k : Int) == 0) = false := by simp; omega
          have g2 : decide ((k : Int) = 0) = false := decide_eq_false (by omega)
          have g3 : decide (k = 0) = false := decide_eq_false hk0
          have x3 : IntKind.i64.wrap ((k : Int) - 1) = (k1 : Int) := by rw [show (k : Int) - 1 = (k1 : Int) by omega]; exact IntWalk.i64_in _ (by omega)
          have hi2 : (k1 : Int) < (l : Int) := by omega
          have hi3 : (0 : Int) ≤ (k1 : Int) := by omega
          have hlam : (ps.map (·.1))[k1]'(by rw [List.length_map]; exact hk1') = la := by rw [List.getElem_map]; exact hla
          have hll : la < 18446744073709551616 := by rw [← hla]; exact (HX.out _ (List.getElem_mem hk1')).1
          have hxm : ∀ h, (ps.map (·.1))[k1 + 1]'h = xa := by subst hk1; exact fun h => HGM.out
          have hbel := (Below.refl wr.heap.size wr).alloc (Nat.le_refl _) (.cells #[.int .u64 (xa : Int), .int .u64 (xb : Int)] 39)
          have hp3 : (wr.alloc (.cells #[.int .u64 (xa : Int), .int .u64 (xb : Int)] 39)).cell? ⟨b, off + k1 * 2, none⟩ = some (.int .u64 (la : Int)) := (hbel.cell (p := ⟨b, off + k1 * 2, none⟩) hbl).trans hp0
          have hx0 : (wr.alloc (.cells #[.int .u64 (xa : Int), .int .u64 (xb : Int)] 39)).cell? ⟨wr.heap.size, 0, none⟩ = some (.int .u64 (xa : Int)) := by simp
          have hlx : k1 + 1 < (ps.map (·.1)).length := by rw [List.length_map]; omega
          by_cases hle : xa ≤ la
          · have m1 : decide ((xa : Int) ≤ (la : Int)) = true := decide_eq_true (by omega)
            have m2 : decide (xa ≤ la) = true := decide_eq_true hle
            have HNU2 : Hid (¬ K.Up (ps.map (·.1))) := Lib.hid (up_not (k := k1) hlx (by rw [hxm, hlam]; exact hle))
            clear hk1 hla hnx hlam hxm hbel hlx hle hk0
            go_wp2
            go_quiet (fail)
            go_wp2
            go_ret2
            exact ⟨below_drewN HB.out _, .inr ⟨HNU2.out, rfl⟩⟩
          · have m1 : decide ((xa : Int) ≤ (la : Int)) = false := decide_eq_false (by omega)
            have m2 : decide (xa ≤ la) = false := decide_eq_false hle
            have HUP : Hid (K.Up ((ps.map (·.1)).take (k + 1))) := Lib.hid (by have := HUK.out; subst hk1; exact up_next hlx this (by rw [hxm, hlam]; omega))
            obtain ⟨dd, hdd⟩ : ∃ dd, xa - (la + 1) = dd := ⟨_, rfl⟩
            rw [hdd] at HBX
            have x5 : IntKind.u64.wrap ((xa : Int) - (la : Int)) = (xa : Int) - (la : Int) := by rw [IntKind.wrap_u64]; omega
            have x6 : IntKind.u64.wrap ((xa : Int) - (la : Int) - 1) = (dd : Int) := by rw [IntKind.wrap_u64]; omega
            have hdl : dd < 18446744073709551616 := by omega
            have HNLc : Hid (dd < 18446744073709551616) := Lib.hid hdl
            have HE1 : Hid ((enc dd).length ≤ 10) := Lib.hid (enc_ten hdl)
            have HM1c : Hid (n + (enc dd).length ≤ maxLen) := Lib.hid (by have := HE1.out; unfold maxLen; omega)
            have HM2c : Hid ((n + (enc dd).length) * 1 ≤ 140737488355328) := Lib.hid (by have := HE1.out; omega)
            have hbne : some b ≠ vl.ownBlock := fun e => by have := (HW.out.lt _ e.symm).1; omega
            have hXne := HXne.out
            have hXlt := HXlt.out
            have hblt : b < (wr.alloc (.cells #[.int .u64 (xa : Int), .int .u64 (xb : Int)] 39)).heap.size := Nat.lt_trans hbl hXlt
            clear hk1 hla hnx hlam hxm hbel hlx hle hk0 hdd hdl
            go_wp2
            go_quiet (fail)
            go_wp2
            go_region_held3 (fun W => W.cell? ⟨b, off + k1 * 2, none⟩ = some (.int .u64 (la : Int)) ∧ W.cell? ⟨wr.heap.size, 0, none⟩ = some (.int .u64 (xa : Int)))
              (first | exact ⟨hp3, hx0⟩ | exact ⟨(hb.cell (p := ⟨b, off + k1 * 2, none⟩) hblt).trans hp3, (hb.cell (p := ⟨wr.heap.size, 0, none⟩) hXlt).trans hx0⟩ | exact ⟨(hgrow.cell_far ⟨b, off + k1 * 2, none⟩ (Nat.lt_of_lt_of_le hblt hb.size) hbne).trans ((hb.cell (p := ⟨b, off + k1 * 2, none⟩) hblt).trans hp3), (hgrow.cell_far ⟨wr.heap.size, 0, none⟩ (Nat.lt_of_lt_of_le hXlt hb.size) hXne).trans ((hb.cell (p := ⟨wr.heap.size, 0, none⟩) hXlt).trans hx0)⟩)
              (first
                | (go_at_call 14; (with_reducible refine (HNU.out dd HNLc.out _).mono ?_); rintro e w2 ⟨v2, rfl, ho, hb⟩; obtain ⟨g2, c2, rfl, hcs⟩ := own_someB ho (enc_pos dd); have HO2c : Hid (w2.ownsRow w.heap.size 5 1 vl n (bv ([1] ++ enc l ++ ds))) := Lib.hid (own_bel (by exact HO.out) hb); have HSZc : Hid (w.heap.size ≤ w2.heap.size) := Lib.hid (Nat.le_trans HB.out.size hb.size))
                | (refine step_append_lies _ (by rfl) _ _ _ (by rfl) w.heap.size 5 i0 _ 1 1 Try.underlying23 hi hz0 hz1 hz2 rfl (by decide) vl n (bv ([1] ++ enc l ++ ds)) (by rfl) HO2c.out ⟨g2, 0, none⟩ (enc dd).length c2 (bv (enc dd)) (by rfl) (by simp [bv]) hcs (bv_one _) (enc_pos dd) HM1c.out HM2c.out HSZc.out w2.heap.size (by rfl) ?_; intro g5 c5 w5 hown1 hgrow hat hlt5))
            have HVc := Lib.hid (app_put (by first | exact below_drewN HB.out _ | exact below_drewN (below_drewN HB.out _) _) hb (by exact HO.out) hown1 rfl hgrow)
            have cv1c := (HVc.out.2.2 wr.heap.size 1 hXlt hXne).trans HX1.out
            have HOcv := Lib.hid HVc.out.1
            have HBLcv := Lib.hid HVc.out.2.1
            have HM1cv : Hid (n + (enc dd).length + (enc xb).length ≤ maxLen) := Lib.hid (by have := HE1.out; have := HE2.out; unfold maxLen; omega)
            have HM2cv : Hid ((n + (enc dd).length + (enc xb).length) * 1 ≤ 140737488355328) := Lib.hid (by have := HE1.out; have := HE2.out; omega)
            have HNLcv : Hid (xb < 18446744073709551616) := Lib.hid hxb
            clear hcs hown1 hgrow hat hlt5 hb ho
            go_wp2_with (first
              | (at_builtin; refine wpList_append_any _ rfl (.tmp 58) (.tmp 61) 23 rfl w.heap.size 5 i0 _ 1 1 Try.underlying23 hi hz0 hz1 hz2 rfl (by decide) _ _ (bv (([1] ++ enc l ++ ds) ++ enc dd)) (by rfl) HO2cv.out w2.heap.size A2 _ c2 (bv (enc xb)) (by rfl) HRDcv.out (bv_one _) HM1cv.out HM2cv.out HSZcv.out ?_; intro v3cv w3cv hv3 hg3 _; have HVcv := Lib.hid (app_put HBLcv.out HB2cv.out HOcv.out hv3 rfl hg3); clear hv3 hg3)
              | (go_at_call 14; (with_reducible refine (HNU.out xb HNLcv.out _).mono ?_); rintro e w2 ⟨v2, rfl, ho, hb⟩; obtain ⟨A2, c2, rfl⟩ := own_formB ho; have HRDcv := Lib.hid (Reads.of_own ho); have HO2cv := Lib.hid (own_bel HOcv.out hb); have HB2cv := Lib.hid hb; have HSZcv := Lib.hid (Nat.le_trans HBLcv.out.size hb.size); clear ho hb))
            have HBM : Hid ([1] ++ enc l ++ body true 0 (ps.take (k + 1)) = ([1] ++ enc l ++ ds) ++ enc dd ++ enc xb) := Lib.hid (by rw [HBX.out]; simp)
            go_wp2
            go_roundw
            case rel => exact ⟨k + 1, _, by omega, by go_num, HUP, Lib.hid (by rw [HBM.out]; exact HVcv.out.1), Lib.hid HVcv.out.2.1, by have := HE1.out; have := HE2.out; omega⟩
            case measure => simp [intOf]; omega
      · have hkl : k = l := by omega
        have e1 : ps.take k = ps := List.take_of_length_le (by rw [HL.out]; omega)
        have e2 : (ps.map (·.1)).take k = ps.map (·.1) := List.take_of_length_le (by rw [List.length_map, HL.out]; omega)
        have hbt : [1] ++ enc l ++ body true 0 ps = bts true ps := by rw [bts, HL.out]; simp
        have hu := HUK.out
        rw [e2] at hu
        have ho := HW.out
        rw [e1, hbt] at ho
        have hnl : n = (bts true ps).length := by have := ho.1; simp [bv] at this; omega
        rw [hnl] at ho
        obtain ⟨A2, c2, rfl⟩ := own_formB ho
        have HO := Lib.hid ho
        have HUU := Lib.hid hu
        have d0 : decide ((k : Int) < (l : Int)) = false := decide_eq_false (by omega)
        have d0n : decide (k < l) = false := decide_eq_false hlt
        clear hkl e1 e2 hbt hu ho hlt
        go_wp2
        go_ret2
        exact ⟨HBL.out, .inl ⟨HUU.out, A2, c2, rfl, HO.out⟩⟩
  | false =>
    have HOa : Hid ((w.alloc (.cells #[.int .u8 0] 5)).ownsRow w.heap.size 5 1 (.slice (some ⟨w.heap.size, 0, none⟩) 1 1) 1 (bv [0])) := Lib.hid (own_one w 0)
    have HBa : Hid (Below w.heap.size w (w.alloc (.cells #[.int .u8 0] 5))) := Lib.hid ((Below.refl _ w).alloc (Nat.le_refl _) _)
    go_enter Try.func20, Try.ntmps20
    go_wp2_with (first
      | (at_builtin; refine wpList_append_any _ rfl (.tmp 13) (.tmp 17) 23 rfl w.heap.size 5 i0 _ 1 1 Try.underlying23 hi hz0 hz1 hz2 rfl (by decide) _ _ (bv [0]) (by rfl) HO2a.out w2.heap.size A2 _ c2 (bv (enc l)) (by rfl) HRDa.out (bv_one _) HM1a.out HM2a.out HSZa.out ?_; intro v3a w3a hv3 hg3 _; have HVa := Lib.hid (app_put HBa.out HB2a.out HOa.out hv3 rfl hg3); clear hv3 hg3)
      | (go_at_call 14; (with_reducible refine (HNU.out l HNLa.out _).mono ?_); rintro e w2 ⟨v2, rfl, ho, hb⟩; obtain ⟨A2, c2, rfl⟩ := own_formB ho; have HRDa := Lib.hid (Reads.of_own ho); have HO2a := Lib.hid (own_bel HOa.out hb); have HB2a := Lib.hid hb; have HSZa := Lib.hid (Nat.le_trans HBa.out.size hb.size); clear ho hb))
    go_loopw [6, 21] (fun v i wr => ∃ k n : Nat, k ≤ l ∧ i = .int .i64 k ∧ Hid (K.Up ((ps.map (·.1)).take k)) ∧ Hid (wr.ownsRow w.heap.size 5 1 v n (bv ([0] ++ enc l ++ body false 0 (ps.take k)))) ∧ Hid (Below w.heap.size w wr) ∧ n ≤ 11 + 20 * k) (fun _ i _ => l - (intOf i).toNat)
    case atStart => exact ⟨0, _, by omega, rfl, Lib.hid List.Pairwise.nil, Lib.hid (by have := HVa.out.1; simpa [body] using this), Lib.hid HVa.out.2.1, by have := HLN.out; omega⟩
    case round =>
      obtain ⟨k, n, hk, rfl, HUK, HW, HBL, hnk⟩ := hrel
      obtain ⟨vl, hvl⟩ : ∃ v, v = u6 := ⟨_, rfl⟩
      subst hvl
      by_cases hlt : k < l
      · have hlt' : k < ps.length := by rw [HL.out]; exact hlt
        obtain ⟨b, off, rfl, hbw, hc0, hc1⟩ := (HR.out.below HBL.out (Nat.le_refl _)).at hlt'
        have hbl : b < wr.heap.size := Nat.lt_of_lt_of_le hbw HBL.out.size
        have d0 : decide ((k : Int) < (l : Int)) = true := decide_eq_true (by omega)
        have wk : IntKind.i64.wrap ((k : Int) + 1) = (k : Int) + 1 := IntWalk.i64_in _ (by omega)
        have HBX := Lib.hid (body_more false hlt')
        have hxx := HX.out _ (List.getElem_mem hlt')
        have hgm : (ps.map (·.1))[k]'(by rw [List.length_map]; exact hlt') = ps[k].1 := by rw [List.getElem_map]
        have HGM := Lib.hid hgm
        clear hgm
        generalize hxe : ps[k] = x at *
        obtain ⟨xa, xb⟩ := x
        dsimp only at hc0 hc1 HBX HGM hxx
        obtain ⟨hxa, hxb⟩ := hxx
        have HE2 : Hid ((enc xb).length ≤ 10) := Lib.hid (enc_ten hxb)
        generalize hds : body false 0 (ps.take k) = ds at *
        have HO := Lib.hid (HW.out.alloc (.cells #[.int .u64 (xa : Int), .int .u64 (xb : Int)] 39))
        have HB := Lib.hid (HBL.out.alloc HBL.out.size (.cells #[.int .u64 (xa : Int), .int .u64 (xb : Int)] 39))
        have HXlt : Hid (wr.heap.size < (wr.alloc (.cells #[.int .u64 (xa : Int), .int .u64 (xb : Int)] 39)).heap.size) := Lib.hid (by simp)
        have HXne : Hid (some wr.heap.size ≠ vl.ownBlock) := Lib.hid (fun e => by have := (HW.out.lt _ e.symm).2; omega)
        have HX1 : Hid ((wr.alloc (.cells #[.int .u64 (xa : Int), .int .u64 (xb : Int)] 39)).cell? ⟨wr.heap.size, 1, none⟩ = some (.int .u64 (xb : Int))) := Lib.hid (by simp)
        clear hds hxe
        by_cases hk0 : k = 0
        · have g1 : ((k : Int) == 0) = true := by simp; omega
          have g2 : decide ((k : Int) = 0) = true := decide_eq_true (by omega)
          have g3 : decide (k = 0) = true := decide_eq_true hk0
          have HUP : Hid (K.Up ((ps.map (·.1)).take (k + 1))) := Lib.hid (by subst hk0; exact up_one)
          have hnx : nxt 0 (ps.take k) = 0 := by subst hk0; rfl
          rw [hnx, Nat.sub_zero] at HBX
          have HE1 : Hid ((enc xa).length ≤ 10) := Lib.hid (enc_ten hxa)
          have HNLb : Hid (xa < 18446744073709551616) := Lib.hid hxa
          have HM1b : Hid (n + (enc xa).length ≤ maxLen) := Lib.hid (by have := HE1.out; unfold maxLen; omega)
          have HM2b : Hid ((n + (enc xa).length) * 1 ≤ 140737488355328) := Lib.hid (by have := HE1.out; omega)
          clear hk0 hnx
          go_wp2_with (first
            | (at_builtin; refine wpList_append_any _ rfl (.tmp 42) (.tmp 45) 23 rfl w.heap.size 5 i0 _ 1 1 Try.underlying23 hi hz0 hz1 hz2 rfl (by decide) _ _ (bv ([0] ++ enc l ++ ds)) (by rfl) HO2b.out w2.heap.size A2 _ c2 (bv (enc xa)) (by rfl) HRDb.out (bv_one _) HM1b.out HM2b.out HSZb.out ?_; intro v3b w3b hv3 hg3 _; have HVb := Lib.hid (app_put HB.out HB2b.out HO.out hv3 rfl hg3); clear hv3 hg3)
            | (go_at_call 14; (with_reducible refine (HNU.out xa HNLb.out _).mono ?_); rintro e w2 ⟨v2, rfl, ho, hb⟩; obtain ⟨A2, c2, rfl⟩ := own_formB ho; have HRDb := Lib.hid (Reads.of_own ho); have HO2b := Lib.hid (own_bel HO.out hb); have HB2b := Lib.hid hb; have HSZb := Lib.hid (Nat.le_trans HB.out.size hb.size); clear ho hb))
          have HBM : Hid ([0] ++ enc l ++ body false 0 (ps.take (k + 1)) = ([0] ++ enc l ++ ds) ++ enc xa) := Lib.hid (by rw [HBX.out]; simp)
          go_wp2
          go_roundw
          case rel => exact ⟨k + 1, _, by omega, by go_num, HUP, Lib.hid (by rw [HBM.out]; exact HVb.out.1), Lib.hid HVb.out.2.1, by have := HE1.out; omega⟩
          case measure => simp [intOf]; omega
        · obtain ⟨k1, hk1⟩ : ∃ k1, k = k1 + 1 := ⟨k - 1, by omega⟩
          have hk1' : k1 < ps.length := by omega
          obtain ⟨b', off', hA, _, hp0, _⟩ := (HR.out.below HBL.out (Nat.le_refl _)).at hk1'
          injection hA with hA
          injection hA with ea eb
          subst ea eb
          obtain ⟨la, hla⟩ : ∃ la, ps[k1].1 = la := ⟨_, rfl⟩
          rw [hla] at hp0
          have hnx : nxt 0 (ps.take k) = la + 1 := by rw [hk1, nxt_take hk1', hla]
          rw [hnx] at HBX
          have g1 : ((k : Int) == 0) = false := by simp; omega
          have g2 : decide ((k : Int) = 0) = false := decide_eq_false (by omega)
          have g3 : decide (k = 0) = false := decide_eq_false hk0
          have x3 : IntKind.i64.wrap ((k : Int) - 1) = (k1 : Int) := by rw [show (k : Int) - 1 = (k1 : Int) by omega]; exact IntWalk.i64_in _ (by omega)
          have hi2 : (k1 : Int) < (l : Int) := by omega
          have hi3 : (0 : Int) ≤ (k1 : Int) := by omega
          have hlam : (ps.map (·.1))[k1]'(by rw [List.length_map]; exact hk1') = la := by rw [List.getElem_map]; exact hla
          have hll : la < 18446744073709551616 := by rw [← hla]; exact (HX.out _ (List.getElem_mem hk1')).1
          have hxm : ∀ h, (ps.map (·.1))[k1 + 1]'h = xa := by subst hk1; exact fun h => HGM.out
          have hbel := (Below.refl wr.heap.size wr).alloc (Nat.le_refl _) (.cells #[.int .u64 (xa : Int), .int .u64 (xb : Int)] 39)
          have hp3 : (wr.alloc (.cells #[.int .u64 (xa : Int), .int .u64 (xb : Int)] 39)).cell? ⟨b, off + k1 * 2, none⟩ = some (.int .u64 (la : Int)) := (hbel.cell (p := ⟨b, off + k1 * 2, none⟩) hbl).trans hp0
          have hx0 : (wr.alloc (.cells #[.int .u64 (xa : Int), .int .u64 (xb : Int)] 39)).cell? ⟨wr.heap.size, 0, none⟩ = some (.int .u64 (xa : Int)) := by simp
          have hlx : k1 + 1 < (ps.map (·.1)).length := by rw [List.length_map]; omega
          by_cases hle : xa ≤ la
          · have m1 : decide ((xa : Int) ≤ (la : Int)) = true := decide_eq_true (by omega)
            have m2 : decide (xa ≤ la) = true := decide_eq_true hle
            have HNU2 : Hid (¬ K.Up (ps.map (·.1))) := Lib.hid (up_not (k := k1) hlx (by rw [hxm, hlam]; exact hle))
            clear hk1 hla hnx hlam hxm hbel hlx hle hk0
            go_wp2
            go_quiet (fail)
            go_wp2
            go_ret2
            exact ⟨below_drewN HB.out _, .inr ⟨HNU2.out, rfl⟩⟩
          · have m1 : decide ((xa : Int) ≤ (la : Int)) = false := decide_eq_false (by omega)
            have m2 : decide (xa ≤ la) = false := decide_eq_false hle
            have HUP : Hid (K.Up ((ps.map (·.1)).take (k + 1))) := Lib.hid (by have := HUK.out; subst hk1; exact up_next hlx this (by rw [hxm, hlam]; omega))
            obtain ⟨dd, hdd⟩ : ∃ dd, xa - (la + 1) = dd := ⟨_, rfl⟩
            rw [hdd] at HBX
            have x5 : IntKind.u64.wrap ((xa : Int) - (la : Int)) = (xa : Int) - (la : Int) := by rw [IntKind.wrap_u64]; omega
            have x6 : IntKind.u64.wrap ((xa : Int) - (la : Int) - 1) = (dd : Int) := by rw [IntKind.wrap_u64]; omega
            have hdl : dd < 18446744073709551616 := by omega
            have HNLc : Hid (dd < 18446744073709551616) := Lib.hid hdl
            have HE1 : Hid ((enc dd).length ≤ 10) := Lib.hid (enc_ten hdl)
            have HM1c : Hid (n + (enc dd).length ≤ maxLen) := Lib.hid (by have := HE1.out; unfold maxLen; omega)
            have HM2c : Hid ((n + (enc dd).length) * 1 ≤ 140737488355328) := Lib.hid (by have := HE1.out; omega)
            have hbne : some b ≠ vl.ownBlock := fun e => by have := (HW.out.lt _ e.symm).1; omega
            have hXne := HXne.out
            have hXlt := HXlt.out
            have hblt : b < (wr.alloc (.cells #[.int .u64 (xa : Int), .int .u64 (xb : Int)] 39)).heap.size := Nat.lt_trans hbl hXlt
            clear hk1 hla hnx hlam hxm hbel hlx hle hk0 hdd hdl
            go_wp2
            go_quiet (fail)
            go_wp2
            go_region_held3 (fun W => W.cell? ⟨b, off + k1 * 2, none⟩ = some (.int .u64 (la : Int)) ∧ W.cell? ⟨wr.heap.size, 0, none⟩ = some (.int .u64 (xa : Int)))
              (first | exact ⟨hp3, hx0⟩ | exact ⟨(hb.cell (p := ⟨b, off + k1 * 2, none⟩) hblt).trans hp3, (hb.cell (p := ⟨wr.heap.size, 0, none⟩) hXlt).trans hx0⟩ | exact ⟨(hgrow.cell_far ⟨b, off + k1 * 2, none⟩ (Nat.lt_of_lt_of_le hblt hb.size) hbne).trans ((hb.cell (p := ⟨b, off + k1 * 2, none⟩) hblt).trans hp3), (hgrow.cell_far ⟨wr.heap.size, 0, none⟩ (Nat.lt_of_lt_of_le hXlt hb.size) hXne).trans ((hb.cell (p := ⟨wr.heap.size, 0, none⟩) hXlt).trans hx0)⟩)
              (first
                | (go_at_call 14; (with_reducible refine (HNU.out dd HNLc.out _).mono ?_); rintro e w2 ⟨v2, rfl, ho, hb⟩; obtain ⟨g2, c2, rfl, hcs⟩ := own_someB ho (enc_pos dd); have HO2c : Hid (w2.ownsRow w.heap.size 5 1 vl n (bv ([0] ++ enc l ++ ds))) := Lib.hid (own_bel (by exact HO.out) hb); have HSZc : Hid (w.heap.size ≤ w2.heap.size) := Lib.hid (Nat.le_trans HB.out.size hb.size))
                | (refine step_append_lies _ (by rfl) _ _ _ (by rfl) w.heap.size 5 i0 _ 1 1 Try.underlying23 hi hz0 hz1 hz2 rfl (by decide) vl n (bv ([0] ++ enc l ++ ds)) (by rfl) HO2c.out ⟨g2, 0, none⟩ (enc dd).length c2 (bv (enc dd)) (by rfl) (by simp [bv]) hcs (bv_one _) (enc_pos dd) HM1c.out HM2c.out HSZc.out w2.heap.size (by rfl) ?_; intro g5 c5 w5 hown1 hgrow hat hlt5))
            have HVc := Lib.hid (app_put (by first | exact below_drewN HB.out _ | exact below_drewN (below_drewN HB.out _) _) hb (by exact HO.out) hown1 rfl hgrow)
            clear hcs hown1 hgrow hat hlt5 hb ho
            have HBM : Hid ([0] ++ enc l ++ body false 0 (ps.take (k + 1)) = ([0] ++ enc l ++ ds) ++ enc dd) := Lib.hid (by rw [HBX.out]; simp)
            go_wp2
            go_roundw
            case rel => exact ⟨k + 1, _, by omega, by go_num, HUP, Lib.hid (by rw [HBM.out]; exact HVc.out.1), Lib.hid HVc.out.2.1, by have := HE1.out; omega⟩
            case measure => simp [intOf]; omega
      · have hkl : k = l := by omega
        have e1 : ps.take k = ps := List.take_of_length_le (by rw [HL.out]; omega)
        have e2 : (ps.map (·.1)).take k = ps.map (·.1) := List.take_of_length_le (by rw [List.length_map, HL.out]; omega)
        have hbt : [0] ++ enc l ++ body false 0 ps = bts false ps := by rw [bts, HL.out]; simp
        have hu := HUK.out
        rw [e2] at hu
        have ho := HW.out
        rw [e1, hbt] at ho
        have hnl : n = (bts false ps).length := by have := ho.1; simp [bv] at this; omega
        rw [hnl] at ho
        obtain ⟨A2, c2, rfl⟩ := own_formB ho
        have HO := Lib.hid ho
        have HUU := Lib.hid hu
        have d0 : decide ((k : Int) < (l : Int)) = false := decide_eq_false (by omega)
        have d0n : decide (k < l) = false := decide_eq_false hlt
        clear hkl e1 e2 hbt hu ho hlt
        go_wp2
        go_ret2
        exact ⟨HBL.out, .inl ⟨HUU.out, A2, c2, rfl, HO.out⟩⟩
end E
end Go.Proofs.Ytclaejaicjmohaa
