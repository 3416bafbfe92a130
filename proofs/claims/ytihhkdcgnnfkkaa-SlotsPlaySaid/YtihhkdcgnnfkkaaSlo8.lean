
/- The law SlotsPlay; the text walked. -/
import Derived.Test.YtihhkdcgnnfkkaaSlo8A
import Derived.Deep.CutBlock
namespace Go.Proofs.Ytihhkdcgnnfkkaa
set_option maxRecDepth 20000
open Go.RowKit
theorem SG.x0 {R : World → (Nat → Prop) → Prop} {w W : World} {S lim X d k y : Nat} {l2 : Tr} (h : SG (Rn R (RX X (Obj.cells #[.int .u8 (d : Int), .int .u64 (k : Int), .int .u64 (y : Int)] 31 (0, 0)))) w W S lim l2) : W.cell? ⟨X, 0, none⟩ = some (.int .u8 (d : Int)) ∧ W.cell? ⟨X, 1, none⟩ = some (.int .u64 (k : Int)) ∧ W.cell? ⟨X, 2, none⟩ = some (.int .u64 (y : Int)) :=
  ⟨cell_of_row W X 0 _ _ (0, 0) h.row, cell_of_row W X 1 _ _ (0, 0) h.row, cell_of_row W X 2 _ _ (0, 0) h.row⟩
theorem mod9S (d : Nat) (m : Nat) (hm : d % 9 = m) : (d : Int).tmod 9 = (m : Int) ∧ (d : Int) % 9 = (m : Int) := by
  constructor
  · rw [Int.tmod_eq_emod_of_nonneg (by omega)]; omega
  · omega
theorem mod30S (d : Nat) (m : Nat) (hm : d % 30 = m) : (d : Int).tmod 30 = (m : Int) ∧ (d : Int) % 30 = (m : Int) := by
  constructor
  · rw [Int.tmod_eq_emod_of_nonneg (by omega)]; omega
  · omega
theorem roomS (a n : Nat) : decide ((a : Int) < (n : Int)) = decide ((1 : Int) ≤ (n : Int) - (a : Int)) := by rw [decide_eq_decide]; omega
theorem roomZ (n : Nat) : decide ((0 : Int) < (n : Int)) = decide ((1 : Int) ≤ (n : Int) - (([] : Pr.L).length : Int)) := by rw [decide_eq_decide]; simp; omega
theorem leS {a n : Nat} (h : n ≤ a) : decide ((n : Int) ≤ (a : Int)) = true := decide_eq_true (by omega)
theorem ltS {a n : Nat} (h : ¬ n ≤ a) : decide ((n : Int) ≤ (a : Int)) = false := decide_eq_false (by omega)
theorem measS {i L : Nat} (h : i + 1 ≤ L) : L - (intOf (.int .i64 ((i : Int) + 1))).toNat < L - (intOf (.int .i64 (i : Int))).toNat := by simp [intOf]; omega
theorem nextS (i : Nat) : Value.int .i64 ((i : Int) + 1) = .int .i64 ((i + 1 : Nat) : Int) := rfl
theorem smallS {a n : Nat} (h : a ≤ n) (hn : n < 30) : a < 1000000 := by omega
set_option maxRecDepth 100000 in
set_option maxHeartbeats 8000000 in
theorem law_play (seed q : Nat) (hq : q < 256) (Ad : Option Addr) (cp : Nat) (xs : List (Nat × Nat × Nat)) (w : World) (hr : Ra3 w w.heap.size Ad xs) (hl : xs.length ≤ 9223372036854775807) :
    Calls Try.prog 3 #[.int .u64 (seed : Int), .int .u8 (q : Int), .slice Ad xs.length cp] w fun e w' => e = .returned (.bool true) ∧ Below w.heap.size w w' := by
  obtain ⟨i0, hi, hz0, hz1, hz2⟩ := info_parts u64_info
  obtain ⟨n, hn⟩ : ∃ n, q % 30 = n := ⟨_, rfl⟩
  obtain ⟨em1, em2⟩ := mod30S q n hn
  have hn30 : n < 30 := by omega
  have wn : IntKind.i64.wrap (n : Int) = (n : Int) := IntWalk.i64_in _ (by omega)
  have wn8 : IntKind.u8.wrap (n : Int) = (n : Int) := by simp [IntKind.wrap, IntKind.signed, IntKind.bits]; omega
  clear hn hq
  go_enter Try.func3, Try.ntmps3
  go_upto_block 0 with (first
    | (go_at_call 6; (with_reducible refine (awake_any _).mono ?_); rintro e w1 ⟨rfl, hb1⟩; have B1 := Lib.hid hb1; clear hb1)
    | (go_at_call 7; (with_reducible refine (s_new w1 seed n (by omega)).mono ?_); rintro e w2 ⟨S, O, rfl, h2, hO, hb2⟩
       have G2 : Hid (SG (RP (.slice none 0 0) []) w w2 S n []) := ⟨O, h2, (fun j hj => Nat.le_trans B1.out.size (hO j hj)), B1.out.trans (hb2.mono B1.out.size), PX.nil _, (fun g hg => by simp [Value.ownBlock] at hg)⟩
       clear h2 hO hb2))
  clear B1
  go_cut [10, 11, 12, 13, 14, 15, 16, 17, 18, 19] from 38 (fun s10 s11 s12 s13 s14 s15 s16 s17 s18 s19 wc => ∃ (l' : Pr.L) (A' : Option Addr) (c' : Nat), s10 = .slice A' l'.length c' ∧ l'.length ≤ n ∧ Hid (Pr.Up l') ∧ Hid (SG (RP (.slice A' l'.length c') l') w wc S n l'))
  case rest =>
    obtain ⟨l', A', c', rfl, hln', HU', HG'⟩ := hcut
    clear hr G2 hl
    obtain ⟨O, hx, hO, hb, hpx, hno⟩ := HG'.out
    obtain ⟨vs, hvs⟩ : ∃ vs, l'.map (·.2) = vs := ⟨_, rfl⟩
    have hvl : vs.length = l'.length := by rw [← hvs, List.length_map]
    obtain ⟨A2, c2, e2, hcs⟩ := hpx.cells
    injection e2 with eA _ eC
    subst eA eC
    have hG2 : ∀ (k : Nat) (h : k < vs.length), ∃ g a, A' = some ⟨g, 0, none⟩ ∧ g < wc.heap.size ∧ wc.cell? ⟨g, k * 2, none⟩ = some (.int .u64 (a : Nat)) ∧ wc.cell? ⟨g, k * 2 + 1, none⟩ = some (.int .u64 (vs[k] : Nat)) := fun k hk => by
      obtain ⟨g, h1, h2, h3, h4⟩ := hcs k (by omega)
      refine ⟨g, _, h1, h2, h3, ?_⟩
      have e : vs[k] = l'[k].2 := by subst hvs; simp
      rw [e]
      exact h4
    obtain ⟨mm, hmm⟩ : ∃ mm, vs.length = mm := ⟨_, rfl⟩
    have hm30 : mm < 30 := by omega
    have hlm : l'.length = mm := by omega
    have HMM := Lib.hid hmm
    have HG := Lib.hid hG2
    have HX := Lib.hid hx
    have HO := Lib.hid hO
    have HB := Lib.hid hb
    have HPX := Lib.hid hpx
    have HNO := Lib.hid hno
    have HVS := Lib.hid hvs
    have HLM := Lib.hid hlm
    clear hG2 hcs hx hO hb hpx hno hvs hvl hmm HU' HG' hln' em1 em2 wn wn8
    rw [hlm]
    clear hlm
    go_wp2
    go_loopw [20, 170] (fun r i wr => ∃ k : Nat, k ≤ mm ∧ i = .int .i64 k ∧ Hid (wr.ownsRow wc.heap.size 22 1 r (vs.take k).length (wv (vs.take k))) ∧ Hid (Below wc.heap.size wc wr)) (fun _ i _ => mm - (intOf i).toNat)
    case atStart => exact ⟨0, by omega, rfl, Lib.hid (by simp [World.ownsRow_nil]), Lib.hid (Below.refl _ _)⟩
    case round =>
      obtain ⟨k, hk, rfl, HOW, HBW⟩ := hrel
      by_cases hlt : k < mm
      · have hlt' : k < vs.length := by rw [HMM.out]; exact hlt
        obtain ⟨g, a, rfl, hg, hc0, hc1⟩ := HG.out k hlt'
        rw [← HBW.out.cell (p := ⟨g, k * 2, none⟩) hg] at hc0
        rw [← HBW.out.cell (p := ⟨g, k * 2 + 1, none⟩) hg] at hc1
        have d0 : (k : Int) < (mm : Int) := by omega
        have wk : IntKind.i64.wrap ((k : Int) + 1) = (k : Int) + 1 := IntWalk.i64_in _ (by omega)
        have HS := Lib.hid (take_snocN hlt')
        have hlen : (vs.take k).length ≤ 1000000 := by rw [List.length_take]; omega
        generalize vs.take k = ds at *
        generalize vs[k] = y at *
        have hx1 : (wr.alloc (.cells #[.int .u64 (a : Int), .int .u64 (y : Int)] 39)).cell? ⟨wr.heap.size, 1, none⟩ = some (.int .u64 (y : Int)) := by simp
        have HOW1 := Lib.hid (HOW.out.alloc (.cells #[.int .u64 (a : Int), .int .u64 (y : Int)] 39))
        have HBW1 := Lib.hid (HBW.out.alloc HBW.out.size (.cells #[.int .u64 (a : Int), .int .u64 (y : Int)] 39))
        have HSZ : Hid (wc.heap.size ≤ wr.heap.size) := HBW.out.size
        go_wp2_with (at_builtin; refine wpList_append_own _ rfl _ _ 45 rfl wc.heap.size 22 i0 (.int .u64 0) 1 8 Try.underlying45 hi hz0 hz1 hz2 rfl (by decide) _ _ _ rfl (HOW1.out.alloc _) ⟨_, 0, none⟩ 1 1 [.int .u64 (y : Int)] rfl rfl ?c1 ?c2 ?c3 ?c4 ?c5 ?_)
        case c1 =>
          have e := cell_one (wr.alloc (.cells #[.int .u64 (a : Int), .int .u64 (y : Int)] 39)) (.int .u64 (y : Int)) 22
          rw [World.size_alloc] at e
          exact e
        case c2 => first | exact one_int _ _ | rfl
        case c3 => unfold maxLen; omega
        case c4 => omega
        case c5 => have := HSZ.out; simp; omega
        intro v' w1 hown' hgrow _
        obtain ⟨hown2, hb2⟩ := own_snocN HBW1.out HOW1.out hown' hgrow
        rw [← HS.out] at hown2
        have HO2 := Lib.hid hown2
        have HB2 := Lib.hid hb2
        clear hown' hgrow hown2 hb2
        go_wp2
        go_roundw
        case rel => exact ⟨k + 1, by omega, by go_num, HO2, HB2⟩
        case measure => simp [intOf]; omega
      · obtain rfl : k = mm := by omega
        have hT : vs.take k = vs := by rw [← HMM.out, List.take_length]
        have hO1 := HOW.out
        rw [hT] at hO1
        have hkr : KX wr u20 vs := K.kx_of hO1 rfl
        have hnr : ∀ g, u20.ownBlock = some g → ¬ O g := fun g hg ho => by
          have h1 := (K.own_lt hO1 hg).2
          have h2 := HX.out.lt g ho
          omega
        have hxr : SX wr S n l' O := HX.out.chg (K.Chg.of_below (O := fun _ => False) HBW.out) (fun _ _ h => h)
        have hpr : PX wr (.slice A' l'.length c') l' := HPX.out.below HBW.out
        have HKY := Lib.hid (pr_keys wr _ l' hpr (by rw [HLM.out]; omega))
        rw [HLM.out] at HKY
        obtain ⟨Ar, cr, rfl, _⟩ := kx_rwS hkr
        have HKR := Lib.hid hkr
        have HNR := Lib.hid hnr
        have HSW := Lib.hid hxr
        clear hT hO1 hkr hnr hxr hpr HG HOW
        go_wp2_with (first
          | (go_at_call 19; (with_reducible refine HKY.out.mono ?_); rintro e w5 ⟨v5, rfl, hk5, hb5, hn5⟩
             have HGE := Lib.hid (s_gets w5 S n l' O (HSW.out.chg (K.Chg.of_below (O := fun _ => False) hb5) (fun _ _ h => h)) v5 l' hk5 (fun g hg ho => (by have h1 := hn5 g hg; have h2 := HSW.out.lt g ho; omega)) (fun x h => h) (by rw [HLM.out]; omega))
             have HKR5 := Lib.hid (HKR.out.below hb5)
             have HB5 := Lib.hid hb5
             clear hk5 hb5 hn5)
          | (go_at_call 18; (with_reducible refine HGE.out.mono ?_); rintro e w6 ⟨v6, rfl, hk6, hsr⟩
             obtain ⟨O6, _, hc6, _⟩ := hsr
             rw [HVS.out] at hk6
             have hkr6 : KX w6 (.slice Ar vs.length cr) vs := hc6.kx HKR5.out HNR.out
             obtain ⟨Ar', cr', er, hrr⟩ := kx_rwS hkr6
             injection er with eA _ eC
             subst eA eC
             obtain ⟨A6, c6, rfl, hr6⟩ := kx_rwS hk6
             have HSK := Lib.hid (ref_samekeys A6 Ar c6 cr vs vs w6 w6.heap.size w6.heap.size hr6 hrr (by rw [HMM.out]; omega) (by rw [HMM.out]; omega))
             have HC6 := Lib.hid hc6
             clear hk6 hc6 hkr6 hr6 hrr)
          | (go_at_call 17; (with_reducible refine HSK.out.mono ?_); rintro e w7 ⟨rfl, N, rfl⟩))
        go_ret
        have b1 : Below w.heap.size w wr := HB.out.trans (HBW.out.mono HB.out.size)
        have b2 : Below w.heap.size w w5 := b1.trans (HB5.out.mono b1.size)
        have b3 : Below w.heap.size w w6 := b2.trans (HC6.out.below b2.size HO.out)
        exact ⟨by simp, below_drewN b3 N⟩
  go_wp2
  go_loopw [10, 38] (fun v u wr => ∃ (i : Nat) (l : Pr.L), u = .int .i64 (i : Int) ∧ i ≤ xs.length ∧ l.length ≤ n ∧ Hid (Pr.Up l) ∧ Hid (SG (RP v l) w wr S n l)) (fun _ u _ => xs.length - (intOf u).toNat)
  case atStart => exact ⟨0, [], rfl, by omega, Nat.zero_le _, Lib.hid Pr.up_nil, G2⟩
  case round =>
    obtain ⟨i, l, rfl, hi, hln, HU, HG⟩ := hrel
    clear G2
    obtain ⟨v, hv⟩ : ∃ v, v = u10 := ⟨_, rfl⟩
    subst hv
    obtain ⟨A, c, rfl, _⟩ := HG.out.px.cells
    by_cases hlt : i < xs.length
    · obtain ⟨b, off, rfl, hd, hk, c0, c1, c2⟩ := hr.at HG.out.low hlt
      have T1 : decide ((i : Int) < (xs.length : Int)) = true := decide_eq_true (by omega)
      have wi1 : IntKind.i64.wrap ((i : Int) + 1) = (i : Int) + 1 := IntWalk.i64_in _ (by omega)
      generalize xs[i] = x at *
      obtain ⟨d, k, y⟩ := x
      dsimp only at hd hk c0 c1 c2
      have H1 := Lib.hid (SG.new (apartP _ _) HG.out (.cells #[.int .u8 (d : Int), .int .u64 (k : Int), .int .u64 (y : Int)] 31))
      by_cases h80 : i < 80
      · have T2 : decide (80 ≤ (i : Int)) = false := decide_eq_false (by omega)
        have T3 : decide (80 ≤ i) = false := decide_eq_false (by omega)
        have hI : Hid (i + 1 ≤ xs.length) := Lib.hid hlt
        have HF : Hid (Calls Try.prog 8 #[.slice A l.length c, .int .u64 (k : Int)] (wr.alloc (.cells #[.int .u8 (d : Int), .int .u64 (k : Int), .int .u64 (y : Int)] 31)) fun e w' => e = .returned (.tuple #[.int .i64 (Pr.fi l k : Nat), .bool (Pr.fo l k)]) ∧ SG (Rn (RP (.slice A l.length c) l) (RX wr.heap.size (Obj.cells #[.int .u8 (d : Int), .int .u64 (k : Int), .int .u64 (y : Int)] 31 (0, 0)))) w w' S n l) := Lib.hid ((pr_find _ _ l H1.out.fst.px (Nat.le_trans (Nat.le_of_lt (smallS hln hn30)) (by decide)) k).mono fun e w' ⟨h1, h2⟩ => ⟨h1, H1.out.below (apartN (apartP _ _) (apartX _ _)) h2⟩)
        obtain ⟨hx0, hx1, hx2⟩ := H1.out.x0
        have AP : Apart (Rn (RP (.slice A l.length c) l) (RX wr.heap.size (Obj.cells #[.int .u8 (d : Int), .int .u64 (k : Int), .int .u64 (y : Int)] 31 (0, 0)))) := apartN (apartP _ _) (apartX _ _)
        have HAP := Lib.hid AP
        clear AP
        obtain ⟨m, hm⟩ : ∃ m, d % 9 = m := ⟨_, rfl⟩
        obtain ⟨e1, e2⟩ := mod9S d m hm
        have hm9 : m < 9 := by omega
        clear hm
        go_upto_block 2 with (go_at_call 8; (with_reducible refine HF.out.mono ?_); rintro e w3 ⟨rfl, h3⟩; obtain ⟨hx0, hx1, hx2⟩ := h3.x0; have H3 := Lib.hid h3; clear h3)
        go_cut [10, 13, 14, 15, 16, 17, 18, 19] from 39 to 167 (fun s10 s13 s14 s15 s16 s17 s18 s19 wc => ∃ (l' : Pr.L) (A' : Option Addr) (c' : Nat), s10 = .slice A' l'.length c' ∧ l'.length ≤ n ∧ Hid (Pr.Up l') ∧ Hid (SG (RP (.slice A' l'.length c') l') w wc S n l'))
        case first =>
          obtain hm0 | hm0 | hm0 | hm0 | hm0 | hm0 : m = 3 ∨ m = 4 ∨ m = 5 ∨ m = 6 ∨ m = 8 ∨ (m ≠ 3 ∧ m ≠ 4 ∧ m ≠ 5 ∧ m ≠ 6 ∧ m ≠ 8) := by omega
          · subst hm0
            clear hm9
            by_cases hG : Pr.fo l k = true
            · obtain ⟨hF, hFk, hFp⟩ := Pr.drop_perm hG
              rw [hG]
              have HD := Lib.hid (SG.op HAP.out H3.out (fun O hx => s_drop_yes hx k _ _ hFp (smallS hln hn30)))
              go_wp2_with (first
                | (go_at_call 9; (with_reducible refine HD.out.mono ?_); rintro e w4 ⟨rfl, h4⟩
                   obtain ⟨hx0, hx1, hx2⟩ := h4.x0
                   have HRD := Lib.hid (pr_drop w4 _ l h4.fst.px (Nat.le_of_lt (smallS hln hn30)) k)
                   have H4 := Lib.hid h4
                   clear h4)
                | (go_at_call 10; (with_reducible refine HRD.out.mono ?_); rintro e w5 ⟨v5, rfl, hk5, hb5, hf5⟩
                   have h5 := SG.list (apartX _ _) H4.out hb5 hk5 hf5
                   obtain ⟨A5, c5, rfl, _⟩ := hk5.cells
                   have H9 := Lib.hid (h5)
                   clear h5 hk5 hb5 hf5))
              go_meet
              exact ⟨Pr.drop l k, A5, c5, rfl, Nat.le_trans (Pr.drop_le k) hln, Lib.hid (Pr.drop_up HU.out k), H9⟩
            · rw [Bool.not_eq_true] at hG
              have hno := Pr.no_of HU.out hG
              have HDE := Lib.hid (Pr.drop_no hG)
              rw [hG]
              have HD := Lib.hid (SG.op HAP.out H3.out (fun O hx => s_drop_no hx k hno))
              go_wp2_with (first
                | (go_at_call 9; (with_reducible refine HD.out.mono ?_); rintro e w4 ⟨rfl, h4⟩
                   obtain ⟨hx0, hx1, hx2⟩ := h4.x0
                   have HRD := Lib.hid (pr_drop w4 _ l h4.fst.px (Nat.le_of_lt (smallS hln hn30)) k)
                   have H4 := Lib.hid h4
                   clear h4)
                | (go_at_call 10; (with_reducible refine HRD.out.mono ?_); rintro e w5 ⟨v5, rfl, hk5, hb5, hf5⟩
                   have h5 := SG.list (apartX _ _) H4.out hb5 hk5 hf5
                   obtain ⟨A5, c5, rfl, _⟩ := hk5.cells
                   have H9 := Lib.hid (h5.perm (List.Perm.of_eq HDE.out.symm))
                   clear h5 hk5 hb5 hf5))
              go_meet
              exact ⟨Pr.drop l k, A5, c5, rfl, Nat.le_trans (Pr.drop_le k) hln, Lib.hid (Pr.drop_up HU.out k), H9⟩
          · subst hm0
            clear hm9
            by_cases hG : Pr.fo l k = true
            · obtain ⟨hF, hFk, hFp⟩ := Pr.drop_perm hG
              have hmem : (k, l[Pr.fi l k].2) ∈ l := by rw [show (k, l[Pr.fi l k].2) = l[Pr.fi l k] from Prod.ext hFk.symm rfl]; exact List.getElem_mem hF
              have HCE : Hid (∀ W, PX W (.slice A l.length c) l → ∃ g, A = some ⟨g, 0, none⟩ ∧ W.cell? ⟨g, Pr.fi l k * 2 + 1, none⟩ = some (.int .u64 (l[Pr.fi l k].2 : Nat))) := Lib.hid fun W h => by
                obtain ⟨A', c', e, h2⟩ := h.cells
                injection e with eA _ _
                subst eA
                obtain ⟨g, h3, h4, h5, h6⟩ := h2 _ hF
                exact ⟨g, h3, h6⟩
              have hFi : ((Pr.fi l k : Nat) : Int) < (l.length : Int) := Int.ofNat_lt.2 hF
              generalize l[Pr.fi l k].2 = z at *
              rw [hG]
              have HD := Lib.hid (SG.op HAP.out H3.out (fun O hx => s_get_yes hx k z hmem))
              go_wp2_with (first
                | (go_at_call 11; (with_reducible refine HD.out.mono ?_); rintro e w4 ⟨rfl, h4⟩
                   obtain ⟨g, hgA, hcz⟩ := HCE.out w4 h4.fst.px
                   subst hgA
                   have H9 := Lib.hid (h4.fst)
                   clear h4))
              go_meet
              exact ⟨l, _, c, rfl, hln, HU, H9⟩
            · rw [Bool.not_eq_true] at hG
              have hno := Pr.no_of HU.out hG
              rw [hG]
              have HD := Lib.hid (SG.op HAP.out H3.out (fun O hx => s_get_no hx k hno))
              go_wp2_with (first
                | (go_at_call 11; (with_reducible refine HD.out.mono ?_); rintro e w4 ⟨rfl, h4⟩
                   have H9 := Lib.hid (h4.fst)
                   clear h4))
              go_meet
              exact ⟨l, A, c, rfl, hln, HU, H9⟩
          · subst hm0
            clear hm9
            by_cases hG : Pr.fo l k = true
            · obtain ⟨hF, hFk, hFp⟩ := Pr.drop_perm hG
              have hmem : (k, l[Pr.fi l k].2) ∈ l := by rw [show (k, l[Pr.fi l k].2) = l[Pr.fi l k] from Prod.ext hFk.symm rfl]; exact List.getElem_mem hF
              have HCE : Hid (∀ W, PX W (.slice A l.length c) l → ∃ g, A = some ⟨g, 0, none⟩ ∧ W.cell? ⟨g, Pr.fi l k * 2 + 1, none⟩ = some (.int .u64 (l[Pr.fi l k].2 : Nat))) := Lib.hid fun W h => by
                obtain ⟨A', c', e, h2⟩ := h.cells
                injection e with eA _ _
                subst eA
                obtain ⟨g, h3, h4, h5, h6⟩ := h2 _ hF
                exact ⟨g, h3, h6⟩
              have hFi : ((Pr.fi l k : Nat) : Int) < (l.length : Int) := Int.ofNat_lt.2 hF
              generalize l[Pr.fi l k].2 = z at *
              rw [hG]
              have HD := Lib.hid (SG.op HAP.out H3.out (fun O hx => s_get_yes hx k z hmem))
              go_wp2_with (first
                | (go_at_call 11; (with_reducible refine HD.out.mono ?_); rintro e w4 ⟨rfl, h4⟩
                   obtain ⟨g, hgA, hcz⟩ := HCE.out w4 h4.fst.px
                   subst hgA
                   have H9 := Lib.hid (h4.fst)
                   clear h4))
              go_meet
              exact ⟨l, _, c, rfl, hln, HU, H9⟩
            · rw [Bool.not_eq_true] at hG
              have hno := Pr.no_of HU.out hG
              rw [hG]
              have HD := Lib.hid (SG.op HAP.out H3.out (fun O hx => s_get_no hx k hno))
              go_wp2_with (first
                | (go_at_call 11; (with_reducible refine HD.out.mono ?_); rintro e w4 ⟨rfl, h4⟩
                   have H9 := Lib.hid (h4.fst)
                   clear h4))
              go_meet
              exact ⟨l, A, c, rfl, hln, HU, H9⟩
          · subst hm0
            clear hm9
            by_cases hG : Pr.fo l k = true
            · obtain ⟨hF, hFk, hFp⟩ := Pr.drop_perm hG
              have hmem : (k, l[Pr.fi l k].2) ∈ l := by rw [show (k, l[Pr.fi l k].2) = l[Pr.fi l k] from Prod.ext hFk.symm rfl]; exact List.getElem_mem hF
              have HCE : Hid (∀ W, PX W (.slice A l.length c) l → ∃ g, A = some ⟨g, 0, none⟩ ∧ W.cell? ⟨g, Pr.fi l k * 2 + 1, none⟩ = some (.int .u64 (l[Pr.fi l k].2 : Nat))) := Lib.hid fun W h => by
                obtain ⟨A', c', e, h2⟩ := h.cells
                injection e with eA _ _
                subst eA
                obtain ⟨g, h3, h4, h5, h6⟩ := h2 _ hF
                exact ⟨g, h3, h6⟩
              have hFi : ((Pr.fi l k : Nat) : Int) < (l.length : Int) := Int.ofNat_lt.2 hF
              generalize l[Pr.fi l k].2 = z at *
              rw [hG]
              have HD := Lib.hid (SG.op HAP.out H3.out (fun O hx => s_get_yes hx k z hmem))
              go_wp2_with (first
                | (go_at_call 11; (with_reducible refine HD.out.mono ?_); rintro e w4 ⟨rfl, h4⟩
                   obtain ⟨g, hgA, hcz⟩ := HCE.out w4 h4.fst.px
                   subst hgA
                   have H9 := Lib.hid (h4.fst)
                   clear h4))
              go_meet
              exact ⟨l, _, c, rfl, hln, HU, H9⟩
            · rw [Bool.not_eq_true] at hG
              have hno := Pr.no_of HU.out hG
              rw [hG]
              have HD := Lib.hid (SG.op HAP.out H3.out (fun O hx => s_get_no hx k hno))
              go_wp2_with (first
                | (go_at_call 11; (with_reducible refine HD.out.mono ?_); rintro e w4 ⟨rfl, h4⟩
                   have H9 := Lib.hid (h4.fst)
                   clear h4))
              go_meet
              exact ⟨l, A, c, rfl, hln, HU, H9⟩
          · subst hm0
            clear hm9
            have HD := Lib.hid (SG.op HAP.out H3.out (fun O hx => s_clear hx))
            generalize Pr.fo l k = G at *
            go_wp2_with (first
              | (go_at_call 12; (with_reducible refine HD.out.mono ?_); rintro e w4 ⟨rfl, h4⟩
                 have h5 := SG.nolist h4
                 have H9 := Lib.hid (h5)
                 clear h4 h5))
            go_meet
            exact ⟨[], none, 0, rfl, Nat.zero_le _, Lib.hid Pr.up_nil, H9⟩
          · obtain ⟨n3, n4, n5, n6, n8⟩ := hm0
            have b3 : ((m : Int) == 3) = false := by simp; omega
            have q3 : (m == 3) = false := by simp; omega
            have r3 : decide ((m : Int) = 3) = false := decide_eq_false (by omega)
            have b4 : ((m : Int) == 4) = false := by simp; omega
            have q4 : (m == 4) = false := by simp; omega
            have r4 : decide ((m : Int) = 4) = false := decide_eq_false (by omega)
            have b5 : ((m : Int) == 5) = false := by simp; omega
            have q5 : (m == 5) = false := by simp; omega
            have r5 : decide ((m : Int) = 5) = false := decide_eq_false (by omega)
            have b6 : ((m : Int) == 6) = false := by simp; omega
            have q6 : (m == 6) = false := by simp; omega
            have r6 : decide ((m : Int) = 6) = false := decide_eq_false (by omega)
            have b8 : ((m : Int) == 8) = false := by simp; omega
            have q8 : (m == 8) = false := by simp; omega
            have r8 : decide ((m : Int) = 8) = false := decide_eq_false (by omega)
            clear n3 n4 n5 n6 n8 hm9
            by_cases hG : Pr.fo l k = true
            · obtain ⟨hF, hFk, hFp⟩ := Pr.drop_perm hG
              have hpp := Pr.put_perm (v := y) hG
              have HPL := Lib.hid (Pr.put_len (v := y) hG)
              have HPP := Lib.hid hpp
              clear hpp
              rw [hG]
              have HD := Lib.hid (SG.op HAP.out H3.out (fun O hx => s_put_old hx k y _ _ hFp))
              go_wp2_with (first
                | (go_at_call 13; (with_reducible refine HD.out.mono ?_); rintro e w4 ⟨rfl, h4⟩
                   obtain ⟨hx0, hx1, hx2⟩ := h4.x0
                   have HRD := Lib.hid (pr_put w4 _ l h4.fst.px (Nat.le_of_lt (smallS hln hn30)) k y)
                   have H4 := Lib.hid h4
                   clear h4)
                | (go_at_call 14; (with_reducible refine HRD.out.mono ?_); rintro e w5 ⟨v5, rfl, hk5, hb5, hf5⟩
                   have h5 := (SG.list (apartX _ _) H4.out hb5 hk5 hf5).perm HPP.out.symm
                   obtain ⟨A5, c5, rfl, _⟩ := hk5.cells
                   have H9 := Lib.hid (h5)
                   clear h5 hk5 hb5 hf5))
              go_meet
              exact ⟨Pr.put l k y, A5, c5, rfl, Nat.le_trans (Nat.le_of_eq HPL.out) hln, Lib.hid (Pr.put_up HU.out k y), H9⟩
            · rw [Bool.not_eq_true] at hG
              by_cases hfl : n ≤ l.length
              · have hno := Pr.no_of HU.out hG
                have TF : decide ((n : Int) ≤ (l.length : Int)) = true := leS hfl
                rw [hG]
                have HD := Lib.hid (SG.op HAP.out H3.out (fun O hx => s_put_full hx k y hno hfl))
                go_wp2_with (first
                  | (go_at_call 13; (with_reducible refine HD.out.mono ?_); rintro e w4 ⟨rfl, h4⟩
                     have H9 := Lib.hid (h4.fst)
                     clear h4))
                go_meet
                exact ⟨l, A, c, rfl, hln, HU, H9⟩
              · have hno := Pr.no_of HU.out hG
                have hpp := Pr.put_new (v := y) hG
                have HPL := Lib.hid (Pr.put_len_new (v := y) hG)
                have TF : decide ((n : Int) ≤ (l.length : Int)) = false := ltS hfl
                have HPP := Lib.hid hpp
                clear hpp
                rw [hG]
                have HD := Lib.hid (SG.op HAP.out H3.out (fun O hx => s_put_new hx k y hno (Nat.lt_of_not_le hfl) hk (smallS hln hn30)))
                go_wp2_with (first
                  | (go_at_call 13; (with_reducible refine HD.out.mono ?_); rintro e w4 ⟨rfl, h4⟩
                     obtain ⟨hx0, hx1, hx2⟩ := h4.x0
                     have HRD := Lib.hid (pr_put w4 _ l h4.fst.px (Nat.le_of_lt (smallS hln hn30)) k y)
                     have H4 := Lib.hid h4
                     clear h4)
                  | (go_at_call 14; (with_reducible refine HRD.out.mono ?_); rintro e w5 ⟨v5, rfl, hk5, hb5, hf5⟩
                     have h5 := (SG.list (apartX _ _) H4.out hb5 hk5 hf5).perm HPP.out.symm
                     obtain ⟨A5, c5, rfl, _⟩ := hk5.cells
                     have H9 := Lib.hid (h5)
                     clear h5 hk5 hb5 hf5))
                go_meet
                exact ⟨Pr.put l k y, A5, c5, rfl, Nat.le_trans (Nat.le_of_eq HPL.out) (Nat.lt_of_not_le hfl), Lib.hid (Pr.put_up HU.out k y), H9⟩
        case rest =>
          obtain ⟨l', A', c', rfl, hln', HU', HG'⟩ := hcut
          have HLE := Lib.hid (SG.ask (apartP _ _) HG'.out (fun O hx => s_len hx (l'.length : Int) rfl))
          go_wp2_with (first
            | (go_at_call 15; (with_reducible refine HLE.out.mono ?_); rintro e w8 ⟨rfl, h8⟩
               have HRO := Lib.hid (SG.ask (apartP _ _) h8 (fun O hx => s_room hx 1 (decide ((l'.length : Int) < (n : Int))) (roomS _ _)))
               clear h8)
            | (go_at_call 16; (with_reducible refine HRO.out.mono ?_); rintro e w9 ⟨rfl, h9⟩; have H9 := Lib.hid h9; clear h9))
          go_roundw
          case rel => exact ⟨i + 1, l', nextS i, hI.out, hln', HU', H9⟩
          case measure => exact measS hI.out
      · have T2 : decide (80 ≤ (i : Int)) = true := decide_eq_true (by omega)
        have T3 : decide (80 ≤ i) = true := decide_eq_true (by omega)
        go_wp2
        go_meet
        exact ⟨l, A, c, rfl, hln, HU, Lib.hid H1.out.fst⟩
    · have T1 : decide ((i : Int) < (xs.length : Int)) = false := decide_eq_false (by omega)
      go_wp2
      go_meet
      exact ⟨l, A, c, rfl, hln, HU, HG⟩
end Go.Proofs.Ytihhkdcgnnfkkaa
