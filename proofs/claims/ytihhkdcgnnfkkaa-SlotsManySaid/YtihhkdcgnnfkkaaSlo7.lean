
/- The law SlotsMany; the text walked. -/
import Derived.Test.YtihhkdcgnnfkkaaSlo6
import Derived.Test.YtihhkdcgnnfkkaaRbY
namespace Go.Proofs.Ytihhkdcgnnfkkaa
set_option maxRecDepth 20000
open Go.RowKit
theorem px_intS (f i : Nat) : IntKind.u64.wrap ((f : Int) + (i : Int)) = (Sv.px f i : Int) := by
  simp [IntKind.wrap, IntKind.signed, IntKind.bits, Sv.px]
theorem mod_stepS (x k : Nat) : (x : Int) % (k : Int) = ((x % k : Nat) : Int) ∧ (x : Int).tmod (k : Int) = ((x % k : Nat) : Int) := by
  have e : (x : Int) % (k : Int) = ((x % k : Nat) : Int) := by rw [Int.natCast_emod]
  exact ⟨e, by rw [Int.tmod_eq_emod_of_nonneg (by omega)]; exact e⟩
set_option maxRecDepth 100000 in
set_option maxHeartbeats 4000000 in
theorem law_many (seed f q : Nat) (hq : q < 256) (Ad : Option Addr) (cp : Nat) (xs : List Nat) (w : World) (hr : Rby w w.heap.size Ad xs) (hl : xs.length ≤ 9223372036854775807) (hx : ∀ x ∈ xs, x < 256) :
    Calls Try.prog 5 #[.int .u64 (seed : Int), .int .u64 (f : Int), .int .u8 (q : Int), .slice Ad xs.length cp] w fun e w' => e = .returned (.bool true) ∧ Below w.heap.size w w' := by
  have wq : IntKind.i64.wrap (q : Int) = (q : Int) := IntWalk.i64_in _ (by omega)
  obtain ⟨k, hk⟩ : ∃ k, k = q + 1 := ⟨_, rfl⟩
  have wk : IntKind.i64.wrap (1 + (q : Int)) = (k : Int) := by rw [IntWalk.i64_in _ (by omega)]; omega
  have hk1 : 1 ≤ k := by omega
  have hk2 : k ≤ 256 := by omega
  have hmk := mk_bools k (by omega)
  clear hk hq
  go_enter Try.func5, Try.ntmps5
  go_wp2_with (first
    | (go_at_call 6; (with_reducible refine (awake_any _).mono ?_); rintro e w1 ⟨rfl, hb1⟩; have B1 := Lib.hid hb1; clear hb1)
    | (go_at_call 7; (with_reducible refine (s_new w1 seed k (by omega)).mono ?_); rintro e w2 ⟨S, O, rfl, h2, hO, hb2⟩
       have G2 : Hid (SG R0 w w2 S k []) := ⟨O, h2, (fun j hj => Nat.le_trans B1.out.size (hO j hj)), B1.out.trans (hb2.mono B1.out.size), trivial⟩
       clear h2 hO hb2))
  clear B1
  go_loopw [37] (fun u wr => ∃ j : Nat, u = .int .i64 (j : Int) ∧ j ≤ k ∧ Hid (SG R0 w wr S k (Sv.kept j (fun _ => true) (Sv.gx f)))) (fun u _ => k - (intOf u).toNat)
  case atStart => exact ⟨0, rfl, by omega, G2⟩
  case round =>
    obtain ⟨j, rfl, hj, HG⟩ := hrel
    by_cases hlt : j < k
    · have T1 : decide ((j : Int) < (k : Int)) = true := decide_eq_true (by omega)
      have wj : IntKind.u64.wrap (j : Int) = (j : Int) := by simp [IntKind.wrap, IntKind.signed, IntKind.bits]; omega
      have wj1 : IntKind.i64.wrap ((j : Int) + 1) = (j : Int) + 1 := IntWalk.i64_in _ (by omega)
      have hp := px_intS f j
      have hlen := Sv.kept_all j (Sv.gx f)
      have hput := SG.op apart0 HG.out (fun O hx => s_put_new hx (Sv.px f j) (7 * j) (Sv.kept_no (by omega) (by omega) (.inr (Nat.le_refl _))) (by omega) (Sv.px_lt f j) (by omega))
      have KS := Lib.hid (Sv.kept_succ j (fun _ => true) (Sv.gx f) rfl)
      have hgx : Sv.gx f j = (Sv.px f j, 7 * j) := rfl
      rw [hgx] at KS
      have w7 : IntKind.u64.wrap ((j : Int) * 7) = ((7 * j : Nat) : Int) := by simp [IntKind.wrap, IntKind.signed, IntKind.bits]; omega
      have HP := Lib.hid hput
      clear hput hlen hgx G2
      generalize 7 * j = v at *
      generalize Sv.px f j = p at *
      go_wp2_with (go_at_call 13; (with_reducible refine HP.out.mono ?_); rintro e w4 ⟨rfl, h4⟩; have H4 := Lib.hid h4; clear h4)
      go_roundw
      case rel => exact ⟨j + 1, by go_num, by omega, Lib.hid (H4.out.perm KS.out)⟩
      case measure => simp [intOf]; omega
    · obtain rfl : j = k := by omega
      have T1 : decide ((j : Int) < (j : Int)) = false := by simp
      have hlen := Sv.kept_all j (Sv.gx f)
      have HR := Lib.hid (SG.ask apart0 HG.out (fun O hx => s_room hx 1 false (by rw [hlen]; simp)))
      have HLN := Lib.hid hlen
      clear hlen G2 HG
      go_wp2_with (first
        | (go_at_call 16; (with_reducible refine HR.out.mono ?_); rintro e w5 ⟨rfl, h5⟩; have HL := Lib.hid (SG.ask apart0 h5 (fun O hx => s_len hx (j : Int) (by rw [HLN.out]))); clear h5)
        | (go_at_call 15; (with_reducible refine HL.out.mono ?_); rintro e w6 ⟨rfl, h6⟩; have H6 := Lib.hid h6; clear h6))
      have hD : w.heap.size ≤ w6.heap.size := H6.out.low.size
      have G7 := Lib.hid (SG.bools (n := j) H6.out)
      generalize hW7 : w6.alloc (.cells (Array.replicate j (Value.bool false)) 4) = W7 at *
      generalize w6.heap.size = D at *
      clear H6 hW7 HR HL hmk hlt hj
      have G8 : Hid (SG (RB D (List.replicate j false)) w W7 S j (Sv.kept j (fun i => !((List.replicate j false)[i]?.getD false)) (Sv.gx f))) := by
        show SG _ _ _ _ _ _
        rw [Sv.kept_congr j _ (fun _ => true) _ (fun i hi => by simp [hi])]
        exact G7.out
      have L8 : Hid ((Sv.kept j (fun i => !((List.replicate j false)[i]?.getD false)) (Sv.gx f)).length = j) := by
        show _ = _
        rw [Sv.kept_congr j _ (fun _ => true) _ (fun i hi => by simp [hi])]
        exact HLN.out
      clear G7 HLN
      have HDL := Lib.hid hD
      have hdl0 : Hid ((List.replicate j false).length = j) := by show _ = _; simp
      clear hD
      generalize List.replicate j false = d0 at *
      go_wp2
      go_loopw [15, 72] (fun z u wr => ∃ (i : Nat) (dr : List Bool) (L : Nat), u = .int .i64 (i : Int) ∧ i ≤ xs.length ∧ z = .int .i64 (L : Int) ∧ L ≤ j ∧ Hid (dr.length = j) ∧ Hid ((Sv.kept j (fun i => !(dr[i]?.getD false)) (Sv.gx f)).length = L) ∧ Hid (SG (RB D dr) w wr S j (Sv.kept j (fun i => !(dr[i]?.getD false)) (Sv.gx f)))) (fun _ u _ => xs.length - (intOf u).toNat)
      case atStart => exact ⟨0, d0, j, rfl, by omega, rfl, Nat.le_refl _, hdl0, L8, G8⟩
      case round =>
        obtain ⟨i, dr, L, rfl, hi, rfl, hL, HDR, HL, HG⟩ := hrel
        clear L8 G8 hdl0
        by_cases hlt : i < xs.length
        · obtain ⟨b, off, rfl, hc⟩ := hr.at HG.out.low hlt
          have hxb := hx _ (List.getElem_mem hlt)
          generalize xs[i] = x at *
          obtain ⟨a, ha⟩ : ∃ a, a = x % j := ⟨_, rfl⟩
          obtain ⟨e1, e2⟩ := mod_stepS x j
          rw [← ha] at e1 e2
          have hal : a < j := by rw [ha]; exact Nat.mod_lt _ (by omega)
          clear ha
          have wx : IntKind.i64.wrap (x : Int) = (x : Int) := IntWalk.i64_in _ (by omega)
          have wi1 : IntKind.i64.wrap ((i : Int) + 1) = (i : Int) + 1 := IntWalk.i64_in _ (by omega)
          have T1 : decide ((i : Int) < (xs.length : Int)) = true := decide_eq_true (by omega)
          by_cases h100 : i < 100
          · have T2 : decide (100 ≤ (i : Int)) = false := decide_eq_false (by omega)
            have T3 : decide (100 ≤ i) = false := decide_eq_false (by omega)
            have hadr : a < dr.length := by rw [HDR.out]; exact hal
            have hbb := HG.out.bb
            have hcd := hbb.cell a hadr
            have hfd := hbb.fr a
            have hgd : dr[a]?.getD false = dr[a] := by rw [List.getElem?_eq_getElem hadr]; rfl
            have ai0 : (0 : Int) ≤ (a : Int) := by omega
            have ai1 : (a : Int) < (j : Int) := by omega
            have ai2 : a < j := hal
            clear hbb
            cases hb : dr[a] with
            | false =>
              rw [hb] at hcd hgd
              have hp := px_intS f a
              have wa : IntKind.u64.wrap (a : Int) = (a : Int) := by simp [IntKind.wrap, IntKind.signed, IntKind.bits]; omega
              have hkd := Sv.kept_drop j (fun i => !(dr[i]?.getD false)) (fun i => !((dr.set a true)[i]?.getD false)) (Sv.gx f) a hal (by simp [hgd]) (by simp [hadr]) (fun i hi => by simp [List.getElem?_set_ne (Ne.symm hi)])
              have hkn := Sv.kept_no (k := j) (f := f) (a := a) (D := fun i => !((dr.set a true)[i]?.getD false)) (by omega) (by omega) (.inl (by simp [hadr]))
              have hgx : Sv.gx f a = (Sv.px f a, 7 * a) := rfl
              rw [hgx] at hkd
              have hll : L = (Sv.kept j (fun i => !((dr.set a true)[i]?.getD false)) (Sv.gx f)).length + 1 := by
                rw [← HL.out, hkd.length_eq]; rfl
              have hdl : Hid ((dr.set a true).length = j) := by show _ = _; rw [List.length_set]; exact HDR.out
              have HM := Lib.hid (HG.out.mark HDL.out a true)
              have hlsm : (Sv.kept j (fun i => !(dr[i]?.getD false)) (Sv.gx f)).length < 1000000 := by rw [HL.out]; omega
              have HD1 := Lib.hid (SG.op (apartB _ _) HM.out (fun O hx => s_drop_yes hx (Sv.px f a) (7 * a) _ hkd hlsm))
              have HKN := Lib.hid hkn
              clear hkd hkn hgx hgd hb hlsm HM
              generalize (dr.set a true) = dr2 at *
              obtain ⟨L2, hL2⟩ : ∃ L2, (Sv.kept j (fun i => !(dr2[i]?.getD false)) (Sv.gx f)).length = L2 := ⟨_, rfl⟩
              rw [hL2] at hll
              have HL2 := Lib.hid hL2
              subst hll
              have wl : IntKind.i64.wrap (((L2 + 1 : Nat) : Int) - 1) = (L2 : Int) := by rw [IntWalk.i64_in _ (by omega)]; omega
              have wl2 : IntKind.i64.wrap ((L2 : Int) + 1 - 1) = (L2 : Int) := by rw [IntWalk.i64_in _ (by omega)]; omega
              have wl3 : IntKind.i64.wrap (L2 : Int) = (L2 : Int) := IntWalk.i64_in _ (by omega)
              have wl4 : wrap64 (L2 : Int) = (L2 : Int) := IntWalk.wrap64_in _ (by omega)
              have HLJ : Hid (L2 ≤ j) := Lib.hid (Nat.le_trans (Nat.le_succ L2) hL)
              clear hL2 hL
              generalize Sv.px f a = p at *
              go_wp2_with (first
                | (go_at_call 9; (with_reducible refine HD1.out.mono ?_); rintro e w8 ⟨rfl, h8⟩; have HD2 := Lib.hid (SG.op (apartB _ _) h8 (fun O hx => s_drop_no hx p HKN.out)); clear h8 HD1)
                | (go_at_call 9; (with_reducible refine HD2.out.mono ?_); rintro e w9 ⟨rfl, h9⟩; have HLN := Lib.hid (SG.ask (apartB _ _) h9 (fun O hx => s_len hx (L2 : Int) (by rw [HL2.out]))); clear h9)
                | (go_at_call 15; (with_reducible refine HLN.out.mono ?_); rintro e w10 ⟨rfl, h10⟩; have H10 := Lib.hid h10; clear h10))
              clear wl wl2 wl3 wl4
              go_roundw
              case rel => exact ⟨i + 1, dr2, L2, by go_num, by omega, rfl, HLJ.out, hdl, HL2, H10⟩
              case measure => simp [intOf]; omega
            | true =>
              rw [hb] at hcd
              clear hgd hb
              go_wp2
              go_roundw
              case rel => exact ⟨i + 1, dr, L, by go_num, by omega, rfl, hL, HDR, HL, HG⟩
              case measure => simp [intOf]; omega
          · have T2 : decide (100 ≤ (i : Int)) = true := decide_eq_true (by omega)
            have T3 : decide (100 ≤ i) = true := decide_eq_true (by omega)
            go_wp2
            go_roundw
            case rel => exact ⟨i + 1, dr, L, by go_num, by omega, rfl, hL, HDR, HL, HG⟩
            case measure => simp [intOf]; omega
        · obtain rfl : i = xs.length := by omega
          have T1 : decide ((xs.length : Int) < (xs.length : Int)) = false := by simp
          clear hr hx hl hi hlt
          generalize xs.length = xl at *
          go_wp2
          go_loopw [117] (fun u wr => ∃ i : Nat, u = .int .i64 (i : Int) ∧ i ≤ j ∧ Hid (SG (RB D dr) w wr S j (Sv.kept j (fun i => !(dr[i]?.getD false)) (Sv.gx f)))) (fun u _ => j - (intOf u).toNat)
          case atStart => exact ⟨0, rfl, by omega, HG⟩
          case round =>
            obtain ⟨i, rfl, hi, HG2⟩ := hrel
            clear HG
            by_cases hlt : i < j
            · have T1 : decide ((i : Int) < (j : Int)) = true := decide_eq_true (by omega)
              have hadr : i < dr.length := by rw [HDR.out]; exact hlt
              have hgd : dr[i]?.getD false = dr[i] := by rw [List.getElem?_eq_getElem hadr]; rfl
              have hp := px_intS f i
              have wa : IntKind.u64.wrap (i : Int) = (i : Int) := by simp [IntKind.wrap, IntKind.signed, IntKind.bits]; omega
              have wi1 : IntKind.i64.wrap ((i : Int) + 1) = (i : Int) + 1 := IntWalk.i64_in _ (by omega)
              have w7 : IntKind.u64.wrap ((i : Int) * 7) = ((7 * i : Nat) : Int) := by simp [IntKind.wrap, IntKind.signed, IntKind.bits]; omega
              have HBC : Hid (∀ W, SG (RB D dr) w W S j (Sv.kept j (fun i => !(dr[i]?.getD false)) (Sv.gx f)) → W.cell? ⟨D, i, none⟩ = some (.bool dr[i])) := Lib.hid fun W h => h.bb.cell i hadr
              have ai1 : (i : Int) < (j : Int) := by omega
              cases hb : dr[i] with
              | false =>
                rw [hb] at hgd
                have hm : (Sv.px f i, 7 * i) ∈ Sv.kept j (fun i => !(dr[i]?.getD false)) (Sv.gx f) := Sv.kept_mem.2 ⟨i, hlt, by simp [hgd], rfl⟩
                have HP := Lib.hid (SG.op (apartB _ _) HG2.out (fun O hx => s_get_yes hx _ _ hm))
                rw [hb] at HBC
                clear hm hgd hb
                generalize 7 * i = v at *
                generalize Sv.px f i = p at *
                go_wp2_with (go_at_call 11; (with_reducible refine HP.out.mono ?_); rintro e w8 ⟨rfl, h8⟩; have hcd := HBC.out _ h8; have H8 := Lib.hid h8; clear h8)
                go_roundw
                case rel => exact ⟨i + 1, by go_num, by omega, H8⟩
                case measure => simp [intOf]; omega
              | true =>
                rw [hb] at hgd
                have hkn := Sv.kept_no (k := j) (f := f) (a := i) (D := fun i => !(dr[i]?.getD false)) (by omega) (by omega) (.inl (by simp [hgd]))
                have HP := Lib.hid (SG.op (apartB _ _) HG2.out (fun O hx => s_get_no hx _ hkn))
                rw [hb] at HBC
                clear hkn hgd hb
                generalize 7 * i = v at *
                generalize Sv.px f i = p at *
                go_wp2_with (go_at_call 11; (with_reducible refine HP.out.mono ?_); rintro e w8 ⟨rfl, h8⟩; have hcd := HBC.out _ h8; have H8 := Lib.hid h8; clear h8)
                go_roundw
                case rel => exact ⟨i + 1, by go_num, by omega, H8⟩
                case measure => simp [intOf]; omega
            · obtain rfl : i = j := by omega
              have T1 : decide ((i : Int) < (i : Int)) = false := by simp
              have ws : IntKind.i64.wrap ((i : Int) - (L : Int)) = (i : Int) - (L : Int) := IntWalk.i64_in _ (by omega)
              have HR := Lib.hid (SG.ask (apartB _ _) HG2.out (fun O hx => s_room hx ((i : Int) - (L : Int)) true (by rw [HL.out]; simp)))
              go_wp2_with (go_at_call 16; (with_reducible refine HR.out.mono ?_); rintro e w8 ⟨rfl, h8⟩; have H8 := Lib.hid h8; clear h8)
              go_ret
              exact ⟨rfl, H8.out.low⟩
end Go.Proofs.Ytihhkdcgnnfkkaa
