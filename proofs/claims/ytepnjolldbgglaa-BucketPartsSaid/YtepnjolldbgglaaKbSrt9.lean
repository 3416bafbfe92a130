
/- The sort itself: parted about a number, the smaller part by itself, the greater one in the next round; the text walked. -/
import Derived.Test.YtepnjolldbgglaaKbSrtM2
import Derived.Test.YtepnjolldbgglaaKbSrt2
import Derived.Test.YtepnjolldbgglaaKbSrt3
import Derived.Test.YtepnjolldbgglaaKbSrt5
import Derived.Test.YtepnjolldbgglaaKbSrt7
import Derived.Deep.CutRange
namespace Go.Proofs.Ytepnjolldbgglaa.Kb
open Go.RowKit Go.Sort
theorem diffs {x m y : Nat} (h1 : x ≤ m) (h2 : m ≤ y) : ∃ A B C : Nat, (m : Int) - (x : Int) = (A : Int) ∧ (y : Int) - (m : Int) = (B : Int) ∧ (m : Int) + 1 = (C : Int) :=
  ⟨m - x, y - m, m + 1, by omega, by omega, by omega⟩
/-- What is promised of the sort, from a up to b. -/
def PdqAt (w0 : World) (blk off n cap a b : Nat) : Prop := ∀ (w : World) (l : Int) (d : Array Int), Rr w0 blk off n d w → Bel a b d →
  Calls Try.prog 32 #[.slice (some ⟨blk, off, none⟩) n cap, .int .i64 a, .int .i64 b, .int .i64 l] w fun e w' => e = .returned (.tuple #[]) ∧ Sr w0 blk off n a b d (SortedIn ltInt a b) w'
set_option maxHeartbeats 40000000 in
set_option maxRecDepth 100000 in
theorem pdq_step (w0 : World) (blk off n cap a b : Nat) (hab : a ≤ b) (hb : b ≤ n) (IH : ∀ x y, x ≤ y → y ≤ n → y - x < b - a → PdqAt w0 blk off n cap x y) : PdqAt w0 blk off n cap a b := by
  intro w l d h hbel
  have few := h.few
  have HZ : Hid (b ≤ d.size) := Lib.hid (by rw [h.size]; exact hb)
  have H := Lib.hid h
  have HF := Lib.hid (fin_start hbel)
  have HI := Lib.hid IH
  clear h hbel IH
  go_enter Try.func32, Try.ntmps32
  go_wp2_with (fail)
  go_loopw [1, 2, 3, 8, 9] (fun v1 v2 v3 v8 v9 wr => ∃ (x y : Nat) (k : Int) (wb wp : Bool) (dk : Array Int), v1 = .int .i64 x ∧ v2 = .int .i64 y ∧ v3 = .int .i64 k ∧ v8 = .bool wb ∧ v9 = .bool wp ∧ a ≤ x ∧ x ≤ y ∧ y ≤ b ∧ Hid (Rr w0 blk off n dk wr ∧ Fin' a b x y d dk)) (fun v1 v2 _ _ _ _ => (intOf v2 - intOf v1).toNat)
  case atStart => exact ⟨a, b, l, true, true, d, rfl, rfl, rfl, rfl, rfl, Nat.le_refl _, hab, Nat.le_refl _, Lib.hid ⟨H.out, HF.out⟩⟩
  case round =>
    obtain ⟨x, y, k, wb, wp, dk, rfl, rfl, rfl, rfl, rfl, hx, hxy, hy, hK⟩ := hrel
    have HP0 : Hid (PermIn a b d dk) := Lib.hid hK.out.2.1
    obtain ⟨L, hL⟩ : ∃ L, L = y - x := ⟨_, rfl⟩
    obtain ⟨q8, hq8⟩ : ∃ q8, q8 = L / 8 := ⟨_, rfl⟩
    have hLn : L ≤ n := by omega
    have hxL : x + L = y := by omega
    have e8 : (L : Int) / 8 = (q8 : Int) := by omega
    have eL : (y : Int) - (x : Int) = (L : Int) := by omega
    clear hL hq8
    have HXL := Lib.hid hxL
    by_cases hL12 : L ≤ 12
    · clear hxL
      have hL12' : (L : Int) ≤ 12 := by omega
      go_wp2_with (go_at_call 35; (with_reducible refine (so_ins w0 wr blk off n cap x y dk hK.out.1 hxy (by omega)).mono ?_); rintro e w' ⟨rfl, d', h1, h2, h3⟩)
      refine bodyPost_ret (results_none rfl _ _ _) rfl ?_
      have hh := fin_done hK.out.2 h2 h3 hx hy HZ.out
      exact ⟨rfl, d', h1, hh.1, hh.2⟩
    · have hL12' : ¬ (L : Int) ≤ 12 := by omega
      have hL13 : x + 12 < y := by omega
      have hxy' : x < y := by omega
      clear hxL
      by_cases hk0 : k = 0
      · subst hk0
        go_wp2_with (go_at_call 36; (with_reducible refine (so_heap w0 wr blk off n cap x y dk hK.out.1 hxy' (by omega)).mono ?_); rintro e w' ⟨rfl, d', h1, h2, h3⟩)
        refine bodyPost_ret (results_none rfl _ _ _) rfl ?_
        have hh := fin_done hK.out.2 h2 h3 hx hy HZ.out
        exact ⟨rfl, d', h1, hh.1, hh.2⟩
      · have hkb : (k == 0) = false := by simpa using hk0
        go_upto_if 35 with (fail)
        go_cut [3] from 19 to 133 (fun s3 wc => ∃ (k1 : Int) (d1 : Array Int), s3 = .int .i64 k1 ∧ Hid (Rr w0 blk off n d1 wc ∧ PermIn x y dk d1))
        case first =>
          cases wb
          · go_wp2_with (go_at_call 37; (with_reducible refine (so_break w0 wr blk off n cap x y dk hK.out.1 hL13 (by omega)).mono ?_); rintro e w' ⟨rfl, d', h1, h2, -⟩; replace h2 := Lib.hid h2; replace h1 := Lib.hid h1)
            go_meet
            exact ⟨_, d', rfl, Lib.hid ⟨h1.out, h2.out⟩⟩
          · go_wp2_with (fail)
            go_meet
            exact ⟨k, dk, rfl, Lib.hid ⟨hK.out.1, permIn_refl _ _ _⟩⟩
        case rest =>
          obtain ⟨k1, d1, rfl, h1⟩ := hcut
          go_upto_if 50 with (go_at_call 38; (with_reducible refine (so_choose w0 wc blk off n cap x y d1 h1.out.1 hL13 (by omega)).mono ?_); rintro e w2 ⟨p0, t0, rfl, hp0, h2⟩; replace h2 := Lib.hid h2)
          go_cut [11, 12] from 19 to 133 (fun s11 s12 wc => ∃ (p : Nat) (t : Int) (d2 : Array Int), s11 = .int .i64 p ∧ s12 = .int .i64 t ∧ x ≤ p ∧ p < y ∧ Hid (Rr w0 blk off n d2 wc ∧ PermIn x y dk d2))
          case first =>
            go_wp2_with (go_at_call 39; (with_reducible refine (so_rev w0 w2 blk off n cap x y d1 h2.out hxy' (by omega)).mono ?_); rintro e w' ⟨rfl, d', g1, g2, -⟩; replace g2 := Lib.hid g2; replace g1 := Lib.hid g1)
            · go_meet
              exact ⟨y - 1 - (p0 - x), 1, d', congrArg (Value.int .i64) (by omega), rfl, by omega, by omega, Lib.hid ⟨g1.out, permIn_trans _ _ _ _ _ h1.out.2 g2.out⟩⟩
            · go_meet
              exact ⟨p0, t0, d1, rfl, rfl, hp0.1, hp0.2, Lib.hid ⟨h2.out, h1.out.2⟩⟩
          case rest =>
            obtain ⟨p, t, d2, rfl, rfl, hp1, hp2, h2⟩ := hcut
            go_upto_region 15 with (fail)
            go_cut [68] from 19 to 133 (fun s68 wc => ∃ z : Bool, s68 = .bool z ∧ Hid (Rr w0 blk off n d2 wc ∧ PermIn x y dk d2))
            case first =>
              cases wb <;> cases wp
              all_goals go_wp2_with (fail)
              all_goals go_meet
              all_goals exact ⟨_, rfl, h2⟩
            case rest =>
             obtain ⟨z, rfl, h2⟩ := hcut
             go_upto_if 68 with (fail)
             go_cut [] from 19 to 133 (fun wc => ∃ d3 : Array Int, Hid (Rr w0 blk off n d3 wc ∧ PermIn x y dk d3))
             case first =>
              have HB2 : Hid (Bel x y d2) := Lib.hid (hK.out.2.2.1.perm h2.out.2 (by have := HZ.out; have := HP0.out.1; omega))
              cases z
              · go_wp2_with (fail)
                go_meet
                exact ⟨d2, h2⟩
              · go_wp2_with (go_at_call 40; (with_reducible refine (so_partial w0 _ blk off n cap x y d2 h2.out.1 hxy' (by omega) HB2.out).mono ?_); rintro e w3 ⟨t3, rfl, d3, g1, g2, g3⟩; replace g1 := Lib.hid g1; replace g2 := Lib.hid g2; replace g3 := Lib.hid g3)
                · refine bodyPost_ret (results_none rfl _ _ _) rfl ?_
                  have hh := fin_done hK.out.2 (permIn_trans _ _ _ _ _ h2.out.2 g2.out) (g3.out (by assumption)) hx hy HZ.out
                  exact ⟨rfl, d3, g1.out, hh.1, hh.2⟩
                · go_meet
                  exact ⟨d3, Lib.hid ⟨g1.out, permIn_trans _ _ _ _ _ h2.out.2 g2.out⟩⟩
             case rest =>
              obtain ⟨d3, h3⟩ := hcut
              have HF3 : Hid (Fin' a b x y d d3) := Lib.hid (fin_perm hK.out.2 h3.out.2 hx hy HZ.out)
              have HYN : Hid (y ≤ n) := Lib.hid (by omega)
              obtain ⟨G, hG⟩ : ∃ G : Nat → Int, ∀ t, G t = d3[t]! := ⟨fun t => d3[t]!, fun _ => rfl⟩
              have hcw : ∀ t, t < n → wc.cell? ⟨blk, off + t, none⟩ = some (.int .u64 (G t)) := fun t ht => by rw [hG]; exact h3.out.1.cell ht
              have HG := Lib.hid hG
              clear hG
              have lp : p < n := by omega
              by_cases hx0 : 0 < x
              · obtain ⟨x1, hx1⟩ : ∃ x1, x1 + 1 = x := ⟨x - 1, by omega⟩
                have ex : (x : Int) - 1 = (x1 : Int) := by omega
                have lx : x1 < n := by omega
                have HX1 := Lib.hid hx1
                clear hx1
                go_wp2_with (fail)
                go_quiet (first | (go_at_call 29; refine Calls.quiet_of_same (less_any _ _ _)) | (go_at_call 29; exact less_more _ _ _ _ _))
                have ex' := Lib.hid ex
                clear ex
                have W3 : Hid (Rr w0 blk off n d3 (wc.drewN nq)) := Lib.hid (h3.out.1.drewN nq)
                cases hl : ltInt (G x1) (G p)
                · have hv : Hid (d3[p]! ≤ d3[x - 1]!) := Lib.hid (by have := lt_no hl; rw [HG.out, HG.out] at this; rw [show x - 1 = x1 by have := HX1.out; omega]; exact this)
                  go_wp2_with (go_at_call 41; (with_reducible refine (so_parteq w0 _ blk off n cap x y p d3 W3.out hp1 hp2 HYN.out).mono ?_); rintro e w4 ⟨m, rfl, hm1, hm2, d4, g1, g2, g3, g4⟩; have G1 := Lib.hid g1; have G2 := Lib.hid g2; have G3 := Lib.hid g3; have G4 := Lib.hid g4; clear g1 g2 g3 g4)
                  go_roundw
                  case rel => exact ⟨m, y, k1, wb, wp, d4, rfl, rfl, rfl, rfl, rfl, by omega, by omega, hy, Lib.hid ⟨G1.out, fin_eq HF3.out hx0 hv.out G2.out G3.out G4.out hm1 hx hy HZ.out⟩⟩
                  case measure => simp [intOf]; omega
                · have hl2 : ltInt (G x1) (G p) = true := hl
                  go_wp2_with (go_at_call 42; (with_reducible refine (so_part w0 _ blk off n cap x y p d3 W3.out hp1 hp2 HYN.out).mono ?_); rintro e w4 ⟨m, tt, rfl, hm1, hm2, d4, g1, g2, g3, g4⟩; have G1 := Lib.hid g1; have G2 := Lib.hid g2; have G3 := Lib.hid g3; have G4 := Lib.hid g4; clear g1 g2 g3 g4; obtain ⟨A1, A2, A3, eA1, eA2, eA3⟩ := diffs hm1 (Nat.le_of_lt hm2); have EA3 := Lib.hid eA3; have hA3 : A3 = m + 1 := (by omega); have HA3 := Lib.hid hA3; clear hA3)
                  · have CL : Hid (∀ (w : World) (l : Int) (d : Array Int), Rr w0 blk off n d w → Bel x m d → Calls Try.prog 32 #[.slice (some ⟨blk, off, none⟩) n cap, .int .i64 x, .int .i64 m, .int .i64 l] w fun e w' => e = .returned (.tuple #[]) ∧ Sr w0 blk off n x m d (SortedIn ltInt x m) w') := Lib.hid (HI.out x m hm1 (by omega) (by omega))
                    have BB : Hid (Bel x m d4) := Lib.hid (bel_left HF3.out G2.out (by omega) hy HZ.out)
                    go_wp2_with (go_at_call 32; (with_reducible refine (CL.out w4 k1 d4 G1.out BB.out).mono ?_); rintro e w5 ⟨rfl, d5, j1, j2, j3⟩; replace j1 := Lib.hid j1; replace j2 := Lib.hid j2; replace j3 := Lib.hid j3)
                    go_roundw
                    case rel => exact ⟨(m + 1), y, k1, _, tt, d5, by rw [← HA3.out], rfl, rfl, rfl, rfl, by omega, by omega, by omega, Lib.hid ⟨j1.out, fin_left HF3.out G2.out G3.out G4.out j2.out j3.out hm1 hm2 hx hy HZ.out⟩⟩
                    case measure => have := HA3.out; simp [intOf]; omega
                  · have CR : Hid (∀ (w : World) (l : Int) (d : Array Int), Rr w0 blk off n d w → Bel (m + 1) y d → Calls Try.prog 32 #[.slice (some ⟨blk, off, none⟩) n cap, .int .i64 A3, .int .i64 y, .int .i64 l] w fun e w' => e = .returned (.tuple #[]) ∧ Sr w0 blk off n (m + 1) y d (SortedIn ltInt (m + 1) y) w') := Lib.hid (by rw [HA3.out]; exact HI.out (m + 1) y hm2 (by omega) (by omega))
                    have BB : Hid (Bel (m + 1) y d4) := Lib.hid (bel_right G4.out)
                    go_wp2_with (go_at_call 32; (with_reducible refine (CR.out w4 k1 d4 G1.out BB.out).mono ?_); rintro e w5 ⟨rfl, d5, j1, j2, j3⟩; replace j1 := Lib.hid j1; replace j2 := Lib.hid j2; replace j3 := Lib.hid j3)
                    go_roundw
                    case rel => exact ⟨x, m, k1, _, tt, d5, rfl, rfl, rfl, rfl, rfl, by omega, by omega, by omega, Lib.hid ⟨j1.out, fin_right HF3.out G2.out G3.out G4.out j2.out j3.out hm1 hm2 hx hy HZ.out⟩⟩
                    case measure => simp [intOf]; omega
              · go_wp2_with (fail)
                go_quiet (first | (go_at_call 29; refine Calls.quiet_of_same (less_any _ _ _)) | (go_at_call 29; exact less_more _ _ _ _ _))
                have W3 : Hid (Rr w0 blk off n d3 (wc.drewN nq)) := Lib.hid (h3.out.1.drewN nq)
                go_wp2_with (fail)
                go_wp2_with (go_at_call 42; (with_reducible refine (so_part w0 _ blk off n cap x y p d3 W3.out hp1 hp2 HYN.out).mono ?_); rintro e w4 ⟨m, tt, rfl, hm1, hm2, d4, g1, g2, g3, g4⟩; have G1 := Lib.hid g1; have G2 := Lib.hid g2; have G3 := Lib.hid g3; have G4 := Lib.hid g4; clear g1 g2 g3 g4; obtain ⟨A1, A2, A3, eA1, eA2, eA3⟩ := diffs hm1 (Nat.le_of_lt hm2); have EA3 := Lib.hid eA3; have hA3 : A3 = m + 1 := (by omega); have HA3 := Lib.hid hA3; clear hA3)
                · have CL : Hid (∀ (w : World) (l : Int) (d : Array Int), Rr w0 blk off n d w → Bel x m d → Calls Try.prog 32 #[.slice (some ⟨blk, off, none⟩) n cap, .int .i64 x, .int .i64 m, .int .i64 l] w fun e w' => e = .returned (.tuple #[]) ∧ Sr w0 blk off n x m d (SortedIn ltInt x m) w') := Lib.hid (HI.out x m hm1 (by omega) (by omega))
                  have BB : Hid (Bel x m d4) := Lib.hid (bel_left HF3.out G2.out (by omega) hy HZ.out)
                  go_wp2_with (go_at_call 32; (with_reducible refine (CL.out w4 k1 d4 G1.out BB.out).mono ?_); rintro e w5 ⟨rfl, d5, j1, j2, j3⟩; replace j1 := Lib.hid j1; replace j2 := Lib.hid j2; replace j3 := Lib.hid j3)
                  go_roundw
                  case rel => exact ⟨(m + 1), y, k1, _, tt, d5, by rw [← HA3.out], rfl, rfl, rfl, rfl, by omega, by omega, by omega, Lib.hid ⟨j1.out, fin_left HF3.out G2.out G3.out G4.out j2.out j3.out hm1 hm2 hx hy HZ.out⟩⟩
                  case measure => have := HA3.out; simp [intOf]; omega
                · have CR : Hid (∀ (w : World) (l : Int) (d : Array Int), Rr w0 blk off n d w → Bel (m + 1) y d → Calls Try.prog 32 #[.slice (some ⟨blk, off, none⟩) n cap, .int .i64 A3, .int .i64 y, .int .i64 l] w fun e w' => e = .returned (.tuple #[]) ∧ Sr w0 blk off n (m + 1) y d (SortedIn ltInt (m + 1) y) w') := Lib.hid (by rw [HA3.out]; exact HI.out (m + 1) y hm2 (by omega) (by omega))
                  have BB : Hid (Bel (m + 1) y d4) := Lib.hid (bel_right G4.out)
                  go_wp2_with (go_at_call 32; (with_reducible refine (CR.out w4 k1 d4 G1.out BB.out).mono ?_); rintro e w5 ⟨rfl, d5, j1, j2, j3⟩; replace j1 := Lib.hid j1; replace j2 := Lib.hid j2; replace j3 := Lib.hid j3)
                  go_roundw
                  case rel => exact ⟨x, m, k1, _, tt, d5, rfl, rfl, rfl, rfl, rfl, by omega, by omega, by omega, Lib.hid ⟨j1.out, fin_right HF3.out G2.out G3.out G4.out j2.out j3.out hm1 hm2 hx hy HZ.out⟩⟩
                  case measure => simp [intOf]; omega
theorem so_pdq (w0 : World) (blk off n cap : Nat) : ∀ (N a b : Nat), a ≤ b → b ≤ n → b - a ≤ N → PdqAt w0 blk off n cap a b := by
  intro N
  induction N with
  | zero => exact fun a b h1 h2 h3 => pdq_step w0 blk off n cap a b h1 h2 fun x y _ _ h6 => by omega
  | succ N ih => exact fun a b h1 h2 h3 => pdq_step w0 blk off n cap a b h1 h2 fun x y h4 h5 h6 => ih x y h4 h5 (by omega)
end Go.Proofs.Ytepnjolldbgglaa.Kb
