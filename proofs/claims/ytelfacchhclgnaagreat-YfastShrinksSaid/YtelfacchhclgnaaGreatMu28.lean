/- The sort itself: parted about a number, the smaller part by itself, the greater one in the next round; the text walked. slices.Sort over a row of one's own: the same numbers, in order. slices.Compact over a row of one's own that is in order: each number once. slices.Sort and Compact of nothing. Plain facts: a row of Bools read as the list of the places that are true. array: the search by halves, Rank, Has, Select, Next; the text walked. -/
import Derived.Deep.CutRange
import Derived.Test.YtelfacchhclgnaaGreatMu25
import Derived.Test.YtelfacchhclgnaaGreatMu26
import Derived.Test.YtelfacchhclgnaaGreatMu27
import Derived.Test.YtelfacchhclgnaaGreatMu23
import Derived.Test.YtelfacchhclgnaaGreatMu01
section
namespace Go.Proofs.YtelfacchhclgnaaGreat.Kb
set_option maxRecDepth 20000
open Go.RowKit Go.Sort
theorem diffs {x m y : Nat} (h1 : x ≤ m) (h2 : m ≤ y) : ∃ A B C : Nat, (m : Int) - (x : Int) = (A : Int) ∧ (y : Int) - (m : Int) = (B : Int) ∧ (m : Int) + 1 = (C : Int) :=
  ⟨m - x, y - m, m + 1, by omega, by omega, by omega⟩
/-- What is promised of the sort, from a up to b. -/
def PdqAt (w0 : World) (blk off n cap a b : Nat) : Prop := ∀ (w : World) (l : Int) (d : Array Int), Rr w0 blk off n d w → Bel a b d →
  Calls Tryz.prog 152 #[.slice (some ⟨blk, off, none⟩) n cap, .int .i64 a, .int .i64 b, .int .i64 l] w fun e w' => e = .returned (.tuple #[]) ∧ Sr w0 blk off n a b d (SortedIn ltInt a b) w'
set_option maxHeartbeats 40000000 in
set_option maxRecDepth 100000 in
theorem pdq_step (w0 : World) (blk off n cap a b : Nat) (hab : a ≤ b) (hb : b ≤ n) (IH : ∀ x y, x ≤ y → y ≤ n → y - x < b - a → PdqAt w0 blk off n cap x y) : PdqAt w0 blk off n cap a b := by
  intro w l d h hbel
  have few := h.few
  have HZ : Hid (b ≤ d.size) := Lib.hid (by rw [h.size]; exact hb)
  have H := Lib.hid h
  have HF := Lib.hid (fin_start hbel)
  have HI := Lib.hid IH
  clear h hbel IH
  go_enter Tryz.func152, Tryz.ntmps152
  go_wp2_with (fail)
  go_loopw [1, 2, 3, 8, 9] (fun v1 v2 v3 v8 v9 wr => ∃ (x y : Nat) (k : Int) (wb wp : Bool) (dk : Array Int), v1 = .int .i64 x ∧ v2 = .int .i64 y ∧ v3 = .int .i64 k ∧ v8 = .bool wb ∧ v9 = .bool wp ∧ a ≤ x ∧ x ≤ y ∧ y ≤ b ∧ Hid (Rr w0 blk off n dk wr ∧ Fin' a b x y d dk)) (fun v1 v2 _ _ _ _ => (intOf v2 - intOf v1).toNat)
  case atStart => exact ⟨a, b, l, true, true, d, rfl, rfl, rfl, rfl, rfl, Nat.le_refl _, hab, Nat.le_refl _, Lib.hid ⟨H.out, HF.out⟩⟩
  case round =>
    obtain ⟨x, y, k, wb, wp, dk, rfl, rfl, rfl, rfl, rfl, hx, hxy, hy, hK⟩ := hrel
    have HP0 : Hid (PermIn a b d dk) := Lib.hid hK.out.2.1
    obtain ⟨L, hL⟩ : ∃ L, L = y - x := ⟨_, rfl⟩
    obtain ⟨q8, hq8⟩ : ∃ q8, q8 = L / 8 := ⟨_, rfl⟩
    have hLn : L ≤ n := by omega
    have hxL : x + L = y := by omega
    have e8 : (L : Int) / 8 = (q8 : Int) := by omega
    have eL : (y : Int) - (x : Int) = (L : Int) := by omega
    clear hL hq8
    have HXL := Lib.hid hxL
    by_cases hL12 : L ≤ 12
    · clear hxL
      have hL12' : (L : Int) ≤ 12 := by omega
      go_wp2_with (go_at_call 163; (with_reducible refine (so_ins w0 wr blk off n cap x y dk hK.out.1 hxy (by omega)).mono ?_); rintro e w' ⟨rfl, d', h1, h2, h3⟩)
      refine bodyPost_ret (results_none rfl _ _ _) rfl ?_
      have hh := fin_done hK.out.2 h2 h3 hx hy HZ.out
      exact ⟨rfl, d', h1, hh.1, hh.2⟩
    · have hL12' : ¬ (L : Int) ≤ 12 := by omega
      have hL13 : x + 12 < y := by omega
      have hxy' : x < y := by omega
      clear hxL
      by_cases hk0 : k = 0
      · subst hk0
        go_wp2_with (go_at_call 164; (with_reducible refine (so_heap w0 wr blk off n cap x y dk hK.out.1 hxy' (by omega)).mono ?_); rintro e w' ⟨rfl, d', h1, h2, h3⟩)
        refine bodyPost_ret (results_none rfl _ _ _) rfl ?_
        have hh := fin_done hK.out.2 h2 h3 hx hy HZ.out
        exact ⟨rfl, d', h1, hh.1, hh.2⟩
      · have hkb : (k == 0) = false := by simpa using hk0
        go_upto_if 35 with (fail)
        go_cut [3] from 19 to 133 (fun s3 wc => ∃ (k1 : Int) (d1 : Array Int), s3 = .int .i64 k1 ∧ Hid (Rr w0 blk off n d1 wc ∧ PermIn x y dk d1))
        case first =>
          cases wb
          · go_wp2_with (go_at_call 165; (with_reducible refine (so_break w0 wr blk off n cap x y dk hK.out.1 hL13 (by omega)).mono ?_); rintro e w' ⟨rfl, d', h1, h2, -⟩; replace h2 := Lib.hid h2; replace h1 := Lib.hid h1)
            go_meet
            exact ⟨_, d', rfl, Lib.hid ⟨h1.out, h2.out⟩⟩
          · go_wp2_with (fail)
            go_meet
            exact ⟨k, dk, rfl, Lib.hid ⟨hK.out.1, permIn_refl _ _ _⟩⟩
        case rest =>
          obtain ⟨k1, d1, rfl, h1⟩ := hcut
          go_upto_if 50 with (go_at_call 166; (with_reducible refine (so_choose w0 wc blk off n cap x y d1 h1.out.1 hL13 (by omega)).mono ?_); rintro e w2 ⟨p0, t0, rfl, hp0, h2⟩; replace h2 := Lib.hid h2)
          go_cut [11, 12] from 19 to 133 (fun s11 s12 wc => ∃ (p : Nat) (t : Int) (d2 : Array Int), s11 = .int .i64 p ∧ s12 = .int .i64 t ∧ x ≤ p ∧ p < y ∧ Hid (Rr w0 blk off n d2 wc ∧ PermIn x y dk d2))
          case first =>
            go_wp2_with (go_at_call 167; (with_reducible refine (so_rev w0 w2 blk off n cap x y d1 h2.out hxy' (by omega)).mono ?_); rintro e w' ⟨rfl, d', g1, g2, -⟩; replace g2 := Lib.hid g2; replace g1 := Lib.hid g1)
            · go_meet
              exact ⟨y - 1 - (p0 - x), 1, d', congrArg (Value.int .i64) (by omega), rfl, by omega, by omega, Lib.hid ⟨g1.out, permIn_trans _ _ _ _ _ h1.out.2 g2.out⟩⟩
            · go_meet
              exact ⟨p0, t0, d1, rfl, rfl, hp0.1, hp0.2, Lib.hid ⟨h2.out, h1.out.2⟩⟩
          case rest =>
            obtain ⟨p, t, d2, rfl, rfl, hp1, hp2, h2⟩ := hcut
            go_upto_region 15 with (fail)
            go_cut [68] from 19 to 133 (fun s68 wc => ∃ z : Bool, s68 = .bool z ∧ Hid (Rr w0 blk off n d2 wc ∧ PermIn x y dk d2))
            case first =>
              cases wb <;> cases wp
              all_goals go_wp2_with (fail)
              all_goals go_meet
              all_goals exact ⟨_, rfl, h2⟩
            case rest =>
             obtain ⟨z, rfl, h2⟩ := hcut
             go_upto_if 68 with (fail)
             go_cut [] from 19 to 133 (fun wc => ∃ d3 : Array Int, Hid (Rr w0 blk off n d3 wc ∧ PermIn x y dk d3))
             case first =>
              have HB2 : Hid (Bel x y d2) := Lib.hid (hK.out.2.2.1.perm h2.out.2 (by have := HZ.out; have := HP0.out.1; omega))
              cases z
              · go_wp2_with (fail)
                go_meet
                exact ⟨d2, h2⟩
              · go_wp2_with (go_at_call 168; (with_reducible refine (so_partial w0 _ blk off n cap x y d2 h2.out.1 hxy' (by omega) HB2.out).mono ?_); rintro e w3 ⟨t3, rfl, d3, g1, g2, g3⟩; replace g1 := Lib.hid g1; replace g2 := Lib.hid g2; replace g3 := Lib.hid g3)
                · refine bodyPost_ret (results_none rfl _ _ _) rfl ?_
                  have hh := fin_done hK.out.2 (permIn_trans _ _ _ _ _ h2.out.2 g2.out) (g3.out (by assumption)) hx hy HZ.out
                  exact ⟨rfl, d3, g1.out, hh.1, hh.2⟩
                · go_meet
                  exact ⟨d3, Lib.hid ⟨g1.out, permIn_trans _ _ _ _ _ h2.out.2 g2.out⟩⟩
             case rest =>
              obtain ⟨d3, h3⟩ := hcut
              have HF3 : Hid (Fin' a b x y d d3) := Lib.hid (fin_perm hK.out.2 h3.out.2 hx hy HZ.out)
              have HYN : Hid (y ≤ n) := Lib.hid (by omega)
              obtain ⟨G, hG⟩ : ∃ G : Nat → Int, ∀ t, G t = d3[t]! := ⟨fun t => d3[t]!, fun _ => rfl⟩
              have hcw : ∀ t, t < n → wc.cell? ⟨blk, off + t, none⟩ = some (.int .u64 (G t)) := fun t ht => by rw [hG]; exact h3.out.1.cell ht
              have HG := Lib.hid hG
              clear hG
              have lp : p < n := by omega
              by_cases hx0 : 0 < x
              · obtain ⟨x1, hx1⟩ : ∃ x1, x1 + 1 = x := ⟨x - 1, by omega⟩
                have ex : (x : Int) - 1 = (x1 : Int) := by omega
                have lx : x1 < n := by omega
                have HX1 := Lib.hid hx1
                clear hx1
                go_wp2_with (fail)
                go_quiet (first | (go_at_call 118; refine Calls.quiet_of_same (less_any _ _ _)) | (go_at_call 118; exact less_more _ _ _ _ _))
                have ex' := Lib.hid ex
                clear ex
                have W3 : Hid (Rr w0 blk off n d3 (wc.drewN nq)) := Lib.hid (h3.out.1.drewN nq)
                cases hl : ltInt (G x1) (G p)
                · have hv : Hid (d3[p]! ≤ d3[x - 1]!) := Lib.hid (by have := lt_no hl; rw [HG.out, HG.out] at this; rw [show x - 1 = x1 by have := HX1.out; omega]; exact this)
                  go_wp2_with (go_at_call 169; (with_reducible refine (so_parteq w0 _ blk off n cap x y p d3 W3.out hp1 hp2 HYN.out).mono ?_); rintro e w4 ⟨m, rfl, hm1, hm2, d4, g1, g2, g3, g4⟩; have G1 := Lib.hid g1; have G2 := Lib.hid g2; have G3 := Lib.hid g3; have G4 := Lib.hid g4; clear g1 g2 g3 g4)
                  go_roundw
                  case rel => exact ⟨m, y, k1, wb, wp, d4, rfl, rfl, rfl, rfl, rfl, by omega, by omega, hy, Lib.hid ⟨G1.out, fin_eq HF3.out hx0 hv.out G2.out G3.out G4.out hm1 hx hy HZ.out⟩⟩
                  case measure => simp [intOf]; omega
                · have hl2 : ltInt (G x1) (G p) = true := hl
                  go_wp2_with (go_at_call 170; (with_reducible refine (so_part w0 _ blk off n cap x y p d3 W3.out hp1 hp2 HYN.out).mono ?_); rintro e w4 ⟨m, tt, rfl, hm1, hm2, d4, g1, g2, g3, g4⟩; have G1 := Lib.hid g1; have G2 := Lib.hid g2; have G3 := Lib.hid g3; have G4 := Lib.hid g4; clear g1 g2 g3 g4; obtain ⟨A1, A2, A3, eA1, eA2, eA3⟩ := diffs hm1 (Nat.le_of_lt hm2); have EA3 := Lib.hid eA3; have hA3 : A3 = m + 1 := (by omega); have HA3 := Lib.hid hA3; clear hA3)
                  · have CL : Hid (∀ (w : World) (l : Int) (d : Array Int), Rr w0 blk off n d w → Bel x m d → Calls Tryz.prog 152 #[.slice (some ⟨blk, off, none⟩) n cap, .int .i64 x, .int .i64 m, .int .i64 l] w fun e w' => e = .returned (.tuple #[]) ∧ Sr w0 blk off n x m d (SortedIn ltInt x m) w') := Lib.hid (HI.out x m hm1 (by omega) (by omega))
                    have BB : Hid (Bel x m d4) := Lib.hid (bel_left HF3.out G2.out (by omega) hy HZ.out)
                    go_wp2_with (go_at_call 152; (with_reducible refine (CL.out w4 k1 d4 G1.out BB.out).mono ?_); rintro e w5 ⟨rfl, d5, j1, j2, j3⟩; replace j1 := Lib.hid j1; replace j2 := Lib.hid j2; replace j3 := Lib.hid j3)
                    go_roundw
                    case rel => exact ⟨(m + 1), y, k1, _, tt, d5, by rw [← HA3.out], rfl, rfl, rfl, rfl, by omega, by omega, by omega, Lib.hid ⟨j1.out, fin_left HF3.out G2.out G3.out G4.out j2.out j3.out hm1 hm2 hx hy HZ.out⟩⟩
                    case measure => have := HA3.out; simp [intOf]; omega
                  · have CR : Hid (∀ (w : World) (l : Int) (d : Array Int), Rr w0 blk off n d w → Bel (m + 1) y d → Calls Tryz.prog 152 #[.slice (some ⟨blk, off, none⟩) n cap, .int .i64 A3, .int .i64 y, .int .i64 l] w fun e w' => e = .returned (.tuple #[]) ∧ Sr w0 blk off n (m + 1) y d (SortedIn ltInt (m + 1) y) w') := Lib.hid (by rw [HA3.out]; exact HI.out (m + 1) y hm2 (by omega) (by omega))
                    have BB : Hid (Bel (m + 1) y d4) := Lib.hid (bel_right G4.out)
                    go_wp2_with (go_at_call 152; (with_reducible refine (CR.out w4 k1 d4 G1.out BB.out).mono ?_); rintro e w5 ⟨rfl, d5, j1, j2, j3⟩; replace j1 := Lib.hid j1; replace j2 := Lib.hid j2; replace j3 := Lib.hid j3)
                    go_roundw
                    case rel => exact ⟨x, m, k1, _, tt, d5, rfl, rfl, rfl, rfl, rfl, by omega, by omega, by omega, Lib.hid ⟨j1.out, fin_right HF3.out G2.out G3.out G4.out j2.out j3.out hm1 hm2 hx hy HZ.out⟩⟩
                    case measure => simp [intOf]; omega
              · go_wp2_with (fail)
                go_quiet (first | (go_at_call 118; refine Calls.quiet_of_same (less_any _ _ _)) | (go_at_call 118; exact less_more _ _ _ _ _))
                have W3 : Hid (Rr w0 blk off n d3 (wc.drewN nq)) := Lib.hid (h3.out.1.drewN nq)
                go_wp2_with (fail)
                go_wp2_with (go_at_call 170; (with_reducible refine (so_part w0 _ blk off n cap x y p d3 W3.out hp1 hp2 HYN.out).mono ?_); rintro e w4 ⟨m, tt, rfl, hm1, hm2, d4, g1, g2, g3, g4⟩; have G1 := Lib.hid g1; have G2 := Lib.hid g2; have G3 := Lib.hid g3; have G4 := Lib.hid g4; clear g1 g2 g3 g4; obtain ⟨A1, A2, A3, eA1, eA2, eA3⟩ := diffs hm1 (Nat.le_of_lt hm2); have EA3 := Lib.hid eA3; have hA3 : A3 = m + 1 := (by omega); have HA3 := Lib.hid hA3; clear hA3)
                · have CL : Hid (∀ (w : World) (l : Int) (d : Array Int), Rr w0 blk off n d w → Bel x m d → Calls Tryz.prog 152 #[.slice (some ⟨blk, off, none⟩) n cap, .int .i64 x, .int .i64 m, .int .i64 l] w fun e w' => e = .returned (.tuple #[]) ∧ Sr w0 blk off n x m d (SortedIn ltInt x m) w') := Lib.hid (HI.out x m hm1 (by omega) (by omega))
                  have BB : Hid (Bel x m d4) := Lib.hid (bel_left HF3.out G2.out (by omega) hy HZ.out)
                  go_wp2_with (go_at_call 152; (with_reducible refine (CL.out w4 k1 d4 G1.out BB.out).mono ?_); rintro e w5 ⟨rfl, d5, j1, j2, j3⟩; replace j1 := Lib.hid j1; replace j2 := Lib.hid j2; replace j3 := Lib.hid j3)
                  go_roundw
                  case rel => exact ⟨(m + 1), y, k1, _, tt, d5, by rw [← HA3.out], rfl, rfl, rfl, rfl, by omega, by omega, by omega, Lib.hid ⟨j1.out, fin_left HF3.out G2.out G3.out G4.out j2.out j3.out hm1 hm2 hx hy HZ.out⟩⟩
                  case measure => have := HA3.out; simp [intOf]; omega
                · have CR : Hid (∀ (w : World) (l : Int) (d : Array Int), Rr w0 blk off n d w → Bel (m + 1) y d → Calls Tryz.prog 152 #[.slice (some ⟨blk, off, none⟩) n cap, .int .i64 A3, .int .i64 y, .int .i64 l] w fun e w' => e = .returned (.tuple #[]) ∧ Sr w0 blk off n (m + 1) y d (SortedIn ltInt (m + 1) y) w') := Lib.hid (by rw [HA3.out]; exact HI.out (m + 1) y hm2 (by omega) (by omega))
                  have BB : Hid (Bel (m + 1) y d4) := Lib.hid (bel_right G4.out)
                  go_wp2_with (go_at_call 152; (with_reducible refine (CR.out w4 k1 d4 G1.out BB.out).mono ?_); rintro e w5 ⟨rfl, d5, j1, j2, j3⟩; replace j1 := Lib.hid j1; replace j2 := Lib.hid j2; replace j3 := Lib.hid j3)
                  go_roundw
                  case rel => exact ⟨x, m, k1, _, tt, d5, rfl, rfl, rfl, rfl, rfl, by omega, by omega, by omega, Lib.hid ⟨j1.out, fin_right HF3.out G2.out G3.out G4.out j2.out j3.out hm1 hm2 hx hy HZ.out⟩⟩
                  case measure => simp [intOf]; omega
theorem so_pdq (w0 : World) (blk off n cap : Nat) : ∀ (N a b : Nat), a ≤ b → b ≤ n → b - a ≤ N → PdqAt w0 blk off n cap a b := by
  intro N
  induction N with
  | zero => exact fun a b h1 h2 h3 => pdq_step w0 blk off n cap a b h1 h2 fun x y _ _ h6 => by omega
  | succ N ih => exact fun a b h1 h2 h3 => pdq_step w0 blk off n cap a b h1 h2 fun x y h4 h5 h6 => ih x y h4 h5 (by omega)
end Go.Proofs.YtelfacchhclgnaaGreat.Kb
end
section
namespace Go.Proofs.YtelfacchhclgnaaGreat.Kb
set_option maxRecDepth 20000
open Go.RowKit Go.Sort
theorem own_holdsH {w : World} {base g n cap : Nat} {xs : List Int} (h : w.ownsRow base 22 1 (.slice (some ⟨g, 0, none⟩) n cap) n (hv xs)) (_hl : xs.length = n) : Holds (Value.int .u64) w g 0 xs.toArray := by
  intro j hj
  have hj' : j < xs.length := by simpa using hj
  refine ⟨?_, by rw [Nat.zero_add]; exact h.frozenAt j⟩
  have := h.cells (g := g) rfl j (.int .u64 xs[j]) (by simp [hj'])
  rw [add_offB] at this
  rw [Nat.zero_add, this, getElem!_pos xs.toArray j hj]
  simp
theorem sw_but {w w' : World} {blk off : Nat} {d : Array Int} (h : SW (Value.int .u64) w blk off d w') : ButS w w' (· = blk) := by
  obtain ⟨n, os, rfl⟩ := h
  refine ⟨rfl, rfl, rfl, ?_, fun j hj hne => ?_⟩
  · show w.heap.size ≤ ((w.heap.modify blk _) ++ os).size
    simp
  · show ((w.heap.modify blk _) ++ os)[j]? = _
    rw [Array.getElem?_append_left (by simpa using hj), Array.getElem?_modify]
    have : ¬ blk = j := fun e => hne e.symm
    simp [this]
theorem sw_own {w w' : World} {base g n cap : Nat} {xs ys : List Int} (h : w.ownsRow base 22 1 (.slice (some ⟨g, 0, none⟩) n cap) n (hv xs)) (hl : ys.length = n) (hw : SW (Value.int .u64) w g 0 ys.toArray w') :
    w'.ownsRow base 22 1 (.slice (some ⟨g, 0, none⟩) n cap) n (hv ys) := by
  obtain ⟨q, os, rfl⟩ := hw
  rcases h.2 with ⟨h1, h2⟩ | ⟨g', cap', cur, h1, hb, hg, hnc, hcm, hcs, ht⟩
  · simp at h1
  · simp only [Value.slice.injEq, Option.some.injEq, Addr.mk.injEq, and_true, true_and] at h1
    obtain ⟨rfl, rfl⟩ := h1
    have hlt : g < w.heap.size := (Array.getElem?_eq_some_iff.1 hg).1
    refine ⟨by simp [hl], .inr ⟨g, cap, putCells (Value.int .u64) 0 ys.toArray cur, rfl, hb, ?_, hnc, hcm, by simpa [putCells] using hcs, ?_⟩⟩
    · show ((w.heap.modify g _) ++ os)[g]? = _
      rw [Array.getElem?_append_left (by simpa using hlt), Array.getElem?_modify, hg]
      simp [onCells]
    · apply List.ext_getElem?
      intro j
      by_cases hj : j < n
      · rw [List.getElem?_take_of_lt (by omega), Array.getElem?_toList]
        simp [putCells, hl, hj, show j < cur.size by omega]
      · rw [List.getElem?_take_eq_none (by omega), List.getElem?_eq_none (by simp; omega)]
set_option maxHeartbeats 4000000 in
theorem so_sort (w : World) (base g n cap : Nat) (xs : List Int) (h : w.ownsRow base 22 1 (.slice (some ⟨g, 0, none⟩) n cap) n (hv xs)) (hl : xs.length = n) (few : n < 4611686018427387904) :
    Calls Tryz.prog 134 #[.slice (some ⟨g, 0, none⟩) n cap] w fun e w' => e = .returned (.tuple #[]) ∧ ∃ ys : List Int, ys.Perm xs ∧ ys.Pairwise (· ≤ ·) ∧
      w'.ownsRow base 22 1 (.slice (some ⟨g, 0, none⟩) n cap) n (hv ys) ∧ ButS w w' (· = g) := by
  have hg : g < w.heap.size := (h.lt g rfl).2
  have R : Rr w g 0 n xs.toArray w := by
    have := Rr.start (own_holdsH h hl) hg (by simpa [hl] using few)
    simpa [hl] using this
  have HR := Lib.hid R
  have HO := Lib.hid h
  have HL := Lib.hid hl
  have HB : Hid (Bel 0 n xs.toArray) := Lib.hid (fun h => absurd h (by omega))
  have P := so_pdq w g 0 n cap n 0 n (by omega) (Nat.le_refl _) (by omega)
  have HP : Hid (∀ (W : World) (l : Int) (d : Array Int), Rr w g 0 n d W → Bel 0 n d → Calls Tryz.prog 152 #[.slice (some ⟨g, 0, none⟩) n cap, .int .i64 0, .int .i64 n, .int .i64 l] W fun e w' => e = .returned (.tuple #[]) ∧ Sr w g 0 n 0 n d (SortedIn ltInt 0 n) w') := Lib.hid P
  clear R h hl P
  go_enter Tryz.func134, Tryz.ntmps134
  go_wp2_with (first
    | (go_at_call 153; (with_reducible refine (len_any _ _ (by omega) (by omega)).mono ?_); rintro e w' ⟨rfl, rfl⟩)
    | (go_at_call 152; (with_reducible refine (HP.out _ _ _ HR.out HB.out).mono ?_); rintro e w' ⟨rfl, d', h1, h2, h3⟩; replace h1 := Lib.hid h1; replace h2 := Lib.hid h2; replace h3 := Lib.hid h3))
  go_end0
  have hs := h1.out.size
  have hp := h2.out.2.2
  have e1 : (d'.extract 0 n).toList = d'.toList := by simp [← hs]
  have e2 : (xs.toArray.extract 0 n).toList = xs := by simp [← HL.out]
  rw [e1, e2] at hp
  refine ⟨rfl, d'.toList, hp, ?_, sw_own HO.out (by simp [hs]) (by simpa using h1.out.sw), sw_but h1.out.sw⟩
  rw [List.pairwise_iff_getElem]
  intro i j hi hj hij
  have := sorted_iff.1 h3.out i j (Nat.zero_le _) hij (by simpa [hs] using hj)
  have hj' : j < d'.size := by simpa using hj
  have hi' : i < d'.size := by simpa using hi
  rw [getElem!_pos d' i hi', getElem!_pos d' j hj'] at this
  simpa using this
end Go.Proofs.YtelfacchhclgnaaGreat.Kb
end
section
namespace Go.Proofs.YtelfacchhclgnaaGreat.Kb
set_option maxRecDepth 20000
open Go.RowKit Go.Sort Go.Lib
theorem keeps_at (d : Array Int) (j : Nat) : keeps d j = true ↔ (j = 0 ∨ d[j]! ≠ d[j - 1]!) := by
  unfold keeps; simp
/-- Of a row in order the kept ones rise, and are just the row's numbers. -/
theorem comp_spec {xs : List Int} (h : xs.Pairwise (· ≤ ·)) : ∀ m, m ≤ xs.length → (compactUpTo xs.toArray m).Pairwise (· < ·) ∧ (∀ x, x ∈ compactUpTo xs.toArray m ↔ x ∈ xs.take m) ∧ ((compactUpTo xs.toArray m).length ≤ m) := by
  intro m
  induction m with
  | zero => intro _; exact ⟨by simp [compactUpTo], by simp [compactUpTo], by simp [compactUpTo]⟩
  | succ m ih =>
    intro hm
    obtain ⟨h1, h2, h3⟩ := ih (by omega)
    have hat : ∀ k (hk : k < xs.length), xs.toArray[k]! = xs[k] := fun k hk => by rw [getElem!_pos xs.toArray k (by simpa using hk)]; simp
    have hmono : ∀ a b (ha : a < xs.length) (hb : b < xs.length), a < b → xs[a] ≤ xs[b] := fun a b ha hb hab => List.pairwise_iff_getElem.1 h a b ha hb hab
    rw [compactUpTo_succ, List.take_succ_eq_append_getElem (show m < xs.length by omega), hat m (by omega)]
    by_cases hk : keeps xs.toArray m = true
    · rw [if_pos hk]
      refine ⟨?_, fun x => ?_, by simp; omega⟩
      · rw [List.pairwise_append]
        refine ⟨h1, by simp, fun a ha b hb => ?_⟩
        simp at hb
        subst hb
        rw [h2 a, List.mem_take_iff_getElem] at ha
        obtain ⟨i, hi, rfl⟩ := ha
        rcases (keeps_at _ _).1 hk with h0 | h0
        · omega
        · rw [hat m (by omega), hat (m - 1) (by omega)] at h0
          have q1 : xs[m - 1] ≤ xs[m] := hmono _ _ _ _ (by omega)
          have q2 : xs[i] ≤ xs[m - 1] := by
            by_cases e : i = m - 1
            · subst e; exact Int.le_refl _
            · exact hmono _ _ _ _ (by omega)
          omega
      · rw [List.mem_append, List.mem_append, h2 x]
    · rw [if_neg hk]
      rw [List.append_nil]
      refine ⟨h1, fun x => ?_, by omega⟩
      rw [h2 x]
      have hne : ¬ (m = 0 ∨ xs.toArray[m]! ≠ xs.toArray[m - 1]!) := fun e => hk ((keeps_at _ _).2 e)
      have h0 : 0 < m := by omega
      have he : xs[m] = xs[m - 1] := by
        have : ¬ xs.toArray[m]! ≠ xs.toArray[m - 1]! := fun e => hne (.inr e)
        rw [hat m (by omega), hat (m - 1) (by omega)] at this
        omega
      constructor
      · intro hx; exact List.mem_append_left _ hx
      · intro hx
        rw [List.mem_append] at hx
        rcases hx with hx | hx
        · exact hx
        · rw [List.mem_singleton.1 hx, he, List.mem_take_iff_getElem]
          exact ⟨m - 1, by omega, rfl⟩
theorem so_comp (w : World) (base g n cap : Nat) (ys : List Int) (h : w.ownsRow base 22 1 (.slice (some ⟨g, 0, none⟩) n cap) n (hv ys)) (hl : ys.length = n) (ho : ys.Pairwise (· ≤ ·)) (few : n < 4611686018427387904) :
    Calls Tryz.prog 135 #[.slice (some ⟨g, 0, none⟩) n cap] w fun e w' => ∃ zs : List Int, e = .returned (.slice (some ⟨g, 0, none⟩) zs.length cap) ∧ zs.Pairwise (· < ·) ∧ (∀ x, x ∈ zs ↔ x ∈ ys) ∧
      w'.ownsRow base 22 1 (.slice (some ⟨g, 0, none⟩) zs.length cap) zs.length (hv zs) ∧ ButS w w' (· = g) ∧ zs.length ≤ n := by
  obtain ⟨p1, p2, p3⟩ := comp_spec ho ys.length (Nat.le_refl _)
  rw [List.take_length] at p2
  have hcap : n ≤ cap := by
    obtain ⟨g', cap', cur, hv', _, _, hnc, _⟩ | h2 := h.2.symm
    · simp only [Value.slice.injEq, true_and] at hv'; omega
    · obtain ⟨h2, _⟩ := h2; simp at h2
  have hc := AnyE.slices_Compact Tryz.compH (Value.int .u64) (fun _ => rfl)
    ⟨fun x y w => by simp [binOp, Op.intCmp]; rfl, (EqlAt.int Tryz.prog 22 .u64).2⟩ ⟨fun x y w => by simp [binOp, Op.intCmp]; rfl, (EqlAt.int Tryz.prog 22 .u64).2⟩ 0 Tryz.zeroValue22 g 0 cap ys.toArray w (own_holdsH h hl) (by simp; omega) (by simp; omega)
  have hc' : Calls Tryz.prog 135 #[.slice (some ⟨g, 0, none⟩) ys.toArray.size cap] w _ := hc
  rw [show ys.toArray.size = n by simp [hl]] at hc'
  refine hc'.mono ?_
  rintro e w' ⟨rfl, q, hw⟩
  obtain ⟨zs, hz⟩ : ∃ zs, zs = compactUpTo ys.toArray ys.length := ⟨_, rfl⟩
  rw [← hl] at hw ⊢
  rw [← hz] at p1 p2 p3 hw ⊢
  have hsw : SW (Value.int .u64) w g 0 (zs ++ List.replicate (ys.length - zs.length) 0).toArray w' := ⟨q, #[], by unfold sortWorld; rw [grow_empty]; exact hw⟩
  have ho2 := sw_own h (ys := zs ++ List.replicate (ys.length - zs.length) 0) (by simp; omega) hsw
  have ho3 := own_cut ho2 (k := zs.length) (by omega)
  refine ⟨zs, rfl, p1, p2, ?_, sw_but hsw, by omega⟩
  have e : (hv (zs ++ List.replicate (ys.length - zs.length) 0)).take (zs.length * 1) = hv zs := by
    simp [hv]
  rw [e] at ho3
  exact ho3
end Go.Proofs.YtelfacchhclgnaaGreat.Kb
end
section
namespace Go.Proofs.YtelfacchhclgnaaGreat.Kb
set_option maxRecDepth 20000
open Go.RowKit
set_option maxHeartbeats 4000000 in
theorem ins_nil (c : Nat) (w : World) : Calls Tryz.prog 163 #[.slice none 0 c, .int .i64 0, .int .i64 0] w fun e w' => e = .returned (.tuple #[]) ∧ w = w' := by
  go_enter Tryz.func163, Tryz.ntmps163
  go_wp2
  go_loop [6] (fun vi => vi = .int .i64 1) (fun _ => 0)
  case atStart => rfl
  case round =>
    subst hrel
    go_wp2
    go_end0
    exact ⟨rfl, rfl⟩
set_option maxHeartbeats 4000000 in
set_option maxRecDepth 100000 in
theorem pdq_nil (c : Nat) (l : Int) (w : World) : Calls Tryz.prog 152 #[.slice none 0 c, .int .i64 0, .int .i64 0, .int .i64 l] w fun e w' => e = .returned (.tuple #[]) ∧ w = w' := by
  go_enter Tryz.func152, Tryz.ntmps152
  go_wp2_with (fail)
  go_loop [1, 2] (fun v1 v2 => v1 = .int .i64 0 ∧ v2 = .int .i64 0) (fun _ _ => 0)
  case atStart => exact ⟨rfl, rfl⟩
  case round =>
    obtain ⟨rfl, rfl⟩ := hrel
    go_wp2_with (go_at_call 163; (with_reducible refine (ins_nil c _).mono ?_); rintro e w' ⟨rfl, rfl⟩)
    refine bodyPost_ret (results_none rfl _ _ _) rfl ?_
    exact ⟨rfl, rfl⟩
set_option maxHeartbeats 4000000 in
theorem sort_nil (c : Nat) (w : World) : Calls Tryz.prog 134 #[.slice none 0 c] w fun e w' => e = .returned (.tuple #[]) ∧ w = w' := by
  go_enter Tryz.func134, Tryz.ntmps134
  go_wp2_with (first
    | (go_at_call 153; (with_reducible refine (len_any _ _ (by omega) (by omega)).mono ?_); rintro e w' ⟨rfl, rfl⟩)
    | (go_at_call 152; (with_reducible refine (pdq_nil c _ _).mono ?_); rintro e w' ⟨rfl, rfl⟩))
  go_end0
  exact ⟨rfl, rfl⟩
set_option maxHeartbeats 4000000 in
theorem comp_nil (c : Nat) (w : World) : Calls Tryz.prog 135 #[.slice none 0 c] w fun e w' => e = .returned (.slice none 0 c) ∧ w = w' := by
  go_enter Tryz.func135, Tryz.ntmps135
  go_wp2
  go_ret
  exact ⟨rfl, rfl⟩
theorem own_two {w : World} {base : Nat} {e : TypeId} {n : Nat} {v : Value} {xs : List Value} (h : w.ownsRow base e 1 v n xs) : v = .slice none 0 0 ∧ n = 0 ∨ ∃ g c, v = .slice (some ⟨g, 0, none⟩) n c ∧ base ≤ g := by
  rcases h.2 with ⟨h1, h2⟩ | ⟨g, cap, cur, h1, hb, _⟩
  · exact .inl ⟨h1, h2⟩
  · exact .inr ⟨g, cap, h1, hb⟩
theorem own_low {w : World} {base b : Nat} {e : TypeId} {n : Nat} {v : Value} {xs : List Value} (h : w.ownsRow base e 1 v n xs) (hb : b ≤ base) : w.ownsRow b e 1 v n xs := by
  refine ⟨h.1, ?_⟩
  rcases h.2 with h1 | ⟨g, cap, cur, h1, h2, h3⟩
  · exact .inl h1
  · exact .inr ⟨g, cap, cur, h1, Nat.le_trans hb h2, h3⟩
theorem rh_cell {w : World} {B : Nat} {A : Option Addr} {n c : Nat} {xs : List Int} (hr : Rh w B A xs) (hn : n = xs.length) (hB : B ≤ w.heap.size) : Parts (w.alloc (.cells #[.slice A n c] 47)) B w.heap.size 0 [(A, c, xs)] := by
  intro k hk
  have hk0 : k = 0 := by simp at hk; exact hk
  subst hk0
  refine ⟨by simp [hn], ?_⟩
  exact hr.below ((Below.refl _ _).alloc hB _) (Nat.le_refl _)
end Go.Proofs.YtelfacchhclgnaaGreat.Kb
end
section
namespace Go.Proofs.YtelfacchhclgnaaGreat
namespace M
/-- The places that are true, rising. -/
def L (bs : List Bool) : List Int := ((List.range bs.length).filter fun i => bs[i]?.getD false).map fun i : Nat => (i : Int)
/-- All from f up to t are there (o), or not; n were changed. -/
def Chg (o : Bool) (l l' : List Int) (f t : Int) (n : Nat) : Prop :=
  l'.Pairwise (· < ·) ∧ (∀ y, y ∈ l' ↔ if f ≤ y ∧ y ≤ t then o = true else y ∈ l) ∧ (if o then n + l.length = l'.length else n + l'.length = l.length)
theorem Chg.same {o : Bool} {l a b : List Int} {f t : Int} {n m : Nat} (h : Chg o l a f t n) (k : Chg o l b f t m) : a = b ∧ n = m := by
  have e : a = b := sorted_ext h.1 k.1 fun y => (h.2.1 y).trans (k.2.1 y).symm
  subst e
  refine ⟨rfl, ?_⟩
  have h1 := h.2.2
  have h2 := k.2.2
  cases o
  · rw [if_neg (by decide)] at h1 h2; omega
  · rw [if_pos rfl] at h1 h2; omega
end M
end Go.Proofs.YtelfacchhclgnaaGreat
end
section
namespace Go.Proofs.YtelfacchhclgnaaGreat.Kb
set_option maxRecDepth 20000
open Go.RowKit
theorem rank_at {xs : List Int} {v : Int} {i : Nat} (hi : i ≤ xs.length) (h1 : ∀ k (h : k < xs.length), k < i → xs[k] < v) (h2 : ∀ k (h : k < xs.length), i ≤ k → v ≤ xs[k]) : M.rRank xs v = i := by
  unfold M.rRank
  have e1 : (xs.take i).filter (fun x => decide (x < v)) = xs.take i := List.filter_eq_self.2 fun x hx => by
    rw [List.mem_take_iff_getElem] at hx
    obtain ⟨k, hk, rfl⟩ := hx
    simpa using h1 k (by omega) (by omega)
  have e2 : (xs.drop i).filter (fun x => decide (x < v)) = [] := List.filter_eq_nil_iff.2 fun x hx => by
    rw [List.mem_drop_iff_getElem] at hx
    obtain ⟨k, hk, rfl⟩ := hx
    have := h2 (i + k) (by omega) (by omega)
    simp; omega
  conv => lhs; rw [← List.take_append_drop i xs]
  rw [List.filter_append, e1, e2]
  simp; omega
theorem mem_at {xs : List Int} {v : Int} {i : Nat} (h1 : ∀ k (h : k < xs.length), k < i → xs[k] < v) (h2 : ∀ k (h : k < xs.length), i ≤ k → v ≤ xs[k]) (hs : xs.Pairwise (· < ·)) : v ∈ xs ↔ ∃ h : i < xs.length, xs[i] = v := by
  constructor
  · intro hv
    obtain ⟨k, hk, he⟩ := List.mem_iff_getElem.1 hv
    rcases Nat.lt_trichotomy k i with h | h | h
    · have := h1 k hk h; omega
    · subst h; exact ⟨hk, he⟩
    · have q1 := List.pairwise_iff_getElem.1 hs i k (by omega) hk h
      have q2 := h2 i (by omega) (Nat.le_refl _)
      omega
  · rintro ⟨h, rfl⟩; exact List.getElem_mem h
/-- What the halves hold. -/
def Half (xs : List Int) (v : Int) (i j : Nat) : Prop := (∀ k (h : k < xs.length), k < i → xs[k] < v) ∧ (∀ k (h : k < xs.length), j ≤ k → v ≤ xs[k])
theorem half_up {xs : List Int} {v : Int} {i j h : Nat} (hs : xs.Pairwise (· < ·)) (hh : Half xs v i j) (hl : h < xs.length) (hy : xs[h] < v) : Half xs v (h + 1) j := by
  refine ⟨fun k hk hki => ?_, hh.2⟩
  rcases Nat.lt_or_eq_of_le (show k ≤ h by omega) with e | e
  · exact Int.lt_trans (List.pairwise_iff_getElem.1 hs k h hk hl e) hy
  · subst e; exact hy
theorem half_down {xs : List Int} {v : Int} {i j h : Nat} (hs : xs.Pairwise (· < ·)) (hh : Half xs v i j) (hl : h < xs.length) (hy : v ≤ xs[h]) : Half xs v i h := by
  refine ⟨hh.1, fun k hk hki => ?_⟩
  rcases Nat.lt_or_eq_of_le hki with e | e
  · exact Int.le_trans hy (Int.le_of_lt (List.pairwise_iff_getElem.1 hs h k hl hk e))
  · subst e; exact hy
set_option maxHeartbeats 1000000 in
theorem nan_any (x : Int) (w : World) : Calls Tryz.prog 119 #[.int .u64 x] w fun e w' => e = .returned (.bool false) ∧ w = w' := by
  go_enter Tryz.func119, Tryz.ntmps119
  go_wp2
  go_ret
  exact ⟨by simp, rfl⟩
set_option maxHeartbeats 8000000 in
set_option maxRecDepth 100000 in
theorem a_search (w : World) (B n c : Nat) (A : Option Addr) (xs : List Int) (v : Int) (hn : n = xs.length) (hr : Rh w B A xs) (hs : xs.Pairwise (· < ·)) (few : n ≤ 1000000) :
    Calls Tryz.prog 85 #[.slice A n c, .int .u64 v] w fun e w' => e = .returned (.tuple #[.int .i64 (M.rRank xs v : Nat), .bool (decide (v ∈ xs))]) ∧ w = w' := by
  have HN := Lib.hid hn
  have HS := Lib.hid hs
  have HR := Lib.hid hr
  clear hn hs hr
  go_enter Tryz.func85, Tryz.ntmps85
  go_wp2_with (fail)
  go_loop [7, 8] (fun vi vj => ∃ i j : Nat, vi = .int .i64 i ∧ vj = .int .i64 j ∧ i ≤ j ∧ j ≤ n ∧ Hid (Half xs v i j)) (fun vi vj => (intOf vj - intOf vi).toNat)
  case atStart => exact ⟨0, n, rfl, rfl, Nat.zero_le _, Nat.le_refl _, Lib.hid ⟨fun k _ h => by omega, fun k h h' => by have := HN.out; omega⟩⟩
  case round =>
    obtain ⟨i, j, rfl, rfl, hij, hjn, hH⟩ := hrel
    by_cases hlt : i < j
    · obtain ⟨h, hh⟩ : ∃ h, h = (i + j) / 2 := ⟨_, rfl⟩
      have eh : ((i : Int) + (j : Int)) / 2 = (h : Int) := by omega
      have hhi : i ≤ h := by omega
      have hhj : h < j := by omega
      clear hh
      have hhn : h < n := by omega
      have hhx : h < xs.length := by rw [← HN.out]; exact hhn
      obtain ⟨b, off, hA, _, hcell⟩ := HR.out.at hhx
      subst hA
      obtain ⟨y, hy⟩ : ∃ y, y = xs[h] := ⟨_, rfl⟩
      rw [← hy] at hcell
      have HY := Lib.hid hy
      clear hy
      have hs0 : 0 ≤ (i : Int) + (j : Int) := by omega
      have hs1 : (i : Int) + (j : Int) ≤ 2000000 := by omega
      go_wp2_with (go_at_call 118; refine (less_any _ _ _).mono ?_; rintro e w' ⟨rfl, rfl⟩)
      · have e : Sort.ltInt y v = true := by assumption
        go_round
        case rel => exact ⟨h + 1, j, by go_num, rfl, by omega, hjn, Lib.hid (half_up HS.out hH.out hhx (by rw [← HY.out]; exact lt_yes e))⟩
        case measure => simp [intOf]; omega
      · have e : Sort.ltInt y v = false := by assumption
        go_round
        case rel => exact ⟨i, h, rfl, rfl, hhi, by omega, Lib.hid (half_down HS.out hH.out hhx (by rw [← HY.out]; exact lt_no e))⟩
        case measure => simp [intOf]; omega
    · have hji : j = i := by omega
      subst hji
      have hrk : Hid (M.rRank xs v = j) := Lib.hid (rank_at (by rw [← HN.out]; exact hjn) hH.out.1 hH.out.2)
      have hmem : Hid (v ∈ xs ↔ ∃ h : j < xs.length, xs[j] = v) := Lib.hid (mem_at hH.out.1 hH.out.2 HS.out)
      by_cases hin : j < n
      · have hjx : j < xs.length := by rw [← HN.out]; exact hin
        obtain ⟨b, off, hA, _, hcell⟩ := HR.out.at hjx
        subst hA
        obtain ⟨y, hy⟩ : ∃ y, y = xs[j] := ⟨_, rfl⟩
        rw [← hy] at hcell
        have HY := Lib.hid hy
        clear hy
        by_cases hyv : y = v
        · have HM : Hid (v ∈ xs) := Lib.hid (hmem.out.2 ⟨hjx, by rw [← HY.out]; exact hyv⟩)
          subst hyv
          go_wp2_with (go_at_call 119; refine (nan_any _ _).mono ?_; rintro e w' ⟨rfl, rfl⟩)
          go_ret2
          exact ⟨by rw [hrk.out, decide_eq_true HM.out]; rfl, rfl⟩
        · have HM : Hid (¬ v ∈ xs) := Lib.hid (fun hv => by obtain ⟨_, h⟩ := hmem.out.1 hv; rw [← HY.out] at h; exact hyv h)
          have hyb : (y == v) = false := by simpa using hyv
          go_wp2_with (go_at_call 119; refine (nan_any _ _).mono ?_; rintro e w' ⟨rfl, rfl⟩)
          go_ret2
          exact ⟨by rw [hrk.out, decide_eq_false HM.out]; rfl, rfl⟩
      · have HM : Hid (¬ v ∈ xs) := Lib.hid (fun hv => by obtain ⟨h, _⟩ := hmem.out.1 hv; rw [← HN.out] at h; exact hin h)
        go_wp2_with (go_at_call 119; refine (nan_any _ _).mono ?_; rintro e w' ⟨rfl, rfl⟩)
        go_ret2
        exact ⟨by rw [hrk.out, decide_eq_false HM.out]; rfl, rfl⟩
theorem rank_le (xs : List Int) (v : Int) : M.rRank xs v ≤ xs.length := List.length_filter_le _ _
/-- What stands ahead of a rank is less, what stands from it on isn't. -/
theorem rank_half {xs : List Int} (hs : xs.Pairwise (· < ·)) (v : Int) : Half xs v (M.rRank xs v) (M.rRank xs v) := by
  induction xs with
  | nil => exact ⟨fun k h => by simp at h, fun k h => by simp at h⟩
  | cons a l ih =>
    rw [List.pairwise_cons] at hs
    obtain ⟨i1, i2⟩ := ih hs.2
    by_cases ha : a < v
    · have e : M.rRank (a :: l) v = M.rRank l v + 1 := by unfold M.rRank; rw [List.filter_cons, if_pos (by simpa using ha)]; rfl
      rw [e]
      refine ⟨fun k hk h => ?_, fun k hk h => ?_⟩
      · cases k with
        | zero => exact ha
        | succ k => exact i1 k (by simpa using hk) (by omega)
      · cases k with
        | zero => omega
        | succ k => exact i2 k (by simpa using hk) (by omega)
    · have hz : ∀ x ∈ a :: l, ¬ x < v := fun x hx => by
        rcases List.mem_cons.1 hx with rfl | hx
        · exact ha
        · have := hs.1 x hx; omega
      have e : M.rRank (a :: l) v = 0 := by
        unfold M.rRank
        rw [List.filter_eq_nil_iff.2 fun x hx => by simpa using hz x hx]
        rfl
      rw [e]
      exact ⟨fun k hk h => by omega, fun k hk _ => by have := hz _ (List.getElem_mem hk); omega⟩
def upv (xs : List Int) (v : Int) : Nat := if v ∈ xs then M.rRank xs v + 1 else M.rRank xs v
end Go.Proofs.YtelfacchhclgnaaGreat.Kb
end
