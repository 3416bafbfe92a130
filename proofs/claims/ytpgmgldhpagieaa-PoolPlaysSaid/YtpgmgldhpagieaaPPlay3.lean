
/- The law PoolPlays: every script; the text walked. -/
import Derived.Test.YtpgmgldhpagieaaPActs
import Derived.Deep.RegionHeld3
namespace Go.Proofs.Ytpgmgldhpagieaa
open Go.RowKit
theorem bel_next {w X w6 : World} (h : Below w.heap.size w X) (k : Below X.heap.size X w6) : Below w.heap.size w w6 := h.trans (k.mono h.size)
set_option maxRecDepth 100000 in
set_option maxHeartbeats 4000000 in
theorem law_plays (l0 : Int) (A : Option Addr) (cp : Nat) (xs : List (Nat × Int × Nat)) (q : Nat) (hq : q < 256) (w : World) (hr : Rp w w.heap.size A xs) (hlen : xs.length ≤ 9223372036854775807) :
    Calls Try.prog 3 #[.int .i64 l0, .slice A xs.length cp, .int .u8 (q : Int)] w fun e w' => e = .returned (.bool true) ∧ Below w.heap.size w w' := by
  obtain ⟨lim, hlim⟩ : ∃ lim : Nat, max (min l0 12) 0 = (lim : Int) := ⟨(max (min l0 12) 0).toNat, by omega⟩
  have hlim2 : lim ≤ 12 := by omega
  have hcl := fun w => Lib.hid (ref_clamp l0 12 w)
  rw [hlim] at hcl
  obtain ⟨len, hxl⟩ : ∃ len, xs.length = len := ⟨_, rfl⟩
  have HR := Lib.hid hr
  have HXL := Lib.hid hxl
  rw [hxl] at hlen
  rw [hxl]
  clear hr hxl hlim
  go_enter Try.func3, Try.ntmps3
  go_wp2_with (first
    | (go_at_call 4; (with_reducible refine (awake_any _).mono ?_); rintro e w1 ⟨rfl, hb1⟩; have HB1 := Lib.hid hb1; clear hb1)
    | (go_at_call 5; (with_reducible refine (hcl _).out.mono ?_); rintro e w9 ⟨rfl, rfl⟩)
    | (go_at_call 6; (with_reducible refine (m_new _).mono ?_); rintro e w2 ⟨rfl, hm2, hb2⟩; have HM2 := Lib.hid hm2; have HB2 := Lib.hid hb2; have hml := hm2.lt; clear hm2 hb2)
    | (go_at_call 7; (with_reducible refine (p_new w2 w1.heap.size w1.heap.size lim hml (by omega) (by have := HB2.out.size; omega)).mono ?_); rintro e w3 ⟨rfl, hp3, hb3⟩; have HP3 := Lib.hid hp3; have HB3 := Lib.hid hb3; clear hp3 hb3))
  have hpl := pl_new (B := w1.heap.size) (R := w3.heap.size) (lim := lim) (HM2.out.below HB3.out hml) (Nat.le_refl _) HP3.out (by omega) rfl
  have hbw : Below w.heap.size w (w3.alloc (.cells #[.slice none 0 0, .slice none 0 0, .slice none 0 0, .int .i64 (lim : Int), .int .i64 0] 37)) :=
    (bel_next (bel_next HB1.out HB2.out) HB3.out).alloc (by have := HB1.out.size; have := HB2.out.size; have := HB3.out.size; omega) _
  have HPL := Lib.hid hpl
  have HBW := Lib.hid hbw
  clear hpl hbw
  obtain ⟨z, hz⟩ : ∃ z, q % 5 = z := ⟨_, rfl⟩
  have hz5 : z < 5 := by omega
  have q1 : (q : Int) % 5 = (z : Int) := by omega
  have q2 : (q : Int).tmod 5 = (z : Int) := by rw [Int.tmod_eq_emod_of_nonneg (by omega)]; exact q1
  have q3 : IntKind.i64.wrap (z : Int) = (z : Int) := IntWalk.i64_in _ (by omega)
  have q4 : IntKind.i64.wrap (1 + (z : Int)) = 1 + (z : Int) := IntWalk.i64_in _ (by omega)
  have q5 : IntKind.u8.wrap (z : Int) = (z : Int) := by simp [IntKind.wrap, IntKind.signed, IntKind.bits]; omega
  go_loopw [35] (fun u wr => ∃ k : Nat, k ≤ len ∧ k ≤ 80 ∧ u = .int .i64 (k : Int) ∧ Hid (Pl wr w1.heap.size w2.heap.size w1.heap.size w3.heap.size lim k) ∧ Hid (Below w.heap.size w wr)) (fun u _ => len - (intOf u).toNat)
  case atStart => exact ⟨0, by omega, by omega, rfl, HPL, HBW⟩
  case round =>
    obtain ⟨k, hk, hk8, rfl, HPl, HBw⟩ := hrel
    clear HPL HBW
    by_cases hlt : k < len
    · have hT1 : decide ((k : Int) < (len : Int)) = true := decide_eq_true (by omega)
      have hT1' : decide (k < len) = true := decide_eq_true hlt
      obtain ⟨b, off, rfl, hb, hx1, c0, c1, c2⟩ := (HR.out.below HBw.out (Nat.le_refl _)).at_ (k := k) (by have := HXL.out; omega)
      have hik : (k : Int) < (len : Int) := by omega
      have wk : IntKind.i64.wrap ((k : Int) + 1) = (k : Int) + 1 := IntWalk.i64_in _ (by omega)
      generalize xs[k]'(by have := HXL.out; omega) = x at *
      obtain ⟨d, i, V⟩ := x
      dsimp only at hx1 c0 c1 c2
      by_cases h80 : 80 ≤ k
      · have hT2 : decide ((80 : Int) ≤ (k : Int)) = true := decide_eq_true (by omega)
        have hT2' : decide (80 ≤ k) = true := decide_eq_true (by omega)
        have HPl2 := Lib.hid (HPl.out.below ((Below.refl _ wr).alloc (Nat.le_refl _) (acto d i V)))
        have HBw2 := Lib.hid (HBw.out.trans (((Below.refl _ wr).alloc (Nat.le_refl _) (acto d i V)).mono HBw.out.size))
        obtain ⟨wq, hwq⟩ : ∃ wq, wr.alloc (acto d i V) = wq := ⟨_, rfl⟩
        rw [hwq] at HPl2 HBw2
        go_wp2
        clear hwq HPl HBw c0 c1 c2
        obtain ⟨r, hr1, hend⟩ := HPl2.out.ends (by omega)
        have HS : Hid (∀ X, Below wq.heap.size wq X → X.cell? ⟨w3.heap.size, 4, none⟩ = some (.int .i64 (r : Int)) ∧ X.cell? ⟨w2.heap.size, 0, none⟩ = some (.pointer (some ⟨w1.heap.size, 0, none⟩))) := fun X h => ⟨(hend X h).2.1, (hend X h).1⟩
        have HE1 := Lib.hid (fun X h => (hend X h).2.2.1)
        have HE2 := Lib.hid (fun X h => (hend X h).2.2.2.1)
        have HE3 := Lib.hid (fun X h => (hend X h).2.2.2.2.1)
        have HE4 := Lib.hid (fun X h => (hend X h).2.2.2.2.2 1000 1000 rfl (by decide) (by decide))
        have HE5 := Lib.hid (fun X h => (hend X h).2.2.2.2.2 (1 + z) (1 + (z : Int)) (by omega) (by omega) (by omega))
        obtain ⟨y4, y0⟩ := HS.out wq (Below.refl _ _)
        clear hend
        have hzw := HBw2.out.size
        skip
        generalize hs1 : w1.heap.size = s1 at *
        generalize hs2 : w2.heap.size = s2 at *
        generalize hs3 : w3.heap.size = s3 at *
        go_region_held3 (fun w' => w'.cell? ⟨s3, 4, none⟩ = some (.int .i64 (r : Int)) ∧ w'.cell? ⟨s2, 0, none⟩ = some (.pointer (some ⟨s1, 0, none⟩)))
          (exact HS.out _ (by first | exact Below.refl _ _ | exact below_drewN (Below.refl _ _) 1 | assumption | exact below_drewN (by assumption) 1 | exact below_drewN (Below.refl _ _) _ | exact below_drewN (below_drewN (Below.refl _ _) _) _ | exact below_drewN (below_drewN (below_drewN (Below.refl _ _) _) _) _))
          (first
            | (go_at_call 12; (with_reducible refine (HE1.out _ ?_).mono ?_); (exact (by first | exact Below.refl _ _ | exact below_drewN (Below.refl _ _) 1 | assumption | exact below_drewN (by assumption) 1 | exact below_drewN (Below.refl _ _) _ | exact below_drewN (below_drewN (Below.refl _ _) _) _ | exact below_drewN (below_drewN (below_drewN (Below.refl _ _) _) _) _)); rintro e w5 ⟨rfl, rfl⟩)
            | (go_at_call 13; (with_reducible refine (HE2.out _ ?_).mono ?_); (exact (by first | exact Below.refl _ _ | exact below_drewN (Below.refl _ _) 1 | assumption | exact below_drewN (by assumption) 1 | exact below_drewN (Below.refl _ _) _ | exact below_drewN (below_drewN (Below.refl _ _) _) _ | exact below_drewN (below_drewN (below_drewN (Below.refl _ _) _) _) _)); rintro e w5 ⟨rfl, rfl⟩)
            | (go_at_call 15; (with_reducible refine (HE3.out _ ?_).mono ?_); (exact (by first | exact Below.refl _ _ | exact below_drewN (Below.refl _ _) 1 | assumption | exact below_drewN (by assumption) 1 | exact below_drewN (Below.refl _ _) _ | exact below_drewN (below_drewN (Below.refl _ _) _) _ | exact below_drewN (below_drewN (below_drewN (Below.refl _ _) _) _) _)); rintro e w5 ⟨rfl, rfl⟩)
            | (go_at_call 14; (with_reducible refine (HE4.out _ ?_).mono ?_); (exact (by first | exact Below.refl _ _ | exact below_drewN (Below.refl _ _) 1 | assumption | exact below_drewN (by assumption) 1 | exact below_drewN (Below.refl _ _) _ | exact below_drewN (below_drewN (Below.refl _ _) _) _ | exact below_drewN (below_drewN (below_drewN (Below.refl _ _) _) _) _)); rintro e w6 ⟨rfl, hb6⟩; have hB6 := bel_next (w := wq) (by first | exact Below.refl _ _ | exact below_drewN (Below.refl _ _) 1 | assumption | exact below_drewN (by assumption) 1 | exact below_drewN (Below.refl _ _) _ | exact below_drewN (below_drewN (Below.refl _ _) _) _ | exact below_drewN (below_drewN (below_drewN (Below.refl _ _) _) _) _) hb6; clear hb6)
            | (go_at_call 14; (with_reducible refine (HE5.out _ ?_).mono ?_); (exact (by first | exact Below.refl _ _ | exact below_drewN (Below.refl _ _) 1 | assumption | exact below_drewN (by assumption) 1 | exact below_drewN (Below.refl _ _) _ | exact below_drewN (below_drewN (Below.refl _ _) _) _ | exact below_drewN (below_drewN (below_drewN (Below.refl _ _) _) _) _)); rintro e w7 ⟨rfl, hb7⟩; have hB7 := bel_next (w := wq) (by first | exact Below.refl _ _ | exact below_drewN (Below.refl _ _) 1 | assumption | exact below_drewN (by assumption) 1 | exact below_drewN (Below.refl _ _) _ | exact below_drewN (below_drewN (Below.refl _ _) _) _ | exact below_drewN (below_drewN (below_drewN (Below.refl _ _) _) _) _) hb7; clear hb7))
        all_goals
          go_wp2
          go_ret
          exact ⟨rfl, bel_next HBw2.out (by first | exact hB7 | exact below_drewN hB7 _)⟩
      · have hT2 : decide ((80 : Int) ≤ (k : Int)) = false := decide_eq_false (by omega)
        have hT2' : decide (80 ≤ k) = false := decide_eq_false (by omega)
        have hdo := Lib.hid (do_law (HPl.out.below ((Below.refl _ wr).alloc (Nat.le_refl _) (acto d i V))) (by omega) d hx1 i V)
        have hbB : w1.heap.size ≤ wr.heap.size := by
          obtain ⟨_, _, _, _, _, ⟨_, _, _, _, _, _, _, _, _, _, a⟩, _⟩ := HPl.out
          exact a.base_le
        go_wp2_with (first
          | (go_at_call 8; (with_reducible refine hdo.out.mono ?_); rintro e w4 ⟨rfl, hpl4, hb4⟩
             obtain ⟨n, hn1, hn2, hn3, hask⟩ := hpl4.asks (by omega)
             have HASK := Lib.hid hask
             have HPL4 := Lib.hid hpl4
             have HB4 := Lib.hid hb4
             have hg : decide ((lim : Int) < (n : Int)) = false := decide_eq_false (by omega)
             clear hask hpl4 hb4)
          | (go_at_call 9; refine ((HASK.out _ (by first | exact Below.refl _ _ | exact below_drewN (Below.refl _ _) 1 | assumption | exact below_drewN (by assumption) 1 | exact below_drewN (Below.refl _ _) _ | exact below_drewN (below_drewN (Below.refl _ _) _) _ | exact below_drewN (below_drewN (below_drewN (Below.refl _ _) _) _) _)).1).mono ?_; rintro e w5 ⟨rfl, N, rfl⟩)
          | (go_at_call 10; refine ((HASK.out _ (by first | exact Below.refl _ _ | exact below_drewN (Below.refl _ _) 1 | assumption | exact below_drewN (by assumption) 1 | exact below_drewN (Below.refl _ _) _ | exact below_drewN (below_drewN (Below.refl _ _) _) _ | exact below_drewN (below_drewN (below_drewN (Below.refl _ _) _) _) _)).2.1).mono ?_; rintro e w5 ⟨rfl, rfl⟩)
          | (go_at_call 11; refine ((HASK.out _ (by first | exact Below.refl _ _ | exact below_drewN (Below.refl _ _) 1 | assumption | exact below_drewN (by assumption) 1 | exact below_drewN (Below.refl _ _) _ | exact below_drewN (below_drewN (Below.refl _ _) _) _ | exact below_drewN (below_drewN (below_drewN (Below.refl _ _) _) _) _)).2.2).mono ?_; rintro e w5 ⟨rfl, N3, rfl⟩))
        have hb5 := (HBw.out.trans (((Below.refl _ wr).alloc (Nat.le_refl _) (acto d i V)).mono HBw.out.size)).trans (HB4.out.mono HB1.out.size)
        exact ⟨⟨k + 1, by omega, by omega, by go_num, Pl.below HPL4.out (below_drewN (Below.refl _ _) _), below_drewN hb5 _⟩, by simp [intOf]; omega⟩
    · obtain rfl : k = len := by omega
      have hT1 : decide ((k : Int) < (k : Int)) = false := decide_eq_false (by omega)
      have hT1' : decide (k < k) = false := decide_eq_false (by omega)
      obtain ⟨r, hr1, hend⟩ := HPl.out.ends (by omega)
      have HS : Hid (∀ X, Below wr.heap.size wr X → X.cell? ⟨w3.heap.size, 4, none⟩ = some (.int .i64 (r : Int)) ∧ X.cell? ⟨w2.heap.size, 0, none⟩ = some (.pointer (some ⟨w1.heap.size, 0, none⟩))) := fun X h => ⟨(hend X h).2.1, (hend X h).1⟩
      have HE1 := Lib.hid (fun X h => (hend X h).2.2.1)
      have HE2 := Lib.hid (fun X h => (hend X h).2.2.2.1)
      have HE3 := Lib.hid (fun X h => (hend X h).2.2.2.2.1)
      have HE4 := Lib.hid (fun X h => (hend X h).2.2.2.2.2 1000 1000 rfl (by decide) (by decide))
      have HE5 := Lib.hid (fun X h => (hend X h).2.2.2.2.2 (1 + z) (1 + (z : Int)) (by omega) (by omega) (by omega))
      obtain ⟨y4, y0⟩ := HS.out wr (Below.refl _ _)
      clear hend
      have hzw := HBw.out.size
      go_wp2
      generalize hs1 : w1.heap.size = s1 at *
      generalize hs2 : w2.heap.size = s2 at *
      generalize hs3 : w3.heap.size = s3 at *
      go_region_held3 (fun w' => w'.cell? ⟨s3, 4, none⟩ = some (.int .i64 (r : Int)) ∧ w'.cell? ⟨s2, 0, none⟩ = some (.pointer (some ⟨s1, 0, none⟩)))
        (exact HS.out _ (by first | exact Below.refl _ _ | exact below_drewN (Below.refl _ _) 1 | assumption | exact below_drewN (by assumption) 1 | exact below_drewN (Below.refl _ _) _ | exact below_drewN (below_drewN (Below.refl _ _) _) _ | exact below_drewN (below_drewN (below_drewN (Below.refl _ _) _) _) _))
        (first
          | (go_at_call 12; (with_reducible refine (HE1.out _ ?_).mono ?_); (exact (by first | exact Below.refl _ _ | exact below_drewN (Below.refl _ _) 1 | assumption | exact below_drewN (by assumption) 1 | exact below_drewN (Below.refl _ _) _ | exact below_drewN (below_drewN (Below.refl _ _) _) _ | exact below_drewN (below_drewN (below_drewN (Below.refl _ _) _) _) _)); rintro e w5 ⟨rfl, rfl⟩)
          | (go_at_call 13; (with_reducible refine (HE2.out _ ?_).mono ?_); (exact (by first | exact Below.refl _ _ | exact below_drewN (Below.refl _ _) 1 | assumption | exact below_drewN (by assumption) 1 | exact below_drewN (Below.refl _ _) _ | exact below_drewN (below_drewN (Below.refl _ _) _) _ | exact below_drewN (below_drewN (below_drewN (Below.refl _ _) _) _) _)); rintro e w5 ⟨rfl, rfl⟩)
          | (go_at_call 15; (with_reducible refine (HE3.out _ ?_).mono ?_); (exact (by first | exact Below.refl _ _ | exact below_drewN (Below.refl _ _) 1 | assumption | exact below_drewN (by assumption) 1 | exact below_drewN (Below.refl _ _) _ | exact below_drewN (below_drewN (Below.refl _ _) _) _ | exact below_drewN (below_drewN (below_drewN (Below.refl _ _) _) _) _)); rintro e w5 ⟨rfl, rfl⟩)
          | (go_at_call 14; (with_reducible refine (HE4.out _ ?_).mono ?_); (exact (by first | exact Below.refl _ _ | exact below_drewN (Below.refl _ _) 1 | assumption | exact below_drewN (by assumption) 1 | exact below_drewN (Below.refl _ _) _ | exact below_drewN (below_drewN (Below.refl _ _) _) _ | exact below_drewN (below_drewN (below_drewN (Below.refl _ _) _) _) _)); rintro e w6 ⟨rfl, hb6⟩; have hB6 := bel_next (w := wr) (by first | exact Below.refl _ _ | exact below_drewN (Below.refl _ _) 1 | assumption | exact below_drewN (by assumption) 1 | exact below_drewN (Below.refl _ _) _ | exact below_drewN (below_drewN (Below.refl _ _) _) _ | exact below_drewN (below_drewN (below_drewN (Below.refl _ _) _) _) _) hb6; clear hb6)
          | (go_at_call 14; (with_reducible refine (HE5.out _ ?_).mono ?_); (exact (by first | exact Below.refl _ _ | exact below_drewN (Below.refl _ _) 1 | assumption | exact below_drewN (by assumption) 1 | exact below_drewN (Below.refl _ _) _ | exact below_drewN (below_drewN (Below.refl _ _) _) _ | exact below_drewN (below_drewN (below_drewN (Below.refl _ _) _) _) _)); rintro e w7 ⟨rfl, hb7⟩; have hB7 := bel_next (w := wr) (by first | exact Below.refl _ _ | exact below_drewN (Below.refl _ _) 1 | assumption | exact below_drewN (by assumption) 1 | exact below_drewN (Below.refl _ _) _ | exact below_drewN (below_drewN (Below.refl _ _) _) _ | exact below_drewN (below_drewN (below_drewN (Below.refl _ _) _) _) _) hb7; clear hb7))
      all_goals
        go_wp2
        go_ret
        exact ⟨rfl, bel_next HBw.out (by first | exact hB7 | exact below_drewN hB7 _)⟩
end Go.Proofs.Ytpgmgldhpagieaa
