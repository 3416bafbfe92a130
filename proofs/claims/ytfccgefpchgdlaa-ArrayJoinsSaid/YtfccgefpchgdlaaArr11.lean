
/- The law ArrayMakes; the text walked. -/
import Derived.Test.YtfccgefpchgdlaaArr10
namespace Go.Proofs.Ytfccgefpchgdlaa
open Go.RowKit
theorem below_drewN {B : Nat} {w w' : World} (h : Below B w w') (n : Nat) : Below B w (w'.drewN n) := ⟨h.os, h.tape, h.output, h.size, h.block⟩
/-- The first k of a list rise. -/
def Up (ys : List Int) (k : Nat) : Prop := ∀ j (hj : j + 1 < ys.length), j + 1 < k → ys[j] < ys[j + 1]
theorem up_all {ys : List Int} {k : Nat} (hk : ys.length ≤ k) : Up ys k ↔ ys.Pairwise (· < ·) :=
  ⟨fun h => adj_lt fun j hj => h j hj (by omega), fun h j hj _ => List.pairwise_iff_getElem.1 h j (j + 1) (by omega) hj (by omega)⟩
theorem up_next {ys : List Int} {k : Nat} (hk : k < ys.length) (h1 : 1 ≤ k) : Up ys (k + 1) ↔ Up ys k ∧ ys[k - 1] < ys[k] := by
  obtain ⟨m, rfl⟩ : ∃ m, k = m + 1 := ⟨k - 1, by omega⟩
  constructor
  · exact fun h => ⟨fun j hj hlt => h j hj (by omega), h m hk (by omega)⟩
  · rintro ⟨h, h2⟩ j hj hlt
    rcases Nat.lt_or_eq_of_le (show j ≤ m by omega) with e | e
    · exact h j hj (by omega)
    · subst e; exact h2
set_option maxHeartbeats 16000000 in
set_option maxRecDepth 100000 in
theorem law_makes (A : Option Addr) (cp : Nat) (xs : List Int) (w : World) (hr : Rh w w.heap.size A xs) (hl : xs.length ≤ 9223372036854775807) (hx : ∀ y ∈ xs, 0 ≤ y ∧ y ≤ 65535) :
    Calls Try.prog 3 #[.slice A xs.length cp] w fun e w' => e = .returned (.bool true) ∧ Below w.heap.size w w' := by
  have hrH := Lib.hid hr
  have hxH : Hid (∀ y ∈ xs.take 300, 0 ≤ y ∧ y ≤ 65535) := fun y hy => hx y (List.mem_of_mem_take hy)
  have hfew : ∀ W, Rh W W.heap.size A xs → Hid (Calls Try.prog 9 #[.slice A xs.length cp, .int .i64 300] W fun e w' => ∃ A' c', e = .returned (.slice A' (xs.take 300).length c') ∧ Rh w' w'.heap.size A' (xs.take 300) ∧ Young W.heap.size A' ∧ Below W.heap.size W w') := fun W h => f_few A cp xs 300 W h hl (by decide)
  clear hr hx
  obtain ⟨ys, hys⟩ : ∃ ys, xs.take 300 = ys := ⟨_, rfl⟩
  have hl3 : ys.length ≤ 300 := by rw [← hys, List.length_take]; omega
  have hfew2 : ∀ W A c, Rh W W.heap.size A ys → Hid (Calls Try.prog 9 #[.slice A ys.length c, .int .i64 300] W fun e w' => ∃ A' c', e = .returned (.slice A' ys.length c') ∧ Rh w' w'.heap.size A' ys ∧ Young W.heap.size A' ∧ Below W.heap.size W w') := fun W A c h => by
    have h1 := f_few A c ys 300 W h (by omega) (by decide)
    rw [List.take_of_length_le hl3] at h1
    exact h1
  rw [hys] at hfew hxH
  clear hys
  obtain ⟨n, hn⟩ : ∃ n, n = ys.length := ⟨_, rfl⟩
  rw [← hn] at hfew hfew2 hl3
  have HN := Lib.hid hn
  have HF := Lib.hid hfew
  have HF2 := Lib.hid hfew2
  clear hn hfew hfew2
  go_enter Try.func3, Try.ntmps3
  go_wp2_with (go_at_call 8; (with_reducible refine (awake_any w).mono ?_); rintro e w1 ⟨rfl, hb1⟩)
  have HB1 := Lib.hid hb1
  have R1 : Hid (Rh w1 w1.heap.size A xs) := Lib.hid ((hrH.out.below hb1 (Nat.le_refl _)).more hb1.size)
  clear hb1
  go_wp2_with (go_at_call 9; (with_reducible refine (HF.out w1 R1.out).out.mono ?_); rintro e w2 ⟨A2, c2, rfl, hr2, -, hb2⟩; replace hr2 := Lib.hid hr2; replace hb2 := Lib.hid hb2)
  have HB2 := Lib.hid (HB1.out.trans (hb2.out.mono HB1.out.size))
  clear HF R1 hb2
  go_wp2_with (go_at_call 9; (with_reducible refine (HF2.out w2 A2 c2 hr2.out).out.mono ?_); rintro e w3 ⟨A3, c3, rfl, hr3, -, hb3⟩; replace hr3 := Lib.hid hr3; replace hb3 := Lib.hid hb3)
  have HB3 := Lib.hid (HB2.out.trans (hb3.out.mono HB2.out.size))
  have R23 : Hid (Rh w3 w3.heap.size A2 ys) := Lib.hid ((hr2.out.below hb3.out (Nat.le_refl _)).more hb3.out.size)
  clear hb3 HB2 HF2
  go_wp2_with (go_at_call 10; (with_reducible refine (of_any w3 w3.heap.size n c3 A3 ys HN.out hr3.out (Nat.le_refl _) (by omega)).mono ?_); rintro e w4 ⟨v4, zs, rfl, z1, z2, z3, hb4, z4⟩; replace z4 := Lib.hid z4; replace z1 := Lib.hid z1; replace z2 := Lib.hid z2; replace z3 := Lib.hid z3; replace hb4 := Lib.hid hb4)
  have HB4 := Lib.hid (HB3.out.trans (hb4.out.mono HB3.out.size))
  have R24 : Hid (Rh w4 w4.heap.size A2 ys) := Lib.hid ((R23.out.below hb4.out (Nat.le_refl _)).more hb4.out.size)
  have R34 : Hid (Rh w4 w4.heap.size A3 ys) := Lib.hid ((hr3.out.below hb4.out (Nat.le_refl _)).more hb4.out.size)
  obtain ⟨A4, c4, hv4, hr4, _⟩ := own_reads z3.out
  subst hv4
  have R44 := Lib.hid hr4
  clear hb4 HB3 R23 hr3 hr2 hr4
  have C5 : Hid (Calls Try.prog 12 #[.slice A2 n c2] w4 fun e w' => ∃ g n bs, e = .returned (.slice (some ⟨g, 0, none⟩) n n) ∧ Bs w' g n bs ∧ OfL (M.L bs) ys ∧ w4.heap.size ≤ g ∧ Below w4.heap.size w4 w') := Lib.hid (by rw [HN.out]; exact f_of A2 c2 ys w4 R24.out (by have := HN.out; omega) hxH.out)
  go_wp2_with (go_at_call 12; (with_reducible refine C5.out.mono ?_); rintro e w5 ⟨g, m, bs, rfl, b1, b2, -, hb5⟩; replace b1 := Lib.hid b1; replace b2 := Lib.hid b2; replace hb5 := Lib.hid hb5)
  have HB5 := Lib.hid (HB4.out.trans (hb5.out.mono HB4.out.size))
  have R25 : Hid (Rh w5 w5.heap.size A2 ys) := Lib.hid ((R24.out.below hb5.out (Nat.le_refl _)).more hb5.out.size)
  have R35 : Hid (Rh w5 w5.heap.size A3 ys) := Lib.hid ((R34.out.below hb5.out (Nat.le_refl _)).more hb5.out.size)
  have R45 : Hid (Rh w5 w5.heap.size A4 zs) := Lib.hid ((R44.out.below hb5.out (Nat.le_refl _)).more hb5.out.size)
  have EQ : Hid (M.L bs = zs) := Lib.hid (M.sorted_ext b2.out.1 z1.out fun x => by rw [b2.out.2 x, z2.out x])
  clear hb5 HB4 R24 R34 R44 C5
  have C6 : Hid (Calls Try.prog 11 #[.slice (some ⟨g, 0, none⟩) m m] w5 fun e w' => ∃ A c, e = .returned (.slice A zs.length c) ∧ Rh w' w'.heap.size A zs ∧ Young w5.heap.size A ∧ Below w5.heap.size w5 w') := Lib.hid (by rw [← EQ.out]; exact f_list w5 g m bs b1.out)
  go_wp2_with (go_at_call 11; (with_reducible refine C6.out.mono ?_); rintro e w6 ⟨A6, c6, rfl, hr6, -, hb6⟩; replace hr6 := Lib.hid hr6; replace hb6 := Lib.hid hb6)
  have HB6 := Lib.hid (HB5.out.trans (hb6.out.mono HB5.out.size))
  have R26 : Hid (Rh w6 w6.heap.size A2 ys) := Lib.hid ((R25.out.below hb6.out (Nat.le_refl _)).more hb6.out.size)
  have R36 : Hid (Rh w6 w6.heap.size A3 ys) := Lib.hid ((R35.out.below hb6.out (Nat.le_refl _)).more hb6.out.size)
  have R46 : Hid (Rh w6 w6.heap.size A4 zs) := Lib.hid ((R45.out.below hb6.out (Nat.le_refl _)).more hb6.out.size)
  clear hb6 HB5 R25 R35 R45 C6 EQ b1 b2
  go_loopw [6, 7] (fun vt vi wr => ∃ (k : Nat) (t : Bool), vt = .bool t ∧ vi = .int .i64 k ∧ 1 ≤ k ∧ Hid (t = true ↔ Up ys k) ∧ Hid (∃ q, wr = w6.drewN q)) (fun _ vi _ => n - (intOf vi).toNat)
  case atStart => exact ⟨1, true, rfl, rfl, Nat.le_refl _, Lib.hid ⟨fun _ j hj h => by omega, fun _ => rfl⟩, Lib.hid ⟨0, rfl⟩⟩
  case round =>
    obtain ⟨k, t, rfl, rfl, hk1, hU, hQ⟩ := hrel
    obtain ⟨q0, hq0⟩ := hQ.out
    by_cases hlt : k < n
    · have hkx : k < ys.length := by rw [← HN.out]; exact hlt
      have hkx1 : k - 1 < ys.length := by omega
      obtain ⟨b, off, hA, _, hc1⟩ := R26.out.at hkx1
      obtain ⟨b', off', hA', _, hc2⟩ := R26.out.at hkx
      rw [hA] at hA'
      cases hA'
      subst hA
      obtain ⟨x, hx⟩ : ∃ x, x = ys[k - 1] := ⟨_, rfl⟩
      obtain ⟨y, hy⟩ : ∃ y, y = ys[k] := ⟨_, rfl⟩
      have hc1' : wr.cell? ⟨b, off + (k - 1), none⟩ = some (.int .u16 x) := by rw [hq0, hx]; exact hc1
      have hc2' : wr.cell? ⟨b, off + k, none⟩ = some (.int .u16 y) := by rw [hq0, hy]; exact hc2
      have HX := Lib.hid hx
      have HY := Lib.hid hy
      have HQ0 := Lib.hid hq0
      have l1 : k - 1 < n := by omega
      have t2 : ((k : Int) - 1).toNat = k - 1 := by omega
      have y2 : (0 : Int) ≤ (k : Int) - 1 := by omega
      clear hx hy hq0 hc1 hc2
      have v1 : IntKind.i64.wrap ((k : Int) - 1) = (k : Int) - 1 := IntWalk.i64_in _ (by omega)
      cases t
      · go_wp2
        go_quiet (fail)
        go_wp2
        go_roundw
        case rel => exact ⟨k + 1, false, rfl, by go_num, by omega, Lib.hid ⟨fun h => (by simp at h), fun h => (by have := hU.out.2 ((up_next hkx hk1).1 h).1; simp at this)⟩, Lib.hid ⟨q0 + nq, by rw [HQ0.out]; simp⟩⟩
        case measure => simp [intOf]; omega
      · go_wp2
        go_quiet (fail)
        go_wp2
        go_roundw
        case rel => exact ⟨k + 1, decide (x < y), rfl, by go_num, by omega, Lib.hid (by rw [up_next hkx hk1, decide_eq_true_eq, ← HX.out, ← HY.out]; exact ⟨fun h => ⟨hU.out.1 (by simp), h⟩, fun h => h.2⟩), Lib.hid ⟨q0 + nq, by rw [HQ0.out]; simp⟩⟩
        case measure => simp [intOf]; omega
    · have HQ0 := Lib.hid hq0
      have ht : Hid (t = decide (ys.Pairwise (· < ·))) := Lib.hid (by
        have := hU.out.trans (up_all (by rw [← HN.out]; omega))
        cases t
        · exact (decide_eq_false (fun h => by have := this.2 h; cases this)).symm
        · exact (decide_eq_true (this.1 rfl)).symm)
      clear hq0
      have hzl : zs.length ≤ 300 := Nat.le_trans z4.out hl3
      have hyl : ys.length ≤ 300 := by rw [← HN.out]; exact hl3
      have S1 : Hid (∀ q, Calls Try.prog 13 #[.slice A4 zs.length c4, .slice A6 zs.length c6] (w6.drewN q) fun e w' => e = .returned (.bool true) ∧ ∃ q', w' = w6.drewN q') := Lib.hid (fun q => by
        have h3 := f_same A4 A6 c4 c6 zs zs (w6.drewN q) _ _ (R46.out.drew q) (hr6.out.drew q) (by omega) (by omega)
        rw [decide_eq_true rfl] at h3
        exact h3.mono fun e w' h => ⟨h.1, by obtain ⟨r, rfl⟩ := h.2; exact ⟨q + r, by simp⟩⟩)
      have S2 : Hid (∀ q, Calls Try.prog 14 #[.slice A4 zs.length c4] (w6.drewN q) fun e w' => e = .returned (.bool true) ∧ ∃ q', w' = w6.drewN q') := Lib.hid (fun q => by
        have h3 := a_is (w6.drewN q) _ zs.length c4 A4 zs rfl (R46.out.drew q) (by omega)
        rw [decide_eq_true z1.out] at h3
        exact h3.mono fun e w' h => ⟨h.1, by obtain ⟨r, rfl⟩ := h.2; exact ⟨q + r, by simp⟩⟩)
      have S3 : Hid (∀ q, Calls Try.prog 14 #[.slice A2 n c2] (w6.drewN q) fun e w' => e = .returned (.bool t) ∧ ∃ q', w' = w6.drewN q') := Lib.hid (fun q => by
        have h3 := a_is (w6.drewN q) _ n c2 A2 ys HN.out (R26.out.drew q) (by omega)
        rw [← ht.out] at h3
        exact h3.mono fun e w' h => ⟨h.1, by obtain ⟨r, rfl⟩ := h.2; exact ⟨q + r, by simp⟩⟩)
      have S4 : Hid (∀ q, Calls Try.prog 13 #[.slice A3 n c3, .slice A2 n c2] (w6.drewN q) fun e w' => e = .returned (.bool true) ∧ ∃ q', w' = w6.drewN q') := Lib.hid (fun q => by
        have h3 := f_same A3 A2 c3 c2 ys ys (w6.drewN q) _ _ (R36.out.drew q) (R26.out.drew q) (by omega) (by omega)
        rw [decide_eq_true rfl, ← HN.out] at h3
        exact h3.mono fun e w' h => ⟨h.1, by obtain ⟨r, rfl⟩ := h.2; exact ⟨q + r, by simp⟩⟩)
      have hwr := HQ0.out
      subst hwr
      go_wp2_with (first
        | (go_at_call 13; (with_reducible refine (S1.out _).mono ?_); rintro e w7 ⟨rfl, q7, rfl⟩)
        | (go_at_call 13; (with_reducible refine (S4.out _).mono ?_); rintro e w7 ⟨rfl, q7, rfl⟩)
        | (go_at_call 14; (with_reducible refine (S2.out _).mono ?_); rintro e w7 ⟨rfl, q7, rfl⟩)
        | (go_at_call 14; (with_reducible refine (S3.out _).mono ?_); rintro e w7 ⟨rfl, q7, rfl⟩))
      go_ret
      exact ⟨by simp, below_drewN HB6.out _⟩
end Go.Proofs.Ytfccgefpchgdlaa
