
/- Prev, the text walked. -/
import Derived.Test.YtbbnamdlfnonoaaDoorObj6
namespace Go.Proofs.YtbbnamdlfnonoaaDoor
open Go.RowKit
set_option maxHeartbeats 1000000 in
theorem s_prev (w : World) (s h : Nat) (ws : List Nat) (a : St w s h ws) (i : Int) (hi0 : -9223372036854775808 ≤ i) :
    Calls Tryd.prog 50 #[.pointer (some ⟨s, 0, none⟩), .int .i64 i] w fun e w' => e = .returned (.int .i64 (M.rPrev (sl ws) i)) ∧ ∃ n, w' = w.drewN n := by
  have hb := Lib.hid (s_bits w s h ws a)
  have hc := a.head
  have hle := a.2.2.2
  have ha := Lib.hid a
  have hI : Hid (∀ r, ((r = -1 ∧ ∀ z ∈ sl ws, min i (((64 * ws.length : Nat) : Int) - 1) < z) ∨ (r ∈ sl ws ∧ r ≤ min i (((64 * ws.length : Nat) : Int) - 1) ∧ ∀ z ∈ sl ws, z ≤ min i (((64 * ws.length : Nat) : Int) - 1) → z ≤ r)) → M.rPrev (sl ws) i = r) := by
    intro r hr
    have h0 : ∀ z ∈ sl ws, z < ((64 * ws.length : Nat) : Int) := fun z hz => (sl_in.1 hz).2.1
    rcases prev_cases (sl_up ws) i with ⟨h1, h2⟩ | ⟨h1, h2, h3⟩
    · rcases hr with ⟨r1, _⟩ | ⟨r1, r2, _⟩
      · rw [h1, r1]
      · have := h2 _ r1; have := h0 _ r1; omega
    · have hz := h0 _ h1
      rcases hr with ⟨_, r2⟩ | ⟨r1, r2, r3⟩
      · have := r2 _ h1; omega
      · have := r3 _ h1 (by omega)
        have := h3 _ r1 (by omega)
        omega
  clear a
  have hB1 : ((64 * ws.length : Nat) : Int) ≤ 64 * (ws.length : Int) := by omega
  have hB2 : 64 * (ws.length : Int) ≤ ((64 * ws.length : Nat) : Int) := by omega
  generalize ((64 * ws.length : Nat) : Int) = B at *
  have wB : IntKind.i64.wrap (B - 1) = B - 1 := IntWalk.i64_in _ (by omega)
  have m1 : min i (B - 1) ≤ B - 1 := by omega
  have m2 : -9223372036854775808 ≤ min i (B - 1) := by omega
  by_cases hm : min i (B - 1) < 0
  · have hT : decide (min i (B - 1) < 0) = true := decide_eq_true hm
    have hfin : Hid (M.rPrev (sl ws) i = -1) := by
      apply hI.out
      left
      refine ⟨rfl, fun z hz => ?_⟩
      have := (sl_in.1 hz).1
      omega
    clear hI
    go_enter Tryd.func50, Tryd.ntmps50
    go_wp2_with (go_at_call 67; (with_reducible refine hb.out.mono ?_); rintro e w' ⟨rfl, rfl⟩)
    all_goals first
      | (exfalso; omega)
      | (refine bodyPost_ret (results_tmp (t := 4) rfl _ _ _) rfl ?_
         exact ⟨ret_int hfin.out.symm, 0, rfl⟩)
  · have hT : decide (min i (B - 1) < 0) = false := decide_eq_false hm
    have q1 : 0 ≤ min i (B - 1) / 64 := by omega
    have q3 : IntKind.i64.wrap ((min i (B - 1)).tdiv 64) = min i (B - 1) / 64 := IntWalk.i64_quo _ _ (by omega)
    have q4 : IntKind.i64.wrap (min i (B - 1) / 64) = min i (B - 1) / 64 := IntWalk.i64_in _ (by omega)
    have q7 : min i (B - 1) < min i (B - 1) / 64 * 64 + 64 := by omega
    have q8 : min i (B - 1) / 64 < ws.length := by omega
    generalize min i (B - 1) / 64 = q at *
    go_enter Tryd.func50, Tryd.ntmps50
    go_wp2_with (go_at_call 67; (with_reducible refine hb.out.mono ?_); rintro e w' ⟨rfl, rfl⟩)
    generalize min i (B - 1) = m at *
    go_loopw [5] (fun a wr => ∃ (k : Int) (N : Nat), -1 ≤ k ∧ k ≤ q ∧ a = .int .i64 k ∧ wr = w.drewN N ∧ Hid (∀ y ∈ sl ws, y ≤ m → y < 64 * (k + 1))) (fun a _ => (intOf a + 1).toNat)
    case atStart => exact ⟨q, 0, by omega, by omega, rfl, rfl, fun y _ hy => by omega⟩
    case round =>
      obtain ⟨k, N, hk0, hk, rfl, rfl, hH⟩ := hrel
      by_cases hlt : 0 ≤ k
      · have hT : decide (0 ≤ k) = true := decide_eq_true hlt
        obtain ⟨k, rfl⟩ : ∃ j : Nat, k = (j : Int) := ⟨k.toNat, by omega⟩
        have hkn : k < ws.length := by omega
        have hw := ha.out.cell k hkn
        have hx := ha.out.word k hkn
        have hbr := fun N => Lib.hid (bit_prev (ws[k]) hx (m - (k : Int) * 64) (by omega) (w.drewN N))
        have hcs := prev_cases (bz_up ws[k]) (m - (k : Int) * 64)
        have wk2 : IntKind.i64.wrap ((k : Int) * 64) = (k : Int) * 64 := IntWalk.i64_in _ (by omega)
        have wk : IntKind.i64.wrap (k : Int) = (k : Int) := IntWalk.i64_in _ (by omega)
        have wk3 : IntKind.i64.wrap (m - (k : Int) * 64) = m - (k : Int) * 64 := IntWalk.i64_in _ (by omega)
        by_cases hneg : 0 ≤ M.rPrev (M.bz ws[k]) (m - (k : Int) * 64)
        · have hfin : Hid (M.rPrev (sl ws) i = (k : Int) * 64 + M.rPrev (M.bz ws[k]) (m - (k : Int) * 64)) := by
            apply hI.out
            right
            rcases hcs with ⟨h1, _⟩ | ⟨h1, h2, h3⟩
            · omega
            · have h4 := (sl_word hkn).1 h1
              refine ⟨by rw [show (k : Int) * 64 + M.rPrev (M.bz ws[k]) (m - (k : Int) * 64) = M.rPrev (M.bz ws[k]) (m - (k : Int) * 64) + 64 * (k : Int) by omega]; exact h4.2.2, by omega, ?_⟩
              intro z hz hmz
              have h5 := hH.out z hz hmz
              by_cases h6 : 64 * (k : Int) ≤ z
              · have := h3 (z - 64 * (k : Int)) ((sl_word hkn).2 ⟨by omega, by omega, by rw [show z - 64 * (k : Int) + 64 * (k : Int) = z by omega]; exact hz⟩) (by omega)
                omega
              · omega
          have hlt64 : M.rPrev (M.bz ws[k]) (m - (k : Int) * 64) < 64 := by
            rcases hcs with ⟨h1, _⟩ | ⟨h1, _, _⟩
            · omega
            · exact (M.mem_bz.1 h1).2.1
          clear hcs hH hI
          generalize M.rPrev (M.bz ws[k]) (m - (k : Int) * 64) = z at *
          generalize ws[k] = x at *
          have hz : decide (0 ≤ z) = true := decide_eq_true hneg
          have wz : IntKind.i64.wrap ((k : Int) * 64 + z) = (k : Int) * 64 + z := IntWalk.i64_in _ (by omega)
          go_wp2_with (go_at_call 72; (with_reducible refine (hbr _).out.mono ?_); rintro e w' ⟨rfl, N2, rfl⟩)
          refine bodyPost_ret (results_tmp (t := 4) rfl _ _ _) rfl ?_
          exact ⟨ret_int hfin.out.symm, _, rfl⟩
        · have hnew : Hid (∀ y ∈ sl ws, y ≤ m → y < 64 * ((k : Int) - 1 + 1)) := by
            intro y hy hmy
            have h5 := hH.out y hy hmy
            by_cases h6 : 64 * (k : Int) ≤ y
            · exfalso
              have hm := (sl_word (b := y - 64 * (k : Int)) hkn).2 ⟨by omega, by omega, by rw [show y - 64 * (k : Int) + 64 * (k : Int) = y by omega]; exact hy⟩
              rcases hcs with ⟨_, h2⟩ | ⟨h1, _, _⟩
              · have := h2 _ hm; omega
              · exact hneg (M.mem_bz.1 h1).1
            · omega
          clear hcs hH hI
          generalize M.rPrev (M.bz ws[k]) (m - (k : Int) * 64) = z at *
          generalize ws[k] = x at *
          have hz : decide (0 ≤ z) = false := decide_eq_false hneg
          go_wp2_with (go_at_call 72; (with_reducible refine (hbr _).out.mono ?_); rintro e w' ⟨rfl, N2, rfl⟩)
          refine ⟨⟨(k : Int) - 1, N + N2, by omega, by omega, by go_num, rfl, hnew⟩, by simp [intOf]⟩
      · have hT : decide (0 ≤ k) = false := decide_eq_false hlt
        have hfin : Hid (M.rPrev (sl ws) i = -1) := by
          apply hI.out
          left
          refine ⟨rfl, fun z hz => ?_⟩
          have h1 := (sl_in.1 hz).1
          have h2 := hH.out z hz
          omega
        clear hI
        go_wp2
        refine bodyPost_ret (results_tmp (t := 4) rfl _ _ _) rfl ?_
        exact ⟨ret_int hfin.out.symm, _, rfl⟩
end Go.Proofs.YtbbnamdlfnonoaaDoor
