
/- Next, the text walked. -/
import Derived.Test.YtbbnamdlfnonoaaDoorSMath2
import Derived.Test.YtbbnamdlfnonoaaDoorObj5
import Derived.LoopTactic
namespace Go.Proofs.YtbbnamdlfnonoaaDoor
open Go.RowKit
set_option maxHeartbeats 1000000 in
theorem s_next (w : World) (s h : Nat) (ws : List Nat) (a : St w s h ws) (hT : Tab w) (i : Int) (hi : i ≤ 9223372036854775807) :
    Calls Tryd.prog 49 #[.pointer (some ⟨s, 0, none⟩), .int .i64 i] w fun e w' => e = .returned (.int .i64 (M.rNext (sl ws) i)) ∧ ∃ n, w' = w.drewN n := by
  have hb := fun N => Lib.hid (s_bits (w.drewN N) s h ws (a.drew N))
  have hc := a.head
  have hle := a.2.2.2
  have ha := Lib.hid a
  have hTH := Lib.hid hT
  have hI : Hid (∀ r, ((r = -1 ∧ ∀ z ∈ sl ws, z < max i 0) ∨ (r ∈ sl ws ∧ max i 0 ≤ r ∧ ∀ z ∈ sl ws, max i 0 ≤ z → r ≤ z)) → M.rNext (sl ws) i = r) := by
    intro r hr
    have h0 : ∀ z ∈ sl ws, 0 ≤ z := fun z hz => (sl_in.1 hz).1
    rcases next_cases (sl_up ws) i with ⟨h1, h2⟩ | ⟨h1, h2, h3⟩
    · rcases hr with ⟨r1, _⟩ | ⟨r1, r2, _⟩
      · rw [h1, r1]
      · have := h2 _ r1; have := h0 _ r1; omega
    · have hz := h0 _ h1
      rcases hr with ⟨_, r2⟩ | ⟨r1, r2, r3⟩
      · have := r2 _ h1; omega
      · have := r3 _ h1 (by omega)
        have := h3 _ r1 (by omega)
        omega
  clear a hT
  have q1 : 0 ≤ max i 0 / 64 := by omega
  have q3 : IntKind.i64.wrap ((max i 0).tdiv 64) = max i 0 / 64 := IntWalk.i64_quo _ _ (by omega)
  have q4 : IntKind.i64.wrap (max i 0 / 64) = max i 0 / 64 := IntWalk.i64_in _ (by omega)
  have q7 : max i 0 / 64 * 64 ≤ max i 0 := by omega
  have q8 : max i 0 ≤ 9223372036854775807 := by omega
  have q9 : 0 ≤ max i 0 := by omega
  generalize max i 0 / 64 = q at *
  obtain ⟨q, rfl⟩ : ∃ k : Nat, q = (k : Int) := ⟨q.toNat, by omega⟩
  have hBd : ((64 * ws.length : Nat) : Int) = 64 * (ws.length : Int) := by omega
  generalize ((64 * ws.length : Nat) : Int) = B at *
  go_enter Tryd.func49, Tryd.ntmps49
  go_wp2
  generalize max i 0 = m at *
  go_loopw [5] (fun a wr => ∃ k N : Nat, (k ≤ ws.length ∨ k = q) ∧ a = .int .i64 k ∧ wr = w.drewN N ∧ Hid (∀ y ∈ sl ws, m ≤ y → 64 * (k : Int) ≤ y)) (fun a _ => ws.length - (intOf a).toNat)
  case atStart => exact ⟨q, 0, by omega, rfl, rfl, fun y _ hy => by omega⟩
  case round =>
    obtain ⟨k, N, hk, rfl, rfl, hH⟩ := hrel
    have wk2 : IntKind.i64.wrap ((k : Int) * 64) = (k : Int) * 64 := IntWalk.i64_in _ (by omega)
    by_cases hlt : (k : Int) * 64 < B
    · have hkn : k < ws.length := by omega
      have hw := ha.out.cell k hkn
      have hx := ha.out.word k hkn
      have hbr := fun N => Lib.hid (bit_next (ws[k]) hx (m - (k : Int) * 64) (w.drewN N) hTH.out)
      have hcs := next_cases (bz_up ws[k]) (m - (k : Int) * 64)
      have hT : decide ((k : Int) * 64 < B) = true := decide_eq_true hlt
      have wk : IntKind.i64.wrap (k : Int) = (k : Int) := IntWalk.i64_in _ (by omega)
      have wk3 : IntKind.i64.wrap (m - (k : Int) * 64) = m - (k : Int) * 64 := IntWalk.i64_in _ (by omega)
      by_cases hneg : 0 ≤ M.rNext (M.bz ws[k]) (m - (k : Int) * 64)
      · have hfin : Hid (M.rNext (sl ws) i = (k : Int) * 64 + M.rNext (M.bz ws[k]) (m - (k : Int) * 64)) := by
          apply hI.out
          right
          rcases hcs with ⟨h1, _⟩ | ⟨h1, h2, h3⟩
          · omega
          · have h4 := (sl_word hkn).1 h1
            refine ⟨by rw [show (k : Int) * 64 + M.rNext (M.bz ws[k]) (m - (k : Int) * 64) = M.rNext (M.bz ws[k]) (m - (k : Int) * 64) + 64 * (k : Int) by omega]; exact h4.2.2, by omega, ?_⟩
            intro z hz hmz
            have h5 := hH.out z hz hmz
            by_cases h6 : z < 64 * (k : Int) + 64
            · have := h3 (z - 64 * (k : Int)) ((sl_word hkn).2 ⟨by omega, by omega, by rw [show z - 64 * (k : Int) + 64 * (k : Int) = z by omega]; exact hz⟩) (by omega)
              omega
            · omega
        have hlt64 : M.rNext (M.bz ws[k]) (m - (k : Int) * 64) < 64 := by
          rcases hcs with ⟨h1, _⟩ | ⟨h1, _, _⟩
          · omega
          · exact (M.mem_bz.1 h1).2.1
        clear hcs hH
        generalize M.rNext (M.bz ws[k]) (m - (k : Int) * 64) = z at *
        generalize ws[k] = x at *
        have hz : decide (0 ≤ z) = true := decide_eq_true hneg
        have wz : IntKind.i64.wrap ((k : Int) * 64 + z) = (k : Int) * 64 + z := IntWalk.i64_in _ (by omega)
        go_wp2_with (first
          | (go_at_call 67; (with_reducible refine (hb _).out.mono ?_); rintro e w' ⟨rfl, rfl⟩)
          | (go_at_call 71; (with_reducible refine (hbr _).out.mono ?_); rintro e w' ⟨rfl, N2, rfl⟩))
        refine bodyPost_ret (results_tmp (t := 4) rfl _ _ _) rfl ?_
        exact ⟨ret_int hfin.out.symm, _, rfl⟩
      · have hnew : Hid (∀ y ∈ sl ws, m ≤ y → 64 * ((k + 1 : Nat) : Int) ≤ y) := by
          intro y hy hmy
          have h5 := hH.out y hy hmy
          by_cases h6 : y < 64 * (k : Int) + 64
          · exfalso
            have hm := (sl_word (b := y - 64 * (k : Int)) hkn).2 ⟨by omega, by omega, by rw [show y - 64 * (k : Int) + 64 * (k : Int) = y by omega]; exact hy⟩
            rcases hcs with ⟨_, h2⟩ | ⟨h1, _, _⟩
            · have := h2 _ hm; omega
            · exact hneg (M.mem_bz.1 h1).1
          · omega
        clear hcs hH
        generalize M.rNext (M.bz ws[k]) (m - (k : Int) * 64) = z at *
        generalize ws[k] = x at *
        have hz : decide (0 ≤ z) = false := decide_eq_false hneg
        go_wp2_with (first
          | (go_at_call 67; (with_reducible refine (hb _).out.mono ?_); rintro e w' ⟨rfl, rfl⟩)
          | (go_at_call 71; (with_reducible refine (hbr _).out.mono ?_); rintro e w' ⟨rfl, N2, rfl⟩))
        refine ⟨⟨k + 1, N + N2, by omega, by go_num, rfl, hnew⟩, by simp [intOf]; omega⟩
    · have hT : decide ((k : Int) * 64 < B) = false := decide_eq_false hlt
      have hfin : Hid (M.rNext (sl ws) i = -1) := by
        apply hI.out
        left
        refine ⟨rfl, fun z hz => ?_⟩
        have h1 := (sl_in.1 hz).2.1
        have h2 := hH.out z hz
        omega
      go_wp2_with (go_at_call 67; (with_reducible refine (hb _).out.mono ?_); rintro e w' ⟨rfl, rfl⟩)
      refine bodyPost_ret (results_tmp (t := 4) rfl _ _ _) rfl ?_
      exact ⟨ret_int hfin.out.symm, _, rfl⟩
end Go.Proofs.YtbbnamdlfnonoaaDoor
