
/- Rank, the text walked. -/
import Derived.Test.YtbbnamdlfnonoaaDoorSMath
import Derived.LoopTactic
namespace Go.Proofs.YtbbnamdlfnonoaaDoor
open Go.RowKit
set_option maxHeartbeats 1000000 in
theorem s_rank (w : World) (s h : Nat) (ws : List Nat) (a : St w s h ws) (i : Int) :
    Calls Tryd.prog 51 #[.pointer (some ⟨s, 0, none⟩), .int .i64 i] w fun e w' => e = .returned (.int .i64 (M.rRank (sl ws) i : Nat)) ∧ ∃ n, w' = w.drewN n := by
  have hb := Lib.hid (s_bits w s h ws a)
  have hc := a.head
  have hle := a.2.2.2
  have ha := Lib.hid a
  have hmin : Hid (M.rRank (sl ws) (min i ((64 * ws.length : Nat) : Int)) = M.rRank (sl ws) i) := by
    show _ = _
    unfold M.rRank
    congr 1
    apply List.filter_congr
    intro y hy
    have := (sl_in.1 hy).2.1
    rw [decide_eq_decide]
    omega
  clear a
  have hBd : ((64 * ws.length : Nat) : Int) ≤ 64 * (ws.length : Int) := by omega
  generalize ((64 * ws.length : Nat) : Int) = B at *
  have hm1 : min i B ≤ 64 * (ws.length : Int) := by omega
  go_enter Tryd.func51, Tryd.ntmps51
  go_wp2_with (go_at_call 67; refine hb.out.mono ?_; rintro e w' ⟨rfl, rfl⟩)
  have hm2 : min i B = i ∨ min i B = B := by omega
  generalize min i B = m at *
  go_loopw [5, 6] (fun v a wr => ∃ k r N : Nat, k ≤ ws.length ∧ r ≤ 64 * k ∧ a = .int .i64 k ∧ v = .int .i64 r ∧ wr = w.drewN N ∧ Hid (M.rRank (sl (ws.take k)) m = r)) (fun _ a _ => ws.length - (intOf a).toNat)
  case atStart => exact ⟨0, 0, 0, by omega, by omega, rfl, rfl, rfl, by simp [Hid, sl, M.rRank]⟩
  case round =>
    obtain ⟨k, r, N, hk, hr, rfl, rfl, rfl, hH⟩ := hrel
    by_cases hlt : (k : Int) * 64 < m
    · have hkn : k < ws.length := by omega
      have hw := ha.out.cell k hkn
      have hx := ha.out.word k hkn
      have ht := List.take_succ_eq_append_getElem hkn
      have hl : (ws.take k).length = k := by rw [List.length_take]; omega
      have hrk := rank_le (ws.take (k + 1)) m
      have hres : Hid (M.rRank (sl (ws.take (k + 1))) m = r + M.rRank (M.bz ws[k]) (m - (k : Int) * 64)) := by
        show _ = _
        rw [ht, rank_snoc, hH.out, hl]
        congr 2
        omega
      rw [hres.out] at hrk
      have hl2 : (ws.take (k + 1)).length = k + 1 := by rw [List.length_take]; omega
      rw [hl2] at hrk
      generalize ws[k] = x at *
      have hbr := fun w0 => Lib.hid (bit_rank x hx (m - (k : Int) * 64) w0)
      have hT : decide ((k : Int) * 64 < m) = true := decide_eq_true hlt
      have wk : IntKind.i64.wrap (k : Int) = (k : Int) := IntWalk.i64_in _ (by omega)
      have wk2 : IntKind.i64.wrap ((k : Int) * 64) = (k : Int) * 64 := IntWalk.i64_in _ (by omega)
      have wk3 : IntKind.i64.wrap (m - (k : Int) * 64) = m - (k : Int) * 64 := IntWalk.i64_in _ (by omega)
      clear ht hl hl2 hH
      generalize M.rRank (M.bz x) (m - (k : Int) * 64) = z at *
      go_wp2_with (go_at_call 73; (with_reducible refine (hbr _).out.mono ?_); rintro e w' ⟨rfl, N2, rfl⟩)
      refine ⟨⟨k + 1, r + z, N + N2, by omega, by omega, by go_num, by go_num, rfl, hres⟩, by simp [intOf]; omega⟩
    · have hT : decide ((k : Int) * 64 < m) = false := decide_eq_false hlt
      have wk2 : IntKind.i64.wrap ((k : Int) * 64) = (k : Int) * 64 := IntWalk.i64_in _ (by omega)
      have hfin : Hid (M.rRank (sl ws) i = r) := by
        show _ = _
        rw [← hmin.out, ← rank_take ws k m (by omega) hk]
        exact hH.out
      go_wp2
      refine bodyPost_ret (results_tmp (t := 4) rfl _ _ _) rfl ?_
      exact ⟨ret_int (by rw [hfin.out]), N, rfl⟩
theorem s_count (w : World) (s h : Nat) (ws : List Nat) (a : St w s h ws) :
    Calls Tryd.prog 44 #[.pointer (some ⟨s, 0, none⟩)] w fun e w' => e = .returned (.int .i64 ((sl ws).length : Nat)) ∧ ∃ n, w' = w.drewN n := by
  have hb := Lib.hid (s_bits w s h ws a)
  have hle := a.2.2.2
  have hr := Lib.hid (s_rank w s h ws a ((64 * ws.length : Nat) : Int))
  have e : M.rRank (sl ws) ((64 * ws.length : Nat) : Int) = (sl ws).length := by
    unfold M.rRank
    rw [List.filter_eq_self.2]
    intro y hy
    have := (sl_in.1 hy).2.1
    simpa using this
  rw [e] at hr
  clear a e
  generalize ((64 * ws.length : Nat) : Int) = B at *
  go_enter Tryd.func44, Tryd.ntmps44
  go_wp2_with (first
    | (go_at_call 67; refine hb.out.mono ?_; rintro e w' ⟨rfl, rfl⟩)
    | (go_at_call 51; refine hr.out.mono ?_; rintro e w' ⟨rfl, N, rfl⟩))
  go_ret
  exact ⟨rfl, N, rfl⟩
end Go.Proofs.YtbbnamdlfnonoaaDoor
