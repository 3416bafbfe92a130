
/- Select, the text walked. -/
import Derived.Test.YtbbnamdlfnonoaaDoorObj7
namespace Go.Proofs.YtbbnamdlfnonoaaDoor
open Go.RowKit
theorem sl_grows (ws us : List Nat) : sl ws <+: sl (ws ++ us) := by
  induction us generalizing ws with
  | nil => rw [List.append_nil]; exact List.prefix_refl _
  | cons u us ih =>
    rw [show ws ++ u :: us = (ws ++ [u]) ++ us by simp]
    refine List.IsPrefix.trans ?_ (ih (ws ++ [u]))
    rw [sl_snoc]
    exact List.prefix_append _ _
theorem sl_prefix (ws : List Nat) (j : Nat) : sl (ws.take j) <+: sl ws := by
  have := sl_grows (ws.take j) (ws.drop j)
  rwa [List.take_append_drop] at this
theorem bz_len (x : Nat) : (M.bz x).length = (M.bl x).length := by simp [M.bz]
theorem sel_hit {ws : List Nat} {j : Nat} (hj : j < ws.length) (k : Nat) (hk : k < (M.bl ws[j]).length) : M.rSel (sl ws) (((sl (ws.take j)).length + k : Nat) : Int) = (j : Int) * 64 + M.rSel (M.bz ws[j]) (k : Int) := by
  have hl : (ws.take j).length = j := by rw [List.length_take]; omega
  have hp := sl_prefix ws (j + 1)
  rw [List.take_succ_eq_append_getElem hj, sl_snoc, hl] at hp
  obtain ⟨t, ht⟩ := hp
  have hk2 : k < (M.bz ws[j]).length := by rw [bz_len]; exact hk
  unfold M.rSel
  rw [if_neg (by omega), if_neg (by omega), ← ht, Int.toNat_natCast, Int.toNat_natCast, List.append_assoc, List.getElem?_append_right (by omega), List.getElem?_append_left (by rw [List.length_map]; omega), List.getElem?_map, show (sl (ws.take j)).length + k - (sl (ws.take j)).length = k by omega, List.getElem?_eq_getElem hk2]
  simp
  omega
theorem sel_past (ws : List Nat) (k : Nat) : M.rSel (sl ws) (((sl ws).length + k : Nat) : Int) = -1 := by
  unfold M.rSel
  rw [if_neg (by omega), Int.toNat_natCast, List.getElem?_eq_none (by omega)]
  rfl
theorem sel_in {x k : Nat} (hk : k < (M.bl x).length) : 0 ≤ M.rSel (M.bz x) (k : Int) ∧ M.rSel (M.bz x) (k : Int) < 64 := by
  have hk2 : k < (M.bz x).length := by rw [bz_len]; exact hk
  have e : M.rSel (M.bz x) (k : Int) = (M.bz x)[k] := by
    unfold M.rSel
    rw [if_neg (by omega), Int.toNat_natCast, List.getElem?_eq_getElem hk2]
    rfl
  rw [e]
  have := M.mem_bz.1 (List.getElem_mem hk2)
  exact ⟨this.1, this.2.1⟩
theorem sl_len_snoc {ws : List Nat} {j : Nat} (hj : j < ws.length) : (sl (ws.take (j + 1))).length = (sl (ws.take j)).length + (M.bl ws[j]).length := by
  rw [List.take_succ_eq_append_getElem hj, sl_snoc, List.length_append, List.length_map, bz_len]
set_option maxHeartbeats 1000000 in
theorem s_select (w : World) (s h : Nat) (ws : List Nat) (a : St w s h ws) (hT : Tab w) (k : Int) (hk9 : k ≤ 9223372036854775807) :
    Calls Tryd.prog 52 #[.pointer (some ⟨s, 0, none⟩), .int .i64 k] w fun e w' => e = .returned (.int .i64 (M.rSel (sl ws) k)) ∧ ∃ n, w' = w.drewN n := by
  have hc := a.head
  have hle := a.2.2.2
  have ha := Lib.hid a
  have hTH := Lib.hid hT
  clear a hT
  by_cases hk : k < 0
  · have hd : decide (k < 0) = true := decide_eq_true hk
    have hfin : Hid (M.rSel (sl ws) k = -1) := by show _ = _; unfold M.rSel; rw [if_pos hk]
    go_enter Tryd.func52, Tryd.ntmps52
    go_wp2
    refine bodyPost_ret (results_tmp (t := 4) rfl _ _ _) rfl ?_
    exact ⟨ret_int hfin.out.symm, 0, rfl⟩
  · have hd : decide (k < 0) = false := decide_eq_false hk
    obtain ⟨k, rfl⟩ : ∃ j : Nat, k = (j : Int) := ⟨k.toNat, by omega⟩
    go_enter Tryd.func52, Tryd.ntmps52
    go_wp2
    go_loopw [1, 19] (fun v a wr => ∃ j d : Nat, j ≤ ws.length ∧ d ≤ k ∧ a = .int .i64 j ∧ v = .int .i64 d ∧ wr = w ∧ Hid ((sl (ws.take j)).length + d = k)) (fun _ a _ => ws.length - (intOf a).toNat)
    case atStart => exact ⟨0, k, by omega, by omega, rfl, rfl, rfl, by simp [Hid, sl]⟩
    case round =>
      obtain ⟨j, d, hj, hdk, rfl, rfl, rfl, hH⟩ := hrel
      by_cases hlt : j < ws.length
      · have hw := ha.out.cell j hlt
        have hx := ha.out.word j hlt
        have hcn := Lib.hid (bit_count (ws[j]) hx wr)
        have hse := Lib.hid (bit_select (ws[j]) hx (d : Int) wr hTH.out)
        have wk2 : IntKind.i64.wrap ((j : Int) * 64) = (j : Int) * 64 := IntWalk.i64_in _ (by omega)
        by_cases hd2 : d < (M.bl ws[j]).length
        · have hfin : Hid (M.rSel (sl ws) k = (j : Int) * 64 + M.rSel (M.bz ws[j]) (d : Int)) := by
            show _ = _
            rw [← sel_hit hlt d hd2, hH.out]
          have hz := sel_in hd2
          generalize M.rSel (M.bz ws[j]) (d : Int) = z at *
          generalize (M.bl ws[j]).length = c at *
          generalize ws[j] = x at *
          have hT : decide ((d : Int) < (c : Int)) = true := decide_eq_true (by omega)
          have wz : IntKind.i64.wrap ((j : Int) * 64 + z) = (j : Int) * 64 + z := IntWalk.i64_in _ (by omega)
          go_wp2_with (first
            | (go_at_call 46; (with_reducible refine hcn.out.mono ?_); rintro e w' ⟨rfl, rfl⟩)
            | (go_at_call 74; (with_reducible refine hse.out.mono ?_); rintro e w' ⟨rfl, rfl⟩))
          refine bodyPost_ret (results_tmp (t := 4) rfl _ _ _) rfl ?_
          exact ⟨ret_int hfin.out.symm, 0, rfl⟩
        · have hnew : Hid ((sl (ws.take (j + 1))).length + (d - (M.bl ws[j]).length) = k) := by
            show _ = _
            rw [sl_len_snoc hlt]
            have := hH.out
            omega
          clear hse hH
          generalize (M.bl ws[j]).length = c at *
          generalize ws[j] = x at *
          have hT : decide ((d : Int) < (c : Int)) = false := decide_eq_false (by omega)
          have wd : IntKind.i64.wrap ((d : Int) - (c : Int)) = (d : Int) - (c : Int) := IntWalk.i64_in _ (by omega)
          go_wp2_with (go_at_call 46; (with_reducible refine hcn.out.mono ?_); rintro e w' ⟨rfl, rfl⟩)
          refine ⟨⟨j + 1, d - c, by omega, by omega, by go_num, congrArg (Value.int .i64) (by omega), trivial, hnew⟩, by simp [intOf]; omega⟩
      · have hfin : Hid (M.rSel (sl ws) k = -1) := by
          show _ = _
          have := hH.out
          rw [List.take_of_length_le (by omega)] at this
          rw [← this]
          exact sel_past ws d
        go_wp2
        refine bodyPost_ret (results_tmp (t := 4) rfl _ _ _) rfl ?_
        exact ⟨ret_int hfin.out.symm, 0, rfl⟩
end Go.Proofs.YtbbnamdlfnonoaaDoor
