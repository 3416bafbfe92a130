/- A chain changes: no room, a link dropped, all dropped; a nil chain; the texts walked. -/
import Derived.Test.YtiinefdpaiincaaMxC6
namespace Go.Proofs.Ytiinefdpaiincaa
open Go.RowKit
section
variable (w : World) (C Q M lim cn cf : Nat) (An Af : Option Addr) (ns : List (Nd × Bool)) (fs : List Nat)
set_option maxHeartbeats 1000000 in
theorem c_behind_no_a (i : Int) (hi : i < 0) (L : LL) (h : CW w C Q M lim An cn Af cf ns fs L) (k : Nat) (hr : ¬ L.length < lim) :
    Calls Try.prog 66 #[.pointer (some ⟨C, 0, none⟩), .int .i64 i, .int .u64 (k : Int)] w fun e w' => e = .returned (.tuple #[.int .i64 0, .bool false]) ∧ K.Chg w w' (fun _ => False) := by
  have hH := Lib.hid h
  have hro : Hid (¬ ns.length - fs.length < lim) := by
    show ¬ ns.length - fs.length < lim
    rw [h.cnt]
    exact hr
  have c1 := h.cb.c1
  have c2 := h.cb.c2
  have hClt := h.cb.lt
  have g0 : decide (0 ≤ i) = false := decide_eq_false (by omega)
  generalize hd L (-1) = fi at *
  clear h hr
  go_enter Try.func66, Try.ntmps66
  go_wp2
  go_quiet (fail)
  obtain ⟨W, hW⟩ : ∃ W, w.drewN nq = W := ⟨_, rfl⟩
  rw [hW]
  have hbW : K.Chg w W (fun _ => False) := by rw [← hW]; exact (chg_refl w _).drewN _
  clear hW
  have c1W : W.cell? ⟨C, 1, none⟩ = some (.pointer (some ⟨Q, 0, none⟩)) := (hbW.cell hClt (fun h => h) 1).trans c1
  have hcall := Lib.hid (q_alloc_no W Q M lim cn cf An Af ns fs (hH.out.po.chg hbW (fun _ _ h => h)) k 0 0 hro.out)
  have HBW := Lib.hid hbW
  clear hbW
  go_wp2_with (go_at_call 80; (with_reducible refine hcall.out.mono ?_); rintro e w3 ⟨rfl, hb3⟩; have HB3 := Lib.hid hb3; clear hb3)
  go_ret2
  exact ⟨rfl, HBW.out.same (K.Chg.of_below HB3.out)⟩
set_option maxHeartbeats 1000000 in
theorem c_behind_no_b (x y : Nat) (L1 L2 : LL) (h : CW w C Q M lim An cn Af cf ns fs (L1 ++ (x, y) :: L2)) (k : Nat) (hr : ¬ (L1 ++ (x, y) :: L2).length < lim) :
    Calls Try.prog 66 #[.pointer (some ⟨C, 0, none⟩), .int .i64 (x : Int), .int .u64 (k : Int)] w fun e w' => e = .returned (.tuple #[.int .i64 0, .bool false]) ∧ K.Chg w w' (fun _ => False) := by
  have hH := Lib.hid h
  have hro : Hid (¬ ns.length - fs.length < lim) := by
    show ¬ ns.length - fs.length < lim
    rw [h.cnt]
    exact hr
  have c1 := h.cb.c1
  have c2 := h.cb.c2
  have hClt := h.cb.lt
  have g0 : decide (0 ≤ (x : Int)) = true := decide_eq_true (by omega)
  obtain ⟨hx, hnx⟩ := h.at rfl
  have hq : ∀ N, Calls _ _ _ (w.drewN N) (PeekP (w.drewN N) (ndv y (lst (-1) L1) (hd L2 (-1))) true) := fun N => by
    have hq := q_peek_yes (w.drewN N) Q M lim cn cf An Af ns fs (h.po.drew N) x hx (by rw [hnx])
    rw [hnx] at hq
    exact hq
  generalize hd L2 (-1) = fi at *
  generalize hd (L1 ++ (x, y) :: L2) (-1) = ff at c2
  generalize lst (-1) L1 = l1 at *
  clear h hr hnx
  go_enter Try.func66, Try.ntmps66
  go_wp2
  go_quiet (fail)
  obtain ⟨W0, hW0⟩ : ∃ W0, w.drewN nq = W0 := ⟨_, rfl⟩
  rw [hW0]
  have hb0 : K.Chg w W0 (fun _ => False) := by rw [← hW0]; exact (chg_refl w _).drewN _
  have hq0 : Hid (Calls _ _ _ W0 (PeekP W0 (ndv y l1 fi) true)) := Lib.hid (by rw [← hW0]; exact hq _)
  have c10 : W0.cell? ⟨C, 1, none⟩ = some (.pointer (some ⟨Q, 0, none⟩)) := (hb0.cell hClt (fun h => h) 1).trans c1
  have HB0 := Lib.hid hb0
  clear hW0 hb0 hq
  go_wp2_with (go_at_call 76; (with_reducible refine hq0.out.mono ?_); rintro e w1 ⟨rfl, hb1⟩; have HB1 := Lib.hid hb1; have hs1 := hb1.size; clear hb1)
  go_quiet (fail)
  obtain ⟨W, hW⟩ : ∃ W, (w1.alloc (ndo y l1 fi)).drewN nq = W := ⟨_, rfl⟩
  rw [hW]
  have hbW : K.Chg w W (fun _ => False) := by rw [← hW]; exact (HB0.out.same (K.Chg.of_below (HB1.out.alloc hs1 _))).drewN _
  clear hW c10
  have c1W : W.cell? ⟨C, 1, none⟩ = some (.pointer (some ⟨Q, 0, none⟩)) := (hbW.cell hClt (fun h => h) 1).trans c1
  have hcall := Lib.hid (q_alloc_no W Q M lim cn cf An Af ns fs (hH.out.po.chg hbW (fun _ _ h => h)) k 0 0 hro.out)
  have HBW := Lib.hid hbW
  clear hbW
  go_wp2_with (go_at_call 80; (with_reducible refine hcall.out.mono ?_); rintro e w3 ⟨rfl, hb3⟩; have HB3 := Lib.hid hb3; clear hb3)
  go_ret2
  exact ⟨rfl, HBW.out.same (K.Chg.of_below HB3.out)⟩
set_option maxHeartbeats 1000000 in
theorem c_drop (x y : Nat) (L1 L2 : LL) (h : CW w C Q M lim An cn Af cf ns fs (L1 ++ (x, y) :: L2)) :
    Calls Try.prog 71 #[.pointer (some ⟨C, 0, none⟩), .int .i64 (x : Int)] w fun e w' => e = .returned (.bool true) ∧ CWS w C Q M lim An Af (L1 ++ L2) w' := by
  have hH := Lib.hid h
  have c1 := h.cb.c1
  have hClt := h.cb.lt
  obtain ⟨hx, hnx⟩ := h.at rfl
  have hq := q_peek_yes w Q M lim cn cf An Af ns fs h.po x hx (by rw [hnx])
  rw [hnx] at hq
  have hq : Hid (Calls _ _ _ w (PeekP w (ndv y (lst (-1) L1) (hd L2 (-1))) true)) := hq
  have HX := Lib.hid hnx
  generalize hbe : hd L2 (-1) = be at *
  generalize hah : lst (-1) L1 = ah at *
  have HBE := Lib.hid hbe
  have HAH := Lib.hid hah
  clear h hnx hbe hah
  go_enter Try.func71, Try.ntmps71
  go_wp2_with (first
    | (go_at_call 76; (with_reducible refine hq.out.mono ?_); rintro e w1 ⟨rfl, hb1⟩
       have hs1 := hb1.size
       have hb2 : K.Chg w (w1.alloc (ndo y ah be)) (fun _ => False) := K.Chg.of_below (hb1.alloc hs1 _)
       have c10 : (w1.alloc (ndo y ah be)).cell? ⟨C, 1, none⟩ = some (.pointer (some ⟨Q, 0, none⟩)) := (hb2.cell hClt (fun h => h) 1).trans c1
       have HB2 := Lib.hid hb2
       have HR := Lib.hid (K.alloc_top w1 (ndo y ah be))
       clear hb1 hb2)
    | (go_at_call 84; (with_reducible refine (q_free (w1.alloc (ndo y ah be)) Q M lim cn cf An Af ns fs (hH.out.po.chg HB2.out (fun _ _ h => h)) x hx (by rw [HX.out])).mono ?_); rintro e w3 ⟨rfl, An2, cn2, Af2, cf2, hq2, hc3, hi3⟩
       have hcb3 := (hH.out.cb.chg HB2.out (fun h => h)).chg hc3 (hH.out.cb.qb hH.out.po)
       have hr3 := (hc3.block w1.heap.size (by simp) (fun hj => by have := hH.out.po.qb hj; omega)).trans HR.out
       obtain ⟨t0, t1, t2⟩ := nd_cells hr3
       have HCB3 := Lib.hid hcb3
       have HQ2 := Lib.hid hq2
       have HC3 := Lib.hid hc3
       have HI3 := Lib.hid hi3
       clear hq2 hc3 hi3 hcb3 hr3)
    | (go_at_call 81; (with_reducible refine (c_join w3 C Q M lim cn2 cf2 _ _ An2 Af2 _ _ HCB3.out HQ2.out ah be).mono ?_); rintro e w4 ⟨rfl, An3, cn3, Af3, cf3, hcb4, hq4, hc4, hi4⟩
       have HCB4 := Lib.hid hcb4
       have HQ4 := Lib.hid hq4
       have HC4 := Lib.hid hc4
       have HI4 := Lib.hid hi4
       clear hcb4 hq4 hc4 hi4))
  go_ret
  have hcb := HCB4.out
  have hqo := HQ4.out
  have hc4 := HC4.out
  have hi4 := HI4.out
  obtain rfl := HBE.out
  obtain rfl := HAH.out
  have hz2 := HB2.out.size
  have hz3 := HC3.out.size
  obtain ⟨hn1, hn2⟩ := nod_less hH.out.nod
  obtain ⟨s1, s2⟩ := seg_app.1 hH.out.seg
  have s1 := seg_frame (ns' := ns.set x (Nd.z, false)) s1 (fun z hz => List.getElem?_set_ne (fun e => hn2 z (List.mem_append_left _ hz) e.symm))
  have s2 := seg_frame (ns' := ns.set x (Nd.z, false)) s2.2 (fun z hz => List.getElem?_set_ne (fun e => hn2 z (List.mem_append_right _ hz) e.symm))
  obtain ⟨e1, e2⟩ := less_ends (n := x) (k := y) s1 s2
  rw [e1, e2] at hcb
  obtain ⟨_, hfl⟩ := hH.out.po.fs_lt hx (by rw [HX.out])
  have hct := hH.out.cnt
  refine ⟨rfl, An3, cn3, Af3, cf3, _, _, ⟨hcb, hqo, seg_less hH.out.seg hH.out.nod, hn1, ?_, fun z hz => ?_⟩, ?_, fun j hj => ?_⟩
  · rw [seta_len, setb_len, List.length_set, List.length_append]
    simp at hct ⊢
    omega
  · refine hH.out.keys z ?_
    rcases List.mem_append.1 hz with h | h <;> simp [h]
  · refine ((HB2.out.mono (O' := CB C Q An Af) (fun _ h => h.elim)).same (HC3.out.mono (fun j hj => .inr hj))).trans hc4 (fun j hj => ?_)
    rcases hj with rfl | hj
    · exact .inl (.inl rfl)
    · rcases HI3.out j hj with h | h
      · exact .inl (.inr h)
      · exact .inr (by omega)
  · rcases hi4 j hj with h | h
    · rcases HI3.out j h with h | h
      · exact .inl h
      · exact .inr (by omega)
    · exact .inr (by omega)
theorem c_clear (L : LL) (h : CW w C Q M lim An cn Af cf ns fs L) :
    Calls Try.prog 57 #[.pointer (some ⟨C, 0, none⟩)] w fun e w' => e = .returned (.tuple #[]) ∧ CWS w C Q M lim An Af [] w' := by
  have c1 := h.cb.c1
  have hq := Lib.hid (q_clear h.po)
  have hH := Lib.hid h
  clear h
  go_enter Try.func57, Try.ntmps57
  go_wp2_with (go_at_call 74; (with_reducible refine hq.out.mono ?_); rintro e w1 ⟨rfl, An2, cn2, Af2, cf2, hq2, hc2, hi2⟩
               have hcb := hH.out.cb.chg hc2 (hH.out.cb.qb hH.out.po)
               have k2 := hcb.c2
               have k3 := hcb.c3
               have f2 := hcb.fr 2
               have f3 := hcb.fr 3
               have HCB := Lib.hid hcb
               have HQ2 := Lib.hid hq2
               have HC2 := Lib.hid hc2
               have HI2 := Lib.hid hi2
               clear hq2 hc2 hi2 hcb)
  go_end0
  have hcc : K.Chg w1 ((w1.setCell ⟨C, 2, none⟩ (.int .i64 (-1))).setCell ⟨C, 3, none⟩ (.int .i64 (-1))) (· = C) := (chg_set w1 C 2 _ (· = C) rfl).same (chg_set _ C 3 _ (· = C) rfl)
  refine ⟨rfl, An2, cn2, Af2, cf2, [], [], ⟨(HCB.out.set2 (-1)).set3 (-1), HQ2.out.chg hcc (fun j hj e => by have e2 : j = C := e; subst e2; exact absurd hj (HCB.out.qb HQ2.out)), trivial, by simp, rfl, by simp⟩, (HC2.out.mono (fun j hj => .inr hj)).same (hcc.mono (fun j hj => .inl hj)), HI2.out⟩
theorem c_behind_nil (i : Int) (k : Nat) : Calls Try.prog 66 #[.pointer none, .int .i64 i, .int .u64 (k : Int)] w fun e w' => e = .returned (.tuple #[.int .i64 0, .bool false]) ∧ w = w' := by
  go_enter Try.func66, Try.ntmps66
  go_wp2
  go_ret2
  exact ⟨rfl, rfl⟩
theorem c_drop_nil (i : Int) : Calls Try.prog 71 #[.pointer none, .int .i64 i] w fun e w' => e = .returned (.bool false) ∧ w = w' := by
  go_enter Try.func71, Try.ntmps71
  go_wp2
  go_ret
  exact ⟨rfl, rfl⟩
theorem c_clear_nil : Calls Try.prog 57 #[.pointer none] w fun e w' => e = .returned (.tuple #[]) ∧ w = w' := by
  go_enter Try.func57, Try.ntmps57
  go_wp2
  first
  | (go_end0; exact ⟨rfl, rfl⟩)
  | (refine bodyPost_ret (results_none rfl _ _ _) rfl ?_; exact ⟨rfl, rfl⟩)
theorem c_first_nil : Calls Try.prog 53 #[.pointer none] w fun e w' => e = .returned (.int .i64 (-1)) ∧ w = w' := by
  go_enter Try.func53, Try.ntmps53
  go_wp2
  go_ret
  exact ⟨rfl, rfl⟩
theorem c_last_nil : Calls Try.prog 54 #[.pointer none] w fun e w' => e = .returned (.int .i64 (-1)) ∧ w = w' := by
  go_enter Try.func54, Try.ntmps54
  go_wp2
  go_ret
  exact ⟨rfl, rfl⟩
theorem c_len_nil : Calls Try.prog 42 #[.pointer none] w fun e w' => e = .returned (.int .i64 0) ∧ w = w' := by
  go_enter Try.func42, Try.ntmps42
  go_wp2
  go_ret
  exact ⟨rfl, rfl⟩
end
end Go.Proofs.Ytiinefdpaiincaa
