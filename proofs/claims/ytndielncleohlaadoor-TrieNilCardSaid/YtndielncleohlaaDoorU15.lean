
/- near, Next, Prev, Has: what they answer, and leave; nil ones too; the texts walked. -/
import Derived.Test.YtndielncleohlaaDoorU14
namespace Go.Proofs.YtndielncleohlaaDoor
set_option maxRecDepth 40000
open Go.RowKit Go.Shelf
/-- What a look answers, and leaves. -/
def LookP (w : World) (m0 most : Nat) (v : Value) (e : Ending) (w' : World) : Prop := e = .returned v ∧ ∃ tk', tk' ≤ most ∧ Mx w' m0 tk' ∧ K.Chg w w' (· = m0)
theorem Tab.ne_m {w : World} {m0 tk : Nat} (hT : Tab w) (h : Mx w m0 tk) : (0 : Nat) ≠ m0 := by
  rintro rfl
  obtain ⟨r, c, s, p, hr⟩ := h
  have h1 := cell_of_row w 0 0 _ _ (0, 0) hr
  have h2 := hT 0 (by decide)
  simp at h1
  rw [h1] at h2
  cases h2
theorem Tab.chg {w w' : World} {O : Nat → Prop} (hT : Tab w) (hc : K.Chg w w' O) (h0 : ¬ O 0) : Tab w' := fun j hj => (hc.cell hT.pos h0 j).trans (hT j hj)
section
variable (w : World) (P Q m0 lim tk root cn cf : Nat) (An Af : Option Addr) (ns : List (Nd × Bool)) (fs xs : List Nat) (pl : Nat → Nat → Nat)
theorem t_above_nx (h : TW w P Q m0 lim tk An cn Af cf ns fs root pl xs) (htk : tk ≤ 11) (hT : Tab w) (k : Nat) (hk : k < 18446744073709551616) (hx : k ∉ xs) (m cw B : Nat) (Aw : Option Addr) (hm : T.wl xs k = m) (hw : w.ownsRow B 99 6 (.slice Aw m cw) m (sv (wst ns pl k m))) :
    Calls Tryd.prog 54 #[.pointer (some ⟨P, 0, none⟩), .int .u64 (k : Int), .slice Aw m cw] w (LookP w m0 12 (.tuple #[.int .u64 ((K.nx xs k : Nat) : Int), .bool (K.nxb xs k)])) := by
  refine (t_above w P Q m0 lim tk root cn cf An Af ns fs xs pl h (by omega) hT k hk m cw Aw hm (K.own_base hw (Nat.zero_le _))).mono ?_
  rintro e w' ⟨y, b, tk', rfl, hR, ht, hx', hc⟩
  rcases hR with ⟨rfl, h1, h2, h3⟩ | ⟨rfl, rfl, h1⟩
  · obtain ⟨e1, e2⟩ := T.nx_above h.up hx h1 h2 h3
    rw [e1, e2]
    exact ⟨rfl, tk', by omega, hx', hc⟩
  · obtain ⟨e1, e2⟩ := T.nx_none hx h1
    rw [e1, e2]
    exact ⟨rfl, tk', by omega, hx', hc⟩
theorem t_below_pv (h : TW w P Q m0 lim tk An cn Af cf ns fs root pl xs) (htk : tk ≤ 11) (hT : Tab w) (k : Nat) (hk : k < 18446744073709551616) (hx : k ∉ xs) (m cw B : Nat) (Aw : Option Addr) (hm : T.wl xs k = m) (hw : w.ownsRow B 99 6 (.slice Aw m cw) m (sv (wst ns pl k m))) :
    Calls Tryd.prog 55 #[.pointer (some ⟨P, 0, none⟩), .int .u64 (k : Int), .slice Aw m cw] w (LookP w m0 12 (.tuple #[.int .u64 ((K.pv xs k : Nat) : Int), .bool (K.pvb xs k)])) := by
  have _ := hT
  refine (t_below w P Q m0 lim tk root cn cf An Af ns fs xs pl h (by omega) k hk m cw Aw hm (K.own_base hw (Nat.zero_le _))).mono ?_
  rintro e w' ⟨y, b, tk', rfl, hR, ht, hx', hc⟩
  rcases hR with ⟨rfl, h1, h2, h3⟩ | ⟨rfl, rfl, h1⟩
  · obtain ⟨e1, e2⟩ := T.pv_below h.up hx h1 h2 h3
    rw [e1, e2]
    exact ⟨rfl, tk', by omega, hx', hc⟩
  · obtain ⟨e1, e2⟩ := T.pv_none h.up hx h1
    rw [e1, e2]
    exact ⟨rfl, tk', by omega, hx', hc⟩
set_option maxHeartbeats 2000000 in
theorem t_near_next (h : TW w P Q m0 lim tk An cn Af cf ns fs root pl xs) (hT : Tab w) (k : Nat) (hk : k < 18446744073709551616) :
    Calls Tryd.prog 53 #[.pointer (some ⟨P, 0, none⟩), .int .u64 (k : Int), .func (.func 54) #[.pointer (some ⟨P, 0, none⟩)] #[]] w (LookP w m0 12 (.tuple #[.int .u64 ((K.nx xs k : Nat) : Int), .bool (K.nxb xs k)])) := by
  have hP0 := cell_of_row w P 0 _ _ (0, 0) h.row
  simp at hP0
  have hst := Lib.hid (x_start w m0 tk h.mx)
  have H := Lib.hid h
  obtain ⟨m, hm⟩ : ∃ m, T.wl xs k = m := ⟨_, rfl⟩
  have hm11 : m ≤ 11 := by rw [← hm]; exact T.wl_le xs k
  have HMM := Lib.hid hm
  have hTn := Lib.hid (hT.ne_m h.mx)
  have HTB := Lib.hid hT
  clear h hm hT
  by_cases hx : k ∈ xs
  · obtain ⟨e1, e2⟩ := T.nx_yes H.out.up hx
    rw [e1, e2]
    have HXX := Lib.hid hx
    clear hx e1 e2
    go_enter Tryd.func53, Tryd.ntmps53
    go_wp2_with (first
      | (go_at_call 45; (with_reducible refine hst.out.mono ?_); rintro e w1 ⟨rfl, hm1, hc1⟩
         have HC1 := Lib.hid hc1
         have HT1 := Lib.hid (H.out.met hc1 hm1)
         have hP1 := cell_of_row w1 P 1 _ _ (0, 0) HT1.out.row
         simp at hP1
         clear hm1 hc1)
      | (go_at_call 46; (with_reducible refine (t_walk_at w1 P Q m0 lim 0 root cn cf An Af ns fs xs pl HT1.out k hk (by omega)).mono ?_); rintro e w2 ⟨Aw, cw, rfl, hw2, hm2, hc2⟩
         rw [HMM.out] at hw2 hm2 ⊢
         have HW2 := Lib.hid hw2
         have HM2 := Lib.hid hm2
         have HC2 := Lib.hid (HC1.out.same hc2)
         have HT2 := Lib.hid (HT1.out.met hc2 hm2)
         clear hw2 hm2 hc2)
      | (go_at_call 48; (with_reducible refine (t_found w2 HT2.out k hk _ m cw Aw HMM.out.symm HW2.out).mono ?_); rintro e w3 ⟨rfl, N, rfl⟩; rw [decide_eq_true HXX.out]))
    go_ret2
    exact ⟨rfl, 0 + 1 * m, by omega, HM2.out.chg ((chg_refl w2 (fun _ => False)).drewN N) (fun h => h), HC2.out.drewN N⟩
  · have HXX := Lib.hid hx
    clear hx
    go_enter Tryd.func53, Tryd.ntmps53
    go_wp2_with (first
      | (go_at_call 45; (with_reducible refine hst.out.mono ?_); rintro e w1 ⟨rfl, hm1, hc1⟩
         have HC1 := Lib.hid hc1
         have HT1 := Lib.hid (H.out.met hc1 hm1)
         have hP1 := cell_of_row w1 P 1 _ _ (0, 0) HT1.out.row
         simp at hP1
         clear hm1 hc1)
      | (go_at_call 46; (with_reducible refine (t_walk_at w1 P Q m0 lim 0 root cn cf An Af ns fs xs pl HT1.out k hk (by omega)).mono ?_); rintro e w2 ⟨Aw, cw, rfl, hw2, hm2, hc2⟩
         rw [HMM.out] at hw2 hm2 ⊢
         have HW2 := Lib.hid hw2
         have HM2 := Lib.hid hm2
         have HC2 := Lib.hid (HC1.out.same hc2)
         have HT2 := Lib.hid (HT1.out.met hc2 hm2)
         clear hw2 hm2 hc2)
      | (go_at_call 48; (with_reducible refine (t_found w2 HT2.out k hk _ m cw Aw HMM.out.symm HW2.out).mono ?_); rintro e w3 ⟨rfl, N, rfl⟩; rw [decide_eq_false HXX.out])
      | (go_at_call 54; (with_reducible refine (t_above_nx (w2.drewN N) P Q m0 lim (0 + 1 * m) root cn cf An Af ns fs xs pl (HT2.out.drew N) (by omega) ((HTB.out.chg HC2.out hTn.out).drew N) k hk HXX.out m cw w1.heap.size Aw HMM.out (((chg_refl w2 (fun _ => False)).drewN N).own HW2.out (fun _ _ h => h))).mono ?_); rintro e w4 ⟨rfl, tk4, ht4, hx4, hc4⟩; have HX4 := Lib.hid hx4; have HC4 := Lib.hid ((HC2.out.drewN N).same hc4); clear hx4 hc4))
    go_ret2
    exact ⟨rfl, tk4, ht4, HX4.out, HC4.out⟩
theorem t_next (h : TW w P Q m0 lim tk An cn Af cf ns fs root pl xs) (hT : Tab w) (k : Nat) (hk : k < 18446744073709551616) :
    Calls Tryd.prog 29 #[.pointer (some ⟨P, 0, none⟩), .int .u64 (k : Int)] w (LookP w m0 12 (.tuple #[.int .u64 ((K.nx xs k : Nat) : Int), .bool (K.nxb xs k)])) := by
  have hn := Lib.hid (t_near_next w P Q m0 lim tk root cn cf An Af ns fs xs pl h hT k hk)
  clear h hT
  generalize K.nx xs k = y at *
  generalize K.nxb xs k = b at *
  go_enter Tryd.func29, Tryd.ntmps29
  go_wp2_with (go_at_call 53; (with_reducible refine hn.out.mono ?_); rintro e w4 ⟨rfl, tk4, ht4, hx4, hc4⟩; have HX4 := Lib.hid hx4; have HC4 := Lib.hid hc4; clear hx4 hc4)
  go_ret2
  exact ⟨rfl, tk4, ht4, HX4.out, HC4.out⟩
set_option maxHeartbeats 2000000 in
theorem t_near_prev (h : TW w P Q m0 lim tk An cn Af cf ns fs root pl xs) (hT : Tab w) (k : Nat) (hk : k < 18446744073709551616) :
    Calls Tryd.prog 53 #[.pointer (some ⟨P, 0, none⟩), .int .u64 (k : Int), .func (.func 55) #[.pointer (some ⟨P, 0, none⟩)] #[]] w (LookP w m0 12 (.tuple #[.int .u64 ((K.pv xs k : Nat) : Int), .bool (K.pvb xs k)])) := by
  have hP0 := cell_of_row w P 0 _ _ (0, 0) h.row
  simp at hP0
  have hst := Lib.hid (x_start w m0 tk h.mx)
  have H := Lib.hid h
  obtain ⟨m, hm⟩ : ∃ m, T.wl xs k = m := ⟨_, rfl⟩
  have hm11 : m ≤ 11 := by rw [← hm]; exact T.wl_le xs k
  have HMM := Lib.hid hm
  have hTn := Lib.hid (hT.ne_m h.mx)
  have HTB := Lib.hid hT
  clear h hm hT
  by_cases hx : k ∈ xs
  · obtain ⟨e1, e2⟩ := T.pv_yes H.out.up hx
    rw [e1, e2]
    have HXX := Lib.hid hx
    clear hx e1 e2
    go_enter Tryd.func53, Tryd.ntmps53
    go_wp2_with (first
      | (go_at_call 45; (with_reducible refine hst.out.mono ?_); rintro e w1 ⟨rfl, hm1, hc1⟩
         have HC1 := Lib.hid hc1
         have HT1 := Lib.hid (H.out.met hc1 hm1)
         have hP1 := cell_of_row w1 P 1 _ _ (0, 0) HT1.out.row
         simp at hP1
         clear hm1 hc1)
      | (go_at_call 46; (with_reducible refine (t_walk_at w1 P Q m0 lim 0 root cn cf An Af ns fs xs pl HT1.out k hk (by omega)).mono ?_); rintro e w2 ⟨Aw, cw, rfl, hw2, hm2, hc2⟩
         rw [HMM.out] at hw2 hm2 ⊢
         have HW2 := Lib.hid hw2
         have HM2 := Lib.hid hm2
         have HC2 := Lib.hid (HC1.out.same hc2)
         have HT2 := Lib.hid (HT1.out.met hc2 hm2)
         clear hw2 hm2 hc2)
      | (go_at_call 48; (with_reducible refine (t_found w2 HT2.out k hk _ m cw Aw HMM.out.symm HW2.out).mono ?_); rintro e w3 ⟨rfl, N, rfl⟩; rw [decide_eq_true HXX.out]))
    go_ret2
    exact ⟨rfl, 0 + 1 * m, by omega, HM2.out.chg ((chg_refl w2 (fun _ => False)).drewN N) (fun h => h), HC2.out.drewN N⟩
  · have HXX := Lib.hid hx
    clear hx
    go_enter Tryd.func53, Tryd.ntmps53
    go_wp2_with (first
      | (go_at_call 45; (with_reducible refine hst.out.mono ?_); rintro e w1 ⟨rfl, hm1, hc1⟩
         have HC1 := Lib.hid hc1
         have HT1 := Lib.hid (H.out.met hc1 hm1)
         have hP1 := cell_of_row w1 P 1 _ _ (0, 0) HT1.out.row
         simp at hP1
         clear hm1 hc1)
      | (go_at_call 46; (with_reducible refine (t_walk_at w1 P Q m0 lim 0 root cn cf An Af ns fs xs pl HT1.out k hk (by omega)).mono ?_); rintro e w2 ⟨Aw, cw, rfl, hw2, hm2, hc2⟩
         rw [HMM.out] at hw2 hm2 ⊢
         have HW2 := Lib.hid hw2
         have HM2 := Lib.hid hm2
         have HC2 := Lib.hid (HC1.out.same hc2)
         have HT2 := Lib.hid (HT1.out.met hc2 hm2)
         clear hw2 hm2 hc2)
      | (go_at_call 48; (with_reducible refine (t_found w2 HT2.out k hk _ m cw Aw HMM.out.symm HW2.out).mono ?_); rintro e w3 ⟨rfl, N, rfl⟩; rw [decide_eq_false HXX.out])
      | (go_at_call 55; (with_reducible refine (t_below_pv (w2.drewN N) P Q m0 lim (0 + 1 * m) root cn cf An Af ns fs xs pl (HT2.out.drew N) (by omega) ((HTB.out.chg HC2.out hTn.out).drew N) k hk HXX.out m cw w1.heap.size Aw HMM.out (((chg_refl w2 (fun _ => False)).drewN N).own HW2.out (fun _ _ h => h))).mono ?_); rintro e w4 ⟨rfl, tk4, ht4, hx4, hc4⟩; have HX4 := Lib.hid hx4; have HC4 := Lib.hid ((HC2.out.drewN N).same hc4); clear hx4 hc4))
    go_ret2
    exact ⟨rfl, tk4, ht4, HX4.out, HC4.out⟩
theorem t_prev (h : TW w P Q m0 lim tk An cn Af cf ns fs root pl xs) (hT : Tab w) (k : Nat) (hk : k < 18446744073709551616) :
    Calls Tryd.prog 30 #[.pointer (some ⟨P, 0, none⟩), .int .u64 (k : Int)] w (LookP w m0 12 (.tuple #[.int .u64 ((K.pv xs k : Nat) : Int), .bool (K.pvb xs k)])) := by
  have hn := Lib.hid (t_near_prev w P Q m0 lim tk root cn cf An Af ns fs xs pl h hT k hk)
  clear h hT
  generalize K.pv xs k = y at *
  generalize K.pvb xs k = b at *
  go_enter Tryd.func30, Tryd.ntmps30
  go_wp2_with (go_at_call 53; (with_reducible refine hn.out.mono ?_); rintro e w4 ⟨rfl, tk4, ht4, hx4, hc4⟩; have HX4 := Lib.hid hx4; have HC4 := Lib.hid hc4; clear hx4 hc4)
  go_ret2
  exact ⟨rfl, tk4, ht4, HX4.out, HC4.out⟩
set_option maxHeartbeats 2000000 in
theorem t_has (h : TW w P Q m0 lim tk An cn Af cf ns fs root pl xs) (k : Nat) (hk : k < 18446744073709551616) :
    Calls Tryd.prog 26 #[.pointer (some ⟨P, 0, none⟩), .int .u64 (k : Int)] w (LookP w m0 11 (.bool (K.fo xs k))) := by
  have hP0 := cell_of_row w P 0 _ _ (0, 0) h.row
  simp at hP0
  have hst := Lib.hid (x_start w m0 tk h.mx)
  have H := Lib.hid h
  obtain ⟨m, hm⟩ : ∃ m, T.wl xs k = m := ⟨_, rfl⟩
  have hm11 : m ≤ 11 := by rw [← hm]; exact T.wl_le xs k
  have HMM := Lib.hid hm
  have hfo : decide (k ∈ xs) = K.fo xs k := by
    have := K.fo_mem h.up k
    cases hf : K.fo xs k
    · exact decide_eq_false (fun hx => by rw [this.2 hx] at hf; cases hf)
    · exact decide_eq_true (this.1 hf)
  have HFO := Lib.hid hfo
  clear h hm hfo
  go_enter Tryd.func26, Tryd.ntmps26
  go_wp2_with (first
      | (go_at_call 45; (with_reducible refine hst.out.mono ?_); rintro e w1 ⟨rfl, hm1, hc1⟩
         have HC1 := Lib.hid hc1
         have HT1 := Lib.hid (H.out.met hc1 hm1)
         have hP1 := cell_of_row w1 P 1 _ _ (0, 0) HT1.out.row
         simp at hP1
         clear hm1 hc1)
      | (go_at_call 46; (with_reducible refine (t_walk_at w1 P Q m0 lim 0 root cn cf An Af ns fs xs pl HT1.out k hk (by omega)).mono ?_); rintro e w2 ⟨Aw, cw, rfl, hw2, hm2, hc2⟩
         rw [HMM.out] at hw2 hm2 ⊢
         have HW2 := Lib.hid hw2
         have HM2 := Lib.hid hm2
         have HC2 := Lib.hid (HC1.out.same hc2)
         have HT2 := Lib.hid (HT1.out.met hc2 hm2)
         clear hw2 hm2 hc2)
      | (go_at_call 48; (with_reducible refine (t_found w2 HT2.out k hk _ m cw Aw HMM.out.symm HW2.out).mono ?_); rintro e w3 ⟨rfl, N, rfl⟩; rw [HFO.out]))
  go_ret
  exact ⟨rfl, 0 + 1 * m, by omega, HM2.out.chg ((chg_refl w2 (fun _ => False)).drewN N) (fun h => h), HC2.out.drewN N⟩
end
theorem t_next_nil (w : World) (k : Int) : Calls Tryd.prog 29 #[.pointer none, .int .u64 k] w fun e w' => e = .returned (.tuple #[.int .u64 0, .bool false]) ∧ w = w' := by
  have hn : ∀ v, Hid (Calls Tryd.prog 53 #[.pointer none, .int .u64 k, v] w fun e w' => e = .returned (.tuple #[.int .u64 0, .bool false]) ∧ w = w') := by
    intro v
    unfold Hid
    go_enter Tryd.func53, Tryd.ntmps53
    go_wp2
    go_ret2
    exact ⟨rfl, rfl⟩
  go_enter Tryd.func29, Tryd.ntmps29
  go_wp2_with (go_at_call 53; (with_reducible refine (hn _).out.mono ?_); rintro e w4 ⟨rfl, rfl⟩)
  go_ret2
  exact ⟨rfl, rfl⟩
theorem t_prev_nil (w : World) (k : Int) : Calls Tryd.prog 30 #[.pointer none, .int .u64 k] w fun e w' => e = .returned (.tuple #[.int .u64 0, .bool false]) ∧ w = w' := by
  have hn : ∀ v, Hid (Calls Tryd.prog 53 #[.pointer none, .int .u64 k, v] w fun e w' => e = .returned (.tuple #[.int .u64 0, .bool false]) ∧ w = w') := by
    intro v
    unfold Hid
    go_enter Tryd.func53, Tryd.ntmps53
    go_wp2
    go_ret2
    exact ⟨rfl, rfl⟩
  go_enter Tryd.func30, Tryd.ntmps30
  go_wp2_with (go_at_call 53; (with_reducible refine (hn _).out.mono ?_); rintro e w4 ⟨rfl, rfl⟩)
  go_ret2
  exact ⟨rfl, rfl⟩
end Go.Proofs.YtndielncleohlaaDoor
