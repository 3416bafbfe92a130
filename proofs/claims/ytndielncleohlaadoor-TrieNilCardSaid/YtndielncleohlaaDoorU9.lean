
/- Insert, Has: what they answer, and leave; the texts walked. -/
import Derived.Test.YtndielncleohlaaDoorU8
import Derived.Test.YtndielncleohlaaDoorK17
namespace Go.Proofs.YtndielncleohlaaDoor
set_option maxRecDepth 40000
open Go.RowKit
theorem Kids.chg {w w' : World} {ns : List (Nd × Bool)} {Af : Option Addr} {O : Nat → Prop} (h : Kids w ns Af) (hc : K.Chg w w' O) (hO : ∀ i (hi : i < ns.length) g, ns[i].1.A.map (·.block) = some g → ¬ O g) : Kids w' ns Af :=
  ⟨fun i hi => hc.own (h.own i hi) (fun b hb => hO i hi b (own_of_map hb)), h.kd, h.kf⟩
section
variable {w w' : World} {P Q m0 lim tk root cn cf : Nat} {An Af : Option Addr} {ns : List (Nd × Bool)} {fs xs : List Nat} {pl : Nat → Nat → Nat}
theorem TW.chg {O : Nat → Prop} (h : TW w P Q m0 lim tk An cn Af cf ns fs root pl xs) (hc : K.Chg w w' O) (hO : ∀ j, TBk P Q m0 An Af ns j → ¬ O j) : TW w' P Q m0 lim tk An cn Af cf ns fs root pl xs :=
  ⟨(hc.block P (row_lt h.row) (hO P (.inl rfl))).trans h.row, h.mx.chg hc (hO m0 (.inr (.inl rfl))), h.po.chg hc (fun j hj => hO j (.inr (.inr (.inl hj)))), h.kids.chg hc (fun i hi g hg => hO g (.inr (.inr (.inr ⟨i, hi, hg⟩)))), h.tr, h.rt, h.used, h.up, h.lt, h.rl⟩
theorem TW.met {tk' : Nat} (h : TW w P Q m0 lim tk An cn Af cf ns fs root pl xs) (hc : K.Chg w w' (· = m0)) (hm : Mx w' m0 tk') : TW w' P Q m0 lim tk' An cn Af cf ns fs root pl xs :=
  have hn := h.ne_m
  ⟨(hc.block P (row_lt h.row) (fun e => hn.2.1 e)).trans h.row, hm, h.po.chg hc hn.1, h.kids.chg hc hn.2.2, h.tr, h.rt, h.used, h.up, h.lt, h.rl⟩
theorem TW.drew (h : TW w P Q m0 lim tk An cn Af cf ns fs root pl xs) (n : Nat) : TW (w.drewN n) P Q m0 lim tk An cn Af cf ns fs root pl xs := h.chg ((chg_refl w (fun _ => False)).drewN n) (fun _ _ h => h)
/-- What a call leaves of a trie. -/
def TWs (w0 w' : World) (P Q m0 lim : Nat) (TB0 : Nat → Prop) (ys : List Nat) (tk : Nat) : Prop :=
  ∃ An cn Af cf ns fs root pl, TW w' P Q m0 lim tk An cn Af cf ns fs root pl ys ∧ K.Chg w0 w' TB0 ∧ ∀ b, TBk P Q m0 An Af ns b → TB0 b ∨ w0.heap.size ≤ b
theorem TW.same {w0 : World} {TB0 : Nat → Prop} (h : TW w P Q m0 lim tk An cn Af cf ns fs root pl xs) (hc : K.Chg w0 w TB0) (hb : ∀ b, TBk P Q m0 An Af ns b → TB0 b ∨ w0.heap.size ≤ b) : TWs w0 w P Q m0 lim TB0 xs tk := ⟨An, cn, Af, cf, ns, fs, root, pl, h, hc, hb⟩
/-- Is the key there? The way tells it. -/
theorem t_found (V : World) (h : TW w P Q m0 lim tk An cn Af cf ns fs root pl xs) (k : Nat) (hk : k < 18446744073709551616) (B m cw : Nat) (Aw : Option Addr) (hm : m = T.wl xs k) (hw : V.ownsRow B 99 6 (.slice Aw m cw) m (sv (wst ns pl k m))) :
    Calls Tryd.prog 48 #[.int .u64 (k : Int), .slice Aw m cw] V fun e w' => e = .returned (.bool (decide (k ∈ xs))) ∧ ∃ n, w' = V.drewN n := by
  have hm11 : m ≤ 11 := by rw [hm]; exact T.wl_le xs k
  have hl := wst_len ns pl k m
  by_cases h11 : m < 11
  · have hno : k ∉ xs := fun hx => T.wl_no (xs := xs) (k := k) (by omega) ⟨k, hx, rfl⟩
    rw [decide_eq_false hno]
    have := t_found_no V B Aw cw k (wst ns pl k m) (by omega)
    rwa [hl] at this
  · obtain rfl : m = 11 := by omega
    have hp : T.prs xs 10 (T.pre 10 k) := T.wl_yes (by omega)
    obtain ⟨_, _, hok⟩ := h.node (by omega) hp
    have he : (wst ns pl k 11)[10]'(by omega) = (nat ns (pl 10 (T.pre 10 k)), pl 10 (T.pre 10 k)) := wst_at _ _ _ _ _ _
    have hw' : Wy V B (.slice Aw (wst ns pl k 11).length cw) (wst ns pl k 11) := by
      unfold Wy
      rw [hl]
      exact hw
    have := t_found_at V B Aw cw k (wst ns pl k 11) hk hl hw' (by rw [he]; exact hok.wlt)
    rw [he, hl, hok.bits] at this
    have hd : decide (T.dig 10 k ∈ T.dgs xs 10 (T.pre 10 k)) = decide (k ∈ xs) := by
      rw [decide_eq_decide, T.mem_dgs, ← T.pre_split (by omega), T.pre_last]
      exact ⟨fun h => T.prs_last.1 h.2, fun h => ⟨T.dig_lt _ _, T.prs_last.2 h⟩⟩
    rwa [hd] at this
end
def InsertP (w : World) (P Q m0 lim : Nat) (TB0 : Nat → Prop) (xs : List Nat) (k : Nat) (e : Ending) (w' : World) : Prop :=
  e = .returned (.int .i64 ((K.inE K.trie xs lim k : Nat) : Int)) ∧ ∃ tk, tk ≤ 11 ∧ TWs w w' P Q m0 lim TB0 (K.inL K.trie xs lim k) tk
set_option maxHeartbeats 4000000 in
theorem t_insert (w : World) (P Q m0 lim tk root cn cf : Nat) (An Af : Option Addr) (ns : List (Nd × Bool)) (fs xs : List Nat) (pl : Nat → Nat → Nat) (h : TW w P Q m0 lim tk An cn Af cf ns fs root pl xs) (k : Nat) (hk : k < 18446744073709551616) :
    Calls Tryd.prog 23 #[.pointer (some ⟨P, 0, none⟩), .int .u64 (k : Int)] w (InsertP w P Q m0 lim (TBk P Q m0 An Af ns) xs k) := by
  have hP0 := cell_of_row w P 0 _ _ (0, 0) h.row
  simp at hP0
  have hst := Lib.hid (x_start w m0 tk h.mx)
  have hPlt := row_lt h.row
  have H := Lib.hid h
  obtain ⟨m, hm⟩ : ∃ m, T.wl xs k = m := ⟨_, rfl⟩
  have hm11 : m ≤ 11 := by rw [← hm]; exact T.wl_le xs k
  have HMM := Lib.hid hm
  have hne := Lib.hid h.ne_m
  have hlim := h.po.lim_le
  have hwr : IntKind.i64.wrap (11 - (m : Int)) = 11 - (m : Int) := IntWalk.i64_in _ (by omega)
  have hz : T.prs xs 0 (T.pre 0 k) ↔ xs ≠ [] := T.prs_zero hk h.lt
  have HZ := Lib.hid hz
  clear h hm hz
  by_cases hx : k ∈ xs
  · have HXX := Lib.hid hx
    have hfo : K.fo xs k = true := (K.fo_mem H.out.up k).2 hx
    have HFO := Lib.hid hfo
    clear hx hfo
    go_enter Tryd.func23, Tryd.ntmps23
    go_wp2_with (first
      | (go_at_call 45; (with_reducible refine hst.out.mono ?_); rintro e w1 ⟨rfl, hm1, hc1⟩
         have HC1 := Lib.hid hc1
         have HT1 := Lib.hid (H.out.met hc1 hm1)
         have hP1 := cell_of_row w1 P 1 _ _ (0, 0) HT1.out.row
         simp at hP1
         clear hm1 hc1)
      | (go_at_call 46; (with_reducible refine (t_walk_at w1 P Q m0 lim 0 root cn cf An Af ns fs xs pl HT1.out k hk (by omega)).mono ?_); rintro e w2 ⟨Aw, cw, rfl, hw2, hm2, hc2⟩
         rw [HMM.out] at hw2 hm2 ⊢
         have HW2 := Lib.hid hw2
         have HC2 := Lib.hid (HC1.out.same hc2)
         have HT2 := Lib.hid (HT1.out.met hc2 hm2)
         clear hw2 hm2 hc2)
      | (go_at_call 48; (with_reducible refine (t_found w2 HT2.out k hk _ m cw Aw HMM.out.symm HW2.out).mono ?_); rintro e w3 ⟨rfl, N, rfl⟩; rw [decide_eq_true HXX.out]))
    go_ret
    unfold InsertP K.inE K.inL
    rw [if_pos HFO.out, if_pos HFO.out]
    exact ⟨rfl, 0 + 1 * m, by omega, (HT2.out.drew N).same ((HC2.out.mono (fun j hj => .inr (.inl hj))).drewN N) (fun b hb => .inl hb)⟩
  · have HXX := Lib.hid hx
    have hfo : ¬ K.fo xs k = true := fun h => hx ((K.fo_mem H.out.up k).1 h)
    have HFO := Lib.hid hfo
    have hta : Hid (K.trie (K.add xs k) = K.trie xs + (11 - m)) := Lib.hid (by
      have := T.trie_add H.out.up (k := k) (m := m) hm11 (fun l hl => T.wl_yes (by rw [HMM.out]; exact hl)) (fun hl => by
        have := T.wl_no (xs := xs) (k := k) (by rw [HMM.out]; exact hl)
        rwa [HMM.out] at this) HZ.out
      exact this)
    have hus := H.out.used
    clear hx hfo
    by_cases hr : K.trie xs + (11 - m) ≤ lim
    · have hd : decide ((11 : Int) - (m : Int) ≤ (lim : Int) - ((ns.length - fs.length : Nat) : Int)) = true := decide_eq_true (by omega)
      have HR := Lib.hid hr
      have HU := Lib.hid hus
      clear hr hus
      go_enter Tryd.func23, Tryd.ntmps23
      go_wp2_with (first
        | (go_at_call 45; (with_reducible refine hst.out.mono ?_); rintro e w1 ⟨rfl, hm1, hc1⟩
           have HC1 := Lib.hid hc1
           have HT1 := Lib.hid (H.out.met hc1 hm1)
           have hP1 := cell_of_row w1 P 1 _ _ (0, 0) HT1.out.row
           simp at hP1
           clear hm1 hc1)
        | (go_at_call 46; (with_reducible refine (t_walk_at w1 P Q m0 lim 0 root cn cf An Af ns fs xs pl HT1.out k hk (by omega)).mono ?_); rintro e w2 ⟨Aw, cw, rfl, hw2, hm2, hc2⟩
           rw [HMM.out] at hw2 hm2 ⊢
           have HW2 := Lib.hid hw2
           have HC2 := Lib.hid (HC1.out.same hc2)
           have HT2 := Lib.hid (HT1.out.met hc2 hm2)
           clear hw2 hm2 hc2)
        | (go_at_call 48; (with_reducible refine (t_found w2 HT2.out k hk _ m cw Aw HMM.out.symm HW2.out).mono ?_); rintro e w3 ⟨rfl, N, rfl⟩; rw [decide_eq_false HXX.out]
           have HT3 := Lib.hid (HT2.out.drew N)
           have HC3 : Hid (K.Chg w (w2.drewN N) (· = m0)) := Lib.hid (HC2.out.drewN N)
           have HW3 : Hid ((w2.drewN N).ownsRow w1.heap.size 99 6 (.slice Aw m cw) m (sv (wst ns pl k m))) := Lib.hid (((chg_refl w2 (fun _ => False)).drewN N).own HW2.out (fun _ _ h => h))
           have hP3 := cell_of_row (w2.drewN N) P 1 _ _ (0, 0) HT3.out.row
           simp at hP3
           have hrm := Lib.hid (q_room (w2.drewN N) Q m0 lim cn cf An Af ns fs HT3.out.po (11 - (m : Int)))
           rw [hd] at hrm)
        | (go_at_call 49; (with_reducible refine hrm.out.mono ?_); rintro e w4 ⟨rfl, N4, rfl⟩
           have HT4 := Lib.hid (HT3.out.drew N4)
           have HC4 := Lib.hid (HC3.out.drewN N4)
           have HW4 := Lib.hid (((chg_refl (w2.drewN N) (fun _ => False)).drewN N4).own HW3.out (fun _ _ h => h))
           clear HT3 HC3 HW3 hP3 hrm)
        | (go_at_call 50; (with_reducible refine (t_grow (w2.drewN (N + N4)) P Q m0 lim (0 + 1 * m) root cn cf An Af ns fs xs pl (HT2.out.drew _) k hk HXX.out w1.heap.size m cw Aw HMM.out.symm (((chg_refl w2 (fun _ => False)).drewN (N + N4)).own HW2.out (fun _ _ h => h)) (by have := HU.out; have := HR.out; omega)).mono ?_); rintro e w5 ⟨rfl, hg⟩; have HG := Lib.hid hg; clear hg))
      go_ret
      obtain ⟨An4, cn4, Af4, cf4, ns4, fs4, root4, pl4, hT5, hC5, hB5⟩ := HG.out
      unfold InsertP K.inE K.inL
      rw [if_neg HFO.out, if_neg HFO.out, if_neg (by rw [hta.out]; exact Nat.not_lt.2 HR.out), if_neg (by rw [hta.out]; exact Nat.not_lt.2 HR.out)]
      have hC4 : K.Chg w (w2.drewN (N + N4)) (TBk P Q m0 An Af ns) := (HC2.out.mono (fun j hj => .inr (.inl hj))).drewN _
      refine ⟨rfl, 0 + 1 * m, by omega, An4, cn4, Af4, cf4, ns4, fs4, root4, pl4, hT5, hC4.same hC5, fun b hb => ?_⟩
      rcases hB5 b hb with h | h
      · exact .inl h
      · exact .inr (Nat.le_trans hC4.size h)
    · have hd : decide ((11 : Int) - (m : Int) ≤ (lim : Int) - ((ns.length - fs.length : Nat) : Int)) = false := decide_eq_false (by omega)
      have HR := Lib.hid hr
      have HU := Lib.hid hus
      clear hr hus
      go_enter Tryd.func23, Tryd.ntmps23
      go_wp2_with (first
        | (go_at_call 45; (with_reducible refine hst.out.mono ?_); rintro e w1 ⟨rfl, hm1, hc1⟩
           have HC1 := Lib.hid hc1
           have HT1 := Lib.hid (H.out.met hc1 hm1)
           have hP1 := cell_of_row w1 P 1 _ _ (0, 0) HT1.out.row
           simp at hP1
           clear hm1 hc1)
        | (go_at_call 46; (with_reducible refine (t_walk_at w1 P Q m0 lim 0 root cn cf An Af ns fs xs pl HT1.out k hk (by omega)).mono ?_); rintro e w2 ⟨Aw, cw, rfl, hw2, hm2, hc2⟩
           rw [HMM.out] at hw2 hm2 ⊢
           have HW2 := Lib.hid hw2
           have HC2 := Lib.hid (HC1.out.same hc2)
           have HT2 := Lib.hid (HT1.out.met hc2 hm2)
           clear hw2 hm2 hc2)
        | (go_at_call 48; (with_reducible refine (t_found w2 HT2.out k hk _ m cw Aw HMM.out.symm HW2.out).mono ?_); rintro e w3 ⟨rfl, N, rfl⟩; rw [decide_eq_false HXX.out]
           have HT3 := Lib.hid (HT2.out.drew N)
           have HC3 : Hid (K.Chg w (w2.drewN N) (· = m0)) := Lib.hid (HC2.out.drewN N)
           have HW3 : Hid ((w2.drewN N).ownsRow w1.heap.size 99 6 (.slice Aw m cw) m (sv (wst ns pl k m))) := Lib.hid (((chg_refl w2 (fun _ => False)).drewN N).own HW2.out (fun _ _ h => h))
           have hP3 := cell_of_row (w2.drewN N) P 1 _ _ (0, 0) HT3.out.row
           simp at hP3
           have hrm := Lib.hid (q_room (w2.drewN N) Q m0 lim cn cf An Af ns fs HT3.out.po (11 - (m : Int)))
           rw [hd] at hrm)
        | (go_at_call 49; (with_reducible refine hrm.out.mono ?_); rintro e w4 ⟨rfl, N4, rfl⟩
           have HT4 := Lib.hid (HT3.out.drew N4)
           have HC4 := Lib.hid (HC3.out.drewN N4)
           have HW4 := Lib.hid (((chg_refl (w2.drewN N) (fun _ => False)).drewN N4).own HW3.out (fun _ _ h => h))))
      go_ret
      unfold InsertP K.inE K.inL
      rw [if_neg HFO.out, if_neg HFO.out, if_pos (by rw [hta.out]; exact Nat.lt_of_not_le HR.out), if_pos (by rw [hta.out]; exact Nat.lt_of_not_le HR.out)]
      exact ⟨rfl, 0 + 1 * m, by omega, (HT2.out.drew (N + N4)).same ((HC2.out.mono (fun j hj => .inr (.inl hj))).drewN (N + N4)) (fun b hb => .inl hb)⟩
end Go.Proofs.YtndielncleohlaaDoor
