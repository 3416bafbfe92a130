/- Delete: what it answers, and leaves; the text walked. -/
import Derived.Test.YtbiingpdchoppaaDoorMxU29
import Derived.Test.YtbiingpdchoppaaDoorMgU
namespace Go.Proofs.YtbiingpdchoppaaDoor
set_option maxRecDepth 40000
open Go.RowKit
def DeleteP (w : World) (P Q m0 lim : Nat) (TB0 : Nat → Prop) (xs : List Nat) (k : Nat) (e : Ending) (w' : World) : Prop :=
  e = .returned (.int .i64 (((if K.fo xs k then 0 else 3 : Nat)) : Int)) ∧ ∃ tk, tk ≤ 13 ∧ TWs w w' P Q m0 lim TB0 (K.drop xs k) tk
set_option maxHeartbeats 4000000 in
theorem t_delete (w : World) (P Q m0 lim tk root cn cf : Nat) (An Af : Option Addr) (ns : List (Nd × Bool)) (fs xs : List Nat) (pl : Nat → Nat → Nat) (h : TW w P Q m0 lim tk An cn Af cf ns fs root pl xs) (hT : Tab w) (k : Nat) (hk : k < 18446744073709551616) :
    Calls Tryd.prog 25 #[.pointer (some ⟨P, 0, none⟩), .int .u64 (k : Int)] w (DeleteP w P Q m0 lim (TBk P Q m0 An Af ns) xs k) := by
  have hP0 := cell_of_row w P 0 _ _ (0, 0) h.row
  simp at hP0
  have hst := Lib.hid (x_start w m0 tk h.mx)
  have H := Lib.hid h
  obtain ⟨m, hm⟩ : ∃ m, T.wl xs k = m := ⟨_, rfl⟩
  have hm11 : m ≤ 11 := by rw [← hm]; exact T.wl_le xs k
  have HMM := Lib.hid hm
  have hTn := Lib.hid (hT.ne_m h.mx)
  have HTB := Lib.hid hT
  clear h hm hT
  by_cases hx : k ∈ xs
  · have HXX := Lib.hid hx
    have hfo : K.fo xs k = true := (K.fo_mem H.out.up k).2 hx
    have HFO := Lib.hid hfo
    have h11 : m = 11 := by
      rcases Nat.lt_or_ge m 11 with h1 | h1
      · have := HMM.out
        exact absurd ⟨k, hx, rfl⟩ (T.wl_no (xs := xs) (k := k) (by omega))
      · omega
    subst h11
    clear hx hfo
    go_enter Tryd.func25, Tryd.ntmps25
    go_wp2_with (first
      | (go_at_call 45; (with_reducible refine hst.out.mono ?_); rintro e w1 ⟨rfl, hm1, hc1⟩
         have HC1 := Lib.hid hc1
         have HT1 := Lib.hid (H.out.met hc1 hm1)
         have hP1 := cell_of_row w1 P 1 _ _ (0, 0) HT1.out.row
         simp at hP1
         clear hm1 hc1)
      | (go_at_call 46; (with_reducible refine (t_walk_at w1 P Q m0 lim 0 root cn cf An Af ns fs xs pl HT1.out k hk (by omega)).mono ?_); rintro e w2 ⟨Aw, cw, rfl, hw2, hm2, hc2⟩
         rw [HMM.out] at hw2 hm2 ⊢
         have HW2 := Lib.hid hw2
         have HC2 := Lib.hid (HC1.out.same hc2)
         have HT2 := Lib.hid (HT1.out.met hc2 hm2)
         clear hw2 hm2 hc2)
      | (go_at_call 48; (with_reducible refine (t_found w2 HT2.out k hk _ 11 cw Aw HMM.out.symm HW2.out).mono ?_); rintro e w3 ⟨rfl, N, rfl⟩; rw [decide_eq_true HXX.out])
      | (go_at_call 51; (with_reducible refine (t_shrink (w2.drewN N) P Q m0 lim (0 + 1 * 11) root cn cf An Af ns fs xs pl (HT2.out.drew N) (by omega) ((HTB.out.chg HC2.out hTn.out).drew N) k hk HXX.out cw Aw (K.own_base (((chg_refl w2 (fun _ => False)).drewN N).own HW2.out (fun _ _ h => h)) (Nat.zero_le _))).mono ?_); rintro e w5 ⟨tk5, htk5, rfl, hg⟩; have HG := Lib.hid hg; clear hg))
    go_ret
    obtain ⟨An4, cn4, Af4, cf4, ns4, fs4, root4, pl4, hT5, hC5, hB5⟩ := HG.out
    unfold DeleteP
    rw [if_pos HFO.out]
    have hC4 : K.Chg w (w2.drewN N) (TBk P Q m0 An Af ns) := (HC2.out.mono (fun j hj => .inr (.inl hj))).drewN _
    refine ⟨rfl, tk5, by omega, An4, cn4, Af4, cf4, ns4, fs4, root4, pl4, hT5, hC4.same hC5, fun b hb => ?_⟩
    rcases hB5 b hb with h | h
    · exact .inl h
    · exact .inr (Nat.le_trans hC4.size h)
  · have HXX := Lib.hid hx
    have hfo : ¬ K.fo xs k = true := fun h => hx ((K.fo_mem H.out.up k).1 h)
    have HFO := Lib.hid hfo
    clear hx hfo
    go_enter Tryd.func25, Tryd.ntmps25
    go_wp2_with (first
      | (go_at_call 45; (with_reducible refine hst.out.mono ?_); rintro e w1 ⟨rfl, hm1, hc1⟩
         have HC1 := Lib.hid hc1
         have HT1 := Lib.hid (H.out.met hc1 hm1)
         have hP1 := cell_of_row w1 P 1 _ _ (0, 0) HT1.out.row
         simp at hP1
         clear hm1 hc1)
      | (go_at_call 46; (with_reducible refine (t_walk_at w1 P Q m0 lim 0 root cn cf An Af ns fs xs pl HT1.out k hk (by omega)).mono ?_); rintro e w2 ⟨Aw, cw, rfl, hw2, hm2, hc2⟩
         rw [HMM.out] at hw2 hm2 ⊢
         have HW2 := Lib.hid hw2
         have HC2 := Lib.hid (HC1.out.same hc2)
         have HT2 := Lib.hid (HT1.out.met hc2 hm2)
         clear hw2 hm2 hc2)
      | (go_at_call 48; (with_reducible refine (t_found w2 HT2.out k hk _ m cw Aw HMM.out.symm HW2.out).mono ?_); rintro e w3 ⟨rfl, N, rfl⟩; rw [decide_eq_false HXX.out]))
    go_ret
    unfold DeleteP K.drop
    rw [if_neg HFO.out, if_neg HFO.out]
    exact ⟨rfl, 0 + 1 * m, by omega, (HT2.out.drew N).same ((HC2.out.mono (fun j hj => .inr (.inl hj))).drewN N) (fun b hb => .inl hb)⟩
end Go.Proofs.YtbiingpdchoppaaDoor
