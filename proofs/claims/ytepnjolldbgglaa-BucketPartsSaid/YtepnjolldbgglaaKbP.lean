
/- The law BucketBack, walked. -/
import Derived.Test.YtepnjolldbgglaaKbN
namespace Go.Proofs.Ytepnjolldbgglaa.Kb
open Go.RowKit
theorem drop_add' {xs : List Nat} (hu : K.Up xs) {k : Nat} (h : K.fo xs k = false) : K.drop (K.add xs k) k = xs :=
  up_eq (K.drop_up (K.add_up hu k) k) hu fun x => by
    rw [K.drop_mem (K.add_up hu k), K.add_mem hu]
    constructor
    · rintro ⟨h1, h2 | h2⟩
      · exact absurd h2 h1
      · exact h2
    · exact fun h2 => ⟨fun e => (by subst e; rw [(K.fo_mem hu _).2 h2] at h; cases h), .inr h2⟩
theorem fo_no {xs : List Nat} (hu : K.Up xs) {k : Nat} : K.fo xs k = false ↔ ¬ k ∈ xs := by rw [← K.fo_mem hu k]; simp
theorem halves {ys : List Nat} (hu : K.Up ys) {k : Nat} (hk : k ∈ ys) (m : Nat) : (K.fo (ys.take m) k = true ∧ K.fo (ys.drop m) k = false) ∨ (K.fo (ys.take m) k = false ∧ K.fo (ys.drop m) k = true) := by
  have h1 : K.Up (ys.take m) := List.Pairwise.sublist (List.take_sublist _ _) hu
  have h2 : K.Up (ys.drop m) := List.Pairwise.sublist (List.drop_sublist _ _) hu
  rw [K.fo_mem h1, K.fo_mem h2, fo_no h1, fo_no h2]
  have h3 : ys.take m ++ ys.drop m = ys := List.take_append_drop m ys
  have h4 : K.Up (ys.take m ++ ys.drop m) := by rw [h3]; exact hu
  rw [← h3, List.mem_append] at hk
  have h5 := (List.pairwise_append.1 h4).2.2
  rcases hk with h | h
  · exact .inl ⟨h, fun h' => absurd (h5 _ h _ h') (Nat.lt_irrefl _)⟩
  · exact .inr ⟨fun h' => absurd (h5 _ h' _ h) (Nat.lt_irrefl _), h⟩
theorem BS.start (w : World) : BS w w [] := ⟨Below.refl _ _, fun p hp => by cases hp⟩
set_option maxHeartbeats 8000000 in
set_option maxRecDepth 100000 in
theorem law_back (A : Option Addr) (cp : Nat) (l : List Nat) (k : Nat) (w : World) (hr : Rw w w.heap.size A l) (hl : l.length ≤ 9223372036854775807) :
    Calls Try.prog 5 #[.slice A l.length cp, .int .u64 (k : Int)] w fun e w' => e = .returned (.bool true) ∧ Below w.heap.size w w' := by
  obtain ⟨zs0, hz0⟩ : ∃ zs0, l.take 120 = zs0 := ⟨_, rfl⟩
  have hwd : Hid (∀ W, BS w W [] → Calls Try.prog 7 #[.slice A l.length cp, .int .i64 120] W fun e w' => ∃ A' c', e = .returned (.slice A' zs0.length c') ∧ BS w w' [(.slice A' zs0.length c', zs0)]) := Lib.hid fun W h => bs_words h A cp l 120 hr hl (by omega) hz0
  have hl0 : zs0.length ≤ 120 := by rw [← hz0, List.length_take]; omega
  obtain ⟨xs, hxs⟩ : ∃ xs, K.off zs0 = xs := ⟨_, rfl⟩
  have hux : K.Up xs := by rw [← hxs]; exact off_up' _
  have hlx : xs.length ≤ 120 := by rw [← hxs]; exact Nat.le_trans (off_len' _) hl0
  obtain ⟨ys, hys⟩ : ∃ ys, K.add xs k = ys := ⟨_, rfl⟩
  have huy : K.Up ys := by rw [← hys]; exact K.add_up hux k
  have hly : ys.length ≤ 121 := by rw [← hys]; exact Nat.le_trans (K.add_len xs k) (by omega)
  have hky : k ∈ ys := by rw [← hys]; exact (K.add_mem hux k k).2 (.inl rfl)
  have hfy : Hid (K.fo ys k = true) := (K.fo_mem huy k).2 hky
  obtain ⟨zs, hzs⟩ : ∃ zs, K.drop ys k = zs := ⟨_, rfl⟩
  have hlz : zs.length ≤ 121 := by
    rw [← hzs]
    have := M.up_len (iz_up (K.drop_up huy k)) (xs := iz ys) (fun y hy => by
      obtain ⟨j, hj, rfl⟩ := iz_mem.1 hy
      exact iz_mem'.2 ((K.drop_mem huy k j).1 hj).2)
    simp at this
    omega
  obtain ⟨m, hm⟩ : ∃ m, ys.length - ys.length / 2 = m := ⟨_, rfl⟩
  obtain ⟨a, ha⟩ : ∃ a, ys.take m = a := ⟨_, rfl⟩
  obtain ⟨b, hb⟩ : ∃ b, ys.drop m = b := ⟨_, rfl⟩
  have hab := halves huy hky m
  rw [ha, hb] at hab
  have hua : K.Up a := by rw [← ha]; exact List.Pairwise.sublist (List.take_sublist _ _) huy
  have hub : K.Up b := by rw [← hb]; exact List.Pairwise.sublist (List.drop_sublist _ _) huy
  have hla : a.length ≤ 121 := by rw [← ha, List.length_take]; omega
  have hlb : b.length ≤ 121 := by rw [← hb, List.length_drop]; omega
  have hmem : ∀ x, x ∈ ys ↔ x ∈ b ∨ x ∈ a := fun x => by rw [← ha, ← hb, ← or_comm, ← List.mem_append, List.take_append_drop]
  have HA := Lib.hid ha
  have HB := Lib.hid hb
  have HUX := Lib.hid hux
  have HUY := Lib.hid huy
  have HUA := Lib.hid (show decide (K.Up a) = true from decide_eq_true hua)
  have HUB := Lib.hid (show decide (K.Up b) = true from decide_eq_true hub)
  have HUA' := Lib.hid hua
  have HUB' := Lib.hid hub
  have HM := Lib.hid hmem
  have HT := Lib.hid (show ys.take (ys.length - ys.length / 2) = a by rw [hm]; exact ha)
  have HD := Lib.hid (show ys.drop (ys.length - ys.length / 2) = b by rw [hm]; exact hb)
  have HXS := Lib.hid hxs
  have HYS := Lib.hid hys
  have HZS := Lib.hid hzs
  obtain ⟨f, hf⟩ : ∃ f, (!K.fo xs k) = f := ⟨_, rfl⟩
  have HF := Lib.hid hf
  have hsame : Hid (f = true → decide (zs = xs) = true) := Lib.hid fun e => by
    rw [e] at hf
    have : zs = xs := by rw [← hzs, ← hys]; exact drop_add' hux (by simpa using hf)
    exact decide_eq_true this
  obtain ⟨g, hg⟩ : ∃ g, K.fo ys k = g := ⟨_, rfl⟩
  have HG := Lib.hid hg
  clear hux huy hua hub hmem hxs hys hzs ha hb hm hf hky hz0 hr hl hg
  have S0 := Lib.hid (BS.start w)
  rcases hab with ⟨q1, q2⟩ | ⟨q1, q2⟩ <;> cases f <;> (
    have Q1 := Lib.hid q1
    have Q2 := Lib.hid q2
    clear q1 q2
    go_enter Try.func5, Try.ntmps5
    go_wp2_with (first
      | (go_at_call 6; (with_reducible refine (awake_any w).mono ?_); rintro e w1 ⟨rfl, hb1⟩; have HS := Lib.hid (S0.out.below hb1); clear hb1)
      | (go_at_call 7; (with_reducible refine (hwd.out _ HS.out).mono ?_); rintro e w2 ⟨A2, c2, rfl, h2⟩; replace HS := Lib.hid h2; clear h2)
      | (go_at_call 8; (with_reducible refine (bs_rof (xs := zs0) (zs := xs) HS.out (by simp) (by omega) HXS.out).mono ?_); rintro e w3 ⟨A3, c3, rfl, h3⟩; replace HS := Lib.hid h3; clear h3)
      | (go_at_call 11; (with_reducible refine (bs_add (xs := xs) (ys := ys) HS.out (by simp) HUX.out (by omega) k HF.out HYS.out).mono ?_); rintro e w4 ⟨A4, c4, rfl, h4⟩; replace HS := Lib.hid h4; clear h4)
      | (go_at_call 12; (with_reducible refine (bs_drop (xs := ys) (ys := zs) HS.out (by simp) HUY.out (by omega) k hfy.out HZS.out).mono ?_); rintro e w5 ⟨A5, c5, rfl, h5⟩; replace HS := Lib.hid h5; clear h5)
      | (go_at_call 22; (with_reducible refine (bs_split (xs := ys) (a := a) (b := b) HS.out (by simp) (by omega) HT.out HD.out).mono ?_); rintro e w6 ⟨A6, c6, A7, c7, rfl, h6⟩; replace HS := Lib.hid h6; clear h6)
      | (go_at_call 19; (with_reducible refine (bs_has (v := .slice A4 ys.length c4) (xs := ys) (by first | exact HS.out | exact HS.out.drew | exact HS.out.drewN _) (by simp) HUY.out (by omega) k hfy.out).mono ?_); rintro e w7 ⟨rfl, h7⟩; replace HS := Lib.hid h7; clear h7)
      | (go_at_call 19; (with_reducible refine (bs_has (v := .slice A6 a.length c6) (xs := a) (by first | exact HS.out | exact HS.out.drew | exact HS.out.drewN _) (by simp) HUA'.out (by omega) k Q1.out).mono ?_); rintro e w8 ⟨rfl, h8⟩; replace HS := Lib.hid h8; clear h8)
      | (go_at_call 19; (with_reducible refine (bs_has (v := .slice A7 b.length c7) (xs := b) (by first | exact HS.out | exact HS.out.drew | exact HS.out.drewN _) (by simp) HUB'.out (by omega) k Q2.out).mono ?_); rintro e w9 ⟨rfl, h9⟩; replace HS := Lib.hid h9; clear h9)
      | (go_at_call 18; (with_reducible refine (bs_is (v := .slice A6 a.length c6) (xs := a) (by first | exact HS.out | exact HS.out.drew | exact HS.out.drewN _) (by simp) (by omega) HUA.out).mono ?_); rintro e w10 ⟨rfl, h10⟩; replace HS := Lib.hid h10; clear h10)
      | (go_at_call 18; (with_reducible refine (bs_is (v := .slice A7 b.length c7) (xs := b) (by first | exact HS.out | exact HS.out.drew | exact HS.out.drewN _) (by simp) (by omega) HUB.out).mono ?_); rintro e w11 ⟨rfl, h11⟩; replace HS := Lib.hid h11; clear h11)
      | (go_at_call 17; (with_reducible refine (bs_same (v := .slice A5 zs.length c5) (v2 := .slice A3 xs.length c3) (xs := zs) (ys := xs) (f := true) (by first | exact HS.out | exact HS.out.drew | exact HS.out.drewN _) (by simp) (by simp) (by omega) (by omega) (hsame.out (by first | exact rfl | exact trivial))).mono ?_); rintro e w12 ⟨rfl, h12⟩; replace HS := Lib.hid h12; clear h12)
      | (go_at_call 23; (with_reducible refine (bs_merge (v := .slice A7 b.length c7) (v2 := .slice A6 a.length c6) (xs := b) (ys := a) (zs := ys) (by first | exact HS.out | exact HS.out.drew | exact HS.out.drewN _) (by simp) (by simp) (by omega) (by omega) HUY.out HM.out).mono ?_); rintro e w13 ⟨A8, c8, rfl, h13⟩; replace HS := Lib.hid h13; clear h13)
      | (go_at_call 17; (with_reducible refine (bs_same (v := .slice A8 ys.length c8) (v2 := .slice A4 ys.length c4) (xs := ys) (ys := ys) (f := true) (by first | exact HS.out | exact HS.out.drew | exact HS.out.drewN _) (by simp) (by simp) (by omega) (by omega) (by simp)).mono ?_); rintro e w14 ⟨rfl, h14⟩; replace HS := Lib.hid h14; clear h14))
    go_ret
    exact ⟨rfl, HS.out.low⟩)
end Go.Proofs.Ytepnjolldbgglaa.Kb
