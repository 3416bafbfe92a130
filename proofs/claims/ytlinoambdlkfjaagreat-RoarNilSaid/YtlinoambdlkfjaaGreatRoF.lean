
/- The law RoarNil: awake, and the law; the texts walked. -/
import Derived.Test.YtlinoambdlkfjaaGreatRoC
import Derived.Test.YtlinoambdlkfjaaGreatRoN
import Derived.Test.YtlinoambdlkfjaaGreatRoE
namespace Go.Proofs.YtlinoambdlkfjaaGreat
open Go.RowKit
set_option maxHeartbeats 8000000 in
theorem awake_any (w : World) : Calls Tryz.prog 4 #[] w fun e w' => e = .returned (.bool true) ∧ Below w.heap.size w w' := by
  have HN : Hid (Calls Tryz.prog 5 #[.int .i64 4000] w fun e w' => ∃ P G, e = .returned (.tuple #[.pointer (some ⟨P, 0, none⟩), .int .i64 0]) ∧ R0 w' P G ∧ w.heap.size ≤ P ∧ w.heap.size ≤ G ∧ Below w.heap.size w w') := Lib.hid ((new_yes w 4000 (by decide) (by decide)).mono (by
    rintro e w' ⟨P, G, rfl, h1, h2, h3, h4, h5⟩
    exact ⟨P, G, rfl, ⟨h1, h2⟩, h3, h4, h5⟩))
  go_enter Tryz.func4, Tryz.ntmps4
  go_wp2_with (first
    | (go_at_call 5; (with_reducible refine HN.out.mono ?_); rintro e w1 ⟨P, G, rfl, h1, lP, lG, hb⟩
       have HF : Hid (Calls Tryz.prog 11 #[.pointer (some ⟨P, 0, none⟩), .int .u64 5] w1 fun e w' => e = .returned (.int .i64 0) ∧ ∃ B L X Q c, R1 w' P G B L X Q c [5] ∧ ButS w1 w' (fun j => j = P ∨ j = G) ∧ w1.heap.size ≤ B ∧ w1.heap.size ≤ X ∧ w1.heap.size ≤ Q) := Lib.hid (insert_first w1 P G 5 h1 (by decide))
       have B1 := Lib.hid hb
       have LP := Lib.hid lP
       have LG := Lib.hid lG
       clear h1 hb lP lG)
    | (go_at_call 11; (with_reducible refine HF.out.mono ?_); rintro e w2 ⟨rfl, B, L, X, Q, c, h2, s2, lB, lX, lQ⟩
       have HG : Hid (Calls Tryz.prog 11 #[.pointer (some ⟨P, 0, none⟩), .int .u64 9] w2 fun e w' => e = .returned (.int .i64 0) ∧ R1 w' P G B L X Q c [5, 9] ∧ ButS w2 w' (fun j => j = P ∨ j = G ∨ j = X ∨ j = B ∨ j = Q)) := Lib.hid (insert_one w2 P G B L X Q c 9 [5] [5, 9] false h2 (by decide) (by decide) (by decide) (by decide) (fun _ => ⟨by decide, fun y => by simp, rfl⟩) (fun e => by cases e))
       have S2 := Lib.hid s2
       have LB := Lib.hid lB
       have LX := Lib.hid lX
       have LQ := Lib.hid lQ
       clear h2 s2 lB lX lQ)
    | (go_at_call 11; (with_reducible refine HG.out.mono ?_); rintro e w3 ⟨rfl, h3, s3⟩
       have HH : Hid (Calls Tryz.prog 11 #[.pointer (some ⟨P, 0, none⟩), .int .u64 9] w3 fun e w' => e = .returned (.int .i64 4) ∧ R1 w' P G B L X Q c [5, 9] ∧ ButS w3 w' (fun j => j = P ∨ j = G ∨ j = X ∨ j = B ∨ j = Q)) := Lib.hid (insert_one w3 P G B L X Q c 9 [5, 9] [5, 9] true h3 (by decide) (by decide) (by decide) (by decide) (fun e => by cases e) (fun _ => rfl))
       have S3 := Lib.hid s3
       clear h3 s3)
    | (go_at_call 11; (with_reducible refine HH.out.mono ?_); rintro e w4 ⟨rfl, h4, s4⟩
       have HX : Hid (Calls Tryz.prog 6 #[.pointer (some ⟨P, 0, none⟩), .int .u64 6] w4 fun e w' => e = .returned (.tuple #[.int .u64 9, .bool true]) ∧ R1 w' P G B L X Q c [5, 9] ∧ ButS w4 w' (· = G)) := Lib.hid (next_one w4 P G B L X Q c 6 9 [5, 9] h4 (by decide) (by decide) (by decide))
       have S4 := Lib.hid s4
       clear h4 s4)
    | (go_at_call 6; (with_reducible refine HX.out.mono ?_); rintro e w5 ⟨rfl, h5, s5⟩
       have HV : Hid (Calls Tryz.prog 7 #[.pointer (some ⟨P, 0, none⟩), .int .u64 8] w5 fun e w' => e = .returned (.tuple #[.int .u64 5, .bool true]) ∧ R1 w' P G B L X Q c [5, 9] ∧ ButS w5 w' (· = G)) := Lib.hid (prev_one w5 P G B L X Q c 8 5 [5, 9] h5 (by decide) (by decide) (by decide))
       have S5 := Lib.hid s5
       clear h5 s5)
    | (go_at_call 7; (with_reducible refine HV.out.mono ?_); rintro e w6 ⟨rfl, h6, s6⟩
       have HL : Hid (Calls Tryz.prog 14 #[.pointer (some ⟨P, 0, none⟩)] w6 fun e w' => e = .returned (.int .i64 2) ∧ w6 = w') := Lib.hid (len_one w6 P G B L X Q c [5, 9] h6)
       have S6 := Lib.hid s6
       clear h6 s6)
    | (go_at_call 14; (with_reducible refine HL.out.mono ?_); rintro e w7 ⟨rfl, rfl⟩))
  go_ret
  have z1 := B1.out.size
  have c2 : Below w.heap.size w w2 := ((ButS.of_below (S := fun j => w.heap.size ≤ j) B1.out (Nat.le_refl _)).trans (S2.out.mono (fun j _ e => by have := LP.out; have := LG.out; rcases e with e | e <;> omega))).below (Nat.le_refl _) (fun j e => e)
  have lo : ∀ j, (j = P ∨ j = G ∨ j = X ∨ j = B ∨ j = Q) → w.heap.size ≤ j := fun j e => by
    have := LP.out; have := LG.out; have := LX.out; have := LB.out; have := LQ.out
    rcases e with e | e | e | e | e <;> omega
  have c6 := ((((ButS.of_below (S := fun j => w.heap.size ≤ j) c2 (Nat.le_refl _)).trans (S3.out.mono (fun j _ e => lo j e))).trans (S4.out.mono (fun j _ e => lo j e))).trans (S5.out.mono (fun j _ e => lo j (.inr (.inl e))))).trans (S6.out.mono (fun j _ e => lo j (.inr (.inl e))))
  exact ⟨rfl, c6.below (Nat.le_refl _) (fun j e => e)⟩
set_option maxHeartbeats 4000000 in
theorem law_nil (k : Nat) (n : Int) (w : World) :
    Calls Tryz.prog 3 #[.int .u64 (k : Int), .int .i64 n] w fun e w' => e = .returned (.bool true) ∧ Below w.heap.size w w' := by
  have HA := fun w => Lib.hid (awake_any w)
  by_cases h0 : 0 ≤ n
  · have g0 : decide (0 ≤ n) = true := decide_eq_true h0
    by_cases h1 : n ≤ 1048576
    · have g1 : decide (n ≤ 1048576) = true := decide_eq_true h1
      have HN := fun w => Lib.hid (new_yes w n h0 h1)
      clear h0 h1
      go_enter Tryz.func3, Tryz.ntmps3
      go_wp2_with (first
        | (go_at_call 4; (with_reducible refine (HA _).out.mono ?_); rintro e w1 ⟨rfl, hb1⟩; have B1 := Lib.hid hb1; clear hb1)
        | (go_at_call 5; (with_reducible refine (HN _).out.mono ?_); rintro e w2 ⟨P, G, rfl, _, _, _, _, hb2⟩; have B2 := Lib.hid hb2; clear hb2)
        | (go_at_call 6; (with_reducible refine (n_next _ _).mono ?_); rintro e w' ⟨rfl, rfl⟩)
        | (go_at_call 7; (with_reducible refine (n_prev _ _).mono ?_); rintro e w' ⟨rfl, rfl⟩)
        | (go_at_call 8; (with_reducible refine (n_min _).mono ?_); rintro e w' ⟨rfl, rfl⟩)
        | (go_at_call 9; (with_reducible refine (n_max _).mono ?_); rintro e w' ⟨rfl, rfl⟩)
        | (go_at_call 10; (with_reducible refine (n_clear _).mono ?_); rintro e w' ⟨rfl, rfl⟩)
        | (go_at_call 11; (with_reducible refine (n_insert _ _).mono ?_); rintro e w3 ⟨rfl, hb3⟩; have B3 := Lib.hid hb3; clear hb3)
        | (go_at_call 12; (with_reducible refine (n_delete _ _).mono ?_); rintro e w4 ⟨rfl, hb4⟩; have B4 := Lib.hid hb4; clear hb4)
        | (go_at_call 13; (with_reducible refine (n_has _ _).mono ?_); rintro e w' ⟨rfl, rfl⟩)
        | (go_at_call 14; (with_reducible refine (n_len _).mono ?_); rintro e w' ⟨rfl, rfl⟩)
        | (go_at_call 15; (with_reducible refine (n_used _).mono ?_); rintro e w' ⟨rfl, rfl⟩)
        | (go_at_call 16; (with_reducible refine (n_limit _).mono ?_); rintro e w' ⟨rfl, rfl⟩)
        | (go_at_call 17; (with_reducible refine (law_all_nil _ _).mono ?_); rintro e w5 ⟨rfl, hb5⟩; have B5 := Lib.hid hb5; clear hb5))
      go_ret
      have c2 := B1.out.trans (B2.out.mono B1.out.size)
      have c3 := c2.trans (B3.out.mono c2.size)
      have c4 := c3.trans (B4.out.mono c3.size)
      exact ⟨rfl, c4.trans (B5.out.mono c4.size)⟩
    · have g1 : decide (n ≤ 1048576) = false := decide_eq_false h1
      have HN := fun w => Lib.hid ((new_no w n (fun h => h1 h.2)).mono (fun e w' h => (And.intro h.1 (h.2 ▸ Below.refl _ w) : _ ∧ Below w.heap.size w w')))
      clear h0 h1
      go_enter Tryz.func3, Tryz.ntmps3
      go_wp2_with (first
        | (go_at_call 4; (with_reducible refine (HA _).out.mono ?_); rintro e w1 ⟨rfl, hb1⟩; have B1 := Lib.hid hb1; clear hb1)
        | (go_at_call 5; (with_reducible refine (HN _).out.mono ?_); rintro e w2 ⟨rfl, hb2⟩; have B2 := Lib.hid hb2; clear hb2)
        | (go_at_call 6; (with_reducible refine (n_next _ _).mono ?_); rintro e w' ⟨rfl, rfl⟩)
        | (go_at_call 7; (with_reducible refine (n_prev _ _).mono ?_); rintro e w' ⟨rfl, rfl⟩)
        | (go_at_call 8; (with_reducible refine (n_min _).mono ?_); rintro e w' ⟨rfl, rfl⟩)
        | (go_at_call 9; (with_reducible refine (n_max _).mono ?_); rintro e w' ⟨rfl, rfl⟩)
        | (go_at_call 10; (with_reducible refine (n_clear _).mono ?_); rintro e w' ⟨rfl, rfl⟩)
        | (go_at_call 11; (with_reducible refine (n_insert _ _).mono ?_); rintro e w3 ⟨rfl, hb3⟩; have B3 := Lib.hid hb3; clear hb3)
        | (go_at_call 12; (with_reducible refine (n_delete _ _).mono ?_); rintro e w4 ⟨rfl, hb4⟩; have B4 := Lib.hid hb4; clear hb4)
        | (go_at_call 13; (with_reducible refine (n_has _ _).mono ?_); rintro e w' ⟨rfl, rfl⟩)
        | (go_at_call 14; (with_reducible refine (n_len _).mono ?_); rintro e w' ⟨rfl, rfl⟩)
        | (go_at_call 15; (with_reducible refine (n_used _).mono ?_); rintro e w' ⟨rfl, rfl⟩)
        | (go_at_call 16; (with_reducible refine (n_limit _).mono ?_); rintro e w' ⟨rfl, rfl⟩)
        | (go_at_call 17; (with_reducible refine (law_all_nil _ _).mono ?_); rintro e w5 ⟨rfl, hb5⟩; have B5 := Lib.hid hb5; clear hb5))
      go_ret
      have c2 := B1.out.trans (B2.out.mono B1.out.size)
      have c3 := c2.trans (B3.out.mono c2.size)
      have c4 := c3.trans (B4.out.mono c3.size)
      exact ⟨rfl, c4.trans (B5.out.mono c4.size)⟩
  · have g0 : decide (0 ≤ n) = false := decide_eq_false h0
    have HN := fun w => Lib.hid ((new_no w n (fun h => h0 h.1)).mono (fun e w' h => (And.intro h.1 (h.2 ▸ Below.refl _ w) : _ ∧ Below w.heap.size w w')))
    clear h0
    go_enter Tryz.func3, Tryz.ntmps3
    go_wp2_with (first
      | (go_at_call 4; (with_reducible refine (HA _).out.mono ?_); rintro e w1 ⟨rfl, hb1⟩; have B1 := Lib.hid hb1; clear hb1)
      | (go_at_call 5; (with_reducible refine (HN _).out.mono ?_); rintro e w2 ⟨rfl, hb2⟩; have B2 := Lib.hid hb2; clear hb2)
      | (go_at_call 6; (with_reducible refine (n_next _ _).mono ?_); rintro e w' ⟨rfl, rfl⟩)
      | (go_at_call 7; (with_reducible refine (n_prev _ _).mono ?_); rintro e w' ⟨rfl, rfl⟩)
      | (go_at_call 8; (with_reducible refine (n_min _).mono ?_); rintro e w' ⟨rfl, rfl⟩)
      | (go_at_call 9; (with_reducible refine (n_max _).mono ?_); rintro e w' ⟨rfl, rfl⟩)
      | (go_at_call 10; (with_reducible refine (n_clear _).mono ?_); rintro e w' ⟨rfl, rfl⟩)
      | (go_at_call 11; (with_reducible refine (n_insert _ _).mono ?_); rintro e w3 ⟨rfl, hb3⟩; have B3 := Lib.hid hb3; clear hb3)
      | (go_at_call 12; (with_reducible refine (n_delete _ _).mono ?_); rintro e w4 ⟨rfl, hb4⟩; have B4 := Lib.hid hb4; clear hb4)
      | (go_at_call 13; (with_reducible refine (n_has _ _).mono ?_); rintro e w' ⟨rfl, rfl⟩)
      | (go_at_call 14; (with_reducible refine (n_len _).mono ?_); rintro e w' ⟨rfl, rfl⟩)
      | (go_at_call 15; (with_reducible refine (n_used _).mono ?_); rintro e w' ⟨rfl, rfl⟩)
      | (go_at_call 16; (with_reducible refine (n_limit _).mono ?_); rintro e w' ⟨rfl, rfl⟩)
      | (go_at_call 17; (with_reducible refine (law_all_nil _ _).mono ?_); rintro e w5 ⟨rfl, hb5⟩; have B5 := Lib.hid hb5; clear hb5))
    go_ret
    have c2 := B1.out.trans (B2.out.mono B1.out.size)
    have c3 := c2.trans (B3.out.mono c2.size)
    have c4 := c3.trans (B4.out.mono c3.size)
    exact ⟨rfl, c4.trans (B5.out.mono c4.size)⟩
end Go.Proofs.YtlinoambdlkfjaaGreat
