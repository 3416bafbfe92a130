
/- Values by keys: no slots; the document's example; the law SlotsNil; the texts walked. -/
import Derived.Test.YtihhkdcgnnfkkaaSlP4
namespace Go.Proofs.Ytihhkdcgnnfkkaa
set_option maxRecDepth 20000
open Go.RowKit
theorem sn_put (w : World) (k v : Value) : Calls Try.prog 13 #[.pointer none, k, v] w fun e w' => e = .returned (.tuple #[.bool false, .int .i64 3]) ∧ w = w' := by
  go_enter Try.func13, Try.ntmps13
  go_wp2
  go_ret2
  exact ⟨rfl, rfl⟩
theorem sn_get (w : World) (k : Value) : Calls Try.prog 11 #[.pointer none, k] w fun e w' => e = .returned (.tuple #[.int .u64 0, .bool false]) ∧ w = w' := by
  go_enter Try.func11, Try.ntmps11
  go_wp2
  go_ret2
  exact ⟨rfl, rfl⟩
theorem sn_drop (w : World) (k : Value) : Calls Try.prog 9 #[.pointer none, k] w fun e w' => e = .returned (.bool false) ∧ w = w' := by
  go_enter Try.func9, Try.ntmps9
  go_wp2
  go_ret
  exact ⟨rfl, rfl⟩
theorem sn_len (w : World) : Calls Try.prog 15 #[.pointer none] w fun e w' => e = .returned (.int .i64 0) ∧ w = w' := by
  go_enter Try.func15, Try.ntmps15
  go_wp2
  go_ret
  exact ⟨rfl, rfl⟩
theorem sn_room (w : World) (k : Value) : Calls Try.prog 16 #[.pointer none, k] w fun e w' => e = .returned (.bool false) ∧ w = w' := by
  go_enter Try.func16, Try.ntmps16
  go_wp2
  go_ret
  exact ⟨rfl, rfl⟩
theorem sn_clear (w : World) : Calls Try.prog 12 #[.pointer none] w fun e w' => e = .returned (.tuple #[]) ∧ w = w' := by
  go_enter Try.func12, Try.ntmps12
  go_wp2
  refine bodyPost_ret (results_none rfl _ _ _) rfl ?_
  exact ⟨rfl, rfl⟩
theorem sn_gets (w : World) (g k : Nat) (hc : w.cell? ⟨g, 0, none⟩ = some (.int .u64 (k : Int))) : Calls Try.prog 18 #[.pointer none, .slice (some ⟨g, 0, none⟩) 1 1] w fun e w' => e = .returned (.slice none 0 0) ∧ w = w' := by
  go_enter Try.func18, Try.ntmps18
  go_wp2
  go_loop [5, 12] (fun r i => r = .slice none 0 0 ∧ ∃ j : Nat, j ≤ 1 ∧ i = .int .i64 j) (fun _ i => 1 - (intOf i).toNat)
  case atStart => exact ⟨rfl, 0, by omega, rfl⟩
  case round =>
    obtain ⟨rfl, j, hj, rfl⟩ := hrel
    by_cases h : j < 1
    · obtain rfl : j = 0 := by omega
      go_wp2_with (go_at_call 11; (with_reducible refine (sn_get _ _).mono ?_); rintro e w2 ⟨rfl, rfl⟩)
      go_round
      case rel => exact ⟨rfl, 1, by omega, by go_num⟩
      case measure => simp [intOf]
    · obtain rfl : j = 1 := by omega
      go_wp2
      go_ret
      exact ⟨rfl, rfl⟩
set_option maxHeartbeats 2000000 in
theorem awake_any (w : World) : Calls Try.prog 6 #[] w fun e w' => e = .returned (.bool true) ∧ Below w.heap.size w w' := by
  have HN : Hid (Calls Try.prog 7 #[.int .u64 1, .int .i64 9] w (SNew w 9)) := Lib.hid (s_new w 1 9 (by decide))
  go_enter Try.func6, Try.ntmps6
  go_wp2_with (first
    | (go_at_call 7; (with_reducible refine HN.out.mono ?_); rintro e w1 ⟨S, O, rfl, h1, hO, hb⟩
       have HO := Lib.hid hO
       have HB := Lib.hid hb
       have HP : Hid (Calls Try.prog 13 #[.pointer (some ⟨S, 0, none⟩), .int .u64 5, .int .u64 7] w1 fun e w' => e = .returned (.tuple #[.bool true, .int .i64 0]) ∧ SR w1 O S 9 [(5, 7)] w') := Lib.hid (s_put_new h1 5 7 (by simp) (by decide) (by decide) (by decide))
       clear h1 hO hb)
    | (go_at_call 13; (with_reducible refine HP.out.mono ?_); rintro e w2 ⟨rfl, O2, h2, b2, i2⟩
       have HG : Hid (Calls Try.prog 11 #[.pointer (some ⟨S, 0, none⟩), .int .u64 5] w2 fun e w' => e = .returned (.tuple #[.int .u64 7, .bool true]) ∧ SR w2 O2 S 9 [(5, 7)] w') := Lib.hid (s_get_yes h2 5 7 (by simp))
       have B2 := Lib.hid b2
       have I2 := Lib.hid i2
       clear h2 b2 i2)
    | (go_at_call 11; (with_reducible refine HG.out.mono ?_); rintro e w3 ⟨rfl, O3, h3, b3, i3⟩
       have HD : Hid (Calls Try.prog 9 #[.pointer (some ⟨S, 0, none⟩), .int .u64 5] w3 fun e w' => e = .returned (.bool true) ∧ SR w3 O3 S 9 [] w') := Lib.hid (s_drop_yes h3 5 7 [] (List.Perm.refl _) (by decide))
       have B3 := Lib.hid b3
       have I3 := Lib.hid i3
       clear h3 b3 i3 HG)
    | (go_at_call 9; (with_reducible refine HD.out.mono ?_); rintro e w4 ⟨rfl, O4, h4, b4, i4⟩
       have HG4 : Hid (Calls Try.prog 11 #[.pointer (some ⟨S, 0, none⟩), .int .u64 5] w4 fun e w' => e = .returned (.tuple #[.int .u64 0, .bool false]) ∧ SR w4 O4 S 9 [] w') := Lib.hid (s_get_no h4 5 (by simp))
       have B4 := Lib.hid b4
       have I4 := Lib.hid i4
       clear h4 b4 i4)
    | (go_at_call 11; (with_reducible refine HG4.out.mono ?_); rintro e w5 ⟨rfl, O5, h5, b5, i5⟩; have B5 := Lib.hid b5; clear h5 b5 i5))
  go_ret
  have c2 := B2.out
  have c3 : K.Chg w1 w3 O := c2.trans B3.out I2.out
  have i3 : ∀ j, O3 j → O j ∨ w1.heap.size ≤ j := fun j hj => by
    rcases I3.out j hj with h | h
    · exact I2.out j h
    · exact .inr (Nat.le_trans c2.size h)
  have c4 : K.Chg w1 w4 O := c3.trans B4.out i3
  have i4 : ∀ j, O4 j → O j ∨ w1.heap.size ≤ j := fun j hj => by
    rcases I4.out j hj with h | h
    · exact i3 j h
    · exact .inr (Nat.le_trans c3.size h)
  have c5 : K.Chg w1 w5 O := c4.trans B5.out i4
  exact ⟨rfl, (HB.out.trans (c5.below (B := w.heap.size) HB.out.size HO.out))⟩
def SNewAny (w : World) (n : Int) (e : Ending) (w' : World) : Prop :=
  ∃ p, e = .returned (.tuple #[p, .int .i64 (if 0 ≤ n ∧ n ≤ 1048576 then 0 else 1)]) ∧ Below w.heap.size w w'
theorem s_new_any (w : World) (seed : Nat) (n : Int) : Calls Try.prog 7 #[.int .u64 (seed : Int), .int .i64 n] w (SNewAny w n) := by
  by_cases h : 0 ≤ n ∧ n ≤ 1048576
  · obtain ⟨k, rfl⟩ : ∃ k : Nat, n = (k : Int) := ⟨n.toNat, by omega⟩
    refine (s_new w seed k (by omega)).mono ?_
    rintro e w' ⟨S, O, rfl, _, _, hb⟩
    exact ⟨_, by rw [if_pos h], hb⟩
  · refine (s_new_no w seed n h).mono ?_
    rintro e w' ⟨rfl, hb⟩
    exact ⟨_, by rw [if_neg h], hb⟩
set_option maxHeartbeats 4000000 in
theorem law_nil (seed k v : Nat) (n : Int) (w : World) :
    Calls Try.prog 4 #[.int .u64 (seed : Int), .int .u64 (k : Int), .int .u64 (v : Int), .int .i64 n] w fun e w' => e = .returned (.bool true) ∧ Below w.heap.size w w' := by
  have HA := fun w => Lib.hid (awake_any w)
  by_cases h0 : 0 ≤ n
  · have g0 : decide (0 ≤ n) = true := decide_eq_true h0
    by_cases h1 : n ≤ 1048576
    · have g1 : decide (n ≤ 1048576) = true := decide_eq_true h1
      have HN : Hid (∀ w, Calls Try.prog 7 #[.int .u64 (seed : Int), .int .i64 n] w fun e w' => ∃ p, e = .returned (.tuple #[p, .int .i64 0]) ∧ Below w.heap.size w w') := fun w => (s_new_any w seed n).mono fun e w' ⟨p, h, hb⟩ => ⟨p, by rw [h, if_pos ⟨h0, h1⟩], hb⟩
      have HN := fun w => Lib.hid (HN.out w)
      clear h0 h1
      go_enter Try.func4, Try.ntmps4
      go_wp2_with (first
        | (go_at_call 6; (with_reducible refine (HA _).out.mono ?_); rintro e w1 ⟨rfl, hb1⟩; have B1 := Lib.hid hb1; clear hb1)
        | (go_at_call 7; (with_reducible refine (HN _).out.mono ?_); rintro e w2 ⟨p, rfl, hb2⟩; have B2 := Lib.hid hb2; clear hb2)
        | (go_at_call 13; (with_reducible refine (sn_put _ _ _).mono ?_); rintro e w3 ⟨rfl, rfl⟩)
        | (go_at_call 11; (with_reducible refine (sn_get _ _).mono ?_); rintro e w3 ⟨rfl, rfl⟩)
        | (go_at_call 12; (with_reducible refine (sn_clear _).mono ?_); rintro e w3 ⟨rfl, rfl⟩)
        | (go_at_call 9; (with_reducible refine (sn_drop _ _).mono ?_); rintro e w3 ⟨rfl, rfl⟩)
        | (go_at_call 15; (with_reducible refine (sn_len _).mono ?_); rintro e w3 ⟨rfl, rfl⟩)
        | (go_at_call 16; (with_reducible refine (sn_room _ _).mono ?_); rintro e w3 ⟨rfl, rfl⟩)
        | (go_at_call 18; (with_reducible refine (sn_gets (w2.alloc (.cells #[.int .u64 (k : Int)] 22)) w2.heap.size k (by simp)).mono ?_); rintro e w3 ⟨rfl, rfl⟩))
      go_ret
      exact ⟨rfl, (B1.out.trans (B2.out.mono B1.out.size)).alloc (Nat.le_trans B1.out.size B2.out.size) _⟩
    · have g1 : decide (n ≤ 1048576) = false := decide_eq_false h1
      have HN : Hid (∀ w, Calls Try.prog 7 #[.int .u64 (seed : Int), .int .i64 n] w fun e w' => ∃ p, e = .returned (.tuple #[p, .int .i64 1]) ∧ Below w.heap.size w w') := fun w => (s_new_any w seed n).mono fun e w' ⟨p, h, hb⟩ => ⟨p, by rw [h, if_neg (fun h => h1 h.2)], hb⟩
      have HN := fun w => Lib.hid (HN.out w)
      clear h0 h1
      go_enter Try.func4, Try.ntmps4
      go_wp2_with (first
        | (go_at_call 6; (with_reducible refine (HA _).out.mono ?_); rintro e w1 ⟨rfl, hb1⟩; have B1 := Lib.hid hb1; clear hb1)
        | (go_at_call 7; (with_reducible refine (HN _).out.mono ?_); rintro e w2 ⟨p, rfl, hb2⟩; have B2 := Lib.hid hb2; clear hb2)
        | (go_at_call 13; (with_reducible refine (sn_put _ _ _).mono ?_); rintro e w3 ⟨rfl, rfl⟩)
        | (go_at_call 11; (with_reducible refine (sn_get _ _).mono ?_); rintro e w3 ⟨rfl, rfl⟩)
        | (go_at_call 12; (with_reducible refine (sn_clear _).mono ?_); rintro e w3 ⟨rfl, rfl⟩)
        | (go_at_call 9; (with_reducible refine (sn_drop _ _).mono ?_); rintro e w3 ⟨rfl, rfl⟩)
        | (go_at_call 15; (with_reducible refine (sn_len _).mono ?_); rintro e w3 ⟨rfl, rfl⟩)
        | (go_at_call 16; (with_reducible refine (sn_room _ _).mono ?_); rintro e w3 ⟨rfl, rfl⟩)
        | (go_at_call 18; (with_reducible refine (sn_gets (w2.alloc (.cells #[.int .u64 (k : Int)] 22)) w2.heap.size k (by simp)).mono ?_); rintro e w3 ⟨rfl, rfl⟩))
      go_ret
      exact ⟨rfl, (B1.out.trans (B2.out.mono B1.out.size)).alloc (Nat.le_trans B1.out.size B2.out.size) _⟩
  · have g0 : decide (0 ≤ n) = false := decide_eq_false h0
    have HN : Hid (∀ w, Calls Try.prog 7 #[.int .u64 (seed : Int), .int .i64 n] w fun e w' => ∃ p, e = .returned (.tuple #[p, .int .i64 1]) ∧ Below w.heap.size w w') := fun w => (s_new_any w seed n).mono fun e w' ⟨p, h, hb⟩ => ⟨p, by rw [h, if_neg (fun h => h0 h.1)], hb⟩
    have HN := fun w => Lib.hid (HN.out w)
    clear h0
    go_enter Try.func4, Try.ntmps4
    go_wp2_with (first
      | (go_at_call 6; (with_reducible refine (HA _).out.mono ?_); rintro e w1 ⟨rfl, hb1⟩; have B1 := Lib.hid hb1; clear hb1)
      | (go_at_call 7; (with_reducible refine (HN _).out.mono ?_); rintro e w2 ⟨p, rfl, hb2⟩; have B2 := Lib.hid hb2; clear hb2)
      | (go_at_call 13; (with_reducible refine (sn_put _ _ _).mono ?_); rintro e w3 ⟨rfl, rfl⟩)
      | (go_at_call 11; (with_reducible refine (sn_get _ _).mono ?_); rintro e w3 ⟨rfl, rfl⟩)
      | (go_at_call 12; (with_reducible refine (sn_clear _).mono ?_); rintro e w3 ⟨rfl, rfl⟩)
      | (go_at_call 9; (with_reducible refine (sn_drop _ _).mono ?_); rintro e w3 ⟨rfl, rfl⟩)
      | (go_at_call 15; (with_reducible refine (sn_len _).mono ?_); rintro e w3 ⟨rfl, rfl⟩)
      | (go_at_call 16; (with_reducible refine (sn_room _ _).mono ?_); rintro e w3 ⟨rfl, rfl⟩)
      | (go_at_call 18; (with_reducible refine (sn_gets (w2.alloc (.cells #[.int .u64 (k : Int)] 22)) w2.heap.size k (by simp)).mono ?_); rintro e w3 ⟨rfl, rfl⟩))
    go_ret
    exact ⟨rfl, (B1.out.trans (B2.out.mono B1.out.size)).alloc (Nat.le_trans B1.out.size B2.out.size) _⟩
end Go.Proofs.Ytihhkdcgnnfkkaa
