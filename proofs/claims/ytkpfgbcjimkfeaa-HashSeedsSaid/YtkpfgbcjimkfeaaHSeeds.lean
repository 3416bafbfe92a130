
/- The law HashSeeds: tables of any two seeds answer alike; the text walked. -/
import Derived.Test.YtkpfgbcjimkfeaaHClear
namespace Go.Proofs.Ytkpfgbcjimkfeaa
open Go.RowKit
theorem LX.nil_form {w : World} {v : Value} (h : LX w v []) : ∃ A c, v = .slice A 0 c := by
  obtain ⟨A, c, h⟩ := h.len_form
  exact ⟨A, c, h⟩
theorem tab_all9 {w : World} {P Q M seed n pr cl : Nat} (h : Tab w P Q M seed n [] pr cl) :
    Calls Try.prog 12 #[.pointer (some ⟨P, 0, none⟩), .int .i64 9] w fun e w' => ∃ A c, e = .returned (.slice A 0 c) ∧ Below w.heap.size w w' := by
  have hs : HS w P Q M seed n [] pr cl (.slice none 0 0) := ⟨h, World.ownsRow_nil _ _ _ _, fun g e => by simp [Value.ownBlock] at e, List.Pairwise.nil⟩
  refine (hs.all_ (by simp) 9 9 rfl (by decide) (by decide)).mono ?_
  rintro e w' ⟨v', rfl, hx, hb⟩
  obtain ⟨A, c, rfl⟩ := LX.nil_form hx
  exact ⟨A, c, rfl, hb⟩
set_option maxRecDepth 100000 in
set_option maxHeartbeats 4000000 in
theorem law_seeds (sa sb : Nat) (A : Option Addr) (cp : Nat) (xs : List HAc) (w : World) (hr : Rq w w.heap.size A xs) (hlen : xs.length ≤ 9223372036854775807) :
    Calls Try.prog 4 #[.int .u64 (sa : Int), .int .u64 (sb : Int), .slice A xs.length cp] w fun e w' => e = .returned (.bool true) ∧ Below w.heap.size w w' := by
  obtain ⟨len, hxl⟩ : ∃ len, xs.length = len := ⟨_, rfl⟩
  have HR := Lib.hid hr
  have HXL := Lib.hid hxl
  rw [hxl] at hlen
  rw [hxl]
  clear hr hxl
  go_enter Try.func4, Try.ntmps4
  go_wp2_with (first
    | (go_at_call 5; (with_reducible refine (awake_any _).mono ?_); rintro e w1 ⟨rfl, hb1⟩; have HB1 := Lib.hid hb1; clear hb1)
    | (go_at_call 7; (with_reducible refine (tab_new_nil w1 sa).mono ?_); rintro e w2 ⟨P1, Q1, M1, rfl, ht2, hb2, hp2, hq2, hm2⟩; have HT2 := Lib.hid ht2; have HB2 := Lib.hid hb2; clear ht2 hb2)
    | (go_at_call 7; (with_reducible refine (tab_new_nil w2 sb).mono ?_); rintro e w3 ⟨P2, Q2, M2, rfl, ht3, hb3, hp3, hq3, hm3⟩; have HT3 := Lib.hid ht3; have HB3 := Lib.hid hb3; clear ht3 hb3))
  have hm2 : w1.heap.size ≤ M1 := by
    rcases hm2 with h | h
    · cases h
    · exact h.2
  have hm3 : w2.heap.size ≤ M2 := by
    rcases hm3 with h | h
    · cases h
    · exact h.2
  have z1 := HB1.out.size
  have z2 := HB2.out.size
  have z3 := HB3.out.size
  have HK0 : Hid (H2 w w3 w3.heap.size P1 M1 sa P2 M2 sb 0 [] [] (.slice none 0 0) (.slice none 0 0)) := by
    have ht1 := HT2.out.tf_lt
    have t3 := HT2.out.but (ButS.of_below (S := fun _ => False) HB3.out (Nat.le_refl _)) (fun _ _ h => h)
    have ht3 := HT3.out.tf_lt
    have hlow2 : ∀ j, TF P2 Q2 M2 j → w2.heap.size ≤ j := fun j hj => by rcases hj with h | h | h <;> omega
    refine ⟨Q1, 8, 0, 0, Q2, 8, 0, 0, ⟨t3, World.ownsRow_nil _ _ _ _, fun g e => by simp [Value.ownBlock] at e, List.Pairwise.nil⟩, ⟨HT3.out, World.ownsRow_nil _ _ _ _, fun g e => by simp [Value.ownBlock] at e, List.Pairwise.nil⟩, by simp, by simp, by omega, by omega, fun j hj h => ?_, fun g e => by simp [Value.ownBlock] at e, fun g e => by simp [Value.ownBlock] at e, fun j hj => ?_, (HB1.out.trans (HB2.out.mono z1)).trans (HB3.out.mono (by omega))⟩
    · have := ht1 j hj; have := hlow2 j h; omega
    · rcases hj with h | h
      · have h5 := ht1 j h
        refine ⟨?_, by omega⟩
        rcases h with h | h | h <;> omega
      · have h5 := ht3 j h
        have h6 := hlow2 j h
        omega
  clear HT3 HB3 HB2 HB1 HT2 hm3 hp3 hq3 hm2 hp2 hq2 z1 z2 z3
  go_loopw [9, 10, 23] (fun v m u wr => ∃ (k T : Nat) (es : List (H.Key × Nat)), k ≤ len ∧ k ≤ 80 ∧ u = .int .i64 (k : Int) ∧ Hid (H2 w wr T P1 M1 sa P2 M2 sb (2 * k) es es v m)) (fun _ _ u _ => len - (intOf u).toNat)
  case atStart => exact ⟨0, _, [], by omega, by omega, rfl, HK0⟩
  case round =>
    obtain ⟨k, T, es, hk, hk8, rfl, HPl⟩ := hrel
    clear HK0
    obtain ⟨v, hv⟩ : ∃ v, v = u9 := ⟨_, rfl⟩
    subst hv
    obtain ⟨m, hm⟩ : ∃ m, m = u10 := ⟨_, rfl⟩
    subst hm
    have hbw : Below w.heap.size w wr := by
      obtain ⟨_, _, _, _, _, _, _, _, _, _, _, _, _, _, _, _, _, _, hb⟩ := HPl.out
      exact hb
    by_cases hlt : k < len
    · have hT1 : decide ((k : Int) < (len : Int)) = true := decide_eq_true (by omega)
      have hT1' : decide (k < len) = true := decide_eq_true hlt
      obtain ⟨b, off, rfl, hb, ⟨x1, x2, x3, x4⟩, c0, c1, c2, c3⟩ := (HR.out.below hbw (Nat.le_refl _)).at_ (k := k) (by have := HXL.out; omega)
      have hik : (k : Int) < (len : Int) := by omega
      generalize xs[k]'(by have := HXL.out; omega) = x at *
      obtain ⟨d, l, p, y⟩ := x
      dsimp only at x1 x2 x3 x4 c0 c1 c2 c3
      have HPl2 := Lib.hid (HPl.out.box (hacto d l p y))
      clear hbw
      by_cases h120 : 80 ≤ k
      · have hT2 : decide ((80 : Int) ≤ (k : Int)) = true := decide_eq_true (by omega)
        have hT2' : decide (80 ≤ k) = true := decide_eq_true (by omega)
        clear HPl
        obtain ⟨Q1', n1, pr1, cl1, Q2', n2, pr2, cl2, hs1, hs2, hl1, _, _, _, hd1, _, _, hlo, hb⟩ := HPl2.out
        have hlz : es.length ≤ 1000 := by omega
        have HS1 : Hid (∀ X, Below (wr.alloc (hacto d l p y)).heap.size (wr.alloc (hacto d l p y)) X → HS X P1 Q1' M1 sa n1 es pr1 cl1 v) := fun X h => hs1.below h
        have HS2 : Hid (∀ X, Below (wr.alloc (hacto d l p y)).heap.size (wr.alloc (hacto d l p y)) X → HS X P2 Q2' M2 sb n2 es pr2 cl2 m) := fun X h => hs2.below h
        have HB5 := Lib.hid hb
        have hlow : w.heap.size ≤ P1 := (hlo P1 (.inl (.inl rfl))).1
        have hn8 := hs1.tab.pw.1
        have u1 : decide ((n1 : Int) < 8) = false := decide_eq_false (by omega)
        have u2 : decide (n1 < 8) = false := decide_eq_false (by omega)
        have hall1 : Hid (∀ W, Below (wr.alloc (hacto d l p y)).heap.size (wr.alloc (hacto d l p y)) W → Calls Try.prog 12 #[.pointer (some ⟨P1, 0, none⟩), .int .i64 1000] W fun e w' => ∃ v', e = .returned v' ∧ LX w' v' es ∧ Below W.heap.size W w') := fun W h => by
          have h2 := (HS1.out W h).all_ (by omega) 1000 1000 rfl (by decide) (by decide)
          rwa [List.take_of_length_le (by omega)] at h2
        have hall2 : Hid (∀ W, Below (wr.alloc (hacto d l p y)).heap.size (wr.alloc (hacto d l p y)) W → Calls Try.prog 12 #[.pointer (some ⟨P2, 0, none⟩), .int .i64 1000] W fun e w' => ∃ v', e = .returned v' ∧ LX w' v' es ∧ Below W.heap.size W w') := fun W h => by
          have h2 := (HS2.out W h).all_ (by omega) 1000 1000 rfl (by decide) (by decide)
          rwa [List.take_of_length_le (by omega)] at h2
        have hsize : Hid (∀ W, Below (wr.alloc (hacto d l p y)).heap.size (wr.alloc (hacto d l p y)) W → Calls Try.prog 9 #[.pointer (some ⟨P1, 0, none⟩)] W fun e w' => e = .returned (.int .i64 (n1 : Int)) ∧ W = w') := fun W h => tab_size W P1 Q1' M1 sa n1 pr1 cl1 es (HS1.out W h).tab
        have hclr : Hid (∀ W, Below (wr.alloc (hacto d l p y)).heap.size (wr.alloc (hacto d l p y)) W → Calls Try.prog 14 #[.pointer (some ⟨P1, 0, none⟩)] W fun e w' => e = .returned (.tuple #[]) ∧ ∃ Q', Tab w' P1 Q' M1 sa 8 [] 0 cl1 ∧ ButS W w' (· = P1) ∧ W.heap.size ≤ Q') := fun W h => tab_clear W P1 Q1' M1 sa n1 pr1 cl1 es (HS1.out W h).tab
        clear hs1 hs2 hl1 hd1 hlo hb
        skip
        go_wp2_with (first
          | (go_at_call 12; (with_reducible refine (hall1.out (wr.alloc (hacto d l p y)) (Below.refl _ _)).mono ?_); rintro e w6 ⟨v6, rfl, hx6, hb6⟩; have HX6 := Lib.hid hx6; have B6 : Below (wr.alloc (hacto d l p y)).heap.size (wr.alloc (hacto d l p y)) w6 := hb6; clear hx6 hb6)
          | (go_at_call 12; (with_reducible refine (hall2.out w6 B6).mono ?_); rintro e w7 ⟨v7, rfl, hx7, hb7⟩; have HX7 := Lib.hid hx7; have HX67 := Lib.hid (HX6.out.below hb7); have B7 : Below (wr.alloc (hacto d l p y)).heap.size (wr.alloc (hacto d l p y)) w7 := bel_nextH (w := (wr.alloc (hacto d l p y))) B6 hb7; clear hx7 hb7)
          | (go_at_call 11; (with_reducible refine (h_same w7 v6 v7 es HX67.out HX7.out (by omega)).mono ?_); rintro e w8 ⟨rfl, N8, rfl⟩; have B8 : Below (wr.alloc (hacto d l p y)).heap.size (wr.alloc (hacto d l p y)) (w7.drewN N8) := below_drewN B7 N8)
          | (go_at_call 9; (with_reducible refine (hsize.out _ B8).mono ?_); rintro e w9 ⟨rfl, rfl⟩)
          | (go_at_call 14; (with_reducible refine (hclr.out _ B8).mono ?_); rintro e w10 ⟨rfl, Q9, ht9, hb9, hq9⟩; have HT9 := Lib.hid ht9; have B10 : Hid (Below w.heap.size w w10) := ((bel_nextH HB5.out B8).trans (hb9.below (by have := HB5.out.size; have := B8.size; omega) (fun j hj => by rw [hj]; exact hlow))); clear ht9 hb9)
          | (go_at_call 10; (with_reducible refine (tab_len w10 P1 Q9 M1 sa 8 0 cl1 [] HT9.out).mono ?_); rintro e w11 ⟨rfl, rfl⟩)
          | (go_at_call 9; (with_reducible refine (tab_size w10 P1 Q9 M1 sa 8 0 cl1 [] HT9.out).mono ?_); rintro e w11 ⟨rfl, rfl⟩)
          | (go_at_call 15; (with_reducible refine (tab_probes w10 P1 Q9 M1 sa 8 0 cl1 [] HT9.out).mono ?_); rintro e w11 ⟨rfl, rfl⟩)
          | (go_at_call 12; (with_reducible refine (tab_all9 HT9.out).mono ?_); rintro e w12 ⟨A12, c12, rfl, hb12⟩; have B12 := Lib.hid (bel_nextH B10.out hb12); clear hb12))
        go_ret
        exact ⟨rfl, B12.out⟩
      · have hT2 : decide ((80 : Int) ≤ (k : Int)) = false := decide_eq_false (by omega)
        have hT2' : decide (80 ≤ k) = false := decide_eq_false (by omega)
        have hdo := Lib.hid (HPl2.out.act (by simp) (by omega) d l p y x1 x2 x3 x4)
        go_wp2_with (first
          | (go_at_call 8; (with_reducible refine hdo.out.mono ?_); rintro e w4 ⟨v4, rfl, h4, hbx, hsz⟩
             have hbx2 := hbx.trans (alloc_topI wr (hacto d l p y))
             have hsz2 : wr.heap.size < w4.heap.size := (by simp at hsz; omega)
             have bc0 : w4.cell? ⟨wr.heap.size, 0, none⟩ = some (.int .u8 (d : Int)) := cell_of_row _ _ 0 _ _ (0, 0) hbx2
             have bc1 : w4.cell? ⟨wr.heap.size, 1, none⟩ = some (.int .u8 (l : Int)) := cell_of_row _ _ 1 _ _ (0, 0) hbx2
             have bc2 : w4.cell? ⟨wr.heap.size, 2, none⟩ = some (.int .u64 (p : Int)) := cell_of_row _ _ 2 _ _ (0, 0) hbx2
             have bc3 : w4.cell? ⟨wr.heap.size, 3, none⟩ = some (.int .u64 (y : Int)) := cell_of_row _ _ 3 _ _ (0, 0) hbx2
             have hdo2 := Lib.hid (h4.swap.act hsz2 (by omega) d l p y x1 x2 x3 x4)
             clear h4 hbx hbx2 hsz)
          | (go_at_call 8; (with_reducible refine hdo2.out.mono ?_); rintro e w5 ⟨v5, rfl, h5, _, _⟩
             have H5 := Lib.hid (h5.swap.more (k' := 2 * (k + 1)) (by omega))
             clear h5))
        exact ⟨⟨k + 1, _, _, by omega, by omega, by go_num, H5⟩, by simp [intOf]; omega⟩
    · obtain rfl : k = len := by omega
      have hT1 : decide ((k : Int) < (k : Int)) = false := decide_eq_false (by omega)
      have hT1' : decide (k < k) = false := decide_eq_false (by omega)
      obtain ⟨Q1', n1, pr1, cl1, Q2', n2, pr2, cl2, hs1, hs2, hl1, _, _, _, hd1, _, _, hlo, hb⟩ := HPl.out
      have hlz : es.length ≤ 1000 := by omega
      have HS1 : Hid (∀ X, Below wr.heap.size wr X → HS X P1 Q1' M1 sa n1 es pr1 cl1 v) := fun X h => hs1.below h
      have HS2 : Hid (∀ X, Below wr.heap.size wr X → HS X P2 Q2' M2 sb n2 es pr2 cl2 m) := fun X h => hs2.below h
      have HB5 := Lib.hid hb
      have hlow : w.heap.size ≤ P1 := (hlo P1 (.inl (.inl rfl))).1
      have hn8 := hs1.tab.pw.1
      have u1 : decide ((n1 : Int) < 8) = false := decide_eq_false (by omega)
      have u2 : decide (n1 < 8) = false := decide_eq_false (by omega)
      have hall1 : Hid (∀ W, Below wr.heap.size wr W → Calls Try.prog 12 #[.pointer (some ⟨P1, 0, none⟩), .int .i64 1000] W fun e w' => ∃ v', e = .returned v' ∧ LX w' v' es ∧ Below W.heap.size W w') := fun W h => by
        have h2 := (HS1.out W h).all_ (by omega) 1000 1000 rfl (by decide) (by decide)
        rwa [List.take_of_length_le (by omega)] at h2
      have hall2 : Hid (∀ W, Below wr.heap.size wr W → Calls Try.prog 12 #[.pointer (some ⟨P2, 0, none⟩), .int .i64 1000] W fun e w' => ∃ v', e = .returned v' ∧ LX w' v' es ∧ Below W.heap.size W w') := fun W h => by
        have h2 := (HS2.out W h).all_ (by omega) 1000 1000 rfl (by decide) (by decide)
        rwa [List.take_of_length_le (by omega)] at h2
      have hsize : Hid (∀ W, Below wr.heap.size wr W → Calls Try.prog 9 #[.pointer (some ⟨P1, 0, none⟩)] W fun e w' => e = .returned (.int .i64 (n1 : Int)) ∧ W = w') := fun W h => tab_size W P1 Q1' M1 sa n1 pr1 cl1 es (HS1.out W h).tab
      have hclr : Hid (∀ W, Below wr.heap.size wr W → Calls Try.prog 14 #[.pointer (some ⟨P1, 0, none⟩)] W fun e w' => e = .returned (.tuple #[]) ∧ ∃ Q', Tab w' P1 Q' M1 sa 8 [] 0 cl1 ∧ ButS W w' (· = P1) ∧ W.heap.size ≤ Q') := fun W h => tab_clear W P1 Q1' M1 sa n1 pr1 cl1 es (HS1.out W h).tab
      clear hs1 hs2 hl1 hd1 hlo hb
      skip
      go_wp2_with (first
        | (go_at_call 12; (with_reducible refine (hall1.out wr (Below.refl _ _)).mono ?_); rintro e w6 ⟨v6, rfl, hx6, hb6⟩; have HX6 := Lib.hid hx6; have B6 : Below wr.heap.size wr w6 := hb6; clear hx6 hb6)
        | (go_at_call 12; (with_reducible refine (hall2.out w6 B6).mono ?_); rintro e w7 ⟨v7, rfl, hx7, hb7⟩; have HX7 := Lib.hid hx7; have HX67 := Lib.hid (HX6.out.below hb7); have B7 : Below wr.heap.size wr w7 := bel_nextH (w := wr) B6 hb7; clear hx7 hb7)
        | (go_at_call 11; (with_reducible refine (h_same w7 v6 v7 es HX67.out HX7.out (by omega)).mono ?_); rintro e w8 ⟨rfl, N8, rfl⟩; have B8 : Below wr.heap.size wr (w7.drewN N8) := below_drewN B7 N8)
        | (go_at_call 9; (with_reducible refine (hsize.out _ B8).mono ?_); rintro e w9 ⟨rfl, rfl⟩)
        | (go_at_call 14; (with_reducible refine (hclr.out _ B8).mono ?_); rintro e w10 ⟨rfl, Q9, ht9, hb9, hq9⟩; have HT9 := Lib.hid ht9; have B10 : Hid (Below w.heap.size w w10) := ((bel_nextH HB5.out B8).trans (hb9.below (by have := HB5.out.size; have := B8.size; omega) (fun j hj => by rw [hj]; exact hlow))); clear ht9 hb9)
        | (go_at_call 10; (with_reducible refine (tab_len w10 P1 Q9 M1 sa 8 0 cl1 [] HT9.out).mono ?_); rintro e w11 ⟨rfl, rfl⟩)
        | (go_at_call 9; (with_reducible refine (tab_size w10 P1 Q9 M1 sa 8 0 cl1 [] HT9.out).mono ?_); rintro e w11 ⟨rfl, rfl⟩)
        | (go_at_call 15; (with_reducible refine (tab_probes w10 P1 Q9 M1 sa 8 0 cl1 [] HT9.out).mono ?_); rintro e w11 ⟨rfl, rfl⟩)
        | (go_at_call 12; (with_reducible refine (tab_all9 HT9.out).mono ?_); rintro e w12 ⟨A12, c12, rfl, hb12⟩; have B12 := Lib.hid (bel_nextH B10.out hb12); clear hb12))
      go_ret
      exact ⟨rfl, B12.out⟩
end Go.Proofs.Ytkpfgbcjimkfeaa

