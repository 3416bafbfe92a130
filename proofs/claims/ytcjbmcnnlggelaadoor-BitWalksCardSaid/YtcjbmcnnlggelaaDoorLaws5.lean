/- The law function BitWalks: it returns true at every input, the text walked over the contracts. -/
import Derived.Test.YtcjbmcnnlggelaaDoorIter2
import Derived.Test.YtcjbmcnnlggelaaDoorSlc
namespace Go.Proofs.YtcjbmcnnlggelaaDoor
open Go.RowKit

theorem walk_up' (x : Nat) (hx : x < 18446744073709551616) (m : Nat) (hm : 0 < m) (hm2 : m ≤ 100) (w : World) (hT : Tab w) (tk : List Int) (h : (M.bz x).take m = tk) :
    Calls Tryd.prog 33 #[.int .u64 (x : Int), .bool true, .int .i64 (m : Int)] w fun e w' => ∃ A c, e = .returned (.slice A tk.length c) ∧ Rd w' w'.heap.size A tk ∧ Below w.heap.size w w' := by
  subst h
  refine (walk_up x hx m hm hm2 w hT).mono ?_
  rintro e w' ⟨v, rfl, ho, hb⟩
  obtain ⟨A, c, rfl, hr⟩ := Rd.of_own ho
  exact ⟨A, c, rfl, hr, hb⟩
theorem walk_down' (x : Nat) (hx : x < 18446744073709551616) (m : Nat) (hm : 0 < m) (hm2 : m ≤ 100) (w : World) (hT : Tab w) (rv tk : List Int) (hv : (M.bz x).reverse = rv) (h : rv.take m = tk) :
    Calls Tryd.prog 33 #[.int .u64 (x : Int), .bool false, .int .i64 (m : Int)] w fun e w' => ∃ A c, e = .returned (.slice A tk.length c) ∧ Rd w' w'.heap.size A tk ∧ Below w.heap.size w w' := by
  subst hv; subst h
  refine (walk_down x hx m hm hm2 w hT).mono ?_
  rintro e w' ⟨v, rfl, ho, hb⟩
  obtain ⟨A, c, rfl, hr⟩ := Rd.of_own ho
  exact ⟨A, c, rfl, hr, hb⟩
theorem ref_ints' (A : Option Addr) (cp : Nat) (xs : List Int) (n : Nat) (w : World) (hr : Rd w w.heap.size A xs) (hl : xs.length ≤ 9223372036854775807) (hn : n ≤ 1000000) (tk : List Int) (h : xs.take n = tk) :
    Calls Tryd.prog 34 #[.slice A xs.length cp, .int .i64 (n : Int)] w fun e w' => ∃ A' c', e = .returned (.slice A' tk.length c') ∧ Rd w' w'.heap.size A' tk ∧ Below w.heap.size w w' := by
  subst h; exact ref_ints A cp xs n w hr hl hn

set_option maxHeartbeats 400000 in
theorem law_walks (x : Nat) (hx : x < 18446744073709551616) (s : Nat) (hs : s < 256) (w : World) (hT : Tab w) :
    Calls Tryd.prog 7 #[.int .u64 (x : Int), .int .u8 (s : Int)] w fun e w' => e = .returned (.bool true) ∧ Below w.heap.size w w' := by
  obtain ⟨m, hm⟩ : ∃ m : Nat, (1 : Int) + (s : Int) % 70 = m := ⟨1 + s % 70, by omega⟩
  have hm0 : 0 < m := by omega
  have hm1 : m ≤ 100 := by omega
  have hlen := M.bz_le x
  obtain ⟨rv, hrv⟩ : ∃ rv, (M.bz x).reverse = rv := ⟨_, rfl⟩
  obtain ⟨t1, ht1⟩ : ∃ t, (M.bz x).take m = t := ⟨_, rfl⟩
  obtain ⟨t2, ht2⟩ : ∃ t, rv.take m = t := ⟨_, rfl⟩
  have l1 : t1.length ≤ 64 := by rw [← ht1, List.length_take]; omega
  have lr : rv.length = (M.bz x).length := by rw [← hrv, List.length_reverse]
  have lr2 : rv.length ≤ 64 := by omega
  have l2 : t2.length ≤ 64 := by rw [← ht2, List.length_take]; omega
  have HR := Lib.hid hrv
  have H1 := Lib.hid ht1
  have H2 := Lib.hid ht2
  have HL := Lib.hid lr.symm
  clear hrv ht1 ht2 lr
  go_enter Tryd.func7, Tryd.ntmps7
  go_wp2_with (first
    | (go_at_call 10; (with_reducible refine (awake_any _ hT).mono ?_); rintro e w1 ⟨rfl, hb1⟩; have hT1 := hT.below hb1 hT.pos)
    | (go_at_call 11; (with_reducible refine (ref_list x hx _).mono ?_); rintro e w2 ⟨A, c, rfl, hr, hb2⟩; have hT2 := hT1.below hb2 hT1.pos)
    | (go_at_call 31; (with_reducible refine (clone_any _ _ (M.bz x) _ hr (by omega)).mono ?_); rintro e w3 ⟨v, rfl, hown, hb3⟩; have hT3 := hT2.below hb3 hT2.pos; have hr3 := hr.below hb3 (Nat.le_refl _))
    | (go_at_call 32; (with_reducible refine (reverse_any _ (M.bz x) _ _ hown (by omega)).mono ?_); rintro e w4 ⟨rfl, ho4, hb4⟩; rw [HL.out, HR.out] at ho4; obtain ⟨A4, c4, rfl, hr4b⟩ := Rd.of_own ho4; have hT4 := hT3.below hb4 hT2.pos; have hr4 := (hr3.below hb4 (Nat.le_refl _)).more (Nat.le_trans hb3.size hb4.size); clear hown ho4)
    | (go_at_call 33; (with_reducible refine (walk_up' x hx m hm0 hm1 _ hT4 t1 H1.out).mono ?_); rintro e w5 ⟨A5, c5, rfl, hr5u, hb5⟩; have hT5 := hT4.below hb5 hT4.pos; have hr5 := (hr4.below hb5 (Nat.le_refl _)).more hb5.size; have hr5b := (hr4b.below hb5 (Nat.le_refl _)).more hb5.size)
    | (go_at_call 34; (with_reducible refine (ref_ints' _ _ (M.bz x) m _ hr5 (by omega) (by omega) t1 H1.out).mono ?_); rintro e w6 ⟨A6, c6, rfl, hr6, hb6⟩; have hT6 := hT5.below hb6 hT5.pos; have hr6u := hr5u.below hb6 (Nat.le_refl _); have hr6b := (hr5b.below hb6 (Nat.le_refl _)).more hb6.size)
    | (go_at_call 27; (with_reducible refine (ref_same _ _ _ _ t1 t1 _ _ _ hr6u hr6 (by omega) (by omega)).mono ?_); rintro e w' ⟨rfl, n1, rfl⟩)
    | (go_at_call 33; (with_reducible refine (walk_down' x hx m hm0 hm1 _ (hT6.drew n1) rv t2 HR.out H2.out).mono ?_); rintro e w7 ⟨A7, c7, rfl, hr7d, hb7⟩; have hr7b := ((hr6b.drew n1).below hb7 (Nat.le_refl _)).more hb7.size)
    | (go_at_call 34; (with_reducible refine (ref_ints' _ _ rv m _ hr7b (by omega) (by omega) t2 H2.out).mono ?_); rintro e w8 ⟨A8, c8, rfl, hr8, hb8⟩; have hr8d := hr7d.below hb8 (Nat.le_refl _))
    | (go_at_call 27; (with_reducible refine (ref_same _ _ _ _ t2 t2 _ _ _ hr8d hr8 (by omega) (by omega)).mono ?_); rintro e w' ⟨rfl, n2, rfl⟩))
  go_ret
  have q2 := hb1.trans (hb2.mono hb1.size)
  have q3 := q2.trans (hb3.mono q2.size)
  have q4 := q3.trans (hb4.mono q2.size)
  have q5 := q4.trans (hb5.mono q4.size)
  have q6 := below_drewN (q5.trans (hb6.mono q5.size)) n1
  have q7 := q6.trans (hb7.mono q6.size)
  exact ⟨rfl, below_drewN (q7.trans (hb8.mono q7.size)) _⟩
end Go.Proofs.YtcjbmcnnlggelaaDoor
