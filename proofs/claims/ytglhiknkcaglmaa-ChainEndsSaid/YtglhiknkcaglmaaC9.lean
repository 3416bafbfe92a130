
/- The layer's example; the text walked. -/
import Derived.Test.YtglhiknkcaglmaaC8
namespace Go.Proofs.Ytglhiknkcaglmaa
open Go.RowKit
set_option maxHeartbeats 2000000 in
theorem awake_any (w : World) : Calls Try.prog 5 #[] w fun e w' => e = .returned (.bool true) ∧ Below w.heap.size w w' := by
  have H0 : Hid (Calls Try.prog 7 #[.pointer none, .int .i64 9] w fun e w' => ∃ C Q M, e = .returned (.tuple #[.pointer (some ⟨C, 0, none⟩), .int .i64 0]) ∧ CW w' C Q M 9 none 0 none 0 [] [] [] ∧ Mx w' M 0 ∧ w.heap.size ≤ C ∧ w.heap.size ≤ Q ∧ w.heap.size ≤ M ∧ Below w.heap.size w w') := Lib.hid (c_new w 9 (by decide))
  go_enter Try.func5, Try.ntmps5
  go_wp2_with (first
    | (go_at_call 7; (with_reducible refine H0.out.mono ?_); rintro e w1 ⟨C, Q, M, rfl, hw, hM, hC, hQ, hMl, hb⟩
       have H1 : Hid (Calls Try.prog 10 #[.pointer (some ⟨C, 0, none⟩), .int .i64 (-1), .int .u64 5] w1 (BehP w1 C Q M 9 none none [] [] [] [] 5)) := Lib.hid (c_behind_a w1 C Q M 9 0 0 none none [] [] (-1) (by decide) [] hw 5 (by decide) (by decide))
       have HW := Lib.hid hw
       have HM := Lib.hid hM
       have HB := Lib.hid hb
       have HL := Lib.hid (And.intro hC (And.intro hQ hMl))
       clear hw hM hb hC hQ hMl)
    | (go_at_call 10; (with_reducible refine H1.out.mono ?_); rintro e w2 ⟨n1, rfl, _, hn1, _, An2, cn2, Af2, cf2, ns2, fs2, hw2, hc2, hi2, hp2⟩
       obtain rfl : n1 = 0 := hn1 rfl
       obtain ⟨rfl, hl2⟩ := hp2 rfl
       have H2 : Hid (Calls Try.prog 10 #[.pointer (some ⟨C, 0, none⟩), .int .i64 0, .int .u64 9] w2 (BehP w2 C Q M 9 An2 Af2 ns2 [] ([] ++ [(0, 5)]) [] 9)) := Lib.hid (c_behind_b w2 C Q M 9 cn2 cf2 An2 Af2 ns2 [] 0 5 [] [] hw2 9 (by decide) (by decide))
       have HW2 := Lib.hid hw2
       have HM2 := Lib.hid (HM.out.chg hc2 (HW.out.ne_m HM.out))
       have HC2 := Lib.hid hc2
       have HI2 := Lib.hid hi2
       have HL2 := Lib.hid hl2
       clear hw2 hc2 hi2 hn1 hp2 hl2)
    | (go_at_call 10; (with_reducible refine H2.out.mono ?_); rintro e w3 ⟨n2, rfl, _, hn2, _, An3, cn3, Af3, cf3, ns3, fs3, hw3, hc3, hi3, hp3⟩
       obtain rfl : n2 = 1 := (hn2 rfl).trans HL2.out
       obtain ⟨rfl, hl3⟩ := hp3 rfl
       have H3 : Hid (Calls Try.prog 10 #[.pointer (some ⟨C, 0, none⟩), .int .i64 0, .int .u64 7] w3 (BehP w3 C Q M 9 An3 Af3 ns3 [] ([] ++ [(0, 5)]) [(1, 9)] 7)) := Lib.hid (c_behind_b w3 C Q M 9 cn3 cf3 An3 Af3 ns3 [] 0 5 [] [(1, 9)] hw3 7 (by decide) (by decide))
       have HW3 := Lib.hid hw3
       have HM3 := Lib.hid (HM2.out.chg hc3 (HW2.out.ne_m HM2.out))
       have HC3 := Lib.hid hc3
       have HI3 := Lib.hid hi3
       have HL3 := Lib.hid hl3
       clear hw3 hc3 hi3 hn2 hp3 hl3)
    | (go_at_call 10; (with_reducible refine H3.out.mono ?_); rintro e w4 ⟨n3, rfl, _, hn3, _, An4, cn4, Af4, cf4, ns4, fs4, hw4, hc4, hi4, hp4⟩
       obtain rfl : n3 = 2 := (hn3 rfl).trans (by rw [HL3.out, HL2.out]; rfl)
       have hm4 := HM3.out.chg hc4 (HW3.out.ne_m HM3.out)
       obtain ⟨h0, h0x⟩ := hw4.at (L1 := []) (L2 := [(2, 7), (1, 9)]) (n := 0) (k := 5) rfl
       obtain ⟨h1, h1x⟩ := hw4.at (L1 := [(0, 5), (2, 7)]) (L2 := []) (n := 1) (k := 9) rfl
       have H4 : Hid (Calls Try.prog 14 #[.pointer (some ⟨C, 0, none⟩), .int .i64 0] w4 fun e w' => e = .returned (.int .i64 2) ∧ Mx w' M 1 ∧ K.Chg w4 w' (· = M)) := Lib.hid (c_next_yes w4 C Q M 9 cn4 cf4 _ _ An4 Af4 ns4 fs4 hw4.cb hw4.po 0 h0 5 _ _ h0x 0 hm4 (by decide))
       have H5 : Hid (∀ w', K.Chg w4 w' (· = M) → Mx w' M 1 → Calls Try.prog 15 #[.pointer (some ⟨C, 0, none⟩), .int .i64 1] w' fun e w'' => e = .returned (.int .i64 2) ∧ Mx w'' M 2 ∧ K.Chg w' w'' (· = M)) := Lib.hid (fun w' hc hm => by
         have hw' := hw4.chg hc (fun j hj e => by have e2 : j = M := e; subst e2; exact hw4.ne_m hm4 hj)
         exact c_prev_yes w' C Q M 9 cn4 cf4 _ _ An4 Af4 ns4 fs4 hw'.cb hw'.po 1 h1 9 _ _ h1x 1 hm (by decide))
       have HW4 := Lib.hid hw4
       have HC4 := Lib.hid hc4
       have HI4 := Lib.hid hi4
       clear hw4 hc4 hi4 hn3 hp4 hm4 h0x h1x h0 h1)
    | (go_at_call 14; (with_reducible refine H4.out.mono ?_); rintro e w5 ⟨rfl, hm5, hc5⟩
       have HM5 := Lib.hid hm5
       have HC5 := Lib.hid hc5
       clear hm5 hc5)
    | (go_at_call 15; (with_reducible refine (H5.out w5 HC5.out HM5.out).mono ?_); rintro e w6 ⟨rfl, hm6, hc6⟩
       have HC6 := Lib.hid hc6
       clear hm6 hc6))
  go_ret
  refine ⟨rfl, ?_⟩
  obtain ⟨hC, hQ, hMl⟩ := HL.out
  have s1 := HB.out.size
  have s2 := HC2.out.size
  have s3 := HC3.out.size
  have s4 := HC4.out.size
  have s5 := HC5.out.size
  have q2 : ∀ j, QB Q An2 Af2 j → w.heap.size ≤ j := fun j hj => by
    rcases HI2.out j hj with (rfl | h | h) | h
    · exact hQ
    · cases h
    · cases h
    · omega
  have q3 : ∀ j, QB Q An3 Af3 j → w.heap.size ≤ j := fun j hj => by
    rcases HI3.out j hj with h | h
    · exact q2 j h
    · omega
  have b2 := HC2.out.below s1 (fun j hj => by
    rcases hj with rfl | (rfl | h | h)
    · exact hC
    · exact hQ
    · cases h
    · cases h)
  have b3 := HC3.out.below (B := w.heap.size) (Nat.le_trans s1 s2) (fun j hj => by
    rcases hj with rfl | h
    · exact hC
    · exact q2 j h)
  have b4 := HC4.out.below (B := w.heap.size) (by omega) (fun j hj => by
    rcases hj with rfl | h
    · exact hC
    · exact q3 j h)
  have b5 := HC5.out.below (B := w.heap.size) (by omega) (fun j e => by have e2 : j = M := e; omega)
  have b6 := HC6.out.below (B := w.heap.size) (by omega) (fun j e => by have e2 : j = M := e; omega)
  exact ((((HB.out.trans b2).trans b3).trans b4).trans b5).trans b6
end Go.Proofs.Ytglhiknkcaglmaa
