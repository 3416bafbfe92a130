/- The key beside one in a trie; the texts walked. -/
import Derived.Test.YtiinefdpaiincaaMxX13
namespace Go.Proofs.Ytiinefdpaiincaa
open Go.RowKit
section
variable {W w w' : World} {Xb C Q M P lim tk : Nat} {L : LL} {es : Es} {O : Nat → Prop}
theorem XR.row {b : Nat} {o : Obj} (hx : XR W O Xb C Q M P lim tk L es w') (h : W.heap[b]? = some o) (hn : ¬ O b) : w'.heap[b]? = some o := by
  obtain ⟨_, _, hc, _⟩ := hx
  exact (hc.block b (row_lt h) hn).trans h
theorem XR.c0 (hx : XR W O Xb C Q M P lim tk L es w') : w'.cell? ⟨Xb, 0, none⟩ = some (.pointer (some ⟨M, 0, none⟩)) := by obtain ⟨_, hT, _⟩ := hx; exact hT.c0
theorem XR.c1 (hx : XR W O Xb C Q M P lim tk L es w') : w'.cell? ⟨Xb, 1, none⟩ = some (.pointer (some ⟨C, 0, none⟩)) := by obtain ⟨_, hT, _⟩ := hx; exact hT.c1
theorem XR.c3 (hx : XR W O Xb C Q M P lim tk L es w') : w'.cell? ⟨Xb, 3, none⟩ = some (.int .i64 (lim : Int)) := by obtain ⟨_, hT, _⟩ := hx; exact hT.c3
end
section
variable (w : World) (Xb C Q M P lim tk : Nat) (xs : List Nat) (L : LL) (es : Es) (O : Nat → Prop) (h : XS w Xb C Q M P lim tk xs L es O)
include h
set_option maxHeartbeats 2000000 in
theorem x_near_above (k : Nat) (hk : k < 18446744073709551616) : Calls Try.prog 55 #[.pointer (some ⟨Xb, 0, none⟩), .int .u64 (k : Int), .func (.func 56) #[.pointer (some ⟨Xb, 0, none⟩)] #[]] w (TOp XZ w Xb O (.tuple #[.int .u64 ((K.nx xs k : Nat) : Int), .bool (K.nxb xs k)]) xs lim 9) := by
  have H := Lib.hid h
  have hst := Lib.hid h.xt.start
  have c0 := h.xt.c0
  have hfs := X.fo_sc h.ks h.up k
  have hsr := fun W O' (hW : XT W Xb C Q M P lim 0 L es O') => x_search W Xb C Q M P lim 0 L es O' hW (by omega) h.te h.xt.places k
  cases hf : K.fo xs k
  · obtain ⟨L1, L2, hL, h1, h2, hl, _⟩ := X.part_no h.ks h.up hf
    subst hL
    have hr := h.rises
    have hsc : X.sc (L1 ++ L2) k ≠ 65 := fun e => by rw [hfs.2 e] at hf; cases hf
    have hat := fun W t O' (ht : t < 900000) (hW : XT W Xb C Q M P lim t (L1 ++ L2) es O') => x_at_above W Xb C Q M P lim t L1 L2 es O' hW ht k hr h1 h2 hk
    have hi : (hd L2 (-1) = -1 ∧ K.nx xs k = 0 ∧ K.nxb xs k = false) ∨ ∃ (n : Nat) (La Lb : LL), L1 ++ L2 = La ++ (n, K.nx xs k) :: Lb ∧ hd L2 (-1) = (n : Int) ∧ K.nxb xs k = true := by
      rcases X.nx_no h.ks hl with ⟨e, a, b⟩ | ⟨n, q, L', e, a, b⟩
      · exact .inl ⟨by rw [e]; rfl, a, b⟩
      · exact .inr ⟨n, L1, L', by rw [e, a], by rw [e]; rfl, b⟩
    obtain ⟨s, hs⟩ : ∃ s : Int, (X.sc (L1 ++ L2) k : Int) - 1 = s := ⟨_, rfl⟩
    have g0 : (s == 64) = false := by rw [beq_eq_false_iff_ne]; omega
    rw [hs] at hat hsr
    generalize X.fst' (X.spl (L1 ++ L2) k (X.sc (L1 ++ L2) k)) = e1 at *
    generalize X.lst' (X.spl (L1 ++ L2) k (X.sc (L1 ++ L2) k)) = e2 at *
    generalize K.nx xs k = q at *
    generalize K.nxb xs k = b at *
    obtain ⟨i, hii⟩ : ∃ i, hd L2 (-1) = i := ⟨_, rfl⟩
    rw [hii] at hi hat
    have hky := fun (W : World) t O' (ht : t < 1000000) (hW : XT W Xb C Q M P lim t (L1 ++ L2) es O') => hW.key_at ht i q b hi
    have HAT := Lib.hid hat
    have HKY := Lib.hid hky
    have hsr := fun W O' hW => Lib.hid (hsr W O' hW)
    clear h hfs hf h1 h2 hl hr hsc hi hii hs hat hky
    go_enter Try.func55, Try.ntmps55
    go_wp2_with (first
      | (go_at_call 44; (with_reducible refine hst.out.mono ?_); rintro e w1 ⟨rfl, O1, hT1, hC1, hI1⟩
         have HSR := Lib.hid ((hsr _ _ hT1).out)
         have HC1 := Lib.hid hC1
         have HI1 := Lib.hid hI1
         clear hT1 hC1 hI1)
      | (go_at_call 45; (with_reducible refine HSR.out.mono ?_); rintro e w2 ⟨rfl, t, ht, hx2⟩
         have hx2' : XR w O Xb C Q M P lim (0 + t) (L1 ++ L2) es w2 := XR.seq HC1.out HI1.out hx2
         have hz := K.alloc_top w2 (spo s e1 e2)
         have hd : XR w O Xb C Q M P lim (0 + t) (L1 ++ L2) es (w2.alloc (spo s e1 e2)).drew := (hx2'.more ((Below.refl _ w2).alloc (Nat.le_refl _) (spo s e1 e2))).drew 1
         have hlt2 : ∃ O3, XT (w2.alloc (spo s e1 e2)).drew Xb C Q M P lim (0 + t) (L1 ++ L2) es O3 ∧ K.Chg w (w2.alloc (spo s e1 e2)).drew O ∧ (∀ j, O3 j → O j ∨ w.heap.size ≤ j) ∧ ¬ O3 w2.heap.size := by
           obtain ⟨O3, hT3, hC3, hI3⟩ := hx2'
           exact ⟨O3, (hT3.chg (chg_alloc w2 (spo s e1 e2) (fun _ => False)) (fun _ _ h => h)).chg ((chg_refl _ (fun _ => False)).drewN 1) (fun _ _ h => h), (hC3.same (chg_alloc w2 (spo s e1 e2) _)).drewN 1, hI3, fun h => by have := hT3.lt _ h; omega⟩
         obtain ⟨O3, hT3, hC3, hI3, hN3⟩ := hlt2
         obtain ⟨k0, k1, k2⟩ := spo_cells hz
         have HS1 : Hid ((w2.alloc (spo s e1 e2)).drew.cell? ⟨Xb, 1, none⟩ = some (.pointer (some ⟨C, 0, none⟩)) ∧ (w2.alloc (spo s e1 e2)).drew.cell? ⟨w2.heap.size, 0, none⟩ = some (.int .i64 s) ∧ (w2.alloc (spo s e1 e2)).drew.cell? ⟨w2.heap.size, 1, none⟩ = some (.int .i64 (e1 : Int)) ∧ (w2.alloc (spo s e1 e2)).drew.cell? ⟨w2.heap.size, 2, none⟩ = some (.int .i64 (e2 : Int))) := Lib.hid ⟨hd.c1, k0, k1, k2⟩
         have HA3 := Lib.hid (HAT.out _ _ _ (by omega) hT3)
         have HC3 := Lib.hid hC3
         have HI3 := Lib.hid hI3
         have HN3 := Lib.hid hN3
         have HZ := Lib.hid hz
         clear hx2 hx2' hz hd hT3 hC3 hI3 hN3))
    go_region_held3 (fun Y => Y.cell? ⟨Xb, 1, none⟩ = some (.pointer (some ⟨C, 0, none⟩)) ∧ Y.cell? ⟨w2.heap.size, 0, none⟩ = some (.int .i64 s) ∧ Y.cell? ⟨w2.heap.size, 1, none⟩ = some (.int .i64 (e1 : Int)) ∧ Y.cell? ⟨w2.heap.size, 2, none⟩ = some (.int .i64 (e2 : Int))) (first | (with_reducible exact HS1.out) | (with_reducible exact HS2.out) | (with_reducible exact HS3.out) | go_keep) (first
      | (go_at_call 56; (with_reducible refine HA3.out.mono ?_); rintro e w3 ⟨rfl, t2, ht2, hx3⟩
         have z3 := hx3.row HZ.out HN3.out
         obtain ⟨k3, k4, k5⟩ := spo_cells z3
         have HS2 : Hid (w3.cell? ⟨Xb, 1, none⟩ = some (.pointer (some ⟨C, 0, none⟩)) ∧ w3.cell? ⟨w2.heap.size, 0, none⟩ = some (.int .i64 s) ∧ w3.cell? ⟨w2.heap.size, 1, none⟩ = some (.int .i64 (e1 : Int)) ∧ w3.cell? ⟨w2.heap.size, 2, none⟩ = some (.int .i64 (e2 : Int))) := Lib.hid ⟨hx3.c1, k3, k4, k5⟩
         obtain ⟨O4, hT4, hC4, hI4⟩ := hx3
         have HK4 := Lib.hid (HKY.out _ _ _ (by omega) hT4)
         have HC4 := Lib.hid hC4
         have HI4 := Lib.hid hI4
         clear z3 k3 k4 k5 hT4 hC4 hI4)
      | (go_at_call 52; (with_reducible refine HK4.out.mono ?_); rintro e w5 ⟨rfl, t3, ht3, hx5⟩
         have hx6 := XR.seq HC4.out HI4.out hx5
         have z5 := hx6.row HZ.out HN3.out
         obtain ⟨k3, k4, k5⟩ := spo_cells z5
         have HS3 : Hid (w5.cell? ⟨Xb, 1, none⟩ = some (.pointer (some ⟨C, 0, none⟩)) ∧ w5.cell? ⟨w2.heap.size, 0, none⟩ = some (.int .i64 s) ∧ w5.cell? ⟨w2.heap.size, 1, none⟩ = some (.int .i64 (e1 : Int)) ∧ w5.cell? ⟨w2.heap.size, 2, none⟩ = some (.int .i64 (e2 : Int))) := Lib.hid ⟨hx6.c1, k3, k4, k5⟩
         have HX7 : Hid (XR w O Xb C Q M P lim (0 + t + t2 + t3) (L1 ++ L2) es w5) := Lib.hid (XR.seq HC3.out HI3.out hx6)
         clear z5 k3 k4 k5 hx5 hx6))
    all_goals
      go_wp2
      go_ret2
      exact H.out.done HX7.out (by omega) (by omega) rfl
  · obtain ⟨n, L1, L2, hL, _, _, h3, h4, h5, h6, _⟩ := X.part_yes h.ks h.up hf
    rw [h3, h4]
    obtain ⟨s, hs⟩ : ∃ s : Int, (X.sc L k : Int) - 1 = s := ⟨_, rfl⟩
    have g0 : (s == 64) = true := by rw [beq_iff_eq]; have := hfs.1 hf; omega
    rw [hs] at hsr
    generalize X.fst' (X.spl L k (X.sc L k)) = e1 at *
    generalize X.lst' (X.spl L k (X.sc L k)) = e2 at *
    have hsr := fun W O' hW => Lib.hid (hsr W O' hW)
    clear h hfs hf hL h3 h4 h5 h6 hs
    go_enter Try.func55, Try.ntmps55
    go_wp2_with (first
      | (go_at_call 44; (with_reducible refine hst.out.mono ?_); rintro e w1 ⟨rfl, O1, hT1, hC1, hI1⟩
         have HSR := Lib.hid ((hsr _ _ hT1).out)
         have HC1 := Lib.hid hC1
         have HI1 := Lib.hid hI1
         clear hT1 hC1 hI1)
      | (go_at_call 45; (with_reducible refine HSR.out.mono ?_); rintro e w2 ⟨rfl, t, ht, hx2⟩
         have hx2' : XR w O Xb C Q M P lim (0 + t) L es w2 := XR.seq HC1.out HI1.out hx2
         obtain ⟨k0, k1, k2⟩ := spo_cells (K.alloc_top w2 (spo s e1 e2))
         have HX2 := Lib.hid hx2'
         clear hx2 hx2'))
    go_ret2
    exact H.out.done (HX2.out.more ((Below.refl _ w2).alloc (Nat.le_refl _) _)) (by omega) (by omega) rfl
theorem x_next (k : Nat) (hk : k < 18446744073709551616) : Calls Try.prog 27 #[.pointer (some ⟨Xb, 0, none⟩), .int .u64 (k : Int)] w (TOp XZ w Xb O (.tuple #[.int .u64 ((K.nx xs k : Nat) : Int), .bool (K.nxb xs k)]) xs lim 9) := by
  have hn := Lib.hid (x_near_above w Xb C Q M P lim tk xs L es O h k hk)
  clear h
  go_enter Try.func27, Try.ntmps27
  go_wp2_with (go_at_call 55; (with_reducible refine hn.out.mono ?_); rintro e w1 ⟨tk', O', rfl, hT, hq, hC, hO⟩; have HE := Lib.hid (And.intro hT (And.intro hq (And.intro hC hO))); clear hT hq hC hO)
  go_ret2
  exact ⟨tk', O', rfl, HE.out.1, HE.out.2.1, HE.out.2.2.1, HE.out.2.2.2⟩
set_option maxHeartbeats 2000000 in
theorem x_near_below (k : Nat) (hk : k < 18446744073709551616) : Calls Try.prog 55 #[.pointer (some ⟨Xb, 0, none⟩), .int .u64 (k : Int), .func (.func 49) #[.pointer (some ⟨Xb, 0, none⟩)] #[]] w (TOp XZ w Xb O (.tuple #[.int .u64 ((K.pv xs k : Nat) : Int), .bool (K.pvb xs k)]) xs lim 9) := by
  have H := Lib.hid h
  have hst := Lib.hid h.xt.start
  have c0 := h.xt.c0
  have hfs := X.fo_sc h.ks h.up k
  have hsr := fun W O' (hW : XT W Xb C Q M P lim 0 L es O') => x_search W Xb C Q M P lim 0 L es O' hW (by omega) h.te h.xt.places k
  cases hf : K.fo xs k
  · obtain ⟨L1, L2, hL, h1, h2, hl, _⟩ := X.part_no h.ks h.up hf
    subst hL
    have hr := h.rises
    have hsc : X.sc (L1 ++ L2) k ≠ 65 := fun e => by rw [hfs.2 e] at hf; cases hf
    have hat := fun W t O' (ht : t < 900000) (hW : XT W Xb C Q M P lim t (L1 ++ L2) es O') => x_at_below W Xb C Q M P lim t L1 L2 es O' hW ht k hr h1 h2 hk
    have hi : (lst (-1) L1 = -1 ∧ K.pv xs k = 0 ∧ K.pvb xs k = false) ∨ ∃ (n : Nat) (La Lb : LL), L1 ++ L2 = La ++ (n, K.pv xs k) :: Lb ∧ lst (-1) L1 = (n : Int) ∧ K.pvb xs k = true := by
      rcases X.pv_no h.ks hf hl with ⟨e, a, b⟩ | ⟨n, q, L', e, a, b⟩
      · exact .inl ⟨by rw [e]; rfl, a, b⟩
      · exact .inr ⟨n, L', L2, by rw [e, a, List.append_assoc]; rfl, by rw [e, lst_app]; rfl, b⟩
    obtain ⟨s, hs⟩ : ∃ s : Int, (X.sc (L1 ++ L2) k : Int) - 1 = s := ⟨_, rfl⟩
    have g0 : (s == 64) = false := by rw [beq_eq_false_iff_ne]; omega
    rw [hs] at hat hsr
    generalize X.fst' (X.spl (L1 ++ L2) k (X.sc (L1 ++ L2) k)) = e1 at *
    generalize X.lst' (X.spl (L1 ++ L2) k (X.sc (L1 ++ L2) k)) = e2 at *
    generalize K.pv xs k = q at *
    generalize K.pvb xs k = b at *
    obtain ⟨i, hii⟩ : ∃ i, lst (-1) L1 = i := ⟨_, rfl⟩
    rw [hii] at hi hat
    have hky := fun (W : World) t O' (ht : t < 1000000) (hW : XT W Xb C Q M P lim t (L1 ++ L2) es O') => hW.key_at ht i q b hi
    have HAT := Lib.hid hat
    have HKY := Lib.hid hky
    have hsr := fun W O' hW => Lib.hid (hsr W O' hW)
    clear h hfs hf h1 h2 hl hr hsc hi hii hs hat hky
    go_enter Try.func55, Try.ntmps55
    go_wp2_with (first
      | (go_at_call 44; (with_reducible refine hst.out.mono ?_); rintro e w1 ⟨rfl, O1, hT1, hC1, hI1⟩
         have HSR := Lib.hid ((hsr _ _ hT1).out)
         have HC1 := Lib.hid hC1
         have HI1 := Lib.hid hI1
         clear hT1 hC1 hI1)
      | (go_at_call 45; (with_reducible refine HSR.out.mono ?_); rintro e w2 ⟨rfl, t, ht, hx2⟩
         have hx2' : XR w O Xb C Q M P lim (0 + t) (L1 ++ L2) es w2 := XR.seq HC1.out HI1.out hx2
         have hz := K.alloc_top w2 (spo s e1 e2)
         have hd : XR w O Xb C Q M P lim (0 + t) (L1 ++ L2) es (w2.alloc (spo s e1 e2)).drew := (hx2'.more ((Below.refl _ w2).alloc (Nat.le_refl _) (spo s e1 e2))).drew 1
         have hlt2 : ∃ O3, XT (w2.alloc (spo s e1 e2)).drew Xb C Q M P lim (0 + t) (L1 ++ L2) es O3 ∧ K.Chg w (w2.alloc (spo s e1 e2)).drew O ∧ (∀ j, O3 j → O j ∨ w.heap.size ≤ j) ∧ ¬ O3 w2.heap.size := by
           obtain ⟨O3, hT3, hC3, hI3⟩ := hx2'
           exact ⟨O3, (hT3.chg (chg_alloc w2 (spo s e1 e2) (fun _ => False)) (fun _ _ h => h)).chg ((chg_refl _ (fun _ => False)).drewN 1) (fun _ _ h => h), (hC3.same (chg_alloc w2 (spo s e1 e2) _)).drewN 1, hI3, fun h => by have := hT3.lt _ h; omega⟩
         obtain ⟨O3, hT3, hC3, hI3, hN3⟩ := hlt2
         obtain ⟨k0, k1, k2⟩ := spo_cells hz
         have HS1 : Hid ((w2.alloc (spo s e1 e2)).drew.cell? ⟨Xb, 1, none⟩ = some (.pointer (some ⟨C, 0, none⟩)) ∧ (w2.alloc (spo s e1 e2)).drew.cell? ⟨w2.heap.size, 0, none⟩ = some (.int .i64 s) ∧ (w2.alloc (spo s e1 e2)).drew.cell? ⟨w2.heap.size, 1, none⟩ = some (.int .i64 (e1 : Int)) ∧ (w2.alloc (spo s e1 e2)).drew.cell? ⟨w2.heap.size, 2, none⟩ = some (.int .i64 (e2 : Int))) := Lib.hid ⟨hd.c1, k0, k1, k2⟩
         have HA3 := Lib.hid (HAT.out _ _ _ (by omega) hT3)
         have HC3 := Lib.hid hC3
         have HI3 := Lib.hid hI3
         have HN3 := Lib.hid hN3
         have HZ := Lib.hid hz
         clear hx2 hx2' hz hd hT3 hC3 hI3 hN3))
    go_region_held3 (fun Y => Y.cell? ⟨Xb, 1, none⟩ = some (.pointer (some ⟨C, 0, none⟩)) ∧ Y.cell? ⟨w2.heap.size, 0, none⟩ = some (.int .i64 s) ∧ Y.cell? ⟨w2.heap.size, 1, none⟩ = some (.int .i64 (e1 : Int)) ∧ Y.cell? ⟨w2.heap.size, 2, none⟩ = some (.int .i64 (e2 : Int))) (first | (with_reducible exact HS1.out) | (with_reducible exact HS2.out) | (with_reducible exact HS3.out) | go_keep) (first
      | (go_at_call 49; (with_reducible refine HA3.out.mono ?_); rintro e w3 ⟨rfl, t2, ht2, hx3⟩
         have z3 := hx3.row HZ.out HN3.out
         obtain ⟨k3, k4, k5⟩ := spo_cells z3
         have HS2 : Hid (w3.cell? ⟨Xb, 1, none⟩ = some (.pointer (some ⟨C, 0, none⟩)) ∧ w3.cell? ⟨w2.heap.size, 0, none⟩ = some (.int .i64 s) ∧ w3.cell? ⟨w2.heap.size, 1, none⟩ = some (.int .i64 (e1 : Int)) ∧ w3.cell? ⟨w2.heap.size, 2, none⟩ = some (.int .i64 (e2 : Int))) := Lib.hid ⟨hx3.c1, k3, k4, k5⟩
         obtain ⟨O4, hT4, hC4, hI4⟩ := hx3
         have HK4 := Lib.hid (HKY.out _ _ _ (by omega) hT4)
         have HC4 := Lib.hid hC4
         have HI4 := Lib.hid hI4
         clear z3 k3 k4 k5 hT4 hC4 hI4)
      | (go_at_call 52; (with_reducible refine HK4.out.mono ?_); rintro e w5 ⟨rfl, t3, ht3, hx5⟩
         have hx6 := XR.seq HC4.out HI4.out hx5
         have z5 := hx6.row HZ.out HN3.out
         obtain ⟨k3, k4, k5⟩ := spo_cells z5
         have HS3 : Hid (w5.cell? ⟨Xb, 1, none⟩ = some (.pointer (some ⟨C, 0, none⟩)) ∧ w5.cell? ⟨w2.heap.size, 0, none⟩ = some (.int .i64 s) ∧ w5.cell? ⟨w2.heap.size, 1, none⟩ = some (.int .i64 (e1 : Int)) ∧ w5.cell? ⟨w2.heap.size, 2, none⟩ = some (.int .i64 (e2 : Int))) := Lib.hid ⟨hx6.c1, k3, k4, k5⟩
         have HX7 : Hid (XR w O Xb C Q M P lim (0 + t + t2 + t3) (L1 ++ L2) es w5) := Lib.hid (XR.seq HC3.out HI3.out hx6)
         clear z5 k3 k4 k5 hx5 hx6))
    all_goals
      go_wp2
      go_ret2
      exact H.out.done HX7.out (by omega) (by omega) rfl
  · obtain ⟨n, L1, L2, hL, _, _, h3, h4, h5, h6, _⟩ := X.part_yes h.ks h.up hf
    rw [h5, h6]
    obtain ⟨s, hs⟩ : ∃ s : Int, (X.sc L k : Int) - 1 = s := ⟨_, rfl⟩
    have g0 : (s == 64) = true := by rw [beq_iff_eq]; have := hfs.1 hf; omega
    rw [hs] at hsr
    generalize X.fst' (X.spl L k (X.sc L k)) = e1 at *
    generalize X.lst' (X.spl L k (X.sc L k)) = e2 at *
    have hsr := fun W O' hW => Lib.hid (hsr W O' hW)
    clear h hfs hf hL h3 h4 h5 h6 hs
    go_enter Try.func55, Try.ntmps55
    go_wp2_with (first
      | (go_at_call 44; (with_reducible refine hst.out.mono ?_); rintro e w1 ⟨rfl, O1, hT1, hC1, hI1⟩
         have HSR := Lib.hid ((hsr _ _ hT1).out)
         have HC1 := Lib.hid hC1
         have HI1 := Lib.hid hI1
         clear hT1 hC1 hI1)
      | (go_at_call 45; (with_reducible refine HSR.out.mono ?_); rintro e w2 ⟨rfl, t, ht, hx2⟩
         have hx2' : XR w O Xb C Q M P lim (0 + t) L es w2 := XR.seq HC1.out HI1.out hx2
         obtain ⟨k0, k1, k2⟩ := spo_cells (K.alloc_top w2 (spo s e1 e2))
         have HX2 := Lib.hid hx2'
         clear hx2 hx2'))
    go_ret2
    exact H.out.done (HX2.out.more ((Below.refl _ w2).alloc (Nat.le_refl _) _)) (by omega) (by omega) rfl
theorem x_prev (k : Nat) (hk : k < 18446744073709551616) : Calls Try.prog 28 #[.pointer (some ⟨Xb, 0, none⟩), .int .u64 (k : Int)] w (TOp XZ w Xb O (.tuple #[.int .u64 ((K.pv xs k : Nat) : Int), .bool (K.pvb xs k)]) xs lim 9) := by
  have hn := Lib.hid (x_near_below w Xb C Q M P lim tk xs L es O h k hk)
  clear h
  go_enter Try.func28, Try.ntmps28
  go_wp2_with (go_at_call 55; (with_reducible refine hn.out.mono ?_); rintro e w1 ⟨tk', O', rfl, hT, hq, hC, hO⟩; have HE := Lib.hid (And.intro hT (And.intro hq (And.intro hC hO))); clear hT hq hC hO)
  go_ret2
  exact ⟨tk', O', rfl, HE.out.1, HE.out.2.1, HE.out.2.2.1, HE.out.2.2.2⟩
end
end Go.Proofs.Ytiinefdpaiincaa
