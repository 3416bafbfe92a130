/- A key is put into a trie; the texts walked. -/
import Derived.Deep.CutRange
import Derived.Test.YtiinefdpaiincaaMxX14
namespace Go.Proofs.Ytiinefdpaiincaa
open Go.RowKit
section
variable (w : World) (Xb C Q M P lim tk : Nat) (xs : List Nat) (L : LL) (es : Es) (O : Nat → Prop) (h : XS w Xb C Q M P lim tk xs L es O)
include h
set_option maxHeartbeats 4000000 in
theorem x_insert (k : Nat) (hk : k < 18446744073709551616) : Calls Try.prog 21 #[.pointer (some ⟨Xb, 0, none⟩), .int .u64 (k : Int)] w (TOp XZ w Xb O (.int .i64 ((K.inE K.xfast xs lim k : Nat) : Int)) (K.inL K.xfast xs lim k) lim 1073741824) := by
  have H := Lib.hid h
  have hst := Lib.hid h.xt.start
  have c0 := h.xt.c0
  have hfs := X.fo_sc h.ks h.up k
  have hsr := fun W O' (hW : XT W Xb C Q M P lim 0 L es O') => x_search W Xb C Q M P lim 0 L es O' hW (by omega) h.te h.xt.places k
  cases hf : K.fo xs k
  · obtain ⟨L1, L2, hL, h1, h2, hl, hadd⟩ := X.part_no h.ks h.up hf
    subst hL
    have hr := h.rises
    have hsc : X.sc (L1 ++ L2) k ≠ 65 := fun e => by rw [hfs.2 e] at hf; cases hf
    have hsl := X.sc_le (L1 ++ L2) k
    have hxa := X.xfast_add h.ks h.up h.keys hk (fun hm => by rw [(K.fo_mem h.up k).2 hm] at hf; cases hf)
    have hcnt := h.cnt
    have hle := h.le
    have hmax := h.max
    have hat := fun W t O' (ht : t < 900000) (hW : XT W Xb C Q M P lim t (L1 ++ L2) es O') => x_at_below W Xb C Q M P lim t L1 L2 es O' hW ht k hr h1 h2 hk
    have hus := fun W t O' (ht : t ≤ 100) (hW : XT W Xb C Q M P lim t (L1 ++ L2) es O') => x_used W Xb C Q M P lim t xs (L1 ++ L2) es O' ⟨hW, h.te, h.ks, h.up, h.cnt, h.le, h.max, ht⟩
    have hne := fun W a b => x_needs W (X.sc (L1 ++ L2) k) a b hsl
    obtain ⟨N, hN⟩ : ∃ N, (if X.sc (L1 ++ L2) k = 65 then 0 else 66 - X.sc (L1 ++ L2) k) = N := ⟨_, rfl⟩
    rw [hN] at hne
    have hN2 : N = 66 - X.sc (L1 ++ L2) k := by rw [← hN, if_neg hsc]
    obtain ⟨s, hs⟩ : ∃ s : Int, (X.sc (L1 ++ L2) k : Int) - 1 = s := ⟨_, rfl⟩
    have g0 : (s == 64) = false := by rw [beq_eq_false_iff_ne]; omega
    rw [hs] at hat hsr hne
    generalize X.fst' (X.spl (L1 ++ L2) k (X.sc (L1 ++ L2) k)) = e1 at *
    generalize X.lst' (X.spl (L1 ++ L2) k (X.sc (L1 ++ L2) k)) = e2 at *
    have ws : IntKind.i64.wrap ((lim : Int) - (K.xfast xs : Int)) = (lim : Int) - (K.xfast xs : Int) := IntWalk.i64_in _ (by omega)
    have HAT := Lib.hid hat
    have HUS := Lib.hid hus
    have hneH := fun W => Lib.hid (hne W e1 e2)
    have hsr := fun W O' hW => Lib.hid (hsr W O' hW)
    have HGR := Lib.hid (fun W t O' (ht : t < 900000) (hrm : (L1 ++ L2).length < lim) (hW : XT W Xb C Q M P lim t (L1 ++ L2) es O') => x_grow W Xb C Q M P lim t L1 L2 es O' hW ht h.te k hr h1 h2 hk hrm (by omega))
    have hE : K.inE K.xfast xs lim k = if lim < K.xfast (K.add xs k) then 5 else 0 := by unfold K.inE; rw [hf]; rfl
    have hLL : K.inL K.xfast xs lim k = if lim < K.xfast (K.add xs k) then xs else K.add xs k := by unfold K.inL; rw [hf]; rfl
    have HE := Lib.hid hE
    have HLL := Lib.hid hLL
    generalize K.inE K.xfast xs lim k = E at *
    generalize K.inL K.xfast xs lim k = Z at *
    obtain ⟨r, hr0⟩ : ∃ r, decide ((lim : Int) - (K.xfast xs : Int) < (N : Int)) = r := ⟨_, rfl⟩
    have hrr : r = decide (lim < K.xfast (K.add xs k)) := by
      rw [← hr0, Bool.eq_iff_iff, decide_eq_true_eq, decide_eq_true_eq]
      omega
    have HF := Lib.hid (And.intro hxa (And.intro hcnt (And.intro hle (And.intro hmax (And.intro hadd hsl)))))
    have HRR := Lib.hid hrr
    generalize K.xfast xs = U at *
    clear h hfs hf h1 h2 hl hr hsc hs hat hus hne hN hN2 hxa hcnt hle hmax hadd hsl hE hLL hrr
    go_enter Try.func21, Try.ntmps21
    go_wp2_with (first
      | (go_at_call 44; (with_reducible refine hst.out.mono ?_); rintro e w1 ⟨rfl, O1, hT1, hC1, hI1⟩
         have HSR := Lib.hid ((hsr _ _ hT1).out)
         have HC1 := Lib.hid hC1
         have HI1 := Lib.hid hI1
         clear hT1 hC1 hI1)
      | (go_at_call 45; (with_reducible refine HSR.out.mono ?_); rintro e w2 ⟨rfl, t, ht, hx2⟩
         have hx2' : XR w O Xb C Q M P lim (0 + t) (L1 ++ L2) es w2 := XR.seq HC1.out HI1.out hx2
         have hz := K.alloc_top w2 (spo s e1 e2)
         have hd : XR w O Xb C Q M P lim (0 + t) (L1 ++ L2) es (w2.alloc (spo s e1 e2)).drew := (hx2'.more ((Below.refl _ w2).alloc (Nat.le_refl _) (spo s e1 e2))).drew 1
         obtain ⟨k0, k1, k2⟩ := spo_cells hz
         have HS1 : Hid ((w2.alloc (spo s e1 e2)).drew.cell? ⟨Xb, 3, none⟩ = some (.int .i64 (lim : Int)) ∧ (w2.alloc (spo s e1 e2)).drew.cell? ⟨w2.heap.size, 0, none⟩ = some (.int .i64 s) ∧ (w2.alloc (spo s e1 e2)).drew.cell? ⟨w2.heap.size, 1, none⟩ = some (.int .i64 (e1 : Int)) ∧ (w2.alloc (spo s e1 e2)).drew.cell? ⟨w2.heap.size, 2, none⟩ = some (.int .i64 (e2 : Int))) := Lib.hid ⟨hd.c3, k0, k1, k2⟩
         have HU1 := Lib.hid (by obtain ⟨O3, hT3, _⟩ := hd; exact HUS.out _ _ _ (by omega) hT3)
         have HXD := Lib.hid hd
         have HZ : Hid ((w2.alloc (spo s e1 e2)).drew.heap[w2.heap.size]? = some (spo s e1 e2)) := Lib.hid hz
         clear hx2 hx2' hz hd))
    go_cut [30] from 21 to 29 (fun s30 wc => s30 = .bool r ∧ Hid (XR w O Xb C Q M P lim (0 + t) (L1 ++ L2) es wc) ∧ Hid (wc.heap[w2.heap.size]? = some (spo s e1 e2)))
    case first =>
      go_region_held3 (fun Y => Y.cell? ⟨Xb, 3, none⟩ = some (.int .i64 (lim : Int)) ∧ Y.cell? ⟨w2.heap.size, 0, none⟩ = some (.int .i64 s) ∧ Y.cell? ⟨w2.heap.size, 1, none⟩ = some (.int .i64 (e1 : Int)) ∧ Y.cell? ⟨w2.heap.size, 2, none⟩ = some (.int .i64 (e2 : Int))) (first | (with_reducible exact HS1.out) | (with_reducible exact HSA.out) | (with_reducible exact HSB.out) | go_keep) (first
      | (go_at_call 12; (with_reducible refine HUA.out.mono ?_); rintro e wb ⟨rfl, hbb⟩
         have hxb := HXA.out.more hbb
         have zb := (hbb.block w2.heap.size (row_lt ZA.out)).trans ZA.out
         obtain ⟨k3, k4, k5⟩ := spo_cells zb
         have HSB : Hid (wb.cell? ⟨Xb, 3, none⟩ = some (.int .i64 (lim : Int)) ∧ wb.cell? ⟨w2.heap.size, 0, none⟩ = some (.int .i64 s) ∧ wb.cell? ⟨w2.heap.size, 1, none⟩ = some (.int .i64 (e1 : Int)) ∧ wb.cell? ⟨w2.heap.size, 2, none⟩ = some (.int .i64 (e2 : Int))) := Lib.hid ⟨hxb.c3, k3, k4, k5⟩
         have HXB := Lib.hid hxb
         have ZB := Lib.hid zb
         clear hbb hxb zb k3 k4 k5)
      | (go_at_call 47; (with_reducible refine (hneH _).out.mono ?_); rintro e wb ⟨rfl, hbb⟩
         have hxb := HXA.out.more hbb
         have zb := (hbb.block w2.heap.size (row_lt ZA.out)).trans ZA.out
         obtain ⟨k3, k4, k5⟩ := spo_cells zb
         have HSB : Hid (wb.cell? ⟨Xb, 3, none⟩ = some (.int .i64 (lim : Int)) ∧ wb.cell? ⟨w2.heap.size, 0, none⟩ = some (.int .i64 s) ∧ wb.cell? ⟨w2.heap.size, 1, none⟩ = some (.int .i64 (e1 : Int)) ∧ wb.cell? ⟨w2.heap.size, 2, none⟩ = some (.int .i64 (e2 : Int))) := Lib.hid ⟨hxb.c3, k3, k4, k5⟩
         have HXB := Lib.hid hxb
         have ZB := Lib.hid zb
         clear hbb hxb zb k3 k4 k5)
      | (go_at_call 12; (with_reducible refine HU1.out.mono ?_); rintro e wa ⟨rfl, hba⟩
         have hxa := HXD.out.more hba
         have za := (hba.block w2.heap.size (row_lt HZ.out)).trans HZ.out
         obtain ⟨k3, k4, k5⟩ := spo_cells za
         have HSA : Hid (wa.cell? ⟨Xb, 3, none⟩ = some (.int .i64 (lim : Int)) ∧ wa.cell? ⟨w2.heap.size, 0, none⟩ = some (.int .i64 s) ∧ wa.cell? ⟨w2.heap.size, 1, none⟩ = some (.int .i64 (e1 : Int)) ∧ wa.cell? ⟨w2.heap.size, 2, none⟩ = some (.int .i64 (e2 : Int))) := Lib.hid ⟨hxa.c3, k3, k4, k5⟩
         have HXA := Lib.hid hxa
         have ZA := Lib.hid za
         clear hba hxa za k3 k4 k5)
      | (go_at_call 47; (with_reducible refine (hneH _).out.mono ?_); rintro e wa ⟨rfl, hba⟩
         have hxa := HXD.out.more hba
         have za := (hba.block w2.heap.size (row_lt HZ.out)).trans HZ.out
         obtain ⟨k3, k4, k5⟩ := spo_cells za
         have HSA : Hid (wa.cell? ⟨Xb, 3, none⟩ = some (.int .i64 (lim : Int)) ∧ wa.cell? ⟨w2.heap.size, 0, none⟩ = some (.int .i64 s) ∧ wa.cell? ⟨w2.heap.size, 1, none⟩ = some (.int .i64 (e1 : Int)) ∧ wa.cell? ⟨w2.heap.size, 2, none⟩ = some (.int .i64 (e2 : Int))) := Lib.hid ⟨hxa.c3, k3, k4, k5⟩
         have HXA := Lib.hid hxa
         have ZA := Lib.hid za
         have HUA := Lib.hid (by obtain ⟨O3, hT3, _⟩ := hxa; exact HUS.out _ _ _ (by omega) hT3)
         clear hba hxa za k3 k4 k5))
      all_goals
        go_wp2_with (fail)
        go_meet
        exact ⟨rfl, HXB, ZB⟩
    case rest =>
      obtain ⟨rfl, hXC, hZC⟩ := hcut
      cases hcase : decide (lim < K.xfast (K.add xs k))
      · have hr1 : r = false := HRR.out.trans hcase
        have hnl : ¬ lim < K.xfast (K.add xs k) := of_decide_eq_false hcase
        have hE := HE.out
        have hLL := HLL.out
        rw [if_neg hnl] at hE hLL
        subst hE hLL
        obtain ⟨q1, q2, q3, q4, q5, q6⟩ := HF.out
        have hrm : (L1 ++ L2).length < lim := by omega
        obtain ⟨k0, k1, k2⟩ := spo_cells hZC.out
        obtain ⟨O3, hT3, hC3, hI3⟩ := hXC.out
        have HA3 := Lib.hid (HAT.out _ _ _ (by omega) hT3)
        have HC3 := Lib.hid hC3
        have HI3 := Lib.hid hI3
        have HNL := Lib.hid hnl
        have HRM := Lib.hid hrm
        subst hr1
        clear hcase hnl q1 q2 q3 q4 q5 q6 hrm hT3 hC3 hI3 hr0 ws
        go_wp2_with (first
          | (go_at_call 49; (with_reducible refine HA3.out.mono ?_); rintro e w3 ⟨rfl, t2, ht2, hx3⟩
             obtain ⟨O4, hT4, hC4, hI4⟩ := XR.seq HC3.out HI3.out hx3
             have HG4 := Lib.hid (HGR.out _ _ _ (by omega) HRM.out hT4)
             have HC4 := Lib.hid hC4
             have HI4 := Lib.hid hI4
             clear hx3 hT4 hC4 hI4)
          | (go_at_call 48; (with_reducible refine HG4.out.mono ?_); rintro e w5 ⟨rfl, n, es', hn5, hte5, hlen5, hx5⟩
             have HX5 := Lib.hid (XR.seq HC4.out HI4.out hx5)
             have HTE5 := Lib.hid hte5
             have HL5 := Lib.hid hlen5
             clear hx5 hte5 hlen5 hn5))
        go_ret
        obtain ⟨q1, q2, q3, q4, q5, q6⟩ := HF.out
        have hl5 := HL5.out
        have hnl := HNL.out
        rw [List.length_append] at q2
        exact top_of HX5.out HTE5.out.all (q5 n) (K.add_up H.out.up k) (by rw [List.length_append, List.length_cons]; omega) (by omega) q4 (by omega) (by omega) rfl
      · have hr1 : r = true := HRR.out.trans hcase
        have hnl : lim < K.xfast (K.add xs k) := of_decide_eq_true hcase
        have hE := HE.out
        have hLL := HLL.out
        rw [if_pos hnl] at hE hLL
        subst hE hLL
        subst hr1
        clear hcase hnl hr0 ws
        go_wp2
        go_ret
        exact H.out.done hXC.out (by omega) (by omega) rfl
  · obtain ⟨s, hs⟩ : ∃ s : Int, (X.sc L k : Int) - 1 = s := ⟨_, rfl⟩
    have g0 : (s == 64) = true := by rw [beq_iff_eq]; have := hfs.1 hf; omega
    have hE : K.inE K.xfast xs lim k = 4 := by unfold K.inE; rw [if_pos hf]
    have hLL : K.inL K.xfast xs lim k = xs := by unfold K.inL; rw [if_pos hf]
    rw [hE, hLL]
    rw [hs] at hsr
    generalize X.fst' (X.spl L k (X.sc L k)) = e1 at *
    generalize X.lst' (X.spl L k (X.sc L k)) = e2 at *
    have hsr := fun W O' hW => Lib.hid (hsr W O' hW)
    clear h hfs hf hs hE hLL
    go_enter Try.func21, Try.ntmps21
    go_wp2_with (first
      | (go_at_call 44; (with_reducible refine hst.out.mono ?_); rintro e w1 ⟨rfl, O1, hT1, hC1, hI1⟩
         have HSR := Lib.hid ((hsr _ _ hT1).out)
         have HC1 := Lib.hid hC1
         have HI1 := Lib.hid hI1
         clear hT1 hC1 hI1)
      | (go_at_call 45; (with_reducible refine HSR.out.mono ?_); rintro e w2 ⟨rfl, t, ht, hx2⟩
         have hx2' : XR w O Xb C Q M P lim (0 + t) L es w2 := XR.seq HC1.out HI1.out hx2
         obtain ⟨k0, k1, k2⟩ := spo_cells (K.alloc_top w2 (spo s e1 e2))
         have HX2 := Lib.hid hx2'
         clear hx2 hx2'))
    go_ret
    exact H.out.done (HX2.out.more ((Below.refl _ w2).alloc (Nat.le_refl _) _)) (by omega) (by omega) rfl
end
end Go.Proofs.Ytiinefdpaiincaa
