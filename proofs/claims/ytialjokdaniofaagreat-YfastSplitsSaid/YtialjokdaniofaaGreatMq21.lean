/- A key is put into a trie; the texts walked. A new trie; the texts walked. The keys of a trie, one by one, over any body; the text walked. A meter whose numbers may be any; the texts walked. -/
import Derived.Deep.CutRange
import Derived.Test.YtialjokdaniofaaGreatMq20
import Derived.Test.YtialjokdaniofaaGreatMq09
import Derived.Test.YtialjokdaniofaaGreatMq03
section
namespace Go.Proofs.YtialjokdaniofaaGreat
set_option maxRecDepth 20000
open Go.RowKit
set_option linter.unusedSectionVars false
variable [Gh]
section
variable (w : World) (Xb C Q M P lim tk : Nat) (xs : List Nat) (L : LL) (es : Es) (O : Nat → Prop) (h : XS w Xb C Q M P lim tk xs L es O)
include h
set_option maxHeartbeats 4000000 in
theorem x_insert (htk : tk = 2000000) (k : Nat) (hk : k < 18446744073709551616) : Calls Tryz.prog 97 #[.pointer (some ⟨Xb, 0, none⟩), .int .u64 (k : Int)] w (TOp XZ w Xb O (.int .i64 ((K.inE K.xfast xs lim k : Nat) : Int)) (K.inL K.xfast xs lim k) lim 1073741824) := by
  have H := Lib.hid h
  have hst := Lib.hid (h.xt.start htk)
  have c0 := h.xt.c0
  have hfs := X.fo_sc h.ks h.up k
  have hsr := fun W O' (hW : XT W Xb C Q M P lim 0 L es O') => x_search W Xb C Q M P lim 0 L es O' hW (by omega) h.te h.xt.places k
  cases hf : K.fo xs k
  · obtain ⟨L1, L2, hL, h1, h2, hl, hadd⟩ := X.part_no h.ks h.up hf
    subst hL
    have hr := h.rises
    have hsc : X.sc (L1 ++ L2) k ≠ 65 := fun e => by rw [hfs.2 e] at hf; cases hf
    have hsl := X.sc_le (L1 ++ L2) k
    have hxa := X.xfast_add h.ks h.up h.keys hk (fun hm => by rw [(K.fo_mem h.up k).2 hm] at hf; cases hf)
    have hcnt := h.cnt
    have hle := h.le
    have hmax := h.max
    have hat := fun W t O' (ht : t < 900000) (hW : XT W Xb C Q M P lim t (L1 ++ L2) es O') => x_at_below W Xb C Q M P lim t L1 L2 es O' hW ht k hr h1 h2 hk
    have hus := fun W t O' (ht : t ≤ 100) (hW : XT W Xb C Q M P lim t (L1 ++ L2) es O') => x_used W Xb C Q M P lim t xs (L1 ++ L2) es O' ⟨hW, h.te, h.ks, h.up, h.cnt, h.le, h.max, .inl ht⟩
    have hne := fun W a b => x_needs W (X.sc (L1 ++ L2) k) a b hsl
    obtain ⟨N, hN⟩ : ∃ N, (if X.sc (L1 ++ L2) k = 65 then 0 else 66 - X.sc (L1 ++ L2) k) = N := ⟨_, rfl⟩
    rw [hN] at hne
    have hN2 : N = 66 - X.sc (L1 ++ L2) k := by rw [← hN, if_neg hsc]
    obtain ⟨s, hs⟩ : ∃ s : Int, (X.sc (L1 ++ L2) k : Int) - 1 = s := ⟨_, rfl⟩
    have g0 : (s == 64) = false := by rw [beq_eq_false_iff_ne]; omega
    rw [hs] at hat hsr hne
    generalize X.fst' (X.spl (L1 ++ L2) k (X.sc (L1 ++ L2) k)) = e1 at *
    generalize X.lst' (X.spl (L1 ++ L2) k (X.sc (L1 ++ L2) k)) = e2 at *
    have ws : IntKind.i64.wrap ((lim : Int) - (K.xfast xs : Int)) = (lim : Int) - (K.xfast xs : Int) := IntWalk.i64_in _ (by omega)
    have HAT := Lib.hid hat
    have HUS := Lib.hid hus
    have hneH := fun W => Lib.hid (hne W e1 e2)
    have hsr := fun W O' hW => Lib.hid (hsr W O' hW)
    have HGR := Lib.hid (fun W t O' (ht : t < 900000) (hrm : (L1 ++ L2).length < lim) (hW : XT W Xb C Q M P lim t (L1 ++ L2) es O') => x_grow W Xb C Q M P lim t L1 L2 es O' hW ht h.te k hr h1 h2 hk hrm (by omega))
    have hE : K.inE K.xfast xs lim k = if lim < K.xfast (K.add xs k) then 5 else 0 := by unfold K.inE; rw [hf]; rfl
    have hLL : K.inL K.xfast xs lim k = if lim < K.xfast (K.add xs k) then xs else K.add xs k := by unfold K.inL; rw [hf]; rfl
    have HE := Lib.hid hE
    have HLL := Lib.hid hLL
    generalize K.inE K.xfast xs lim k = E at *
    generalize K.inL K.xfast xs lim k = Z at *
    obtain ⟨r, hr0⟩ : ∃ r, decide ((lim : Int) - (K.xfast xs : Int) < (N : Int)) = r := ⟨_, rfl⟩
    have hrr : r = decide (lim < K.xfast (K.add xs k)) := by
      rw [← hr0, Bool.eq_iff_iff, decide_eq_true_eq, decide_eq_true_eq]
      omega
    have HF := Lib.hid (And.intro hxa (And.intro hcnt (And.intro hle (And.intro hmax (And.intro hadd hsl)))))
    have HRR := Lib.hid hrr
    generalize K.xfast xs = U at *
    clear h hfs hf h1 h2 hl hr hsc hs hat hus hne hN hN2 hxa hcnt hle hmax hadd hsl hE hLL hrr
    go_enter Tryz.func97, Tryz.ntmps97
    go_wp2_with (first
      | (go_at_call 46; (with_reducible refine hst.out.mono ?_); rintro e w1 ⟨rfl, O1, hT1, hC1, hI1⟩
         have HSR := Lib.hid ((hsr _ _ hT1).out)
         have HC1 := Lib.hid hC1
         have HI1 := Lib.hid hI1
         clear hT1 hC1 hI1)
      | (go_at_call 121; (with_reducible refine HSR.out.mono ?_); rintro e w2 ⟨rfl, t, ht, hx2⟩
         have hx2' : XR w O Xb C Q M P lim (0 + t) (L1 ++ L2) es w2 := XR.seq HC1.out HI1.out hx2
         have hz := K.alloc_top w2 (spo s e1 e2)
         have hd : XR w O Xb C Q M P lim (0 + t) (L1 ++ L2) es (w2.alloc (spo s e1 e2)).drew := (hx2'.more ((Below.refl _ w2).alloc (Nat.le_refl _) (spo s e1 e2))).drew 1
         obtain ⟨k0, k1, k2⟩ := spo_cells hz
         have HS1 : Hid ((w2.alloc (spo s e1 e2)).drew.cell? ⟨Xb, 3, none⟩ = some (.int .i64 (lim : Int)) ∧ (w2.alloc (spo s e1 e2)).drew.cell? ⟨w2.heap.size, 0, none⟩ = some (.int .i64 s) ∧ (w2.alloc (spo s e1 e2)).drew.cell? ⟨w2.heap.size, 1, none⟩ = some (.int .i64 (e1 : Int)) ∧ (w2.alloc (spo s e1 e2)).drew.cell? ⟨w2.heap.size, 2, none⟩ = some (.int .i64 (e2 : Int))) := Lib.hid ⟨hd.c3, k0, k1, k2⟩
         have HU1 := Lib.hid (by obtain ⟨O3, hT3, _⟩ := hd; exact HUS.out _ _ _ (by omega) hT3)
         have HXD := Lib.hid hd
         have HZ : Hid ((w2.alloc (spo s e1 e2)).drew.heap[w2.heap.size]? = some (spo s e1 e2)) := Lib.hid hz
         clear hx2 hx2' hz hd))
    go_cut [30] from 21 to 29 (fun s30 wc => s30 = .bool r ∧ Hid (XR w O Xb C Q M P lim (0 + t) (L1 ++ L2) es wc) ∧ Hid (wc.heap[w2.heap.size]? = some (spo s e1 e2)))
    case first =>
      go_region_held3 (fun Y => Y.cell? ⟨Xb, 3, none⟩ = some (.int .i64 (lim : Int)) ∧ Y.cell? ⟨w2.heap.size, 0, none⟩ = some (.int .i64 s) ∧ Y.cell? ⟨w2.heap.size, 1, none⟩ = some (.int .i64 (e1 : Int)) ∧ Y.cell? ⟨w2.heap.size, 2, none⟩ = some (.int .i64 (e2 : Int))) (first | (with_reducible exact HS1.out) | (with_reducible exact HSA.out) | (with_reducible exact HSB.out) | go_keep) (first
      | (go_at_call 41; (with_reducible refine HUA.out.mono ?_); rintro e wb ⟨rfl, hbb⟩
         have hxb := HXA.out.more hbb
         have zb := (hbb.block w2.heap.size (row_lt ZA.out)).trans ZA.out
         obtain ⟨k3, k4, k5⟩ := spo_cells zb
         have HSB : Hid (wb.cell? ⟨Xb, 3, none⟩ = some (.int .i64 (lim : Int)) ∧ wb.cell? ⟨w2.heap.size, 0, none⟩ = some (.int .i64 s) ∧ wb.cell? ⟨w2.heap.size, 1, none⟩ = some (.int .i64 (e1 : Int)) ∧ wb.cell? ⟨w2.heap.size, 2, none⟩ = some (.int .i64 (e2 : Int))) := Lib.hid ⟨hxb.c3, k3, k4, k5⟩
         have HXB := Lib.hid hxb
         have ZB := Lib.hid zb
         clear hbb hxb zb k3 k4 k5)
      | (go_at_call 123; (with_reducible refine (hneH _).out.mono ?_); rintro e wb ⟨rfl, hbb⟩
         have hxb := HXA.out.more hbb
         have zb := (hbb.block w2.heap.size (row_lt ZA.out)).trans ZA.out
         obtain ⟨k3, k4, k5⟩ := spo_cells zb
         have HSB : Hid (wb.cell? ⟨Xb, 3, none⟩ = some (.int .i64 (lim : Int)) ∧ wb.cell? ⟨w2.heap.size, 0, none⟩ = some (.int .i64 s) ∧ wb.cell? ⟨w2.heap.size, 1, none⟩ = some (.int .i64 (e1 : Int)) ∧ wb.cell? ⟨w2.heap.size, 2, none⟩ = some (.int .i64 (e2 : Int))) := Lib.hid ⟨hxb.c3, k3, k4, k5⟩
         have HXB := Lib.hid hxb
         have ZB := Lib.hid zb
         clear hbb hxb zb k3 k4 k5)
      | (go_at_call 41; (with_reducible refine HU1.out.mono ?_); rintro e wa ⟨rfl, hba⟩
         have hxa := HXD.out.more hba
         have za := (hba.block w2.heap.size (row_lt HZ.out)).trans HZ.out
         obtain ⟨k3, k4, k5⟩ := spo_cells za
         have HSA : Hid (wa.cell? ⟨Xb, 3, none⟩ = some (.int .i64 (lim : Int)) ∧ wa.cell? ⟨w2.heap.size, 0, none⟩ = some (.int .i64 s) ∧ wa.cell? ⟨w2.heap.size, 1, none⟩ = some (.int .i64 (e1 : Int)) ∧ wa.cell? ⟨w2.heap.size, 2, none⟩ = some (.int .i64 (e2 : Int))) := Lib.hid ⟨hxa.c3, k3, k4, k5⟩
         have HXA := Lib.hid hxa
         have ZA := Lib.hid za
         clear hba hxa za k3 k4 k5)
      | (go_at_call 123; (with_reducible refine (hneH _).out.mono ?_); rintro e wa ⟨rfl, hba⟩
         have hxa := HXD.out.more hba
         have za := (hba.block w2.heap.size (row_lt HZ.out)).trans HZ.out
         obtain ⟨k3, k4, k5⟩ := spo_cells za
         have HSA : Hid (wa.cell? ⟨Xb, 3, none⟩ = some (.int .i64 (lim : Int)) ∧ wa.cell? ⟨w2.heap.size, 0, none⟩ = some (.int .i64 s) ∧ wa.cell? ⟨w2.heap.size, 1, none⟩ = some (.int .i64 (e1 : Int)) ∧ wa.cell? ⟨w2.heap.size, 2, none⟩ = some (.int .i64 (e2 : Int))) := Lib.hid ⟨hxa.c3, k3, k4, k5⟩
         have HXA := Lib.hid hxa
         have ZA := Lib.hid za
         have HUA := Lib.hid (by obtain ⟨O3, hT3, _⟩ := hxa; exact HUS.out _ _ _ (by omega) hT3)
         clear hba hxa za k3 k4 k5))
      all_goals
        go_wp2_with (fail)
        go_meet
        exact ⟨rfl, HXB, ZB⟩
    case rest =>
      obtain ⟨rfl, hXC, hZC⟩ := hcut
      cases hcase : decide (lim < K.xfast (K.add xs k))
      · have hr1 : r = false := HRR.out.trans hcase
        have hnl : ¬ lim < K.xfast (K.add xs k) := of_decide_eq_false hcase
        have hE := HE.out
        have hLL := HLL.out
        rw [if_neg hnl] at hE hLL
        subst hE hLL
        obtain ⟨q1, q2, q3, q4, q5, q6⟩ := HF.out
        have hrm : (L1 ++ L2).length < lim := by omega
        obtain ⟨k0, k1, k2⟩ := spo_cells hZC.out
        obtain ⟨O3, hT3, hC3, hI3⟩ := hXC.out
        have HA3 := Lib.hid (HAT.out _ _ _ (by omega) hT3)
        have HC3 := Lib.hid hC3
        have HI3 := Lib.hid hI3
        have HNL := Lib.hid hnl
        have HRM := Lib.hid hrm
        subst hr1
        clear hcase hnl q1 q2 q3 q4 q5 q6 hrm hT3 hC3 hI3 hr0 ws
        go_wp2_with (first
          | (go_at_call 116; (with_reducible refine HA3.out.mono ?_); rintro e w3 ⟨rfl, t2, ht2, hx3⟩
             obtain ⟨O4, hT4, hC4, hI4⟩ := XR.seq HC3.out HI3.out hx3
             have HG4 := Lib.hid (HGR.out _ _ _ (by omega) HRM.out hT4)
             have HC4 := Lib.hid hC4
             have HI4 := Lib.hid hI4
             clear hx3 hT4 hC4 hI4)
          | (go_at_call 133; (with_reducible refine HG4.out.mono ?_); rintro e w5 ⟨rfl, n, es', hn5, hte5, hlen5, hx5⟩
             have HX5 := Lib.hid (XR.seq HC4.out HI4.out hx5)
             have HTE5 := Lib.hid hte5
             have HL5 := Lib.hid hlen5
             clear hx5 hte5 hlen5 hn5))
        go_ret
        obtain ⟨q1, q2, q3, q4, q5, q6⟩ := HF.out
        have hl5 := HL5.out
        have hnl := HNL.out
        rw [List.length_append] at q2
        exact top_of HX5.out HTE5.out.all (q5 n) (K.add_up H.out.up k) (by rw [List.length_append, List.length_cons]; omega) (by omega) q4 (by omega) (by omega) rfl
      · have hr1 : r = true := HRR.out.trans hcase
        have hnl : lim < K.xfast (K.add xs k) := of_decide_eq_true hcase
        have hE := HE.out
        have hLL := HLL.out
        rw [if_pos hnl] at hE hLL
        subst hE hLL
        subst hr1
        clear hcase hnl hr0 ws
        go_wp2
        go_ret
        exact H.out.done hXC.out (by omega) (by omega) rfl
  · obtain ⟨s, hs⟩ : ∃ s : Int, (X.sc L k : Int) - 1 = s := ⟨_, rfl⟩
    have g0 : (s == 64) = true := by rw [beq_iff_eq]; have := hfs.1 hf; omega
    have hE : K.inE K.xfast xs lim k = 4 := by unfold K.inE; rw [if_pos hf]
    have hLL : K.inL K.xfast xs lim k = xs := by unfold K.inL; rw [if_pos hf]
    rw [hE, hLL]
    rw [hs] at hsr
    generalize X.fst' (X.spl L k (X.sc L k)) = e1 at *
    generalize X.lst' (X.spl L k (X.sc L k)) = e2 at *
    have hsr := fun W O' hW => Lib.hid (hsr W O' hW)
    clear h hfs hf hs hE hLL
    go_enter Tryz.func97, Tryz.ntmps97
    go_wp2_with (first
      | (go_at_call 46; (with_reducible refine hst.out.mono ?_); rintro e w1 ⟨rfl, O1, hT1, hC1, hI1⟩
         have HSR := Lib.hid ((hsr _ _ hT1).out)
         have HC1 := Lib.hid hC1
         have HI1 := Lib.hid hI1
         clear hT1 hC1 hI1)
      | (go_at_call 121; (with_reducible refine HSR.out.mono ?_); rintro e w2 ⟨rfl, t, ht, hx2⟩
         have hx2' : XR w O Xb C Q M P lim (0 + t) L es w2 := XR.seq HC1.out HI1.out hx2
         obtain ⟨k0, k1, k2⟩ := spo_cells (K.alloc_top w2 (spo s e1 e2))
         have HX2 := Lib.hid hx2'
         clear hx2 hx2'))
    go_ret
    exact H.out.done (HX2.out.more ((Below.refl _ w2).alloc (Nat.le_refl _) _)) (by omega) (by omega) rfl
end
end Go.Proofs.YtialjokdaniofaaGreat
end
section
namespace Go.Proofs.YtialjokdaniofaaGreat
set_option maxRecDepth 20000
open Go.RowKit
set_option linter.unusedSectionVars false
variable [Gh]
theorem cell_more {w : World} {p : Addr} {v : Value} (h : w.cell? p = some v) (o : Obj) : (w.alloc o).cell? p = some v := by
  have hlt : p.block < w.heap.size := Classical.byContradiction fun hn => by
    have : w.heap[p.block]? = none := Array.getElem?_eq_none (by omega)
    simp [World.cell?, this] at h
  have e : (w.alloc o).heap[p.block]? = w.heap[p.block]? := Below.heap_alloc _ _ _ hlt
  simp only [World.cell?] at h ⊢
  rw [e]
  exact h
set_option maxHeartbeats 1000000 in
theorem xf_new (w : World) (sd n : Nat) (hn : n ≤ 500000) (hgh : Gh.r0 = 0 ∧ Gh.c0 = 0) : Calls Tryz.prog 35 #[.int .u64 (sd : Int), .int .i64 (n : Int)] w fun e w' => ∃ Xb tk O, e = .returned (.tuple #[.pointer (some ⟨Xb, 0, none⟩), .int .i64 0]) ∧ XZ w' Xb [] n tk O ∧ Below w.heap.size w w' ∧ ∀ j, O j → w.heap.size ≤ j := by
  have hc := Lib.hid (c_new w n (by omega) hgh)
  have HNN := Lib.hid hn
  clear hn
  go_enter Tryz.func35, Tryz.ntmps35
  go_wp2_with (first
    | (go_at_call 66; (with_reducible refine hc.out.mono ?_); rintro e w1 ⟨C, Q, M, rfl, hch, hmx, a1, a2, a3, hb1⟩
       have hd : CW w1.drew C Q M n none 0 none 0 [] [] [] := hch.chg ((chg_refl w1 (fun _ => False)).drewN 1) (fun _ _ h => h)
       have hmd : Mx w1.drew M 0 := hmx.chg ((chg_refl w1 (fun _ => False)).drewN 1) (fun h => h)
       have HS1 := Lib.hid hd.cb.c0
       have HD := Lib.hid hd
       have HMD := Lib.hid hmd
       have HB1 : Hid (Below w.heap.size w w1.drew) := Lib.hid hb1.drew
       have HA := Lib.hid (And.intro a1 (And.intro a2 a3))
       have HN := Lib.hid (Hs.tab_new_nil w1.drew sd)
       clear hch hmx a1 a2 a3 hb1 hd hmd))
  go_region_held3 (fun Y => Y.cell? ⟨C, 0, none⟩ = some (.pointer (some ⟨M, 0, none⟩))) (first | (with_reducible exact HS1.out) | (with_reducible exact HS2.out) | (with_reducible exact HS3.out _) | go_keep)
    ((go_at_call 37; (with_reducible refine HN.out.mono ?_); rintro e w2 ⟨Pt, Qt, Mt, rfl, ht, hb2, p1, p2, p3⟩
      have hs2 : w2.cell? ⟨C, 0, none⟩ = some (.pointer (some ⟨M, 0, none⟩)) := (HD.out.chg (K.Chg.of_below (O := fun _ => False) hb2) (fun _ _ h => h)).cb.c0
      have HS2 := Lib.hid hs2
      have HS3 := Lib.hid (fun o => cell_more hs2 o)
      have HT := Lib.hid ht
      have HB2 := Lib.hid hb2
      have HP := Lib.hid (And.intro p1 (And.intro p2 p3))
      clear ht hb2 p1 p2 p3 hs2))
  all_goals
    go_wp2
    go_ret2
    have hb3 : Below w1.drew.heap.size w1.drew (w2.alloc (.cells #[.pointer (some ⟨M, 0, none⟩), .pointer (some ⟨C, 0, none⟩), .pointer (some ⟨Pt, 0, none⟩), .int .i64 (n : Int)] 114)) := HB2.out.alloc HB2.out.size _
    have hc3 := K.Chg.of_below (O := fun _ => False) hb3
    have hca := chg_alloc w2 (.cells #[.pointer (some ⟨M, 0, none⟩), .pointer (some ⟨C, 0, none⟩), .pointer (some ⟨Pt, 0, none⟩), .int .i64 (n : Int)] 114) (fun _ => False)
    obtain ⟨a1, a2, a3⟩ := HA.out
    obtain ⟨p1, p2, p3⟩ := HP.out
    have hz1 := HB1.out.size
    have hz2 := HB2.out.size
    have hM := HMD.out.lt
    have hMt : w1.drew.heap.size ≤ Mt := by
      rcases p3 with p3 | p3
      · cases p3
      · exact p3.2
    have hb4 : Below w.heap.size w (w2.alloc (.cells #[.pointer (some ⟨M, 0, none⟩), .pointer (some ⟨C, 0, none⟩), .pointer (some ⟨Pt, 0, none⟩), .int .i64 (n : Int)] 114)) := HB1.out.trans (hb3.mono hz1)
    refine ⟨w2.heap.size, 0, _, rfl, ⟨C, Q, M, Pt, [], [], ⟨⟨sd, none, 0, none, 0, [], [], Qt, Mt, 8, 0, ⟨K.alloc_top _ _, HMD.out.chg hc3 (fun h => h), HD.out.chg hc3 (fun _ _ h => h), HT.out.but (ButS.of_chg hca) (fun _ _ h => h), by omega⟩, rfl⟩, X.TE.zero, rfl, List.Pairwise.nil, rfl, Nat.zero_le _, HNN.out, by omega⟩⟩, hb4, fun j hj => ?_⟩
    rcases hj with h | h | (h | h | h | h) | (h | h | h)
    · omega
    · omega
    · omega
    · omega
    · cases h
    · cases h
    · omega
    · omega
    · omega
end Go.Proofs.YtialjokdaniofaaGreat
end
section
namespace Go.Proofs.YtialjokdaniofaaGreat
set_option maxRecDepth 20000
set_option linter.unusedSectionVars false
variable [Gh]
open Go.RowKit Go.Shelf
attribute [local go_sem] Oper.semAt_some
attribute [local simp] wide_fn
/-- What the inner loop keeps: its own blocks lie as they lay, all else but them is the outer body's. -/
def IKW {α β : Type} (Z S : Nat → Prop) (Wq : World) (J : List β → (Nat → Prop) → World → Prop) (f : List α → List β) (pre : List α) (O : Nat → Prop) (W : World) : Prop :=
  (∀ j, O j → ¬ Z j ∧ ¬ S j ∧ j < W.heap.size) ∧ ButS Wq W (fun j => ¬ (Z j ∨ S j)) ∧ J (f pre) (fun j => j < W.heap.size ∧ ¬ Z j ∧ ¬ O j) W
/-- The outer round is over: what it has turned is the body's. -/
theorem IKW.next {α β : Type} {Z S : Nat → Prop} {Wq W1 W' : World} {J J' : List β → (Nat → Prop) → World → Prop} {f : List α → List β} {pre pre' : List α} {O : Nat → Prop} (hJ : Steps J') (hSl : ∀ j, S j → j < Wq.heap.size ∧ ¬ Z j) (h : IKW Z S Wq J f pre O W1)
    (hj : J' (f pre') (fun j => j < W1.heap.size ∧ ¬ Z j ∧ ¬ O j) W') (hb : ButS W1 W' (fun j => ¬ (Z j ∨ (j < W1.heap.size ∧ ¬ Z j ∧ ¬ O j)))) : ∃ O', OwnStep O O' W1 W' ∧ IKW Z S Wq J' f pre' O' W' := by
  obtain ⟨h1, h2, h3⟩ := h
  have hs := hb.size
  refine ⟨fun j => j < W'.heap.size ∧ ¬ Z j ∧ ¬ (j < W1.heap.size ∧ ¬ Z j ∧ ¬ O j), ⟨hb.mono (fun j hlt hj => ?_), fun j hj => ⟨?_, hj.1⟩⟩, fun j hj => ⟨hj.2.1, fun hS => ?_, hj.1⟩, ?_, ?_⟩
  · exact Classical.byContradiction fun ho => hj (Classical.byContradiction fun hn => hn (.inr ⟨hlt, fun hz => hn (.inl hz), ho⟩))
  · by_cases hlt : j < W1.heap.size
    · exact .inl (Classical.byContradiction fun ho => hj.2.2 ⟨hlt, hj.2.1, ho⟩)
    · exact .inr (by omega)
  · have := h2.size
    exact hj.2.2 ⟨by have := (hSl j hS).1; omega, hj.2.1, fun ho => (h1 j ho).2.1 hS⟩
  · refine h2.then hb (fun j hj => ?_)
    by_cases hlt : j < Wq.heap.size
    · refine .inl (fun h => hj ?_)
      rcases h with h | h
      · exact .inl h
      · exact .inr ⟨by have := h2.size; omega, (hSl j h).2, fun ho => (h1 j ho).2.1 h⟩
    · exact .inr (by omega)
  · refine hJ _ _ _ _ _ hj (ButS.refl _ _) (fun j hj => ⟨.inl ?_, hj.1⟩)
    exact Classical.byContradiction fun h => hj.2.2 ⟨hj.1, hj.2.1, h⟩
end Go.Proofs.YtialjokdaniofaaGreat
end
section
namespace Go.Proofs.YtialjokdaniofaaGreat.Yp
set_option maxRecDepth 20000
open Go.RowKit
/-- A meter that took tk steps in this operation. -/
def Mx (w : World) (g tk : Nat) : Prop := ∃ r c s p : Int, w.heap[g]? = some (.cells #[.int .i64 r, .int .i64 c, .int .i64 s, .int .i64 (tk : Int), .int .i64 p] 87 (0, 0))
theorem x_start (w : World) (g tk : Nat) (h : Mx w g tk) :
    Calls Tryz.prog 46 #[.pointer (some ⟨g, 0, none⟩)] w fun e w' => e = .returned (.tuple #[]) ∧ Mx w' g 0 ∧ K.Chg w w' (· = g) := by
  obtain ⟨r, c, s, p, hr⟩ := h
  have hc := cell_of_row w g 2 _ _ (0, 0) hr
  have hc3 := cell_of_row w g 3 _ _ (0, 0) hr
  have hf : ∀ i, w.frozen? ⟨g, i, none⟩ = false := fun i => frozen_of_row w g i _ _ hr
  have hf2 := hf 2
  have hf3 := hf 3
  simp at hc hc3
  have H := Lib.hid hr
  clear hr hf
  go_enter Tryz.func46, Tryz.ntmps46
  go_wp2
  go_end0
  refine ⟨rfl, ⟨r, c, wrap64 (s + 1), p, ?_⟩, (chg_set w g 2 _ (· = g) rfl).same (chg_set _ g 3 _ (· = g) rfl)⟩
  have := row_set (row_set H.out 2 (.int .i64 (wrap64 (s + 1)))) 3 (.int .i64 ((0 : Nat) : Int))
  simpa using this
theorem x_read (w : World) (g tk : Nat) (h : Mx w g tk) (ht : tk < 1000000) :
    Calls Tryz.prog 114 #[.pointer (some ⟨g, 0, none⟩)] w fun e w' => e = .returned (.tuple #[]) ∧ Mx w' g (tk + 1) ∧ K.Chg w w' (· = g) := by
  have hs : ∀ (w : World), Mx w g tk → Calls Tryz.prog 117 #[.pointer (some ⟨g, 0, none⟩)] w fun e w' => e = .returned (.tuple #[]) ∧ Mx w' g (tk + 1) ∧ K.Chg w w' (· = g) := by
    intro w h
    obtain ⟨r, c, s, p, hr⟩ := h
    have hc := cell_of_row w g 3 _ _ (0, 0) hr
    have hf3 := frozen_of_row w g 3 _ _ hr
    simp at hc
    have h2 := row_set hr 3 (.int .i64 ((tk : Int) + 1))
    simp at h2
    have k3 := cell_of_row _ g 3 _ _ (0, 0) h2
    have k4 := cell_of_row _ g 4 _ _ (0, 0) h2
    have f4 := frozen_of_row _ g 4 _ _ h2
    simp at k3 k4
    have ws : IntKind.i64.wrap ((tk : Int) + 1) = (tk : Int) + 1 := IntWalk.i64_in _ (by omega)
    have H := Lib.hid h2
    clear hr h2
    go_enter Tryz.func117, Tryz.ntmps117
    go_wp2
    go_region
    go_end0
    refine ⟨rfl, ⟨r, c, s, max p ((tk : Int) + 1), ?_⟩, ((chg_set w g 3 _ (· = g) rfl).same (chg_set _ g 4 _ (· = g) rfl)).drewN 1⟩
    have := row_set H.out 4 (.int .i64 (max p ((tk : Int) + 1)))
    simp at this
    exact this
  obtain ⟨r, c, s, p, hr⟩ := h
  have hc := cell_of_row w g 0 _ _ (0, 0) hr
  have hf0 := frozen_of_row w g 0 _ _ hr
  simp at hc
  have h1 : Hid (Mx (w.setCell ⟨g, 0, none⟩ (.int .i64 (wrap64 (r + 1)))) g tk) := by
    refine ⟨wrap64 (r + 1), c, s, p, ?_⟩
    have := row_set hr 0 (.int .i64 (wrap64 (r + 1)))
    simpa using this
  clear hr
  have hsH := Lib.hid (hs _ h1.out)
  clear hs
  go_enter Tryz.func114, Tryz.ntmps114
  go_wp2_with (go_at_call 117; (with_reducible refine hsH.out.mono ?_); rintro e w2 ⟨rfl, hm2, hg2⟩; have hm2H := Lib.hid hm2; have hg2H := Lib.hid hg2; clear hm2 hg2)
  go_end0
  exact ⟨rfl, hm2H.out, (chg_set w g 0 _ (· = g) rfl).same hg2H.out⟩
theorem x_new (w : World) : Calls Tryz.prog 67 #[] w fun e w' => e = .returned (.pointer (some ⟨w.heap.size, 0, none⟩)) ∧ Mx w' w.heap.size 0 ∧ Below w.heap.size w w' := by
  go_enter Tryz.func67, Tryz.ntmps67
  go_wp2
  go_ret
  exact ⟨rfl, ⟨0, 0, 0, 0, K.alloc_top _ _⟩, (Below.refl _ w).alloc (Nat.le_refl _) _⟩
theorem Mx.lt {w : World} {g tk : Nat} (h : Mx w g tk) : g < w.heap.size := by
  obtain ⟨r, c, s, p, hr⟩ := h
  exact row_lt hr
theorem Mx.chg {w w' : World} {g tk : Nat} {O : Nat → Prop} (h : Mx w g tk) (hc : K.Chg w w' O) (hn : ¬ O g) : Mx w' g tk := by
  have hl := h.lt
  obtain ⟨r, c, s, p, hr⟩ := h
  exact ⟨r, c, s, p, (hc.block g hl hn).trans hr⟩
theorem x_call (w : World) (g tk : Nat) (h : Mx w g tk) (ht : tk < 1000000) :
    Calls Tryz.prog 83 #[.pointer (some ⟨g, 0, none⟩)] w fun e w' => e = .returned (.tuple #[]) ∧ Mx w' g (tk + 1) ∧ K.Chg w w' (· = g) := by
  have hs : ∀ (w : World), Mx w g tk → Calls Tryz.prog 117 #[.pointer (some ⟨g, 0, none⟩)] w fun e w' => e = .returned (.tuple #[]) ∧ Mx w' g (tk + 1) ∧ K.Chg w w' (· = g) := by
    intro w h
    obtain ⟨r, c, s, p, hr⟩ := h
    have hc := cell_of_row w g 3 _ _ (0, 0) hr
    have hf3 := frozen_of_row w g 3 _ _ hr
    simp at hc
    have h2 := row_set hr 3 (.int .i64 ((tk : Int) + 1))
    simp at h2
    have k3 := cell_of_row _ g 3 _ _ (0, 0) h2
    have k4 := cell_of_row _ g 4 _ _ (0, 0) h2
    have f4 := frozen_of_row _ g 4 _ _ h2
    simp at k3 k4
    have ws : IntKind.i64.wrap ((tk : Int) + 1) = (tk : Int) + 1 := IntWalk.i64_in _ (by omega)
    have H := Lib.hid h2
    clear hr h2
    go_enter Tryz.func117, Tryz.ntmps117
    go_wp2
    go_region
    go_end0
    refine ⟨rfl, ⟨r, c, s, max p ((tk : Int) + 1), ?_⟩, ((chg_set w g 3 _ (· = g) rfl).same (chg_set _ g 4 _ (· = g) rfl)).drewN 1⟩
    have := row_set H.out 4 (.int .i64 (max p ((tk : Int) + 1)))
    simp at this
    exact this
  obtain ⟨r, c, s, p, hr⟩ := h
  have hc := cell_of_row w g 1 _ _ (0, 0) hr
  have hf0 := frozen_of_row w g 1 _ _ hr
  simp at hc
  have h1 : Hid (Mx (w.setCell ⟨g, 1, none⟩ (.int .i64 (wrap64 (c + 1)))) g tk) := by
    refine ⟨r, wrap64 (c + 1), s, p, ?_⟩
    have := row_set hr 1 (.int .i64 (wrap64 (c + 1)))
    simpa using this
  clear hr
  have hsH := Lib.hid (hs _ h1.out)
  clear hs
  go_enter Tryz.func83, Tryz.ntmps83
  go_wp2_with (go_at_call 117; (with_reducible refine hsH.out.mono ?_); rintro e w2 ⟨rfl, hm2, hg2⟩; have hm2H := Lib.hid hm2; have hg2H := Lib.hid hg2; clear hm2 hg2)
  go_end0
  exact ⟨rfl, hm2H.out, (chg_set w g 1 _ (· = g) rfl).same hg2H.out⟩
end Go.Proofs.YtialjokdaniofaaGreat.Yp
end
