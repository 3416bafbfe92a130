/- The law JoinLaws; the text walked. -/
import Derived.Test.YtkehehfphccpbaaGreatDoorMxJn8
namespace Go.Proofs.YtkehehfphccpbaaGreatDoor
set_option maxRecDepth 40000
open Go.RowKit
theorem filter_two (l : List Int) (p : Int → Bool) : l.length = (l.filter p).length + (l.filter fun x => !p x).length := by
  induction l with
  | nil => rfl
  | cons a l ih => cases h : p a <;> simp [h] <;> omega
/-- Of rising lists: as many in one and in both together as in the two. -/
theorem len_both {xs ys os ds : List Int} (hx : xs.Pairwise (· < ·)) (hy : ys.Pairwise (· < ·)) (ho : os.Pairwise (· < ·)) (hd : ds.Pairwise (· < ·)) (h1 : ∀ x, x ∈ os ↔ x ∈ xs ∨ x ∈ ys) (h2 : ∀ x, x ∈ ds ↔ x ∈ xs ∧ x ∈ ys) : os.length + ds.length = xs.length + ys.length := by
  have a1 := filter_two os (fun x => decide (x ∈ xs))
  have a2 := filter_two ys (fun x => decide (x ∈ xs))
  have e1 : os.filter (fun x => decide (x ∈ xs)) = xs := M.sorted_ext (ho.filter _) hx (fun x => by rw [List.mem_filter, decide_eq_true_eq, h1 x]; exact ⟨fun h => h.2, fun h => ⟨.inl h, h⟩⟩)
  have e2 : ys.filter (fun x => decide (x ∈ xs)) = ds := M.sorted_ext (hy.filter _) hd (fun x => by rw [List.mem_filter, decide_eq_true_eq, h2 x]; exact ⟨fun h => ⟨h.2, h.1⟩, fun h => ⟨h.2, h.1⟩⟩)
  have e3 : os.filter (fun x => !decide (x ∈ xs)) = ys.filter (fun x => !decide (x ∈ xs)) := M.sorted_ext (ho.filter _) (hy.filter _) (fun x => by
    rw [List.mem_filter, List.mem_filter, h1 x]
    by_cases e : x ∈ xs <;> simp [e])
  rw [e1, e3] at a1
  rw [e2] at a2
  omega
theorem len_less {xs ys ls ds : List Int} (hx : xs.Pairwise (· < ·)) (hl : ls.Pairwise (· < ·)) (hd : ds.Pairwise (· < ·)) (h1 : ∀ x, x ∈ ls ↔ x ∈ xs ∧ ¬ x ∈ ys) (h2 : ∀ x, x ∈ ds ↔ x ∈ xs ∧ x ∈ ys) : ls.length + ds.length = xs.length := by
  have a1 := filter_two xs (fun x => decide (x ∈ ys))
  have e1 : xs.filter (fun x => decide (x ∈ ys)) = ds := M.sorted_ext (hx.filter _) hd (fun x => by rw [List.mem_filter, decide_eq_true_eq, h2 x])
  have e2 : xs.filter (fun x => !decide (x ∈ ys)) = ls := M.sorted_ext (hx.filter _) hl (fun x => by rw [List.mem_filter, h1 x]; simp)
  rw [e1, e2] at a1
  omega
set_option maxHeartbeats 16000000 in
theorem law_laws (P : Option Addr) (cp : Nat) (as0 : List AcB) (P2 : Option Addr) (cp2 : Nat) (as1 : List AcB) (b1 b2 : Bool) (w : World) (hT : Tab w) (hr : Rk w w.heap.size P as0) (hl : as0.length ≤ 9223372036854775807) (hr2 : Rk w w.heap.size P2 as1) (hl2 : as1.length ≤ 9223372036854775807) :
    Calls Tryz.prog 5 #[.slice P as0.length cp, .slice P2 as1.length cp2, .bool b1, .bool b2] w fun e w' => e = .returned (.bool true) ∧ Below w.heap.size w w' := by
  have HR1 := Lib.hid hr
  have HR2 := Lib.hid hr2
  have HT0 := Lib.hid hT
  clear hr hr2 hT
  go_enter Tryz.func5, Tryz.ntmps5
  go_wp2_with (go_at_call 6; (with_reducible refine (awake_any w HT0.out).mono ?_); rintro e w1 ⟨rfl, hb1⟩
               have HB1 := Lib.hid hb1
               have HL1 := Lib.hid (lay_any w1 (HT0.out.below hb1 HT0.out.pos) P cp as0 b1 (HR1.out.later hb1) hl)
               clear hb1)
  go_wp2_with (go_at_call 7; (with_reducible refine HL1.out.mono ?_); rintro e w2 ⟨qa, ra, xs, ga, na, bs, la, rfl, j1⟩
               have HJ1 := Lib.hid j1
               have hb2 : Below w.heap.size w w2 := HB1.out.trans (j1.low.mono HB1.out.size)
               have HB2 := Lib.hid hb2
               have HL2 := Lib.hid (lay_any w2 (HT0.out.below hb2 HT0.out.pos) P2 cp2 as1 b2 (HR2.out.later hb2) hl2)
               clear hb2 j1 HL1)
  go_wp2_with (go_at_call 7; (with_reducible refine HL2.out.mono ?_); rintro e W ⟨qb, rb, ys, gb, nb, cs, lb, rfl, j2⟩
               have HJ2 := Lib.hid j2
               have HA := Lib.hid (HJ1.out.next j2.low)
               have hb3 : Below w.heap.size w W := HB2.out.trans (j2.low.mono HB2.out.size)
               have HB3 := Lib.hid hb3
               have HT := Lib.hid (HT0.out.below hb3 HT0.out.pos)
               have LW := Lib.hid (Below.refl W.heap.size W)
               clear hb3 j2 HL2)
  have HBA : Hid (Bp W (some ⟨qa, 0, none⟩) xs) := Lib.hid (.inr ⟨qa, ra, la, rfl, HA.out.b⟩)
  have HBB : Hid (Bp W (some ⟨qb, 0, none⟩) ys) := Lib.hid (.inr ⟨qb, rb, lb, rfl, HJ2.out.b⟩)
  have HNE : Hid ((some ⟨qb, 0, none⟩ : Option Addr) = some ⟨qa, 0, none⟩ → ys = xs) := Lib.hid (fun e => by
    have h1 := HJ2.out.q0
    have h2 := HJ1.out.b.lt
    cases e
    omega)
  have HQL : Hid (qa < W.heap.size ∧ qb < W.heap.size) := Lib.hid ⟨HA.out.b.lt, HJ2.out.b.lt⟩
  have COR := Lib.hid (two_or HBA.out HBB.out HNE.out HT.out W (Below.refl _ _))
  have CAN := Lib.hid (fun V (hV : Below W.heap.size W V) => two_and (HBA.out.next hV) (HBB.out.next hV) HNE.out (HT.out.below hV HT.out.pos) V (Below.refl _ _))
  have CLE := Lib.hid (fun V (hV : Below W.heap.size W V) => two_less (HBA.out.next hV) (HBB.out.next hV) (HT.out.below hV HT.out.pos) V (Below.refl _ _))
  have CXO := Lib.hid (fun V (hV : Below W.heap.size W V) => two_xor (HBA.out.next hV) (HBB.out.next hV) (HT.out.below hV HT.out.pos) V (Below.refl _ _))
  go_wp2_with (go_at_call 10; (with_reducible refine COR.out.mono ?_); rintro e w4 ⟨os, ho, q1, r1, rfl, h1, h2, h3, h4⟩
               have HO := Lib.hid h1
               have HOS := Lib.hid ho
               have HQ1 := Lib.hid (And.intro h2 h1.lt)
               replace LW := Lib.hid h4
               clear ho h1 h2 h3 h4 COR)
  go_wp2_with (go_at_call 12; (with_reducible refine (CAN.out _ LW.out).mono ?_); rintro e w5 ⟨ds, hd, q2, r2, rfl, h1, h2, h3, h4⟩
               replace HO := Lib.hid (HO.out.next h4)
               have HD := Lib.hid h1
               have HDS := Lib.hid hd
               have HQ2 := Lib.hid (And.intro h2 h1.lt)
               have HZ4 := Lib.hid LW.out.size
               replace LW := Lib.hid (LW.out.trans (h4.mono LW.out.size))
               clear hd h1 h2 h3 h4 CAN)
  go_wp2_with (go_at_call 13; (with_reducible refine (CLE.out _ LW.out).mono ?_); rintro e w6 ⟨ls, hl3, q3, r3, rfl, h1, h2, h3, h4⟩
               replace HO := Lib.hid (HO.out.next h4)
               replace HD := Lib.hid (HD.out.next h4)
               have HL := Lib.hid h1
               have HLS := Lib.hid hl3
               have HQ3 := Lib.hid (And.intro h2 h1.lt)
               have HZ5 := Lib.hid LW.out.size
               replace LW := Lib.hid (LW.out.trans (h4.mono LW.out.size))
               clear hl3 h1 h2 h3 h4 CLE)
  go_wp2_with (go_at_call 14; (with_reducible refine (CXO.out _ LW.out).mono ?_); rintro e W5 ⟨zs, hz, q4, r4, rfl, h1, h2, h3, h4⟩
               have BO : Hid (Bp W5 (some ⟨q1, 0, none⟩) os) := Lib.hid (NewP.bp (HO.out.next h4))
               have BD : Hid (Bp W5 (some ⟨q2, 0, none⟩) ds) := Lib.hid (NewP.bp (HD.out.next h4))
               have BL : Hid (Bp W5 (some ⟨q3, 0, none⟩) ls) := Lib.hid (NewP.bp (HL.out.next h4))
               have BX : Hid (Bp W5 (some ⟨q4, 0, none⟩) zs) := Lib.hid (NewP.bp h1)
               have HXS := Lib.hid hz
               have hw5 : Below W.heap.size W W5 := LW.out.trans (h4.mono LW.out.size)
               have BA := Lib.hid (HBA.out.next hw5)
               have BB := Lib.hid (HBB.out.next hw5)
               have T5 := Lib.hid (HT.out.below hw5 HT.out.pos)
               have HB5 : Hid (Below w.heap.size w W5) := Lib.hid (HB3.out.trans (hw5.mono HB3.out.size))
               have LV := Lib.hid (Below.refl W5.heap.size W5)
               -- the numbers of what is there
               have s1 : os.length + ds.length = xs.length + ys.length := len_both BA.out.up.up BB.out.up.up BO.out.up.up BD.out.up.up HOS.out HDS.out
               have s2 : ls.length + ds.length = xs.length := len_less BA.out.up.up BL.out.up.up BD.out.up.up HLS.out HDS.out
               have ecap : capL xs ys = ds := M.sorted_ext (BA.out.up.up.filter _) BD.out.up.up (fun x => by rw [capL_in, HDS.out x])
               have f1 := BO.out.up.few
               have f2 := BD.out.up.few
               have f3 := BA.out.up.few
               have f4 := BB.out.up.few
               have CL1 := Lib.hid (fun V (hV : Below W5.heap.size W5 V) => bp_Len (BO.out.next hV))
               have CL2 := Lib.hid (fun V (hV : Below W5.heap.size W5 V) => bp_Len (BD.out.next hV))
               have CL3 := Lib.hid (fun V (hV : Below W5.heap.size W5 V) => bp_Len (BL.out.next hV))
               have CL4 := Lib.hid (fun V (hV : Below W5.heap.size W5 V) => bp_Len (BA.out.next hV))
               have CL5 := Lib.hid (fun V (hV : Below W5.heap.size W5 V) => bp_Len (BB.out.next hV))
               have CBO := Lib.hid (fun V (hV : Below W5.heap.size W5 V) => both_any V _ _ xs ys (BA.out.next hV) (BB.out.next hV) HNE.out (T5.out.below hV T5.out.pos))
               rw [ecap] at CBO
               obtain ⟨no, hno⟩ : ∃ no, os.length = no := ⟨_, rfl⟩
               obtain ⟨nd, hnd⟩ : ∃ nd, ds.length = nd := ⟨_, rfl⟩
               obtain ⟨nl, hnl⟩ : ∃ nl, ls.length = nl := ⟨_, rfl⟩
               obtain ⟨nx, hnx⟩ : ∃ nx, xs.length = nx := ⟨_, rfl⟩
               obtain ⟨ny, hny⟩ : ∃ ny, ys.length = ny := ⟨_, rfl⟩
               rw [hno] at s1 f1 CL1
               rw [hnd] at s1 s2 f2 CL2 CBO
               rw [hnl] at s2 CL3
               rw [hnx] at s1 s2 f3 CL4
               rw [hny] at s1 f4 CL5
               have wS1 : IntKind.i64.wrap ((no : Int) + (nd : Int)) = (no : Int) + (nd : Int) := IntWalk.i64_in _ (by omega)
               have wS2 : IntKind.i64.wrap ((nx : Int) + (ny : Int)) = (no : Int) + (nd : Int) := by rw [IntWalk.i64_in _ (by omega)]; omega
               have wS3 : IntKind.i64.wrap ((nx : Int) - (nd : Int)) = (nl : Int) := by rw [IntWalk.i64_in _ (by omega)]; omega
               have CLX := Lib.hid (fun V (hV : Below W5.heap.size W5 V) => two_less (BO.out.next hV) (BD.out.next hV) (T5.out.below hV T5.out.pos) V (Below.refl _ _))
               have hme : (capL ls ys).length = 0 := by
                 have e9 : capL ls ys = [] := List.eq_nil_iff_forall_not_mem.2 (fun x hx => ((HLS.out x).1 (capL_in.1 hx).1).2 (capL_in.1 hx).2)
                 rw [e9]; rfl
               have CME := Lib.hid (fun V (hV : Below W5.heap.size W5 V) => meet_any V _ _ ls ys (BL.out.next hV) (BB.out.next hV) (fun e => by have h5 := HQL.out; have h6 := HQ3.out; have h7 := HZ5.out; have h8 := HZ4.out; cases e; omega) (T5.out.below hV T5.out.pos))
               rw [hme] at CME
               have CW1 := Lib.hid (fun V (hV : Below W5.heap.size W5 V) => within_any V _ _ ds xs (BD.out.next hV) (BA.out.next hV) (fun e => by have h5 := HQL.out; have h6 := HQ2.out; have h8 := HZ4.out; cases e; omega) (T5.out.below hV T5.out.pos))
               rw [decide_eq_true (fun x hx => ((HDS.out x).1 hx).1)] at CW1
               have CW2 := Lib.hid (fun V (hV : Below W5.heap.size W5 V) => within_any V _ _ xs os (BA.out.next hV) (BO.out.next hV) (fun e => by have h5 := HQL.out; have h6 := HQ1.out; cases e; omega) (T5.out.below hV T5.out.pos))
               rw [decide_eq_true (fun x hx => (HOS.out x).2 (.inl hx))] at CW2
               have COL := Lib.hid (fun V (hV : Below W5.heap.size W5 V) => two_or (BL.out.next hV) (BD.out.next hV) (fun e => by have h5 := HQ2.out; have h6 := HQ3.out; cases e; omega) (T5.out.below hV T5.out.pos) V (Below.refl _ _))
               clear hz h1 h2 h3 h4 hw5 ecap hno hnd hnl hnx hny hme CXO)
  go_wp2_with (first
    | (go_at_call 21; first
       | ((with_reducible refine (CL1.out _ LV.out).mono ?_); rintro e w7 ⟨rfl, h4⟩; replace LV := Lib.hid (LV.out.trans (h4.mono LV.out.size)); clear h4)
       | ((with_reducible refine (CL2.out _ LV.out).mono ?_); rintro e w7 ⟨rfl, h4⟩; replace LV := Lib.hid (LV.out.trans (h4.mono LV.out.size)); clear h4)
       | ((with_reducible refine (CL3.out _ LV.out).mono ?_); rintro e w7 ⟨rfl, h4⟩; replace LV := Lib.hid (LV.out.trans (h4.mono LV.out.size)); clear h4)
       | ((with_reducible refine (CL4.out _ LV.out).mono ?_); rintro e w7 ⟨rfl, h4⟩; replace LV := Lib.hid (LV.out.trans (h4.mono LV.out.size)); clear h4)
       | ((with_reducible refine (CL5.out _ LV.out).mono ?_); rintro e w7 ⟨rfl, h4⟩; replace LV := Lib.hid (LV.out.trans (h4.mono LV.out.size)); clear h4))
    | (go_at_call 22; (with_reducible refine (CBO.out _ LV.out).mono ?_); rintro e w7 ⟨rfl, h4⟩; replace LV := Lib.hid (LV.out.trans (h4.mono LV.out.size)); clear h4)
    | (go_at_call 13; (with_reducible refine (CLX.out _ LV.out).mono ?_); rintro e w8 ⟨ms, hm, q5, r5, rfl, h1, h2, h3, h4⟩
       have hms : ms = zs := M.sorted_ext h1.u.up BX.out.up.up (fun x => by
         rw [hm x, HXS.out x, HOS.out x, HDS.out x]
         by_cases e1 : x ∈ xs <;> by_cases e2 : x ∈ ys <;> simp [e1, e2])
       have hlw := LV.out.trans (h4.mono LV.out.size)
       have CEQ := equal_any w8 _ _ zs ms (BX.out.next hlw) (NewP.bp h1) (fun _ => hms) (T5.out.below hlw T5.out.pos)
       rw [decide_eq_true hms.symm] at CEQ
       replace CEQ := Lib.hid CEQ
       replace LV := Lib.hid hlw
       clear hm h1 h2 h3 h4 hms hlw)
    | (go_at_call 23; (with_reducible refine CEQ.out.mono ?_); rintro e w7 ⟨rfl, h4⟩; replace LV := Lib.hid (LV.out.trans (h4.mono LV.out.size)); clear h4 CEQ)
    | (go_at_call 24; (with_reducible refine (CME.out _ LV.out).mono ?_); rintro e w7 ⟨rfl, h4⟩; replace LV := Lib.hid (LV.out.trans (h4.mono LV.out.size)); clear h4)
    | (go_at_call 25; first
       | ((with_reducible refine (CW1.out _ LV.out).mono ?_); rintro e w7 ⟨rfl, h4⟩; replace LV := Lib.hid (LV.out.trans (h4.mono LV.out.size)); clear h4)
       | ((with_reducible refine (CW2.out _ LV.out).mono ?_); rintro e w7 ⟨rfl, h4⟩; replace LV := Lib.hid (LV.out.trans (h4.mono LV.out.size)); clear h4))
    | (go_at_call 10; (with_reducible refine (COL.out _ LV.out).mono ?_); rintro e w9 ⟨es, he, q6, r6, rfl, h1, h2, h3, h4⟩
       have hes : es = xs := M.sorted_ext h1.u.up BA.out.up.up (fun x => by
         rw [he x, HLS.out x, HDS.out x]
         by_cases e1 : x ∈ xs <;> by_cases e2 : x ∈ ys <;> simp [e1, e2])
       have hlw := LV.out.trans (h4.mono LV.out.size)
       have CEQ := equal_any w9 _ _ es xs (NewP.bp h1) (BA.out.next hlw) (fun _ => hes.symm) (T5.out.below hlw T5.out.pos)
       rw [decide_eq_true hes] at CEQ
       replace CEQ := Lib.hid CEQ
       replace LV := Lib.hid hlw
       clear he h1 h2 h3 h4 hes hlw))
  go_ret
  exact ⟨by first | rfl | simp, HB5.out.trans (LV.out.mono HB5.out.size)⟩
end Go.Proofs.YtkehehfphccpbaaGreatDoor
