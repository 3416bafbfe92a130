
/- The document's example of runs; the text walked. -/
import Derived.Test.YtejboemifncjoaaRun15
namespace Go.Proofs.Ytejboemifncjoaa
open Go.RowKit
theorem rh_new (w : World) (xs : List Int) : Rh (w.alloc (.cells (hv xs).toArray 31)) (w.heap.size + 1) (some ⟨w.heap.size, 0, none⟩) xs :=
  fun _ => ⟨w.heap.size, 0, rfl, by omega, fun k h => by
    rw [Nat.zero_add, World.cell?_alloc_new]
    simp [hv, h]⟩
theorem V3 (x : Int) : Rn.V [(3, 7), (9, 9)] x ↔ x ∈ [(3 : Int), 4, 9] ∨ (5 ≤ x ∧ x ≤ 7) := by
  rw [Rn.V_cons, Rn.V_one]
  simp
  omega
theorem V4 (x : Int) : Rn.V [(3, 3), (5, 7), (9, 9)] x ↔ Rn.V [(3, 7), (9, 9)] x ∧ ¬ (4 ≤ x ∧ x ≤ 4) := by
  rw [Rn.V_cons, Rn.V_cons, Rn.V_one, Rn.V_cons, Rn.V_one]
  simp
  omega
theorem ok3 : Rn.Ok [(3, 7), (9, 9)] := ⟨fun r hr => by simp at hr; rcases hr with rfl | rfl <;> (unfold Rn.Good; omega), by decide⟩
theorem ok4 : Rn.Ok [(3, 3), (5, 7), (9, 9)] := ⟨fun r hr => by simp at hr; rcases hr with rfl | rfl | rfl <;> (unfold Rn.Good; omega), by decide⟩
set_option maxHeartbeats 8000000 in
set_option maxRecDepth 100000 in
theorem awake_any (w : World) : Calls Try.prog 7 #[] w fun e w' => e = .returned (.bool true) ∧ Below w.heap.size w w' := by
  have hb1 := (Below.refl w.heap.size w).alloc (Nat.le_refl _) (.cells (hv [3, 4, 9]).toArray 31)
  have c1 := r_of (w.alloc (.cells (hv [3, 4, 9]).toArray 31)) (w.heap.size + 1) 3 3 (some ⟨w.heap.size, 0, none⟩) [3, 4, 9] rfl (rh_new w [3, 4, 9]) (by simp) (by intro y hy; simp at hy; omega) (by omega)
  have c2 : Calls Try.prog 21 #[.slice (some ⟨w.heap.size, 0, none⟩) 3 3] (w.alloc (.cells #[.int .u16 3, .int .u16 4, .int .u16 9] 31)) (OfP (w.alloc (.cells (hv [3, 4, 9]).toArray 31)) 3 fun x => x ∈ [(3 : Int), 4, 9]) := c1
  have z1 : (w.alloc (.cells (hv [3, 4, 9]).toArray 31)).heap.size = w.heap.size + 1 := by simp
  have HB1 := Lib.hid hb1
  have C1 := Lib.hid c2
  have HZ := Lib.hid z1
  clear c1 c2 hb1 z1
  generalize w.alloc (.cells (hv [3, 4, 9]).toArray 31) = w1 at *
  go_enter Try.func7, Try.ntmps7
  go_wp2_with (first
    | (go_at_call 21; (with_reducible refine C1.out.mono ?_); rintro e w2 ⟨val, qs, rfl, q1, q2, q3, q4, q5⟩
       obtain ⟨Aq, cq, hvq, rq, hqc⟩ := Rq.of_own q4
       subst hvq
       have HF := Lib.hid (r_fill w2 w2.heap.size qs.length cq Aq qs 5 7 rfl rq (Nat.le_refl _) q1 hqc (by omega) (by omega))
       obtain ⟨nq, hnq⟩ : ∃ nq, qs.length = nq := ⟨_, rfl⟩
       rw [hnq] at HF
       rw [hnq]
       have Q2 := Lib.hid q2
       have L2 := Lib.hid (HB1.out.trans (q5.mono HB1.out.size))
       clear q1 q2 q3 q4 q5 rq hqc hnq C1)
    | (go_at_call 25; (with_reducible refine HF.out.mono ?_); rintro e w3 ⟨val, ps, rfl, p1, p2, p3, p4⟩
       have hp : ps = [(3, 7), (9, 9)] := Rn.ok_ext p1 ok3 (fun x => (p2 x).trans ((or_congr (Q2.out x) Iff.rfl).trans (V3 x).symm))
       subst hp
       obtain ⟨Ap, cp, hvp, rp, hpc⟩ := Rq.of_own p3
       subst hvp
       have L3 := Lib.hid (L2.out.trans (p4.mono L2.out.size))
       have HWI := Lib.hid (r_wipe w3 w3.heap.size 2 cp Ap [(3, 7), (9, 9)] 4 4 rfl rp (Nat.le_refl _) ok3 hpc (by omega) (by omega))
       obtain ⟨b, off, hA, _, c1, c2⟩ := rp.at (k := 0) (by simp)
       subst hA
       simp only [Nat.zero_mul, Nat.add_zero, List.getElem_cons_zero] at c1 c2
       clear p1 p2 p3 p4 rp hpc HF)
    | (go_at_call 26; (with_reducible refine HWI.out.mono ?_); rintro e w4 ⟨val, os, rfl, o1, o2, o3, o4⟩
       have ho : os = [(3, 3), (5, 7), (9, 9)] := Rn.ok_ext o1 ok4 (fun x => (o2 x).trans (V4 x).symm)
       subst ho
       obtain ⟨Ao, co, hvo, _, _⟩ := Rq.of_own o3
       subst hvo
       have L4 := Lib.hid (L3.out.trans (o4.mono L3.out.size))
       clear o1 o2 o3 o4 HWI))
  go_ret
  exact ⟨rfl, L4.out⟩
end Go.Proofs.Ytejboemifncjoaa
