/- runs.parts: what ends ahead of a range, what has some of it, what begins behind it; the text walked. The order of runs, and their sort; the texts walked. slices.Concat at runs: a row of one's own that holds them all; the text walked. Runs in a row of one's own are sorted; an empty one too; the texts walked. runs.joined: runs in any order become as few as can be; the text walked. runs.Of and runs.gaps; the texts walked. -/
import Derived.Lib.Small
import Derived.Lib.AppendZeros
import Derived.Test.YtkehehfphccpbaaGreatDoorMgRa
import Derived.Test.YtkehehfphccpbaaGreatDoorMxRSort
section
namespace Go.Proofs.YtkehehfphccpbaaGreatDoor.R
set_option maxRecDepth 40000
open Go.RowKit
theorem alloc_topI (w : World) (o : Obj) : (w.alloc o).heap[w.heap.size]? = some o := by
  show (w.heap.push o)[w.heap.size]? = some o
  simp
theorem below_drewN {B : Nat} {w w' : World} (h : Below B w w') (n : Nat) : Below B w (w'.drewN n) := ⟨h.os, h.tape, h.output, h.size, h.block⟩
def cutA (A : Option Addr) (l c : Nat) : Option Addr := if c = l then A else A.map (·.add (l * 2))
theorem cutA_rq {w : World} {B n c l h : Nat} {A : Option Addr} {rs : List (Int × Int)} (hr : Rq w B A rs) (hn : n = rs.length) (hl : l ≤ h) (hh : h ≤ n) (hc : n ≤ c) : Rq w B (cutA A l c) ((rs.take h).drop l) := by
  intro hne
  have hlen : ((rs.take h).drop l).length = h - l := by rw [List.length_drop, List.length_take]; omega
  have hlt : l < h := by
    rcases Nat.lt_or_ge l h with e | e
    · exact e
    · exact absurd (List.eq_nil_of_length_eq_zero (by omega)) hne
  obtain ⟨b, off, rfl, hb, hcl⟩ := hr (by intro e; subst e; simp at hn; omega)
  refine ⟨b, off + l * 2, ?_, hb, fun k hk => ?_⟩
  · unfold cutA
    rw [if_neg (by omega)]
    show some _ = some _
    unfold Addr.add
    by_cases h0 : l * 2 = 0 <;> simp [h0]
  · have h2 : l + k < rs.length := by omega
    have := hcl (l + k) h2
    rw [show off + l * 2 + k * 2 = off + (l + k) * 2 by omega, this.1, this.2]
    simp
theorem rq_take {w : World} {B l : Nat} {A : Option Addr} {rs : List (Int × Int)} (hr : Rq w B A rs) : Rq w B A (rs.take l) := by
  intro hne
  obtain ⟨b, off, rfl, hb, hcl⟩ := hr (by intro e; subst e; simp at hne)
  refine ⟨b, off, rfl, hb, fun k hk => ?_⟩
  have h2 : k < rs.length := by rw [List.length_take] at hk; omega
  have := hcl k h2
  rw [this.1, this.2]
  simp
set_option maxRecDepth 100000 in
theorem cut_l (A : Option Addr) (n c l : Nat) (L : Int) (hL : L = (l : Int)) (hl : l ≤ n) : (∀ w, (Instr.sliceAt 77 (.slice A n c) (some (.int .i64 L)) none none).run Tryz.prog w = .ok (.slice (cutA A l c) (n - l) (c - l)) w) ∧
    (∀ w, (Instr.slice 77 (.slice A n c) (some (.int .i64 L)) none none).run Tryz.prog w = .ok (.slice (cutA A l c) (n - l) (c - l)) w) := by
  subst hL
  have hu : Tryz.prog.underlying 77 = some (.slice (Tryz.prog.elem 77)) := by kernel_rfl
  have hz : ∀ w, (Go.sizeOf (Tryz.prog.elem 77)).run Tryz.prog w = .ok 2 w := fun w => Tryz.sizeOf112 w
  have h2 : ∀ w, (Instr.slice 77 (.slice A n c) (some (.int .i64 (l : Int))) none none).run Tryz.prog w = .ok (sliced A l n c 2) w := fun w => by
    have h := run_slice_l (P := Tryz.prog) (w := w) (t := 77) (a := A) (len := n) (cap := c) (ht := hu) (kl := .i64) (l := (l : Int)) (h0 := by omega) (h1 := by omega)
    rw [h, hz]
    simp [Result.andThen]
  exact ⟨fun w => (run_sliceAt_slice (w := w) (h := hu) ..).trans (h2 w), h2⟩
set_option maxRecDepth 100000 in
theorem cut_h (A : Option Addr) (n c l : Nat) (L : Int) (hL : L = (l : Int)) (hl : l ≤ n) (hc : n ≤ c) : (∀ w, (Instr.sliceAt 77 (.slice A n c) none (some (.int .i64 L)) none).run Tryz.prog w = .ok (.slice A l c) w) ∧
    (∀ w, (Instr.slice 77 (.slice A n c) none (some (.int .i64 L)) none).run Tryz.prog w = .ok (.slice A l c) w) := by
  subst hL
  have hu : Tryz.prog.underlying 77 = some (.slice (Tryz.prog.elem 77)) := by kernel_rfl
  have hz : ∀ w, (Go.sizeOf (Tryz.prog.elem 77)).run Tryz.prog w = .ok 2 w := fun w => Tryz.sizeOf112 w
  have h2 : ∀ w, (Instr.slice 77 (.slice A n c) none (some (.int .i64 (l : Int))) none).run Tryz.prog w = .ok (.slice A l c) w := fun w => by
    have h := run_slice_h (P := Tryz.prog) (w := w) (t := 77) (a := A) (len := n) (cap := c) (ht := hu) (kh := .i64) (h := (l : Int)) (h0 := by omega) (h2 := by omega)
    rw [h, hz]
    simp [Result.andThen]
    cases A <;> simp [sliced, Addr.add]
  exact ⟨fun w => (run_sliceAt_slice (w := w) (h := hu) ..).trans (h2 w), h2⟩
structure PartsP (w : World) (B n c : Nat) (A : Option Addr) (rs : List (Int × Int)) (F T : Int) (i j : Nat) (A2 : Option Addr) (c2 : Nat) (A3 : Option Addr) (c3 : Nat) (w' : World) : Prop where
  ij : i ≤ j
  jn : j ≤ n
  h2 : j - i ≤ c2
  h3 : n - j ≤ c3
  r2 : Rq w' B A2 ((rs.take j).drop i)
  r3 : Rq w' B A3 (rs.drop j)
  p1 : ∀ r, r ∈ rs.take i → r.2 < F
  p2 : ∀ r, r ∈ (rs.take j).drop i → F ≤ r.2 ∧ r.1 ≤ T
  p3 : ∀ r, r ∈ rs.drop j → T < r.1
  low : Below w.heap.size w w'
theorem ok_le {rs : List (Int × Int)} (h : Rn.Ok rs) {a b : Nat} (hab : a ≤ b) (hb : b < rs.length) : (rs[a]'(by omega)).1 ≤ rs[b].1 ∧ (rs[a]'(by omega)).2 ≤ rs[b].2 := by
  rcases Nat.lt_or_eq_of_le hab with e | e
  · have h1 := List.pairwise_iff_getElem.1 h.2 a b (by omega) hb e
    have h2 := h.1 _ (List.getElem_mem (show a < rs.length by omega))
    have h3 := h.1 _ (List.getElem_mem hb)
    unfold Rn.Good at h2 h3
    omega
  · subst e; omega
set_option maxHeartbeats 8000000 in
set_option maxRecDepth 100000 in
theorem r_parts (w : World) (B n c : Nat) (A : Option Addr) (rs : List (Int × Int)) (F T : Int) (hn : n = rs.length) (hr : Rq w B A rs) (hB : B ≤ w.heap.size) (hg : Rn.Ok rs) (hc : n ≤ c) (few : n ≤ 1000000) :
    Calls Tryz.prog 188 #[.slice A n c, .int .i64 F, .int .i64 T] w fun e w' => ∃ i j A2 c2 A3 c3, e = .returned (.tuple #[.slice A i c, .slice A2 (j - i) c2, .slice A3 (n - j) c3]) ∧ PartsP w B n c A rs F T i j A2 c2 A3 c3 w' := by
  obtain ⟨P1, hP1⟩ : ∃ P : Nat → Bool, P = fun i => decide (F ≤ (rs.getD i (0, 0)).2) := ⟨_, rfl⟩
  have HR := Lib.hid hr
  have HN := Lib.hid hn
  have HG := Lib.hid hg
  have HP1 := Lib.hid hP1
  have HB := Lib.hid hB
  clear hr hn hg hP1 hB
  go_enter Tryz.func188, Tryz.ntmps188
  go_wp2_with (fail)
  have b1 := (Below.refl w.heap.size w).alloc (Nat.le_refl _) (.cells #[.slice A n c] 77)
  have c1 : (w.alloc (.cells #[.slice A n c] 77)).heap[w.heap.size]? = some (.cells #[.slice A n c] 77 (0, 0)) := alloc_topI w _
  have b2 := (Below.refl (w.alloc (.cells #[.slice A n c] 77)).heap.size (w.alloc (.cells #[.slice A n c] 77))).alloc (Nat.le_refl _) (.cells #[.int .i64 F] 3)
  have z1 : (w.alloc (.cells #[.slice A n c] 77)).heap.size = w.heap.size + 1 := by simp
  have c2 := alloc_topI (w.alloc (.cells #[.slice A n c] 77)) (.cells #[.int .i64 F] 3)
  rw [z1] at b2 c2
  generalize w.alloc (.cells #[.slice A n c] 77) = w1 at *
  have c1' := (b2.block w.heap.size (by omega)).trans c1
  have z2 : (w1.alloc (.cells #[.int .i64 F] 3)).heap.size = w.heap.size + 1 + 1 := by simp [z1]
  have b3 := (Below.refl (w1.alloc (.cells #[.int .i64 F] 3)).heap.size (w1.alloc (.cells #[.int .i64 F] 3))).alloc (Nat.le_refl _) (.cells #[.int .i64 T] 3)
  have c3 := alloc_topI (w1.alloc (.cells #[.int .i64 F] 3)) (.cells #[.int .i64 T] 3)
  rw [z2] at b3 c3
  generalize w1.alloc (.cells #[.int .i64 F] 3) = w2 at *
  have z3 : (w2.alloc (.cells #[.int .i64 T] 3)).heap.size = w.heap.size + 1 + 1 + 1 := by simp [z2]
  have d1 := (b3.block w.heap.size (by omega)).trans c1'
  have d2 := (b3.block (w.heap.size + 1) (by omega)).trans c2
  have HLOW := Lib.hid ((b1.trans (b2.mono (by omega))).trans (b3.mono (by omega)))
  clear b1 b2 b3 c1 c1' c2 z1 z2
  generalize w2.alloc (.cells #[.int .i64 T] 3) = W at *
  clear w1 w2
  obtain ⟨gl, hgl⟩ : ∃ gl, w.heap.size = gl := ⟨_, rfl⟩
  rw [hgl] at c3 z3 d1 d2 HLOW ⊢
  have HGL := Lib.hid hgl
  have HBL : Hid (B ≤ gl) := Lib.hid (by rw [← hgl]; exact HB.out)
  clear hgl
  have e1 : W.cell? ⟨gl, 0, none⟩ = some (.slice A n c) := by rw [cell_of_row _ _ 0 _ _ (0, 0) d1]; rfl
  have e2 : W.cell? ⟨gl + 1, 0, none⟩ = some (.int .i64 F) := by rw [cell_of_row _ _ 0 _ _ (0, 0) d2]; rfl
  have e3 : W.cell? ⟨gl + 1 + 1, 0, none⟩ = some (.int .i64 T) := by rw [cell_of_row _ _ 0 _ _ (0, 0) c3]; rfl
  have ez : W.frozen? ⟨gl, 0, none⟩ = false := by simp [World.frozen?, d1]
  clear c3 d1 d2
  have S1 := Lib.hid (search1 W n gl (gl + 1) P1 few (fun a b hab hb h => by
      rw [HP1.out] at h ⊢
      rw [HN.out] at hb
      have h1 := ok_le HG.out hab hb
      rw [decide_eq_true_eq, List.getD_eq_getElem?_getD, List.getElem?_eq_getElem (by omega)] at h
      rw [decide_eq_true_eq, List.getD_eq_getElem?_getD, List.getElem?_eq_getElem hb]
      have h2 : F ≤ (rs[a]'(by omega)).2 := h
      show F ≤ rs[b].2
      omega)
    (fun q i hi => by
      have hir : i < rs.length := by rw [← HN.out]; exact hi
      obtain ⟨b, off, rfl, _, k1, k2⟩ := (HR.out.below HLOW.out HBL.out).at hir
      have hgd := HG.out.1 _ (List.getElem_mem hir)
      unfold Rn.Good at hgd
      have e : P1 i = decide (F ≤ rs[i].2) := by rw [HP1.out]; show decide (F ≤ (rs.getD i (0, 0)).2) = _; rw [List.getD_eq_getElem?_getD, List.getElem?_eq_getElem hir]; rfl
      rw [e]
      refine (clos1 (W.drewN q) gl (gl + 1) b off i n c rs[i].1 rs[i].2 F hi e1 e2 k1 k2 (by omega) (by omega)).mono ?_
      rintro e w' ⟨rfl, q', rfl⟩
      exact ⟨rfl, q + q', by simp⟩))
  go_wp2_with (go_at_call 190; (with_reducible refine S1.out.mono ?_); rintro e w4 ⟨i1, rfl, hi1, hL1, hR1, q, rfl⟩; replace hL1 := Lib.hid hL1; replace hR1 := Lib.hid hR1)
  clear S1
  obtain ⟨g1, g2⟩ := cut_h A n c i1 (i1 : Int) rfl hi1 hc
  obtain ⟨g3, g4⟩ := cut_l A n c i1 (i1 : Int) rfl hi1
  have hi1n : (i1 : Int) ≤ (n : Int) := by omega
  have hi1c : (i1 : Int) ≤ (c : Int) := by omega
  obtain ⟨X, hX⟩ : ∃ X, X = W.drewN q := ⟨_, rfl⟩
  rw [← hX]
  have f1 : X.cell? ⟨gl, 0, none⟩ = some (.slice A n c) := by rw [hX]; exact e1
  have HXX := Lib.hid hX
  clear hX
  go_still_tail 7, (by kernel_rfl)
  change wpList _ _ _ _ _ X.drew
  have f1' : X.drew.cell? ⟨gl, 0, none⟩ = some (.slice A n c) := f1
  have f2' : X.drew.cell? ⟨gl + 1 + 1, 0, none⟩ = some (.int .i64 T) := by rw [HXX.out]; exact e3
  have f3' : X.drew.frozen? ⟨gl, 0, none⟩ = false := by rw [HXX.out]; exact ez
  have LOW1 : Hid (Below gl w X.drew) := Lib.hid (below_drewN (by rw [HXX.out]; exact below_drewN HLOW.out q) 1)
  clear f1 e1 e2 e3 ez
  generalize X.drew = Y at *
  go_wp2_with (fail)
  have h4 : (Y.setCell ⟨gl, 0, none⟩ (.slice (cutA A i1 c) (n - i1) (c - i1))).cell? ⟨gl, 0, none⟩ = some (.slice (cutA A i1 c) (n - i1) (c - i1)) := by
    rw [World.cell?_setCell_same (h := f1')]
  have h5 : (Y.setCell ⟨gl, 0, none⟩ (.slice (cutA A i1 c) (n - i1) (c - i1))).cell? ⟨gl + 1 + 1, 0, none⟩ = some (.int .i64 T) := by
    rw [World.cell?_setCell_other (h := by simp <;> omega)]
    exact f2'
  have LOW2 : Hid (Below gl w (Y.setCell ⟨gl, 0, none⟩ (.slice (cutA A i1 c) (n - i1) (c - i1)))) := Lib.hid (LOW1.out.grown (set_grownB Y gl 0 _) (by have := LOW1.out.size; have := HGL.out; omega) (fun g e => by cases e; exact Nat.le_refl _))
  generalize Y.setCell ⟨gl, 0, none⟩ (.slice (cutA A i1 c) (n - i1) (c - i1)) = Z at *
  obtain ⟨P2, hP2⟩ : ∃ P : Nat → Bool, P = fun k => decide (T < ((rs.drop i1).getD k (0, 0)).1) := ⟨_, rfl⟩
  have HP2 := Lib.hid hP2
  clear hP2 f1' f2' f3' HLOW HXX LOW1 X g1 g2 g3 g4
  have RQ2 : Hid (Rq Z B (cutA A i1 c) (rs.drop i1)) := Lib.hid (by
    have h := cutA_rq (l := i1) (h := n) (HR.out.below LOW2.out HBL.out) HN.out hi1 (Nat.le_refl _) hc
    rw [HN.out, List.take_length] at h
    exact h)
  have HG2 : Hid (Rn.Ok (rs.drop i1)) := Lib.hid (HG.out.sub (List.drop_sublist _ _))
  have HL2 : Hid ((rs.drop i1).length = n - i1) := Lib.hid (by rw [List.length_drop, HN.out])
  have S2 := Lib.hid (search2 Z (n - i1) gl (gl + 1 + 1) P2 (by omega) (fun a b hab hb h => by
      rw [HP2.out] at h ⊢
      rw [← HL2.out] at hb
      have h1 := ok_le HG2.out hab hb
      rw [decide_eq_true_eq, List.getD_eq_getElem?_getD, List.getElem?_eq_getElem (by omega)] at h
      rw [decide_eq_true_eq, List.getD_eq_getElem?_getD, List.getElem?_eq_getElem hb]
      have h2 : T < ((rs.drop i1)[a]'(by omega)).1 := h
      show T < (rs.drop i1)[b].1
      omega)
    (fun q i hi => by
      have hir : i < (rs.drop i1).length := by rw [HL2.out]; exact hi
      obtain ⟨b, off, hA, _, k1, k2⟩ := RQ2.out.at hir
      have hgd := HG2.out.1 _ (List.getElem_mem hir)
      unfold Rn.Good at hgd
      have e : P2 i = decide (T < (rs.drop i1)[i].1) := by
        rw [HP2.out]
        show decide (T < ((rs.drop i1).getD i (0, 0)).1) = _
        rw [List.getD_eq_getElem?_getD, List.getElem?_eq_getElem hir]
        rfl
      rw [e]
      rw [hA] at h4
      refine (clos2 (Z.drewN q) gl (gl + 1 + 1) b off i (n - i1) (c - i1) (rs.drop i1)[i].1 (rs.drop i1)[i].2 T hi h4 h5 k1 k2 (by omega) (by omega)).mono ?_
      rintro e w' ⟨rfl, q', rfl⟩
      exact ⟨rfl, q + q', by simp⟩))
  go_wp2_with (go_at_call 190; (with_reducible refine S2.out.mono ?_); rintro e w4 ⟨i2, rfl, hi2, hL2, hR2, q2, rfl⟩; replace hL2 := Lib.hid hL2; replace hR2 := Lib.hid hR2)
  clear S2
  obtain ⟨g1, g2⟩ := cut_h (cutA A i1 c) (n - i1) (c - i1) i2 (i2 : Int) rfl hi2 (by omega)
  obtain ⟨g3, g4⟩ := cut_l (cutA A i1 c) (n - i1) (c - i1) i2 (i2 : Int) rfl hi2
  have h4' : (Z.drewN q2).cell? ⟨gl, 0, none⟩ = some (.slice (cutA A i1 c) (n - i1) (c - i1)) := h4
  have hi2n : (i2 : Int) ≤ ((n - i1 : Nat) : Int) := by omega
  have hi2c : (i2 : Int) ≤ ((c - i1 : Nat) : Int) := by omega
  go_quiet (fail)
  go_wp2
  refine bodyPost_ret (results_tmp3 rfl _ _ _) rfl ?_
  have ej : i1 + i2 - i1 = i2 := by omega
  have en : n - (i1 + i2) = n - i1 - i2 := by omega
  have hR5 : ∀ (k : Nat) (hk : k < rs.length), i1 ≤ k → F ≤ rs[k].2 := fun k hk h => by
    have e := hR1.out k h (by rw [HN.out]; exact hk)
    rw [HP1.out] at e
    have e' : decide (F ≤ (rs.getD k (0, 0)).2) = true := e
    rw [decide_eq_true_eq, List.getD_eq_getElem?_getD, List.getElem?_eq_getElem hk] at e'
    exact e'
  have hL5 : ∀ (k : Nat) (hk : k < rs.length), k < i1 → rs[k].2 < F := fun k hk h => by
    have e := hL1.out k h
    rw [HP1.out] at e
    have e' : decide (F ≤ (rs.getD k (0, 0)).2) = false := e
    rw [decide_eq_false_iff_not, List.getD_eq_getElem?_getD, List.getElem?_eq_getElem hk] at e'
    have e2 : ¬ F ≤ rs[k].2 := e'
    omega
  have hR6 : ∀ (k : Nat) (hk : k < (rs.drop i1).length), i2 ≤ k → T < (rs.drop i1)[k].1 := fun k hk h => by
    have e := hR2.out k h (by rw [← HL2.out]; exact hk)
    rw [HP2.out] at e
    have e' : decide (T < ((rs.drop i1).getD k (0, 0)).1) = true := e
    rw [decide_eq_true_eq, List.getD_eq_getElem?_getD, List.getElem?_eq_getElem hk] at e'
    exact e'
  have hL6 : ∀ (k : Nat) (hk : k < (rs.drop i1).length), k < i2 → (rs.drop i1)[k].1 ≤ T := fun k hk h => by
    have e := hL2.out k h
    rw [HP2.out] at e
    have e' : decide (T < ((rs.drop i1).getD k (0, 0)).1) = false := e
    rw [decide_eq_false_iff_not, List.getD_eq_getElem?_getD, List.getElem?_eq_getElem hk] at e'
    have e2 : ¬ T < (rs.drop i1)[k].1 := e'
    omega
  have hn := HN.out
  have hsub : (rs.take (i1 + i2)).drop i1 = (rs.drop i1).take i2 := by rw [List.drop_take, show i1 + i2 - i1 = i2 by omega]
  have hdd : rs.drop (i1 + i2) = (rs.drop i1).drop i2 := by rw [List.drop_drop]
  refine ⟨i1, i1 + i2, cutA A i1 c, c - i1, cutA (cutA A i1 c) i2 (c - i1), c - i1 - i2, by rw [ej, en]; rfl, ⟨by omega, by omega, by omega, by omega, ?_, ?_, fun r hr => ?_, fun r hr => ?_, fun r hr => ?_, ?_⟩⟩
  · rw [hsub]
    exact rq_take (RQ2.out.drew (q2 + nq))
  · rw [hdd]
    have h := cutA_rq (l := i2) (h := n - i1) (c := c - i1) (RQ2.out.drew (q2 + nq)) HL2.out.symm hi2 (Nat.le_refl _) (by omega)
    rw [← HL2.out, List.take_length] at h
    exact h
  · obtain ⟨k, hk, rfl⟩ := List.getElem_of_mem hr
    rw [List.getElem_take]
    rw [List.length_take] at hk
    exact hL5 k (by omega) (by omega)
  · rw [hsub] at hr
    obtain ⟨k, hk, rfl⟩ := List.getElem_of_mem hr
    rw [List.getElem_take]
    rw [List.length_take] at hk
    refine ⟨?_, hL6 k (by omega) (by omega)⟩
    rw [List.getElem_drop]
    exact hR5 (i1 + k) (by have := HL2.out; omega) (by omega)
  · rw [hdd] at hr
    obtain ⟨k, hk, rfl⟩ := List.getElem_of_mem hr
    rw [List.getElem_drop]
    rw [List.length_drop] at hk
    exact hR6 (i2 + k) (by omega) (by omega)
  · have h := LOW2.out
    rw [← HGL.out] at h
    exact below_drewN (below_drewN h _) _
end Go.Proofs.YtkehehfphccpbaaGreatDoor.R
end
section
namespace Go.Proofs.YtkehehfphccpbaaGreatDoor.R
set_option maxRecDepth 40000
open Go.RowKit Go.Lib Go.Sort Go.Shelf
theorem nan16 (x : Int) (w : World) : Calls Tryz.prog 118 #[.int .u16 x] w fun e w' => e = .returned (.bool false) ∧ w = w' := by
  go_enter Tryz.func118, Tryz.ntmps118
  go_wp2
  go_ret
  exact ⟨by first | rfl | simp, rfl⟩
theorem cmp16 (x y : Int) (w : World) : Calls Tryz.prog 98 #[.int .u16 x, .int .u16 y] w fun e w' => e = .returned (.int .i64 (Lib.compareInt x y)) ∧ w = w' := by
  rcases Int.lt_trichotomy x y with h | h | h
  · have d1 : decide (x < y) = true := decide_eq_true h
    have hr := Lib.hid (show Lib.compareInt x y = -1 by unfold Lib.compareInt; rw [if_pos h])
    clear h
    go_enter Tryz.func98, Tryz.ntmps98
    go_wp2_with (go_at_call 118; (with_reducible refine (nan16 _ _).mono ?_); rintro e w' ⟨rfl, rfl⟩)
    refine bodyPost_ret (results_tmp (t := 4) rfl _ _ _) rfl ?_
    exact ⟨by rw [hr.out]; rfl, rfl⟩
  · subst h
    have d1 : decide (x < x) = false := decide_eq_false (by omega)
    have hr := Lib.hid (show Lib.compareInt x x = 0 by unfold Lib.compareInt; rw [if_neg (by omega), if_neg (by omega)])
    go_enter Tryz.func98, Tryz.ntmps98
    go_wp2_with (go_at_call 118; (with_reducible refine (nan16 _ _).mono ?_); rintro e w' ⟨rfl, rfl⟩)
    refine bodyPost_ret (results_tmp (t := 4) rfl _ _ _) rfl ?_
    exact ⟨by rw [hr.out]; rfl, rfl⟩
  · have d1 : decide (x < y) = false := decide_eq_false (by omega)
    have d2 : decide (y < x) = true := decide_eq_true h
    have hr := Lib.hid (show Lib.compareInt x y = 1 by unfold Lib.compareInt; rw [if_neg (by omega), if_pos h])
    clear h
    go_enter Tryz.func98, Tryz.ntmps98
    go_wp2_with (go_at_call 118; (with_reducible refine (nan16 _ _).mono ?_); rintro e w' ⟨rfl, rfl⟩)
    refine bodyPost_ret (results_tmp (t := 4) rfl _ _ _) rfl ?_
    exact ⟨by rw [hr.out]; rfl, rfl⟩
def encR (r : Int × Int) : List Value := [.int .u16 r.1, .int .u16 r.2]
def cfR (x y : Int × Int) : Int := Lib.compareInt x.1 y.1
set_option maxRecDepth 100000 in
set_option maxHeartbeats 1000000 in
theorem closure_any (x y : Int × Int) (W : World) :
    Calls Tryz.prog 97 #[.agg #[.int .u16 x.1, .int .u16 x.2], .agg #[.int .u16 y.1, .int .u16 y.2]] W fun e w' => e = .returned (.int .i64 (cfR x y)) ∧ ∃ q os', w' = grow (W.drewN q) os' := by
  unfold cfR
  have h8 := fun w => Lib.hid (cmp16 x.1 y.1 w)
  generalize Lib.compareInt x.1 y.1 = a at *
  have hgr : Hid (∃ os, (W.alloc (.cells #[.int .u16 x.1, .int .u16 x.2] 112)).alloc (.cells #[.int .u16 y.1, .int .u16 y.2] 112) = grow W os) := Lib.hid ⟨_, by rw [alloc_eq_grow, alloc_eq_grow, grow_grow]⟩
  go_enter Tryz.func97, Tryz.ntmps97
  go_wp2_with (go_at_call 98; (with_reducible refine (h8 _).out.mono ?_); rintro e w' ⟨rfl, rfl⟩)
  go_ret
  obtain ⟨os, ho⟩ := hgr.out
  exact ⟨rfl, 0, os, ho⟩
theorem cmp_lays (blk off size : Nat) (w : World) : CmpLays Tryz.prog 97 #[] encR 2 cfR blk off size w :=
  fun _ _ _ _ x y => closure_any x y _
theorem cf_lt (x y : Int × Int) : ltOf cfR x y = true ↔ x.1 < y.1 := by
  unfold ltOf cfR Lib.compareInt
  rw [decide_eq_true_iff]
  by_cases h1 : x.1 < y.1
  · rw [if_pos h1]; simp; omega
  · by_cases h2 : x.1 > y.1
    · rw [if_neg h1, if_pos h2]; simp; omega
    · rw [if_neg h1, if_neg h2]; simp; omega
theorem cf_nlt (x y : Int × Int) : ltOf cfR x y = false ↔ ¬ x.1 < y.1 := by
  rw [← cf_lt]; simp
theorem swo_cf : SWO (ltOf cfR) where
  irrefl x := by rw [cf_nlt]; omega
  trans x y z h1 h2 := by rw [cf_lt] at *; omega
  ntrans x y z h1 h2 := by rw [cf_nlt] at *; omega
theorem agg_run (w : World) : (isAgg 112).run Tryz.prog w = .ok true w := Tryz.isAgg112 w
theorem size_run (w : World) : (Go.sizeOf 112).run Tryz.prog w = .ok 2 w := Tryz.sizeOf112 w
theorem sort_runs (blk cap : Nat) (d : Array (Int × Int)) (w : World) (hH : HoldsK encR 2 w blk 0 d) (hblk : blk < w.heap.size) (hsz : d.size < 4611686018427387904) :
    Calls Tryz.prog 96 #[.slice (some ⟨blk, 0, none⟩) d.size cap, .func (.func 97) #[] #[]] w fun e w' =>
      e = .returned (.tuple #[]) ∧ ∃ d' n os, PermIn 0 d.size d d' ∧ SortedIn (ltOf cfR) 0 d.size d' ∧ w' = sortWorldK encR 2 w blk 0 n d' os :=
  AnyQ.slices_SortFunc Tryz.sortR 2 agg_run size_run encR (fun _ => rfl) (fun x v hv => by simp [encR] at hv; rcases hv with rfl | rfl <;> rfl) cfR swo_cf 97 #[] blk 0 cap d w
    (enters_of Tryz.func97 (by kernel_rfl) rfl) (cmp_lays blk 0 d.size w) hH hblk hsz
end Go.Proofs.YtkehehfphccpbaaGreatDoor.R
end
section
namespace Go.Proofs.YtkehehfphccpbaaGreatDoor.R
set_option maxRecDepth 40000
open Go.RowKit
abbrev Part := Option Addr × Nat × List (Int × Int)
def cat (L : List Part) : List (Int × Int) := L.flatMap (·.2.2)
/-- The row of slices at gp, from off on, reads as the parts L. -/
def Parts (w : World) (B gp off : Nat) (L : List Part) : Prop := ∀ k (h : k < L.length), w.cell? ⟨gp, off + k, none⟩ = some (.slice L[k].1 L[k].2.2.length L[k].2.1) ∧ Rq w B L[k].1 L[k].2.2
theorem cat_snoc {L : List Part} {k : Nat} (h : k < L.length) : cat (L.take (k + 1)) = cat (L.take k) ++ L[k].2.2 := by
  unfold cat; rw [List.take_succ_eq_append_getElem h, List.flatMap_append]; simp
theorem cat_le {L : List Part} {k : Nat} : (cat (L.take k)).length ≤ (cat L).length := by
  conv => rhs; rw [← List.take_append_drop k L]
  unfold cat; rw [List.flatMap_append, List.length_append]; omega
theorem Rq.reads {w : World} {B : Nat} {A : Option Addr} {rs : List (Int × Int)} (h : Rq w B A rs) : Reads w B 2 A rs.length (rv rs) := by
  refine ⟨rv_len rs, fun hn => ?_⟩
  obtain ⟨b, off, rfl, hb, hc⟩ := h (by intro e; subst e; simp at hn)
  refine ⟨_, rfl, hb, fun j u hu => ?_⟩
  have hj : j < rs.length * 2 := by
    rcases Nat.lt_or_ge j (rs.length * 2) with h1 | h1
    · exact h1
    · rw [List.getElem?_eq_none (by rw [rv_len]; exact h1)] at hu; cases hu
  have e : (⟨b, off, none⟩ : Addr).add j = ⟨b, off + j, none⟩ := by
    unfold Addr.add
    by_cases h0 : j = 0 <;> simp [h0]
  rw [e]
  obtain ⟨k, hk⟩ : ∃ k, k = j / 2 := ⟨_, rfl⟩
  have hkl : k < rs.length := by omega
  obtain ⟨h0, h1⟩ := rv_at rs k hkl
  obtain ⟨c0, c1⟩ := hc k hkl
  rcases Nat.mod_two_eq_zero_or_one j with m | m
  · have ej : j = k * 2 := by omega
    rw [ej] at hu ⊢
    rw [c0, ← h0, hu]
  · have ej : j = k * 2 + 1 := by omega
    rw [ej] at hu ⊢
    rw [show off + (k * 2 + 1) = off + k * 2 + 1 by omega, c1, ← h1, hu]
theorem size_zero2 (n : Nat) : (Builtin.zeroCells #[Value.int .u16 0, Value.int .u16 0] n).size = n * 2 := by simp [Builtin.zeroCells]
end Go.Proofs.YtkehehfphccpbaaGreatDoor.R
end
section
namespace Go.Proofs.YtkehehfphccpbaaGreatDoor.R
set_option maxRecDepth 40000
open Go.RowKit Go.Lib Go.Sort Go.Shelf
set_option maxHeartbeats 4000000 in
theorem ins_nil (c : Nat) (F : Value) (w : World) : Calls Tryz.prog 127 #[.slice none 0 c, .int .i64 0, .int .i64 0, F] w fun e w' => e = .returned (.tuple #[]) ∧ w = w' := by
  go_enter Tryz.func127, Tryz.ntmps127
  go_wp2
  go_loop [8] (fun vi => vi = .int .i64 1) (fun _ => 0)
  case atStart => rfl
  case round =>
    subst hrel
    go_wp2
    go_end0
    exact ⟨rfl, rfl⟩
theorem len_zero (w : World) : Calls Tryz.prog 93 #[.int .u64 0] w fun e w' => ∃ l, e = .returned (.int .i64 l) ∧ w = w' := by
  go_enter Tryz.func93, Tryz.ntmps93
  go_wp2
  go_ret
  exact ⟨_, rfl, rfl⟩
set_option maxHeartbeats 4000000 in
set_option maxRecDepth 100000 in
theorem pdq_nil (c : Nat) (l : Int) (F : Value) (w : World) : Calls Tryz.prog 119 #[.slice none 0 c, .int .i64 0, .int .i64 0, .int .i64 l, F] w fun e w' => e = .returned (.tuple #[]) ∧ w = w' := by
  go_enter Tryz.func119, Tryz.ntmps119
  go_wp2_with (fail)
  go_loop [1, 2] (fun v1 v2 => v1 = .int .i64 0 ∧ v2 = .int .i64 0) (fun _ _ => 0)
  case atStart => exact ⟨rfl, rfl⟩
  case round =>
    obtain ⟨rfl, rfl⟩ := hrel
    go_wp2_with (go_at_call 127; (with_reducible refine (ins_nil c F _).mono ?_); rintro e w' ⟨rfl, rfl⟩)
    refine bodyPost_ret (results_none rfl _ _ _) rfl ?_
    exact ⟨rfl, rfl⟩
set_option maxHeartbeats 4000000 in
theorem sort_nil (c : Nat) (F : Value) (w : World) : Calls Tryz.prog 96 #[.slice none 0 c, F] w fun e w' => e = .returned (.tuple #[]) ∧ w = w' := by
  go_enter Tryz.func96, Tryz.ntmps96
  go_wp2_with (first
    | (go_at_call 93; (with_reducible refine (len_zero _).mono ?_); rintro e w' ⟨l, rfl, rfl⟩)
    | (go_at_call 119; (with_reducible refine (pdq_nil c _ F _).mono ?_); rintro e w' ⟨rfl, rfl⟩))
  go_end0
  exact ⟨rfl, rfl⟩
theorem but_sort (w : World) (blk n : Nat) (d : Array (Int × Int)) (os : Array Obj) : ButS w (sortWorldK encR 2 w blk 0 n d os) (· = blk) := by
  refine ⟨rfl, rfl, rfl, ?_, fun j hj hne => ?_⟩
  · show w.heap.size ≤ ((w.heap.modify blk _) ++ os).size
    simp
  · show ((w.heap.modify blk _) ++ os)[j]? = _
    rw [Array.getElem?_append_left (by simpa using hj), Array.getElem?_modify]
    have : ¬ blk = j := fun e => hne e.symm
    simp [this]
theorem rq_holds {w : World} {blk : Nat} {d : Array (Int × Int)} (h : HoldsK encR 2 w blk 0 d) (hb : blk < w.heap.size) : Rq w w.heap.size (some ⟨blk, 0, none⟩) d.toList := fun _ => by
  refine ⟨blk, 0, rfl, hb, fun k hk => ?_⟩
  have hk' : k < d.size := by simpa using hk
  have hc : ∀ c, c < 2 → w.cell? ⟨blk, k * 2 + c, none⟩ = some ((encR d[k])[c]!) := by
    intro c hc
    have h1 := (h (k * 2 + c) (by rw [size_flatK]; omega)).1
    rw [get_flatK _ _ _ _ (by omega)] at h1
    have e1 : (k * 2 + c) / 2 = k := by omega
    have e2 : (k * 2 + c) % 2 = c := by omega
    rw [e1, e2, Nat.zero_add, getElem!_pos d k hk'] at h1
    exact h1
  have e : d.toList[k] = d[k] := by simp
  rw [e, Nat.zero_add]
  exact ⟨hc 0 (by omega), hc 1 (by omega)⟩
theorem holds_own {w : World} {base g n cap : Nat} {l : List (Int × Int)} (h : w.ownsRow base 112 2 (.slice (some ⟨g, 0, none⟩) n cap) n (rv l)) (hl : l.length = n) : HoldsK encR 2 w g 0 l.toArray := by
  intro t ht
  rw [size_flatK] at ht
  have ht' : t < l.length * 2 := by simpa using ht
  refine ⟨?_, by rw [Nat.zero_add]; exact h.frozenAt t⟩
  rw [Nat.zero_add, h.cellAt t (by omega), get_flatK _ _ _ _ ht]
  have hk : t / 2 < l.length := by omega
  have ha := rv_at l (t / 2) hk
  have eg : l.toArray[t / 2]! = l[t / 2] := by rw [getElem!_pos l.toArray (t / 2) (by simpa using hk)]; simp
  rw [eg]
  rcases Nat.mod_two_eq_zero_or_one t with e | e
  · have et : t = t / 2 * 2 := by omega
    conv => lhs; rw [et]
    rw [ha.1, e]; rfl
  · have et : t = t / 2 * 2 + 1 := by omega
    conv => lhs; rw [et]
    rw [ha.2, e]; rfl
theorem sort_own (w : World) (base g n cap : Nat) (ls : List (Int × Int)) (h : w.ownsRow base 112 2 (.slice (some ⟨g, 0, none⟩) n cap) n (rv ls)) (hl : ls.length = n) (hn : n ≤ 1000000) :
    Calls Tryz.prog 96 #[.slice (some ⟨g, 0, none⟩) n cap, .func (.func 97) #[] #[]] w fun e w' => e = .returned (.tuple #[]) ∧ ∃ ds : List (Int × Int), ds.Perm ls ∧ ds.Pairwise (fun a b => a.1 ≤ b.1) ∧ Rq w' w'.heap.size (some ⟨g, 0, none⟩) ds ∧ ButS w w' (· = g) := by
  have hg : g < w.heap.size := (h.lt g rfl).2
  have hH := holds_own h hl
  have hsz : ls.toArray.size = n := by simpa using hl
  have hso := sort_runs g cap ls.toArray w hH hg (by rw [hsz]; omega)
  rw [hsz] at hso
  refine hso.mono ?_
  rintro e w' ⟨rfl, d', q, os, hp, hs, rfl⟩
  have hds : d'.size = ls.toArray.size := by rw [hsz]; exact hp.1.trans hsz
  have hbs := but_sort w g q d' os
  have hER := rq_holds (holdsK_sortWorldK_c encR 2 w g 0 ls.toArray d' q os hH hg hds) (Nat.lt_of_lt_of_le hg hbs.size)
  refine ⟨rfl, d'.toList, ?_, ?_, hER, hbs⟩
  · obtain ⟨hsz2, _, hpm⟩ := hp
    have e1 : (d'.extract 0 n).toList = d'.toList := by rw [← hsz, ← hds]; simp
    have e2 : (ls.toArray.extract 0 n).toList = ls := by rw [← hsz]; simp
    rw [e1, e2] at hpm
    exact hpm
  · rw [List.pairwise_iff_getElem]
    intro i j hi hj hij
    have hi' : i < d'.size := by simpa using hi
    have hj' : j < d'.size := by simpa using hj
    have := hs i j (Nat.zero_le _) hij (by omega)
    rw [getElem!_pos d' j hj', getElem!_pos d' i hi', cf_nlt] at this
    simp only [Array.getElem_toList]
    omega
end Go.Proofs.YtkehehfphccpbaaGreatDoor.R
end
section
namespace Go.Proofs.YtkehehfphccpbaaGreatDoor.R
set_option maxRecDepth 40000
open Go.RowKit
theorem run_info : (Tryz.prog.info? 112).map (fun i => (i.zero, i.size, i.bytes)) = some (some (.agg #[.int .u16 0, .int .u16 0]), 2, 4) := by kernel_rfl
theorem news2 (W : World) (a b : Value) (T : TypeId) : ∀ j u, [a, b][j]? = some u → (W.alloc (.cells #[a, b] T)).cell? ((⟨W.heap.size, 0, none⟩ : Addr).add j) = some u := by
  intro j u hu
  rw [add_offB]
  have h := cell_of_row (W.alloc (.cells #[a, b] T)) W.heap.size j _ _ (0, 0) (alloc_topI W (.cells #[a, b] T))
  rw [h]
  match j, hu with
  | 0, hu => simpa using hu
  | 1, hu => simpa using hu
theorem own_set {w : World} {base g n cap j : Nat} {xs : List Value} {u : Value} (h : w.ownsRow base 112 2 (.slice (some ⟨g, 0, none⟩) n cap) n xs) : (w.setCell ⟨g, j, none⟩ u).ownsRow base 112 2 (.slice (some ⟨g, 0, none⟩) n cap) n (xs.set j u) := by
  rcases h.2 with ⟨h1, _⟩ | ⟨g', cap', cur, h1, h2, h3, h4, h5, h6, h7⟩
  · cases h1
  · cases h1
    refine ⟨by rw [List.length_set]; exact h.1, .inr ⟨g, cap, cur.setIfInBounds j u, rfl, h2, ?_, h4, h5, by rw [Array.size_setIfInBounds]; exact h6, ?_⟩⟩
    · simp [World.setCell, Array.getElem?_modify, h3]
    · rw [Array.toList_setIfInBounds, List.take_set, h7]
theorem rv_set (rs : List (Int × Int)) (l : Int × Int) (m : Int) : (rv (rs ++ [l])).set (rs.length * 2 + 1) (.int .u16 m) = rv (rs ++ [(l.1, m)]) := by
  rw [rv_append, rv_append]
  have e : rs.length * 2 + 1 = (rv rs).length + 1 := by rw [rv_len]
  rw [e, List.set_append_right _ _ (by omega)]
  simp
theorem V_perm {rs qs : List (Int × Int)} (h : rs.Perm qs) (x : Int) : Rn.V rs x ↔ Rn.V qs x :=
  ⟨fun ⟨r, hr, h1⟩ => ⟨r, h.mem_iff.1 hr, h1⟩, fun ⟨r, hr, h1⟩ => ⟨r, h.mem_iff.2 hr, h1⟩⟩
/-- What is kept: the first k are joined. -/
structure Jd (ds qs : List (Int × Int)) (k : Nat) : Prop where
  ok : Rn.Ok qs
  val : ∀ x, Rn.V qs x ↔ Rn.V (ds.take k) x
  low : ∀ q, q ∈ qs → ∀ r, r ∈ ds.drop k → q.1 ≤ r.1
  len : qs.length ≤ k
theorem Jd.start (ds : List (Int × Int)) : Jd ds [] 0 := ⟨Rn.Ok.nil, fun x => ⟨fun h => absurd h (Rn.V_nil x), fun h => absurd h (Rn.V_nil x)⟩, fun q h => absurd h (by simp), Nat.le_refl _⟩
theorem Jd.touch {ds rs : List (Int × Int)} {l : Int × Int} {k : Nat} (h : Jd ds (rs ++ [l]) k) (hk : k < ds.length) (hg : Rn.Good ds[k]) (ht : ds[k].1 ≤ l.2 + 1) (m : Int) (hm : m = if l.2 < ds[k].2 then ds[k].2 else l.2) : Jd ds (rs ++ [(l.1, m)]) (k + 1) := by
  have hd : ds.drop k = ds[k] :: ds.drop (k + 1) := List.drop_eq_getElem_cons hk
  have hl := h.low l (by simp) ds[k] (by rw [hd]; exact List.mem_cons_self)
  obtain ⟨h1, h2⟩ := Rn.join_touch h.ok hg hl ht m hm
  refine ⟨h1, fun x => ?_, fun q hq r hr => ?_, ?_⟩
  · rw [h2, h.val, List.take_succ_eq_append_getElem hk, Rn.V_append, Rn.V_one]
  · have hr' : r ∈ ds.drop k := by rw [hd]; exact List.mem_cons_of_mem _ hr
    rcases List.mem_append.1 hq with e | e
    · exact h.low q (List.mem_append_left _ e) r hr'
    · rw [List.mem_singleton] at e
      subst e
      exact h.low l (by simp) r hr'
  · have := h.len
    simp at this ⊢
    omega
theorem Jd.apart {ds qs : List (Int × Int)} {k : Nat} (h : Jd ds qs k) (hs : ds.Pairwise fun a b => a.1 ≤ b.1) (hk : k < ds.length) (hg : Rn.Good ds[k]) (hl : ∀ l, qs.getLast? = some l → l.2 + 1 < ds[k].1) : Jd ds (qs ++ [ds[k]]) (k + 1) := by
  have hd : ds.drop k = ds[k] :: ds.drop (k + 1) := List.drop_eq_getElem_cons hk
  obtain ⟨h1, h2⟩ := Rn.join_apart h.ok hg hl
  refine ⟨h1, fun x => ?_, fun q hq r hr => ?_, ?_⟩
  · rw [h2, h.val, List.take_succ_eq_append_getElem hk, Rn.V_append, Rn.V_one]
  · have hr' : r ∈ ds.drop k := by rw [hd]; exact List.mem_cons_of_mem _ hr
    rcases List.mem_append.1 hq with e | e
    · exact h.low q e r hr'
    · rw [List.mem_singleton] at e
      subst e
      have h3 : (ds.drop k).Pairwise fun a b => a.1 ≤ b.1 := hs.sublist (List.drop_sublist _ _)
      rw [hd] at h3
      exact (List.pairwise_cons.1 h3).1 r hr
  · have := h.len
    simp
    omega
def JoinedP (w : World) (base : Nat) (ls : List (Int × Int)) (e : Ending) (w' : World) : Prop := ∃ (val : Value) (qs : List (Int × Int)), e = .returned val ∧ Rn.Ok qs ∧ (∀ x, Rn.V qs x ↔ Rn.V ls x) ∧ qs.length ≤ ls.length ∧ w'.ownsRow base 112 2 val qs.length (rv qs) ∧ Below base w w'
theorem own_formR {w : World} {base n : Nat} {v : Value} {xs : List Value} (h : w.ownsRow base 112 2 v n xs) (hn : 0 < n) : ∃ g c, v = .slice (some ⟨g, 0, none⟩) n c ∧ base ≤ g ∧ g < w.heap.size ∧ n ≤ c ∧ ∀ k, w.frozen? ⟨g, k, none⟩ = false := by
  rcases h.2 with ⟨_, h0⟩ | ⟨g, cap, cur, h1, h2, h3, h4, _⟩
  · omega
  · exact ⟨g, cap, h1, h2, (Array.getElem?_eq_some_iff.1 h3).1, h4, fun k => by simp [World.frozen?, h3]⟩
theorem own_nilR {w : World} {base : Nat} {v : Value} {xs : List Value} (h : w.ownsRow base 112 2 v 0 xs) : ∃ A c, v = .slice A 0 c := by
  rcases h.2 with ⟨h1, _⟩ | ⟨g, cap, cur, h1, _⟩
  · exact ⟨none, 0, h1⟩
  · exact ⟨_, cap, h1⟩
theorem news2' (W : World) (g : Nat) (hg : g = W.heap.size) (a b : Value) (T : TypeId) : ∀ j u, [a, b][j]? = some u → (W.alloc (.cells #[a, b] T)).cell? ((⟨g, 0, none⟩ : Addr).add j) = some u := by
  subst hg
  exact news2 W a b T
theorem int_one {u : Value} {a b : Int} (h : u ∈ [Value.int .u16 a, Value.int .u16 b]) : u.oneCell' = true := by
  simp at h
  rcases h with rfl | rfl <;> rfl
theorem own_box {w : World} {base n : Nat} {e : TypeId} {v : Value} {xs : List Value} (h : w.ownsRow base e 2 v n xs) (o o' : Obj) (q : Nat) : (((w.alloc o).drewN q).alloc o').ownsRow base e 2 v n xs :=
  (show ((w.alloc o).drewN q).ownsRow base e 2 v n xs from h.alloc o).alloc o'
theorem r_meetB (W : World) (f t f' t' : Int) (ht : 0 ≤ t ∧ t ≤ 65535) (hf' : 0 ≤ f' ∧ f' ≤ 65535) (b : Bool) (hb : decide (f' ≤ t + 1) = b) :
    Calls Tryz.prog 99 #[.agg #[.int .u16 f, .int .u16 t], .agg #[.int .u16 f', .int .u16 t']] W fun e w' => e = .returned (.bool b) ∧ Below W.heap.size W w' := by
  subst hb
  refine (r_meet W f t f' t' ht hf').mono ?_
  rintro e w' ⟨rfl, rfl⟩
  exact ⟨rfl, ((Below.refl _ _).alloc (Nat.le_refl _) _).alloc (by simp) _⟩
set_option maxHeartbeats 16000000 in
set_option maxRecDepth 100000 in
theorem r_joined (w : World) (base g n cap : Nat) (ls : List (Int × Int)) (ho : w.ownsRow base 112 2 (.slice (some ⟨g, 0, none⟩) n cap) n (rv ls)) (hl : ls.length = n) (hg : ∀ r, r ∈ ls → Rn.Good r) (hb : base ≤ w.heap.size) (few : n ≤ 1000000) :
    Calls Tryz.prog 79 #[.slice (some ⟨g, 0, none⟩) n cap] w (JoinedP w base ls) := by
  obtain ⟨i0, hi, hz0, hz1, hz2⟩ : ∃ ti, Tryz.prog.info? 112 = some ti ∧ ti.zero = some (.agg #[.int .u16 0, .int .u16 0]) ∧ ti.size = 2 ∧ ti.bytes = 4 := ⟨_, rfl, rfl, rfl, rfl⟩
  have HS := Lib.hid (sort_own w base g n cap ls ho hl few)
  have hgb := (ho.lt g rfl).1
  have HL := Lib.hid hl
  have HG := Lib.hid hg
  clear ho hl hg
  go_enter Tryz.func79, Tryz.ntmps79
  go_wp2_with (go_at_call 96; (with_reducible refine HS.out.mono ?_); rintro e w1 ⟨rfl, ds, h1, h2, h3, h4⟩; replace h1 := Lib.hid h1; replace h2 := Lib.hid h2; replace h3 := Lib.hid h3; replace h4 := Lib.hid h4)
  have HLO : Hid (Below base w w1) := Lib.hid (h4.out.below hb (fun j e => by omega))
  have HN : Hid (ds.length = n) := Lib.hid (by rw [h1.out.length_eq, HL.out])
  have HGD : Hid (∀ r, r ∈ ds → Rn.Good r) := Lib.hid (fun r hr => HG.out r (h1.out.mem_iff.1 hr))
  clear HS h4
  go_loopw [3, 11] (fun vr vi wr => ∃ (k : Nat) (qs : List (Int × Int)), k ≤ n ∧ vi = .int .i64 k ∧ Hid (wr.ownsRow w1.heap.size 112 2 vr qs.length (rv qs)) ∧ Hid (Jd ds qs k) ∧ Hid (Below w1.heap.size w1 wr)) (fun _ vi _ => n - (intOf vi).toNat)
  case atStart => exact ⟨0, [], Nat.zero_le _, rfl, Lib.hid ⟨rfl, .inl ⟨rfl, rfl⟩⟩, Lib.hid (Jd.start ds), Lib.hid (Below.refl _ _)⟩
  case round =>
    obtain ⟨k, qs, hk, rfl, HO, HJ, HW⟩ := hrel
    obtain ⟨vr, hvr⟩ : ∃ v, v = u3 := ⟨_, rfl⟩
    subst hvr
    by_cases hlt : k < n
    · have hkd : k < ds.length := by rw [HN.out]; exact hlt
      obtain ⟨b, off, hA, _, c1, c2⟩ := (h3.out.below HW.out (Nat.le_refl _)).at hkd
      cases hA
      rw [Nat.zero_add] at c1 c2
      have hgd := HGD.out _ (List.getElem_mem hkd)
      have HGK := Lib.hid hgd
      unfold Rn.Good at hgd
      have HJT := Lib.hid (fun rs l (e : qs = rs ++ [l]) (ht : ds[k].1 ≤ l.2 + 1) m hm => Jd.touch (e ▸ HJ.out) hkd HGK.out ht m hm)
      have HJA := Lib.hid (HJ.out.apart h2.out hkd HGK.out)
      have HQL : qs.length ≤ 1000000 := Nat.le_trans HJ.out.len (by omega)
      have HOK := Lib.hid HJ.out.ok
      obtain ⟨x, hx⟩ : ∃ x, x = ds[k] := ⟨_, rfl⟩
      rw [← hx] at c1 c2 hgd HJT HJA
      have HX := Lib.hid hx
      clear hx HGK HJ
      obtain ⟨f, t⟩ := x
      simp only at c1 c2 hgd HJT HJA
      rcases List.eq_nil_or_concat qs with e | ⟨rs, l, e⟩
      · subst e
        obtain ⟨A, cA, rfl⟩ := own_nilR HO.out
        clear HJT
        have wm : IntKind.i64.wrap (((0 : Nat) : Int) - 1) = -1 := IntWalk.i64_in _ (by omega)
        go_wp2
        go_quiet (fail)
        have HOW := Lib.hid (own_box HO.out (.cells #[.int .u16 f, .int .u16 t] 112) (.cells #[.int .u16 f, .int .u16 t] 112) nq)
        go_wp2_with (at_builtin; refine wpList_append_own _ rfl _ _ 77 rfl w1.heap.size 112 i0 (.agg #[.int .u16 0, .int .u16 0]) 2 4 Tryz.underlying77 hi hz0 hz1 hz2 rfl (by decide) _ _ _ rfl HOW.out ⟨_, 0, none⟩ 1 1 [.int .u16 f, .int .u16 t] rfl rfl ?c1 ?c2 ?c3 ?c4 ?c5 ?_)
        case c1 => exact news2' _ _ (by simp) _ _ _
        case c2 => exact fun u hu => int_one hu
        case c3 => unfold maxLen; simp
        case c4 => simp
        case c5 => have := HW.out.size; simp; omega
        intro v' w2 hown' hgrow _
        have HON := Lib.hid (show w2.ownsRow w1.heap.size 112 2 v' ([(f, t)] : List (Int × Int)).length (rv [(f, t)]) from hown')
        have HWN : Hid (Below w1.heap.size w1 w2) := Lib.hid (Below.grown (show Below w1.heap.size w1 _ from (below_drewN (HW.out.alloc HW.out.size _) nq).alloc (by have := HW.out.size; simp; omega) _) hgrow (by have := HW.out.size; simp; omega) (fun g hg => (HOW.out.lt g hg).1))
        have HJN := Lib.hid (HJA (fun l hl => absurd hl (by simp)))
        clear hown' hgrow HJA
        go_wp2
        go_roundw
        case rel => exact ⟨k + 1, [(f, t)], by omega, by go_num, HON, HJN, HWN⟩
        case measure => simp [intOf]; omega
      · rw [List.concat_eq_append] at e
        have HE := Lib.hid e
        have HJA2 := Lib.hid HJA
        obtain ⟨M, hM⟩ : ∃ M, M = rs.length := ⟨_, rfl⟩
        have hqm : qs.length = M + 1 := by rw [e, List.length_append, hM]; rfl
        have HM := Lib.hid hM
        have HO2 : Hid (wr.ownsRow w1.heap.size 112 2 vr (M + 1) (rv qs)) := Lib.hid (by rw [← hqm]; exact HO.out)
        obtain ⟨g', c', rfl, hg1, hg2, hg3, hg4⟩ := own_formR HO2.out (by omega)
        have hat := rv_at qs M (by omega)
        have hel : qs[M]'(by omega) = l := by simp [e, hM]
        rw [hel] at hat
        have f := HO2.out.cells (g := g') rfl
        have m1 := f _ _ hat.1
        have m2 := f _ _ hat.2
        simp only [add_offB] at m1 m2
        have hgl := HOK.out.1 l (by rw [e]; simp)
        unfold Rn.Good at hgl
        have hm6 : M + 1 ≤ 1000000 := by omega
        have HGN : Hid (w1.heap.size ≤ g' ∧ g' < wr.heap.size) := Lib.hid ⟨hg1, hg2⟩
        clear e hM hqm hat hel f HO HJA hg1 hg2 HQL
        have wm : IntKind.i64.wrap (((M + 1 : Nat) : Int) - 1) = (M : Int) := by rw [IntWalk.i64_in _ (by omega)]; omega
        have hd0 : decide (0 ≤ (M : Int)) = true := decide_eq_true (by omega)
        have hmi : (M : Int) < ((M + 1 : Nat) : Int) := by omega
        have hmi2 : (M : Int) < (M : Int) + 1 := by omega
        have hmi3 : M < M + 1 := by omega
        have hmi4 : (0 : Int) ≤ (M : Int) := by omega
        have hmi5 : ¬ ((M : Int) < 0 ∨ (M : Int) + 1 ≤ (M : Int)) := by omega
        obtain ⟨lf, lt⟩ := l
        simp only at m1 m2 hgl HJT
        have HBX := Lib.hid ((Below.refl wr.heap.size wr).alloc (Nat.le_refl _) (.cells #[.int .u16 f, .int .u16 t] 112))
        have hS0 : (wr.alloc (.cells #[.int .u16 f, .int .u16 t] 112)).cell? ⟨g', M * 2, none⟩ = some (.int .u16 lf) ∧ (wr.alloc (.cells #[.int .u16 f, .int .u16 t] 112)).cell? ⟨g', M * 2 + 1, none⟩ = some (.int .u16 lt) ∧ (wr.alloc (.cells #[.int .u16 f, .int .u16 t] 112)).cell? ⟨wr.heap.size, 0, none⟩ = some (.int .u16 f) ∧ (wr.alloc (.cells #[.int .u16 f, .int .u16 t] 112)).cell? ⟨wr.heap.size, 1, none⟩ = some (.int .u16 t) := by
          have ha := alloc_topI wr (.cells #[.int .u16 f, .int .u16 t] 112)
          refine ⟨(HBX.out.cell (p := ⟨g', M * 2, none⟩) HGN.out.2).trans m1, (HBX.out.cell (p := ⟨g', M * 2 + 1, none⟩) HGN.out.2).trans m2, ?_, ?_⟩
          · rw [cell_of_row _ _ 0 _ _ (0, 0) ha]; rfl
          · rw [cell_of_row _ _ 1 _ _ (0, 0) ha]; rfl
        by_cases hbt : f ≤ lt + 1
        · have MT := fun W => Lib.hid (r_meetB W lf lt f t (by omega) (by omega) true (decide_eq_true hbt))
          go_wp2
          go_region_held3 (fun (V : World) => V.cell? ⟨g', M * 2, none⟩ = some (.int .u16 lf) ∧ V.cell? ⟨g', M * 2 + 1, none⟩ = some (.int .u16 lt) ∧ V.cell? ⟨wr.heap.size, 0, none⟩ = some (.int .u16 f) ∧ V.cell? ⟨wr.heap.size, 1, none⟩ = some (.int .u16 t)) (first | exact hS0 | exact hS3) (first
            | (go_at_call 99; (with_reducible refine (MT _).out.mono ?_); rintro e w3 ⟨rfl, hb3⟩
               have hS3 : w3.cell? ⟨g', M * 2, none⟩ = some (.int .u16 lf) ∧ w3.cell? ⟨g', M * 2 + 1, none⟩ = some (.int .u16 lt) ∧ w3.cell? ⟨wr.heap.size, 0, none⟩ = some (.int .u16 f) ∧ w3.cell? ⟨wr.heap.size, 1, none⟩ = some (.int .u16 t) := by
                 have h1 : g' < (wr.alloc (.cells #[.int .u16 f, .int .u16 t] 112)).heap.size := by have := HGN.out.2; simp; omega
                 have h2 : wr.heap.size < (wr.alloc (.cells #[.int .u16 f, .int .u16 t] 112)).heap.size := by simp
                 exact ⟨(hb3.cell (p := ⟨g', M * 2, none⟩) h1).trans hS0.1, (hb3.cell (p := ⟨g', M * 2 + 1, none⟩) h1).trans hS0.2.1, (hb3.cell (p := ⟨wr.heap.size, 0, none⟩) h2).trans hS0.2.2.1, (hb3.cell (p := ⟨wr.heap.size, 1, none⟩) h2).trans hS0.2.2.2⟩
               have HB3 := Lib.hid hb3))
          have HW3 : Hid (Below wr.heap.size wr w3) := Lib.hid (by first | exact HBX.out.trans (HB3.out.mono (by simp)) | exact (below_drewN HBX.out 1).trans (HB3.out.mono (by simp [World.drew])) | exact (below_drewN HBX.out 1).trans (HB3.out.mono (by have := HBX.out.size; exact this)))
          have HO3 := Lib.hid ((ButS.of_below (S := fun _ => False) HW3.out (Nat.le_refl _)).own HO2.out (fun k hk hr => hr))
          obtain ⟨k1, k2, k3, k4⟩ := hS3
          have hfz : w3.frozen? ⟨g', M * 2 + 1, none⟩ = false := HO3.out.frozenAt _
          go_wp2
          go_still_tail 12, (by kernel_rfl)
          change wpList _ _ _ _ _ w3.drew
          have hfz' : w3.drew.frozen? ⟨g', M * 2 + 1, none⟩ = false := hfz
          have k2' : w3.drew.cell? ⟨g', M * 2 + 1, none⟩ = some (.int .u16 lt) := k2
          have HO4 := Lib.hid (own_set (j := M * 2 + 1) (u := .int .u16 (max lt t)) (show w3.drew.ownsRow w1.heap.size 112 2 (.slice (some ⟨g', 0, none⟩) (M + 1) c') (M + 1) (rv qs) from HO3.out))
          have HW4 : Hid (Below w1.heap.size w1 (w3.drew.setCell ⟨g', M * 2 + 1, none⟩ (.int .u16 (max lt t)))) := Lib.hid (((below_drewN (HW.out.trans (HW3.out.mono HW.out.size)) 1).grown (set_grownB w3.drew g' (M * 2 + 1) _) (by have := HW.out.size; have := HW3.out.size; simp; omega) (fun g he => by cases he; exact HGN.out.1)))
          have HJ4 := Lib.hid (HJT.out rs (lf, lt) HE.out hbt (max lt t) (by rw [Int.max_def]; split <;> split <;> omega))
          clear hfz k1 k2 k3 k4 HJT HJA2 HO3
          generalize w3.drew = w4 at *
          go_wp2
          go_roundw
          case rel => exact ⟨k + 1, rs ++ [(lf, max lt t)], by omega, by go_num, Lib.hid (by
              rw [← rv_set rs (lf, lt) (max lt t), ← HE.out, ← HM.out, show (rs ++ [(lf, max lt t)]).length = M + 1 by simp [HM.out]]
              exact HO4.out), HJ4, HW4⟩
          case measure => simp [intOf]; omega
        · have MT := fun W => Lib.hid (r_meetB W lf lt f t (by omega) (by omega) false (decide_eq_false hbt))
          clear HJT
          go_wp2
          go_region_held3 (fun (V : World) => V.cell? ⟨g', M * 2, none⟩ = some (.int .u16 lf) ∧ V.cell? ⟨g', M * 2 + 1, none⟩ = some (.int .u16 lt) ∧ V.cell? ⟨wr.heap.size, 0, none⟩ = some (.int .u16 f) ∧ V.cell? ⟨wr.heap.size, 1, none⟩ = some (.int .u16 t)) (first | exact hS0 | exact hS3) (first
            | (go_at_call 99; (with_reducible refine (MT _).out.mono ?_); rintro e w3 ⟨rfl, hb3⟩
               have hS3 : w3.cell? ⟨g', M * 2, none⟩ = some (.int .u16 lf) ∧ w3.cell? ⟨g', M * 2 + 1, none⟩ = some (.int .u16 lt) ∧ w3.cell? ⟨wr.heap.size, 0, none⟩ = some (.int .u16 f) ∧ w3.cell? ⟨wr.heap.size, 1, none⟩ = some (.int .u16 t) := by
                 have h1 : g' < (wr.alloc (.cells #[.int .u16 f, .int .u16 t] 112)).heap.size := by have := HGN.out.2; simp; omega
                 have h2 : wr.heap.size < (wr.alloc (.cells #[.int .u16 f, .int .u16 t] 112)).heap.size := by simp
                 exact ⟨(hb3.cell (p := ⟨g', M * 2, none⟩) h1).trans hS0.1, (hb3.cell (p := ⟨g', M * 2 + 1, none⟩) h1).trans hS0.2.1, (hb3.cell (p := ⟨wr.heap.size, 0, none⟩) h2).trans hS0.2.2.1, (hb3.cell (p := ⟨wr.heap.size, 1, none⟩) h2).trans hS0.2.2.2⟩
               have HB3 := Lib.hid hb3))
          have HW3 : Hid (Below wr.heap.size wr w3) := Lib.hid (by first | exact HBX.out.trans (HB3.out.mono (by simp)) | exact (below_drewN HBX.out 1).trans (HB3.out.mono (by have := HBX.out.size; exact this)))
          have HO3 := Lib.hid ((ButS.of_below (S := fun _ => False) HW3.out (Nat.le_refl _)).own HO2.out (fun k hk hr => hr))
          have HOW := Lib.hid (HO3.out.alloc (.cells #[.int .u16 f, .int .u16 t] 112))
          obtain ⟨k1, k2, k3, k4⟩ := hS3
          have hzs : w1.heap.size ≤ w3.heap.size := Nat.le_trans HW.out.size HW3.out.size
          go_wp2_with (at_builtin; refine wpList_append_own _ rfl _ _ 77 rfl w1.heap.size 112 i0 (.agg #[.int .u16 0, .int .u16 0]) 2 4 Tryz.underlying77 hi hz0 hz1 hz2 rfl (by decide) _ _ _ rfl HOW.out ⟨_, 0, none⟩ 1 1 [.int .u16 f, .int .u16 t] rfl rfl ?d1 ?d2 ?d3 ?d4 ?d5 ?_)
          case d1 => exact news2' _ _ (by simp) _ _ _
          case d2 => exact fun u hu => int_one hu
          case d3 => unfold maxLen; omega
          case d4 => omega
          case d5 => simp; omega
          intro v' w2 hown' hgrow _
          have HON : Hid (w2.ownsRow w1.heap.size 112 2 v' (qs ++ [(f, t)]).length (rv (qs ++ [(f, t)]))) := Lib.hid (by
            rw [rv_append, show (qs ++ [(f, t)]).length = M + 1 + 1 by rw [List.length_append, HE.out]; simp [HM.out]]
            exact hown')
          have HWN : Hid (Below w1.heap.size w1 w2) := Lib.hid (Below.grown (show Below w1.heap.size w1 _ from (HW.out.trans (HW3.out.mono HW.out.size)).alloc hzs _) hgrow (by simp; omega) (fun g hg => (HOW.out.lt g hg).1))
          have HJN := Lib.hid (HJA2.out (fun l hl => by rw [HE.out] at hl; simp at hl; subst hl; show lt + 1 < f; omega))
          clear hown' hgrow HJA2
          go_wp2
          go_roundw
          case rel => exact ⟨k + 1, qs ++ [(f, t)], by omega, by go_num, HON, HJN, HWN⟩
          case measure => simp [intOf]; omega
    · have hkn : ds.take k = ds := List.take_of_length_le (by rw [HN.out]; omega)
      have HJV := Lib.hid HJ.out
      obtain ⟨A, cA, hvA, _, _⟩ := Rq.of_own HO.out
      have HVA := Lib.hid hvA
      clear hvA
      go_wp2
      go_ret
      refine ⟨vr, qs, rfl, HJV.out.ok, fun x => ?_, ?_, ?_, ?_⟩
      · rw [HJV.out.val x, hkn]
        exact V_perm h1.out x
      · have := HJV.out.len; have := HL.out; omega
      · have h := HO.out
        rcases h.2 with h0 | ⟨g', cap', cur, e1, e2, e3⟩
        · exact ⟨h.1, .inl h0⟩
        · exact ⟨h.1, .inr ⟨g', cap', cur, e1, Nat.le_trans (Nat.le_trans hb HLO.out.size) e2, e3⟩⟩
      · exact HLO.out.trans (HW.out.mono (Nat.le_trans hb HLO.out.size))
set_option maxHeartbeats 4000000 in
theorem r_joined_nil (w : World) (base c : Nat) : Calls Tryz.prog 79 #[.slice none 0 c] w (JoinedP w base []) := by
  go_enter Tryz.func79, Tryz.ntmps79
  go_wp2_with (go_at_call 96; (with_reducible refine (sort_nil c _ _).mono ?_); rintro e w1 ⟨rfl, rfl⟩)
  go_loop [3, 11] (fun vr vi => vr = .slice none 0 0 ∧ vi = .int .i64 0) (fun _ _ => 0)
  case atStart => exact ⟨rfl, rfl⟩
  case round =>
    obtain ⟨rfl, rfl⟩ := hrel
    go_wp2
    go_ret
    exact ⟨_, [], rfl, Rn.Ok.nil, fun x => Iff.rfl, Nat.le_refl _, ⟨rfl, .inl ⟨rfl, rfl⟩⟩, Below.refl _ _⟩
end Go.Proofs.YtkehehfphccpbaaGreatDoor.R
end
section
namespace Go.Proofs.YtkehehfphccpbaaGreatDoor.R
set_option maxRecDepth 40000
open Go.RowKit
theorem joined_any (w : World) (base n : Nat) (v : Value) (ls : List (Int × Int)) (ho : w.ownsRow base 112 2 v n (rv ls)) (hl : ls.length = n) (hg : ∀ r, r ∈ ls → Rn.Good r) (hb : base ≤ w.heap.size) (few : n ≤ 1000000) :
    Calls Tryz.prog 79 #[v] w (JoinedP w base ls) := by
  rcases ho.2 with ⟨rfl, h0⟩ | ⟨g, cap, cur, rfl, _⟩
  · have : ls = [] := List.eq_nil_of_length_eq_zero (by omega)
    subst this
    exact r_joined_nil w base 0
  · exact r_joined w base g n cap ls ho hl hg hb few
theorem rv_set2 : ∀ (L : List (Int × Int)) (k : Nat) (a b : Int), rv (L.set k (a, b)) = ((rv L).set (k * 2) (.int .u16 a)).set (k * 2 + 1) (.int .u16 b)
  | [], k, a, b => by simp [rv]
  | r :: L, 0, a, b => by simp [rv]
  | r :: L, k + 1, a, b => by
    have hc : rv (r :: L) = Value.int .u16 r.1 :: Value.int .u16 r.2 :: rv L := rfl
    have e0 : (k + 1) * 2 = k * 2 + 2 := by omega
    rw [List.set_cons_succ, hc, e0]
    show Value.int .u16 r.1 :: Value.int .u16 r.2 :: rv (L.set k (a, b)) = _
    rw [rv_set2 L k a b]
    rfl
/-- The first k numbers, each a run; the others not yet laid. -/
def ones (xs : List Int) (k : Nat) : List (Int × Int) := (xs.take k).map (fun x => (x, x)) ++ List.replicate (xs.length - k) (0, 0)
theorem ones_len {xs : List Int} {k : Nat} (h : k ≤ xs.length) : (ones xs k).length = xs.length := by
  unfold ones
  rw [List.length_append, List.length_map, List.length_take, List.length_replicate]
  omega
theorem ones_step {xs : List Int} {k : Nat} (h : k < xs.length) : (ones xs k).set k (xs[k], xs[k]) = ones xs (k + 1) := by
  unfold ones
  have hl : ((xs.take k).map (fun x => (x, x))).length = k := by rw [List.length_map, List.length_take]; omega
  obtain ⟨m, hm⟩ : ∃ m, xs.length - k = m + 1 := ⟨xs.length - k - 1, by omega⟩
  have hm2 : xs.length - (k + 1) = m := by omega
  rw [List.set_append_right _ _ (by omega), hl, Nat.sub_self, hm, hm2, List.replicate_succ, List.set_cons_zero, take_snocH h, List.map_append, List.append_assoc]
  rfl
theorem ones_all (xs : List Int) : ones xs xs.length = xs.map fun x => (x, x) := by
  unfold ones
  rw [List.take_length, Nat.sub_self, List.replicate_zero, List.append_nil]
theorem V_ones (xs : List Int) (x : Int) : Rn.V (xs.map fun x => (x, x)) x ↔ x ∈ xs := by
  constructor
  · rintro ⟨r, hr, h1, h2⟩
    obtain ⟨y, hy, rfl⟩ := List.mem_map.1 hr
    have h1 : y ≤ x := h1
    have h2 : x ≤ y := h2
    have : x = y := by omega
    exact this ▸ hy
  · exact fun h => ⟨(x, x), List.mem_map.2 ⟨x, h, rfl⟩, Int.le_refl _, Int.le_refl _⟩
theorem rv_zero (n : Nat) : rv (List.replicate n (0, 0)) = List.replicate (n * 2) (Value.int .u16 0) := by
  induction n with
  | zero => rfl
  | succ n ih =>
    have e : (n + 1) * 2 = n * 2 + 1 + 1 := by omega
    rw [List.replicate_succ, e, List.replicate_succ, List.replicate_succ, ← ih]
    rfl
theorem made_rv (n : Nat) : madeCells #[Value.int .u16 0, Value.int .u16 0] (n * 2) = (rv (List.replicate n (0, 0))).toArray := by
  rw [rv_zero]
  apply Array.ext
  · simp [madeCells]
  · intro i h1 h2
    simp only [madeCells, Array.getElem_map, Array.getElem_range, List.getElem_toArray, List.getElem_replicate]
    rcases Nat.mod_two_eq_zero_or_one i with e | e
    · show #[Value.int .u16 0, Value.int .u16 0][i % 2]! = _
      rw [e]; rfl
    · show #[Value.int .u16 0, Value.int .u16 0][i % 2]! = _
      rw [e]; rfl
theorem mk_runs (c : Nat) (hn : c ≤ 2199023255552) (w : World) : (Instr.makeSlice 77 (.int .i64 (c : Int)) (.int .i64 (c : Int))).run Tryz.prog w = .ok (.slice (some ⟨w.heap.size, 0, none⟩) c c) (w.alloc (.cells (rv (List.replicate c (0, 0))).toArray 112)) := by
  obtain ⟨ti, hi, hz, hsz, hb⟩ : ∃ ti, Tryz.prog.info? 112 = some ti ∧ ti.zero = some (.agg #[.int .u16 0, .int .u16 0]) ∧ ti.size = 2 ∧ ti.bytes = 4 := ⟨_, rfl, rfl, rfl, rfl⟩
  have := run_make (P := Tryz.prog) w 77 112 ti _ (by kernel_rfl) hi hz .i64 .i64 (c : Int) (c : Int) (by omega) (by omega) (by rw [hb]; omega) (by omega)
  rw [← made_rv]
  simpa [hsz, Value.cells] using this
def OfP (w : World) (n : Nat) (S : Int → Prop) (e : Ending) (w' : World) : Prop := ∃ (val : Value) (qs : List (Int × Int)), e = .returned val ∧ Rn.Ok qs ∧ (∀ x, Rn.V qs x ↔ S x) ∧ qs.length ≤ n ∧ w'.ownsRow w.heap.size 112 2 val qs.length (rv qs) ∧ Below w.heap.size w w'
set_option maxHeartbeats 8000000 in
set_option maxRecDepth 100000 in
theorem r_of (w : World) (B n c : Nat) (A : Option Addr) (xs : List Int) (hn : n = xs.length) (hr : Rh w B A xs) (hB : B ≤ w.heap.size) (hx : ∀ y ∈ xs, 0 ≤ y ∧ y ≤ 65535) (few : n ≤ 1000000) :
    Calls Tryz.prog 52 #[.slice A n c] w (OfP w n fun x => x ∈ xs) := by
  have hmk := mk_runs n (by omega)
  have HR := Lib.hid hr
  have HN := Lib.hid hn
  have HX := Lib.hid hx
  have ho1 : (w.alloc (.cells (rv (List.replicate n (0, 0))).toArray 112)).ownsRow w.heap.size 112 2 (.slice (some ⟨w.heap.size, 0, none⟩) n n) n (rv (ones xs 0)) := by
    have e : ones xs 0 = List.replicate n (0, 0) := by unfold ones; rw [hn]; simp
    rw [e]
    refine ⟨by rw [rv_len, List.length_replicate], .inr ⟨w.heap.size, n, _, rfl, Nat.le_refl _, alloc_topI w _, Nat.le_refl _, by unfold maxLen; omega, ?_, ?_⟩⟩
    · rw [List.size_toArray, rv_len, List.length_replicate]
    · exact List.take_of_length_le (by rw [List.toList_toArray, rv_len, List.length_replicate]; exact Nat.le_refl _)
  have HO1 := Lib.hid ho1
  have HB1 := Lib.hid ((Below.refl w.heap.size w).alloc (Nat.le_refl _) (.cells (rv (List.replicate n (0, 0))).toArray 112))
  clear ho1 hr hn hx
  go_enter Tryz.func52, Tryz.ntmps52
  go_wp2
  generalize w.alloc (.cells (rv (List.replicate n (0, 0))).toArray 112) = W0 at *
  obtain ⟨g, hg⟩ : ∃ g, g = w.heap.size := ⟨_, rfl⟩
  rw [← hg]
  rw [← hg] at HO1
  have HG := Lib.hid hg
  clear hg hmk
  go_loopw [11] (fun vi wr => ∃ k : Nat, k ≤ n ∧ vi = .int .i64 k ∧ Hid (wr.ownsRow g 112 2 (.slice (some ⟨g, 0, none⟩) n n) n (rv (ones xs k))) ∧ Hid (Below w.heap.size w wr)) (fun vi _ => n - (intOf vi).toNat)
  case atStart => exact ⟨0, Nat.zero_le _, rfl, HO1, HB1⟩
  case round =>
    obtain ⟨k, hk, rfl, HO, HW⟩ := hrel
    by_cases hlt : k < n
    · have hkx : k < xs.length := by rw [← HN.out]; exact hlt
      obtain ⟨b, off, rfl, _, hc⟩ := (HR.out.below HW.out hB).at hkx
      have hst := Lib.hid (ones_step hkx)
      obtain ⟨y, hy⟩ : ∃ y, y = xs[k] := ⟨_, rfl⟩
      rw [← hy] at hc hst
      have hol := ones_len (Nat.le_of_lt hkx)
      obtain ⟨_, _, hfo, _, _, _, hfz⟩ := own_formR HO.out (by omega)
      cases hfo
      have hf1 := hfz (k * 2)
      have hf2 := hfz (k * 2 + 1)
      have f := HO.out.cells (g := g) rfl
      obtain ⟨r0, r1⟩ := rv_at (ones xs k) k (by rw [hol]; exact hkx)
      have m1 := f _ _ r0
      have m2 := f _ _ r1
      simp only [add_offB] at m1 m2
      replace m1 : ∃ p, wr.cell? ⟨g, k * 2, none⟩ = some (.int .u16 p) := ⟨_, m1⟩
      replace m2 : ∃ p, wr.cell? ⟨g, k * 2 + 1, none⟩ = some (.int .u16 p) := ⟨_, m2⟩
      obtain ⟨p1, m1⟩ := m1
      obtain ⟨p2, m2⟩ := m2
      have HON := Lib.hid (own_set (j := k * 2 + 1) (u := .int .u16 y) (own_set (j := k * 2) (u := .int .u16 y) HO.out))
      have HWN : Hid (Below w.heap.size w ((wr.setCell ⟨g, k * 2, none⟩ (.int .u16 y)).setCell ⟨g, k * 2 + 1, none⟩ (.int .u16 y))) := Lib.hid ((HW.out.grown (set_grownB wr g (k * 2) _) HW.out.size (fun j e => by cases e; exact Nat.le_of_eq HG.out.symm)).grown (set_grownB _ g (k * 2 + 1) _) (by have := HW.out.size; simp [World.setCell]; exact this) (fun j e => by cases e; exact Nat.le_of_eq HG.out.symm))
      clear hy f r0 r1 hfz hol
      go_wp2
      go_roundw
      case rel => exact ⟨k + 1, by omega, by go_num, Lib.hid (by rw [← hst.out, rv_set2]; exact HON.out), HWN⟩
      case measure => simp [intOf]; omega
    · obtain rfl : k = n := by omega
      have HJ := Lib.hid (joined_any wr g k (.slice (some ⟨g, 0, none⟩) k k) (xs.map fun x => (x, x)) (by have h := HO.out; rw [HN.out, ones_all, ← HN.out] at h; exact h) (by rw [List.length_map, HN.out]) (fun r hr => by
        obtain ⟨y, hy, rfl⟩ := List.mem_map.1 hr
        have := HX.out y hy
        exact ⟨this.1, Int.le_refl _, this.2⟩) (by rw [HG.out]; exact HW.out.size) few)
      go_wp2_with (go_at_call 79; (with_reducible refine HJ.out.mono ?_); rintro e w2 ⟨val, qs, rfl, j1, j2, j3, j4, j5⟩; replace j1 := Lib.hid j1; replace j2 := Lib.hid j2; replace j3 := Lib.hid j3; replace j4 := Lib.hid j4; replace j5 := Lib.hid j5)
      go_ret
      refine ⟨val, qs, rfl, j1.out, fun x => (j2.out x).trans (V_ones xs x), by have := j3.out; rw [List.length_map] at this; have := HN.out; omega, by rw [← HG.out]; exact j4.out, ?_⟩
      have h := j5.out
      rw [HG.out] at h
      exact HW.out.trans h
end Go.Proofs.YtkehehfphccpbaaGreatDoor.R
end
