
/- runs.parts: what ends ahead of a range, what has some of it, what begins behind it; the text walked. -/
import Derived.Test.YtejboemifncjoaaRun3
import Derived.Test.YtejboemifncjoaaRSort
namespace Go.Proofs.Ytejboemifncjoaa
open Go.RowKit
theorem alloc_topI (w : World) (o : Obj) : (w.alloc o).heap[w.heap.size]? = some o := by
  show (w.heap.push o)[w.heap.size]? = some o
  simp
theorem below_drewN {B : Nat} {w w' : World} (h : Below B w w') (n : Nat) : Below B w (w'.drewN n) := ⟨h.os, h.tape, h.output, h.size, h.block⟩
def cutA (A : Option Addr) (l c : Nat) : Option Addr := if c = l then A else A.map (·.add (l * 2))
theorem cutA_rq {w : World} {B n c l h : Nat} {A : Option Addr} {rs : List (Int × Int)} (hr : Rq w B A rs) (hn : n = rs.length) (hl : l ≤ h) (hh : h ≤ n) (hc : n ≤ c) : Rq w B (cutA A l c) ((rs.take h).drop l) := by
  intro hne
  have hlen : ((rs.take h).drop l).length = h - l := by rw [List.length_drop, List.length_take]; omega
  have hlt : l < h := by
    rcases Nat.lt_or_ge l h with e | e
    · exact e
    · exact absurd (List.eq_nil_of_length_eq_zero (by omega)) hne
  obtain ⟨b, off, rfl, hb, hcl⟩ := hr (by intro e; subst e; simp at hn; omega)
  refine ⟨b, off + l * 2, ?_, hb, fun k hk => ?_⟩
  · unfold cutA
    rw [if_neg (by omega)]
    show some _ = some _
    unfold Addr.add
    by_cases h0 : l * 2 = 0 <;> simp [h0]
  · have h2 : l + k < rs.length := by omega
    have := hcl (l + k) h2
    rw [show off + l * 2 + k * 2 = off + (l + k) * 2 by omega, this.1, this.2]
    simp
theorem rq_take {w : World} {B l : Nat} {A : Option Addr} {rs : List (Int × Int)} (hr : Rq w B A rs) : Rq w B A (rs.take l) := by
  intro hne
  obtain ⟨b, off, rfl, hb, hcl⟩ := hr (by intro e; subst e; simp at hne)
  refine ⟨b, off, rfl, hb, fun k hk => ?_⟩
  have h2 : k < rs.length := by rw [List.length_take] at hk; omega
  have := hcl k h2
  rw [this.1, this.2]
  simp
set_option maxRecDepth 100000 in
theorem cut_l (A : Option Addr) (n c l : Nat) (L : Int) (hL : L = (l : Int)) (hl : l ≤ n) : (∀ w, (Instr.sliceAt 24 (.slice A n c) (some (.int .i64 L)) none none).run Try.prog w = .ok (.slice (cutA A l c) (n - l) (c - l)) w) ∧
    (∀ w, (Instr.slice 24 (.slice A n c) (some (.int .i64 L)) none none).run Try.prog w = .ok (.slice (cutA A l c) (n - l) (c - l)) w) := by
  subst hL
  have hu : Try.prog.underlying 24 = some (.slice (Try.prog.elem 24)) := by kernel_rfl
  have hz : ∀ w, (Go.sizeOf (Try.prog.elem 24)).run Try.prog w = .ok 2 w := fun w => Try.sizeOf46 w
  have h2 : ∀ w, (Instr.slice 24 (.slice A n c) (some (.int .i64 (l : Int))) none none).run Try.prog w = .ok (sliced A l n c 2) w := fun w => by
    have h := run_slice_l (P := Try.prog) (w := w) (t := 24) (a := A) (len := n) (cap := c) (ht := hu) (kl := .i64) (l := (l : Int)) (h0 := by omega) (h1 := by omega)
    rw [h, hz]
    simp [Result.andThen]
  exact ⟨fun w => (run_sliceAt_slice (w := w) (h := hu) ..).trans (h2 w), h2⟩
set_option maxRecDepth 100000 in
theorem cut_h (A : Option Addr) (n c l : Nat) (L : Int) (hL : L = (l : Int)) (hl : l ≤ n) (hc : n ≤ c) : (∀ w, (Instr.sliceAt 24 (.slice A n c) none (some (.int .i64 L)) none).run Try.prog w = .ok (.slice A l c) w) ∧
    (∀ w, (Instr.slice 24 (.slice A n c) none (some (.int .i64 L)) none).run Try.prog w = .ok (.slice A l c) w) := by
  subst hL
  have hu : Try.prog.underlying 24 = some (.slice (Try.prog.elem 24)) := by kernel_rfl
  have hz : ∀ w, (Go.sizeOf (Try.prog.elem 24)).run Try.prog w = .ok 2 w := fun w => Try.sizeOf46 w
  have h2 : ∀ w, (Instr.slice 24 (.slice A n c) none (some (.int .i64 (l : Int))) none).run Try.prog w = .ok (.slice A l c) w := fun w => by
    have h := run_slice_h (P := Try.prog) (w := w) (t := 24) (a := A) (len := n) (cap := c) (ht := hu) (kh := .i64) (h := (l : Int)) (h0 := by omega) (h2 := by omega)
    rw [h, hz]
    simp [Result.andThen]
    cases A <;> simp [sliced, Addr.add]
  exact ⟨fun w => (run_sliceAt_slice (w := w) (h := hu) ..).trans (h2 w), h2⟩
structure PartsP (w : World) (B n c : Nat) (A : Option Addr) (rs : List (Int × Int)) (F T : Int) (i j : Nat) (A2 : Option Addr) (c2 : Nat) (A3 : Option Addr) (c3 : Nat) (w' : World) : Prop where
  ij : i ≤ j
  jn : j ≤ n
  h2 : j - i ≤ c2
  h3 : n - j ≤ c3
  r2 : Rq w' B A2 ((rs.take j).drop i)
  r3 : Rq w' B A3 (rs.drop j)
  p1 : ∀ r, r ∈ rs.take i → r.2 < F
  p2 : ∀ r, r ∈ (rs.take j).drop i → F ≤ r.2 ∧ r.1 ≤ T
  p3 : ∀ r, r ∈ rs.drop j → T < r.1
  low : Below w.heap.size w w'
theorem ok_le {rs : List (Int × Int)} (h : Rn.Ok rs) {a b : Nat} (hab : a ≤ b) (hb : b < rs.length) : (rs[a]'(by omega)).1 ≤ rs[b].1 ∧ (rs[a]'(by omega)).2 ≤ rs[b].2 := by
  rcases Nat.lt_or_eq_of_le hab with e | e
  · have h1 := List.pairwise_iff_getElem.1 h.2 a b (by omega) hb e
    have h2 := h.1 _ (List.getElem_mem (show a < rs.length by omega))
    have h3 := h.1 _ (List.getElem_mem hb)
    unfold Rn.Good at h2 h3
    omega
  · subst e; omega
set_option maxHeartbeats 8000000 in
set_option maxRecDepth 100000 in
theorem r_parts (w : World) (B n c : Nat) (A : Option Addr) (rs : List (Int × Int)) (F T : Int) (hn : n = rs.length) (hr : Rq w B A rs) (hB : B ≤ w.heap.size) (hg : Rn.Ok rs) (hc : n ≤ c) (few : n ≤ 1000000) :
    Calls Try.prog 36 #[.slice A n c, .int .i64 F, .int .i64 T] w fun e w' => ∃ i j A2 c2 A3 c3, e = .returned (.tuple #[.slice A i c, .slice A2 (j - i) c2, .slice A3 (n - j) c3]) ∧ PartsP w B n c A rs F T i j A2 c2 A3 c3 w' := by
  obtain ⟨P1, hP1⟩ : ∃ P : Nat → Bool, P = fun i => decide (F ≤ (rs.getD i (0, 0)).2) := ⟨_, rfl⟩
  have HR := Lib.hid hr
  have HN := Lib.hid hn
  have HG := Lib.hid hg
  have HP1 := Lib.hid hP1
  have HB := Lib.hid hB
  clear hr hn hg hP1 hB
  go_enter Try.func36, Try.ntmps36
  go_wp2_with (fail)
  have b1 := (Below.refl w.heap.size w).alloc (Nat.le_refl _) (.cells #[.slice A n c] 24)
  have c1 : (w.alloc (.cells #[.slice A n c] 24)).heap[w.heap.size]? = some (.cells #[.slice A n c] 24 (0, 0)) := alloc_topI w _
  have b2 := (Below.refl (w.alloc (.cells #[.slice A n c] 24)).heap.size (w.alloc (.cells #[.slice A n c] 24))).alloc (Nat.le_refl _) (.cells #[.int .i64 F] 3)
  have z1 : (w.alloc (.cells #[.slice A n c] 24)).heap.size = w.heap.size + 1 := by simp
  have c2 := alloc_topI (w.alloc (.cells #[.slice A n c] 24)) (.cells #[.int .i64 F] 3)
  rw [z1] at b2 c2
  generalize w.alloc (.cells #[.slice A n c] 24) = w1 at *
  have c1' := (b2.block w.heap.size (by omega)).trans c1
  have z2 : (w1.alloc (.cells #[.int .i64 F] 3)).heap.size = w.heap.size + 1 + 1 := by simp [z1]
  have b3 := (Below.refl (w1.alloc (.cells #[.int .i64 F] 3)).heap.size (w1.alloc (.cells #[.int .i64 F] 3))).alloc (Nat.le_refl _) (.cells #[.int .i64 T] 3)
  have c3 := alloc_topI (w1.alloc (.cells #[.int .i64 F] 3)) (.cells #[.int .i64 T] 3)
  rw [z2] at b3 c3
  generalize w1.alloc (.cells #[.int .i64 F] 3) = w2 at *
  have z3 : (w2.alloc (.cells #[.int .i64 T] 3)).heap.size = w.heap.size + 1 + 1 + 1 := by simp [z2]
  have d1 := (b3.block w.heap.size (by omega)).trans c1'
  have d2 := (b3.block (w.heap.size + 1) (by omega)).trans c2
  have HLOW := Lib.hid ((b1.trans (b2.mono (by omega))).trans (b3.mono (by omega)))
  clear b1 b2 b3 c1 c1' c2 z1 z2
  generalize w2.alloc (.cells #[.int .i64 T] 3) = W at *
  clear w1 w2
  obtain ⟨gl, hgl⟩ : ∃ gl, w.heap.size = gl := ⟨_, rfl⟩
  rw [hgl] at c3 z3 d1 d2 HLOW ⊢
  have HGL := Lib.hid hgl
  have HBL : Hid (B ≤ gl) := Lib.hid (by rw [← hgl]; exact HB.out)
  clear hgl
  have e1 : W.cell? ⟨gl, 0, none⟩ = some (.slice A n c) := by rw [cell_of_row _ _ 0 _ _ (0, 0) d1]; rfl
  have e2 : W.cell? ⟨gl + 1, 0, none⟩ = some (.int .i64 F) := by rw [cell_of_row _ _ 0 _ _ (0, 0) d2]; rfl
  have e3 : W.cell? ⟨gl + 1 + 1, 0, none⟩ = some (.int .i64 T) := by rw [cell_of_row _ _ 0 _ _ (0, 0) c3]; rfl
  have ez : W.frozen? ⟨gl, 0, none⟩ = false := by simp [World.frozen?, d1]
  clear c3 d1 d2
  have S1 := Lib.hid (search1 W n gl (gl + 1) P1 few (fun a b hab hb h => by
      rw [HP1.out] at h ⊢
      rw [HN.out] at hb
      have h1 := ok_le HG.out hab hb
      rw [decide_eq_true_eq, List.getD_eq_getElem?_getD, List.getElem?_eq_getElem (by omega)] at h
      rw [decide_eq_true_eq, List.getD_eq_getElem?_getD, List.getElem?_eq_getElem hb]
      have h2 : F ≤ (rs[a]'(by omega)).2 := h
      show F ≤ rs[b].2
      omega)
    (fun q i hi => by
      have hir : i < rs.length := by rw [← HN.out]; exact hi
      obtain ⟨b, off, rfl, _, k1, k2⟩ := (HR.out.below HLOW.out HBL.out).at hir
      have hgd := HG.out.1 _ (List.getElem_mem hir)
      unfold Rn.Good at hgd
      have e : P1 i = decide (F ≤ rs[i].2) := by rw [HP1.out]; show decide (F ≤ (rs.getD i (0, 0)).2) = _; rw [List.getD_eq_getElem?_getD, List.getElem?_eq_getElem hir]; rfl
      rw [e]
      refine (clos1 (W.drewN q) gl (gl + 1) b off i n c rs[i].1 rs[i].2 F hi e1 e2 k1 k2 (by omega) (by omega)).mono ?_
      rintro e w' ⟨rfl, q', rfl⟩
      exact ⟨rfl, q + q', by simp⟩))
  go_wp2_with (go_at_call 45; (with_reducible refine S1.out.mono ?_); rintro e w4 ⟨i1, rfl, hi1, hL1, hR1, q, rfl⟩; replace hL1 := Lib.hid hL1; replace hR1 := Lib.hid hR1)
  clear S1
  obtain ⟨g1, g2⟩ := cut_h A n c i1 (i1 : Int) rfl hi1 hc
  obtain ⟨g3, g4⟩ := cut_l A n c i1 (i1 : Int) rfl hi1
  have hi1n : (i1 : Int) ≤ (n : Int) := by omega
  have hi1c : (i1 : Int) ≤ (c : Int) := by omega
  obtain ⟨X, hX⟩ : ∃ X, X = W.drewN q := ⟨_, rfl⟩
  rw [← hX]
  have f1 : X.cell? ⟨gl, 0, none⟩ = some (.slice A n c) := by rw [hX]; exact e1
  have HXX := Lib.hid hX
  clear hX
  go_still_tail 7, (by kernel_rfl)
  change wpList _ _ _ _ _ X.drew
  have f1' : X.drew.cell? ⟨gl, 0, none⟩ = some (.slice A n c) := f1
  have f2' : X.drew.cell? ⟨gl + 1 + 1, 0, none⟩ = some (.int .i64 T) := by rw [HXX.out]; exact e3
  have f3' : X.drew.frozen? ⟨gl, 0, none⟩ = false := by rw [HXX.out]; exact ez
  have LOW1 : Hid (Below gl w X.drew) := Lib.hid (below_drewN (by rw [HXX.out]; exact below_drewN HLOW.out q) 1)
  clear f1 e1 e2 e3 ez
  generalize X.drew = Y at *
  go_wp2_with (fail)
  have h4 : (Y.setCell ⟨gl, 0, none⟩ (.slice (cutA A i1 c) (n - i1) (c - i1))).cell? ⟨gl, 0, none⟩ = some (.slice (cutA A i1 c) (n - i1) (c - i1)) := by
    rw [World.cell?_setCell_same (h := f1')]
  have h5 : (Y.setCell ⟨gl, 0, none⟩ (.slice (cutA A i1 c) (n - i1) (c - i1))).cell? ⟨gl + 1 + 1, 0, none⟩ = some (.int .i64 T) := by
    rw [World.cell?_setCell_other (h := by simp <;> omega)]
    exact f2'
  have LOW2 : Hid (Below gl w (Y.setCell ⟨gl, 0, none⟩ (.slice (cutA A i1 c) (n - i1) (c - i1)))) := Lib.hid (LOW1.out.grown (set_grownB Y gl 0 _) (by have := LOW1.out.size; have := HGL.out; omega) (fun g e => by cases e; exact Nat.le_refl _))
  generalize Y.setCell ⟨gl, 0, none⟩ (.slice (cutA A i1 c) (n - i1) (c - i1)) = Z at *
  obtain ⟨P2, hP2⟩ : ∃ P : Nat → Bool, P = fun k => decide (T < ((rs.drop i1).getD k (0, 0)).1) := ⟨_, rfl⟩
  have HP2 := Lib.hid hP2
  clear hP2 f1' f2' f3' HLOW HXX LOW1 X g1 g2 g3 g4
  have RQ2 : Hid (Rq Z B (cutA A i1 c) (rs.drop i1)) := Lib.hid (by
    have h := cutA_rq (l := i1) (h := n) (HR.out.below LOW2.out HBL.out) HN.out hi1 (Nat.le_refl _) hc
    rw [HN.out, List.take_length] at h
    exact h)
  have HG2 : Hid (Rn.Ok (rs.drop i1)) := Lib.hid (HG.out.sub (List.drop_sublist _ _))
  have HL2 : Hid ((rs.drop i1).length = n - i1) := Lib.hid (by rw [List.length_drop, HN.out])
  have S2 := Lib.hid (search2 Z (n - i1) gl (gl + 1 + 1) P2 (by omega) (fun a b hab hb h => by
      rw [HP2.out] at h ⊢
      rw [← HL2.out] at hb
      have h1 := ok_le HG2.out hab hb
      rw [decide_eq_true_eq, List.getD_eq_getElem?_getD, List.getElem?_eq_getElem (by omega)] at h
      rw [decide_eq_true_eq, List.getD_eq_getElem?_getD, List.getElem?_eq_getElem hb]
      have h2 : T < ((rs.drop i1)[a]'(by omega)).1 := h
      show T < (rs.drop i1)[b].1
      omega)
    (fun q i hi => by
      have hir : i < (rs.drop i1).length := by rw [HL2.out]; exact hi
      obtain ⟨b, off, hA, _, k1, k2⟩ := RQ2.out.at hir
      have hgd := HG2.out.1 _ (List.getElem_mem hir)
      unfold Rn.Good at hgd
      have e : P2 i = decide (T < (rs.drop i1)[i].1) := by
        rw [HP2.out]
        show decide (T < ((rs.drop i1).getD i (0, 0)).1) = _
        rw [List.getD_eq_getElem?_getD, List.getElem?_eq_getElem hir]
        rfl
      rw [e]
      rw [hA] at h4
      refine (clos2 (Z.drewN q) gl (gl + 1 + 1) b off i (n - i1) (c - i1) (rs.drop i1)[i].1 (rs.drop i1)[i].2 T hi h4 h5 k1 k2 (by omega) (by omega)).mono ?_
      rintro e w' ⟨rfl, q', rfl⟩
      exact ⟨rfl, q + q', by simp⟩))
  go_wp2_with (go_at_call 45; (with_reducible refine S2.out.mono ?_); rintro e w4 ⟨i2, rfl, hi2, hL2, hR2, q2, rfl⟩; replace hL2 := Lib.hid hL2; replace hR2 := Lib.hid hR2)
  clear S2
  obtain ⟨g1, g2⟩ := cut_h (cutA A i1 c) (n - i1) (c - i1) i2 (i2 : Int) rfl hi2 (by omega)
  obtain ⟨g3, g4⟩ := cut_l (cutA A i1 c) (n - i1) (c - i1) i2 (i2 : Int) rfl hi2
  have h4' : (Z.drewN q2).cell? ⟨gl, 0, none⟩ = some (.slice (cutA A i1 c) (n - i1) (c - i1)) := h4
  have hi2n : (i2 : Int) ≤ ((n - i1 : Nat) : Int) := by omega
  have hi2c : (i2 : Int) ≤ ((c - i1 : Nat) : Int) := by omega
  go_quiet (fail)
  go_wp2
  refine bodyPost_ret (results_tmp3 rfl _ _ _) rfl ?_
  have ej : i1 + i2 - i1 = i2 := by omega
  have en : n - (i1 + i2) = n - i1 - i2 := by omega
  have hR5 : ∀ (k : Nat) (hk : k < rs.length), i1 ≤ k → F ≤ rs[k].2 := fun k hk h => by
    have e := hR1.out k h (by rw [HN.out]; exact hk)
    rw [HP1.out] at e
    have e' : decide (F ≤ (rs.getD k (0, 0)).2) = true := e
    rw [decide_eq_true_eq, List.getD_eq_getElem?_getD, List.getElem?_eq_getElem hk] at e'
    exact e'
  have hL5 : ∀ (k : Nat) (hk : k < rs.length), k < i1 → rs[k].2 < F := fun k hk h => by
    have e := hL1.out k h
    rw [HP1.out] at e
    have e' : decide (F ≤ (rs.getD k (0, 0)).2) = false := e
    rw [decide_eq_false_iff_not, List.getD_eq_getElem?_getD, List.getElem?_eq_getElem hk] at e'
    have e2 : ¬ F ≤ rs[k].2 := e'
    omega
  have hR6 : ∀ (k : Nat) (hk : k < (rs.drop i1).length), i2 ≤ k → T < (rs.drop i1)[k].1 := fun k hk h => by
    have e := hR2.out k h (by rw [← HL2.out]; exact hk)
    rw [HP2.out] at e
    have e' : decide (T < ((rs.drop i1).getD k (0, 0)).1) = true := e
    rw [decide_eq_true_eq, List.getD_eq_getElem?_getD, List.getElem?_eq_getElem hk] at e'
    exact e'
  have hL6 : ∀ (k : Nat) (hk : k < (rs.drop i1).length), k < i2 → (rs.drop i1)[k].1 ≤ T := fun k hk h => by
    have e := hL2.out k h
    rw [HP2.out] at e
    have e' : decide (T < ((rs.drop i1).getD k (0, 0)).1) = false := e
    rw [decide_eq_false_iff_not, List.getD_eq_getElem?_getD, List.getElem?_eq_getElem hk] at e'
    have e2 : ¬ T < (rs.drop i1)[k].1 := e'
    omega
  have hn := HN.out
  have hsub : (rs.take (i1 + i2)).drop i1 = (rs.drop i1).take i2 := by rw [List.drop_take, show i1 + i2 - i1 = i2 by omega]
  have hdd : rs.drop (i1 + i2) = (rs.drop i1).drop i2 := by rw [List.drop_drop]
  refine ⟨i1, i1 + i2, cutA A i1 c, c - i1, cutA (cutA A i1 c) i2 (c - i1), c - i1 - i2, by rw [ej, en]; rfl, ⟨by omega, by omega, by omega, by omega, ?_, ?_, fun r hr => ?_, fun r hr => ?_, fun r hr => ?_, ?_⟩⟩
  · rw [hsub]
    exact rq_take (RQ2.out.drew (q2 + nq))
  · rw [hdd]
    have h := cutA_rq (l := i2) (h := n - i1) (c := c - i1) (RQ2.out.drew (q2 + nq)) HL2.out.symm hi2 (Nat.le_refl _) (by omega)
    rw [← HL2.out, List.take_length] at h
    exact h
  · obtain ⟨k, hk, rfl⟩ := List.getElem_of_mem hr
    rw [List.getElem_take]
    rw [List.length_take] at hk
    exact hL5 k (by omega) (by omega)
  · rw [hsub] at hr
    obtain ⟨k, hk, rfl⟩ := List.getElem_of_mem hr
    rw [List.getElem_take]
    rw [List.length_take] at hk
    refine ⟨?_, hL6 k (by omega) (by omega)⟩
    rw [List.getElem_drop]
    exact hR5 (i1 + k) (by have := HL2.out; omega) (by omega)
  · rw [hdd] at hr
    obtain ⟨k, hk, rfl⟩ := List.getElem_of_mem hr
    rw [List.getElem_drop]
    rw [List.length_drop] at hk
    exact hR6 (i2 + k) (by omega) (by omega)
  · have h := LOW2.out
    rw [← HGL.out] at h
    exact below_drewN (below_drewN h _) _
end Go.Proofs.Ytejboemifncjoaa
