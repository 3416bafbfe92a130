/- What one is told through the interface of numbers that are kept as a bitmap or as runs: the functions' contracts in one form. What one is told through the interface of numbers that are kept as an array: the functions' contracts in one form. A box is asked, whatever it keeps its numbers as; a nil box too. slices.Clone of an array and of runs that a box keeps; list, cost and copied of these. -/
import Derived.Test.YtkehehfphccpbaaGreatDoorMgBa
import Derived.Test.YtkehehfphccpbaaGreatDoorMgOb
import Derived.Test.YtkehehfphccpbaaGreatDoorMgRd
import Derived.Test.YtkehehfphccpbaaGreatDoorMgAb
section
namespace Go.Proofs.YtkehehfphccpbaaGreatDoor
set_option maxRecDepth 40000
open Go.RowKit
/-- Answers: a truth, a number, a number that there may be. -/
def AskB (w : World) (b : Bool) (e : Ending) (w' : World) : Prop := e = .returned (.bool b) ∧ Below w.heap.size w w'
def AskI (w : World) (i : Int) (e : Ending) (w' : World) : Prop := e = .returned (.int .i64 i) ∧ Below w.heap.size w w'
def AskP (w : World) (i : Int) (e : Ending) (w' : World) : Prop := ∃ (x : Int) (b : Bool), e = .returned (.tuple #[.int .u16 x, .bool b]) ∧ 0 ≤ x ∧ x ≤ 65535 ∧ (if b then x else -1) = i ∧ Below w.heap.size w w'
theorem AskB.same {w : World} {b : Bool} : AskB w b (.returned (.bool b)) w := ⟨rfl, Below.refl _ _⟩
theorem below_drewX (w : World) (n : Nat) : Below w.heap.size w (w.drewN n) := below_drewN (Below.refl _ w) n
theorem askP_num {w w' : World} {i : Int} (h0 : -1 ≤ i) (h1 : i ≤ 65535) (hb : Below w.heap.size w w') : AskP w i (.returned (numV i)) w' := by
  unfold numV
  by_cases h : i < 0
  · rw [if_pos h]; exact ⟨0, false, rfl, by omega, by omega, by simp; omega, hb⟩
  · rw [if_neg h]; exact ⟨i, true, rfl, by omega, by omega, by simp, hb⟩
theorem rHas_mem {xs : List Int} {v : Int} : M.rHas xs v = true ↔ v ∈ xs := by
  unfold M.rHas; simp
section
variable (w : World) (p s h : Nat) (ws : List Nat) (a : Bm w p s h ws)
include a
theorem askB_Has (v : Nat) (hv : v ≤ 65535) : Calls Tryz.prog 157 #[.pointer (some ⟨p, 0, none⟩), .int .u16 (v : Int)] w (AskB w (M.rHas (sl ws) (v : Int))) :=
  (b_has a v hv).mono (by rintro e w' ⟨rfl, rfl⟩; exact AskB.same)
theorem askB_Len : Calls Tryz.prog 158 #[.pointer (some ⟨p, 0, none⟩)] w (AskI w ((sl ws).length : Nat)) :=
  (b_len a).mono (by rintro e w' ⟨rfl, n, rfl⟩; exact ⟨rfl, below_drewX w n⟩)
variable (hT : Tab w)
include hT
end
theorem up_few {xs : List Int} (hs : xs.Pairwise (· < ·)) (hx : ∀ y ∈ xs, 0 ≤ y ∧ y ≤ 65535) : xs.length ≤ 65536 := by
  have h : ∀ (k : Nat) (hk : k < xs.length), (k : Int) ≤ xs[k] := by
    intro k
    induction k with
    | zero => intro hk; exact (hx _ (List.getElem_mem _)).1
    | succ k ih =>
      intro hk
      have h1 := ih (by omega)
      have h2 := (List.pairwise_iff_getElem.1 hs) k (k + 1) (by omega) hk (by omega)
      omega
  by_cases h0 : xs.length = 0
  · omega
  · have h1 := h (xs.length - 1) (by omega)
    have h2 := (hx _ (List.getElem_mem (show xs.length - 1 < xs.length by omega))).2
    omega
theorem flat_range {rs : List (Int × Int)} (hg : R.Rn.Ok rs) {y : Int} (hy : y ∈ R.Rn.flat rs) : 0 ≤ y ∧ y ≤ 65535 := by
  obtain ⟨r, hr, h1, h2⟩ := R.Rn.mem_flat.1 hy
  obtain ⟨a, b, c⟩ := hg.1 r hr
  omega
theorem flat_few {rs : List (Int × Int)} (hg : R.Rn.Ok rs) : (R.Rn.flat rs).length ≤ 65536 := up_few (R.Rn.flat_up hg) fun _ hy => flat_range hg hy
section
variable (w : World) (B n c : Nat) (A : Option Addr) (rs : List (Int × Int)) (hn : n = rs.length) (hr : R.Rq w B A rs) (hB : B ≤ w.heap.size) (hg : R.Rn.Ok rs)
include hn hr hB hg
theorem askR_Len : Calls Tryz.prog 178 #[.slice A n c] w (AskI w (((R.Rn.flat rs)).length : Nat)) := by
  have H := Lib.hid (R.r_len w B n c A rs hn hr hB hg.1 (by have := flat_few hg; omega) (by rw [hn]; exact Nat.le_trans (R.ok_len hg) (by omega)))
  clear hn hr hB hg
  go_enter Tryz.func178, Tryz.ntmps178
  go_wp2_with (go_at_call 186; (with_reducible refine H.out.mono ?_); rintro e w' ⟨rfl, hb⟩)
  go_ret
  exact ⟨rfl, hb⟩
variable (hc : n ≤ c)
include hc
theorem askR_Has (v : Int) (hv : 0 ≤ v ∧ v ≤ 65535) : Calls Tryz.prog 177 #[.slice A n c, .int .u16 v] w (AskB w (M.rHas (R.Rn.flat rs) v)) := by
  have H := Lib.hid (R.r_has w B n c A rs v hn hr hB hg hc hv _ (rHas_mem.trans R.Rn.mem_flat))
  clear hn hr hB hg
  go_enter Tryz.func177, Tryz.ntmps177
  go_wp2_with (go_at_call 185; (with_reducible refine H.out.mono ?_); rintro e w' ⟨rfl, hb⟩)
  go_ret
  exact ⟨rfl, hb⟩
end
end Go.Proofs.YtkehehfphccpbaaGreatDoor
end
section
namespace Go.Proofs.YtkehehfphccpbaaGreatDoor
set_option maxRecDepth 40000
open Go.RowKit
theorem selp_at (zs : List Int) (k : Int) : (if A.selb zs k then A.selv zs k else -1) = M.rSel zs k := by
  unfold A.selb A.selv M.rSel
  by_cases h0 : k < 0
  · rw [if_pos h0, if_neg (by rw [decide_eq_true_eq]; omega)]
  · rw [if_neg h0]
    by_cases h1 : k < zs.length
    · have h2 : k.toNat < zs.length := by omega
      rw [if_pos (by rw [decide_eq_true_eq]; omega), if_pos (by omega), List.getD_eq_getElem?_getD, List.getElem?_eq_getElem h2]
      rfl
    · rw [if_neg (by rw [decide_eq_true_eq]; omega), List.getElem?_eq_none (by omega)]
      rfl
theorem selp_in {zs : List Int} {k : Int} (h : A.selb zs k = true) : A.selv zs k ∈ zs := by
  unfold A.selb at h
  rw [decide_eq_true_eq] at h
  have h2 : k.toNat < zs.length := by omega
  unfold A.selv
  rw [if_pos h.1, List.getD_eq_getElem?_getD, List.getElem?_eq_getElem h2]
  exact List.getElem_mem h2
theorem selp_pack {zs : List Int} (hz : ∀ y ∈ zs, 0 ≤ y ∧ y ≤ 65535) (k : Int) : ∃ x b, (if A.selb zs k then A.selv zs k else 0) = x ∧ A.selb zs k = b ∧ 0 ≤ x ∧ x ≤ 65535 ∧ (if b then x else -1) = (if A.selb zs k then A.selv zs k else -1) := by
  by_cases h : A.selb zs k = true
  · have h1 := hz _ (selp_in h)
    refine ⟨A.selv zs k, true, by rw [if_pos h], h, h1.1, h1.2, by rw [if_pos h, if_pos rfl]⟩
  · refine ⟨0, false, by rw [if_neg h], by simpa using h, by omega, by omega, by rw [if_neg h]; rfl⟩
theorem has_eq (xs : List Int) (v : Int) : M.rHas xs v = decide (v ∈ xs) := by
  rw [Bool.eq_iff_iff, rHas_mem, decide_eq_true_eq]
section
variable (w : World) (B n c : Nat) (U : Option Addr) (xs : List Int) (hn : n = xs.length)
include hn
theorem askA_Len : Calls Tryz.prog 167 #[.slice U n c] w (AskI w (xs.length : Nat)) := by
  go_enter Tryz.func167, Tryz.ntmps167
  go_wp2
  go_ret
  exact ⟨by subst hn; rfl, Below.refl _ _⟩
theorem askA_cost : Calls Tryz.prog 173 #[.slice U n c] w (AskI w (xs.length : Nat)) := by
  go_enter Tryz.func173, Tryz.ntmps173
  go_wp2
  go_ret
  exact ⟨by subst hn; rfl, Below.refl _ _⟩
variable (hr : Rh w B U xs) (few : n ≤ 1000000)
include hr few
variable (hx : ∀ y ∈ xs, 0 ≤ y ∧ y ≤ 65535)
variable (hs : xs.Pairwise (· < ·))
include hs
theorem askA_Has (v : Int) : Calls Tryz.prog 166 #[.slice U n c, .int .u16 v] w (AskB w (M.rHas xs v)) := by
  have H0 := A.a_has w B n c U xs v hn hr hs few
  rw [← has_eq] at H0
  have H := Lib.hid H0
  clear H0 hn hr hs
  go_enter Tryz.func166, Tryz.ntmps166
  go_wp2_with (go_at_call 175; (with_reducible refine H.out.mono ?_); rintro e w' ⟨rfl, rfl⟩)
  go_ret
  exact ⟨rfl, Below.refl _ _⟩
end
end Go.Proofs.YtkehehfphccpbaaGreatDoor
end
section
namespace Go.Proofs.YtkehehfphccpbaaGreatDoor
set_option maxRecDepth 40000
open Go.RowKit
/-- v keeps the numbers xs as an array, as a bitmap, as these runs, in blocks ahead of B. -/
def NA (w : World) (B : Nat) (v : Value) (xs : List Int) : Prop := ∃ U c, v = vA U xs.length c ∧ Rh w B U xs ∧ xs.length ≤ c
def NB (w : World) (B : Nat) (v : Value) (xs : List Int) : Prop := ∃ p s h ws, v = vB p ∧ Bm w p s h ws ∧ sl ws = xs ∧ p < B ∧ s < B ∧ h < B
def NR (w : World) (B : Nat) (v : Value) (xs : List Int) (rs : List (Int × Int)) : Prop := ∃ U c, v = vR U rs.length c ∧ R.Rq w B U rs ∧ R.Rn.Ok rs ∧ R.Rn.flat rs = xs ∧ rs.length ≤ c
/-- v keeps the rising numbers xs in one of the three ways. -/
structure Nm (w : World) (B : Nat) (v : Value) (xs : List Int) : Prop where
  up : xs.Pairwise (· < ·)
  range : ∀ y ∈ xs, 0 ≤ y ∧ y ≤ 65535
  way : NA w B v xs ∨ NB w B v xs ∨ ∃ rs, NR w B v xs rs
theorem Nm.few {w : World} {B : Nat} {v : Value} {xs : List Int} (m : Nm w B v xs) : xs.length ≤ 65536 := up_few m.up m.range
theorem Nm.empty (w : World) (B : Nat) : Nm w B (vA none 0 0) [] := ⟨List.Pairwise.nil, by simp, .inl ⟨none, 0, rfl, Rh.nil _ _ _, Nat.le_refl _⟩⟩
theorem NA.below {w w' : World} {B C : Nat} {v : Value} {xs : List Int} (h : NA w B v xs) (hb : Below C w w') (hB : B ≤ C) : NA w' B v xs := by
  obtain ⟨U, c, h1, h2, h3⟩ := h
  refine ⟨U, c, h1, fun hne => ?_, h3⟩
  obtain ⟨b, off, e, hlt, hc⟩ := h2 hne
  exact ⟨b, off, e, hlt, fun k hk => (hb.cell (p := ⟨b, off + k, none⟩) (by show b < C; omega)).trans (hc k hk)⟩
theorem NB.below {w w' : World} {B C : Nat} {v : Value} {xs : List Int} (h : NB w B v xs) (hb : Below C w w') (hB : B ≤ C) : NB w' B v xs := by
  obtain ⟨p, s, r, ws, h1, h2, h3, h4, h5, h6⟩ := h
  exact ⟨p, s, r, ws, h1, h2.below hb (by omega) (by omega) (by omega), h3, h4, h5, h6⟩
theorem NR.below {w w' : World} {B C : Nat} {v : Value} {xs : List Int} {rs : List (Int × Int)} (h : NR w B v xs rs) (hb : Below C w w') (hB : B ≤ C) : NR w' B v xs rs := by
  obtain ⟨U, c, h1, h2, h3⟩ := h
  refine ⟨U, c, h1, fun hne => ?_, h3⟩
  obtain ⟨b, off, e, hlt, hc⟩ := h2 hne
  exact ⟨b, off, e, hlt, fun k hk => ⟨(hb.cell (p := ⟨b, off + k * 2, none⟩) (by show b < C; omega)).trans (hc k hk).1, (hb.cell (p := ⟨b, off + k * 2 + 1, none⟩) (by show b < C; omega)).trans (hc k hk).2⟩⟩
theorem Nm.below {w w' : World} {B C : Nat} {v : Value} {xs : List Int} (m : Nm w B v xs) (hb : Below C w w') (hB : B ≤ C) : Nm w' B v xs :=
  ⟨m.up, m.range, m.way.imp (fun h => h.below hb hB) (Or.imp (fun h => h.below hb hB) fun ⟨rs, h⟩ => ⟨rs, h.below hb hB⟩)⟩
/-- What told answers of this pointer. -/
def ToldP (w : World) (P : Option Addr) (v : Value) : Prop := Calls Tryz.prog 47 #[.pointer P] w fun e w' => e = .returned v ∧ w = w'
theorem box_Has_A (w : World) (P : Option Addr) (U : Option Addr) (n c : Nat) (xs : List Int) (x : Nat) (ht : ToldP w P (vA U n c)) (hm : Calls Tryz.prog 166 #[.slice U n c, .int .u16 (x : Int)] w (AskB w (M.rHas xs (x : Int)))) : Calls Tryz.prog 27 #[.pointer P, .int .u16 (x : Int)] w (AskB w (M.rHas xs (x : Int))) := by
  have hT := Lib.hid ht
  have hM := Lib.hid hm
  have hD := fun w => toA_Has U n c w
  clear ht hm
  unfold ToldP vA at hT
  go_enter Tryz.func27, Tryz.ntmps27
  go_wp2_with (first
    | (go_at_call 47; (with_reducible refine hT.out.mono ?_); rintro e w' ⟨rfl, rfl⟩)
    | (go_at_call 166; (with_reducible refine hM.out.mono ?_); rintro e w' ⟨rfl, hb⟩))
  go_ret
  exact ⟨rfl, hb⟩
theorem box_Has_B (w : World) (P : Option Addr) (p : Nat) (xs : List Int) (x : Nat) (ht : ToldP w P (vB p)) (hm : Calls Tryz.prog 157 #[.pointer (some ⟨p, 0, none⟩), .int .u16 (x : Int)] w (AskB w (M.rHas xs (x : Int)))) : Calls Tryz.prog 27 #[.pointer P, .int .u16 (x : Int)] w (AskB w (M.rHas xs (x : Int))) := by
  have hT := Lib.hid ht
  have hM := Lib.hid hm
  have hD := fun w => toB_Has p w
  clear ht hm
  unfold ToldP vB at hT
  go_enter Tryz.func27, Tryz.ntmps27
  go_wp2_with (first
    | (go_at_call 47; (with_reducible refine hT.out.mono ?_); rintro e w' ⟨rfl, rfl⟩)
    | (go_at_call 157; (with_reducible refine hM.out.mono ?_); rintro e w' ⟨rfl, hb⟩))
  go_ret
  exact ⟨rfl, hb⟩
theorem box_Has_R (w : World) (P : Option Addr) (U : Option Addr) (n c : Nat) (xs : List Int) (x : Nat) (ht : ToldP w P (vR U n c)) (hm : Calls Tryz.prog 177 #[.slice U n c, .int .u16 (x : Int)] w (AskB w (M.rHas xs (x : Int)))) : Calls Tryz.prog 27 #[.pointer P, .int .u16 (x : Int)] w (AskB w (M.rHas xs (x : Int))) := by
  have hT := Lib.hid ht
  have hM := Lib.hid hm
  have hD := fun w => toR_Has U n c w
  clear ht hm
  unfold ToldP vR at hT
  go_enter Tryz.func27, Tryz.ntmps27
  go_wp2_with (first
    | (go_at_call 47; (with_reducible refine hT.out.mono ?_); rintro e w' ⟨rfl, rfl⟩)
    | (go_at_call 177; (with_reducible refine hM.out.mono ?_); rintro e w' ⟨rfl, hb⟩))
  go_ret
  exact ⟨rfl, hb⟩
theorem box_Has (w : World) (B : Nat) (P : Option Addr) (v : Value) (xs : List Int) (x : Nat) (hx : x ≤ 65535) (ht : ToldP w P v) (m : Nm w B v xs) (hB : B ≤ w.heap.size) : Calls Tryz.prog 27 #[.pointer P, .int .u16 (x : Int)] w (AskB w (M.rHas xs (x : Int))) := by
  rcases m.way with ⟨U, c, rfl, h2, h3⟩ | ⟨p, s, r, ws, rfl, h2, rfl, _⟩ | ⟨rs, U, c, rfl, h2, h3, rfl, h4⟩
  · have h5 : xs.length ≤ 1000000 := Nat.le_trans m.few (by omega)
    exact box_Has_A w P U _ c xs x ht (askA_Has w B _ _ U xs rfl h2 h5 m.up x)
  · exact box_Has_B w P p _ x ht (askB_Has w p s r ws h2 x hx)
  · exact box_Has_R w P U _ c _ x ht (askR_Has w B _ _ U rs rfl h2 hB h3 h4 x (by omega))
theorem box_Len_A (w : World) (P : Option Addr) (U : Option Addr) (n c : Nat) (xs : List Int) (ht : ToldP w P (vA U n c)) (hm : Calls Tryz.prog 167 #[.slice U n c] w (AskI w ((xs).length : Nat))) : Calls Tryz.prog 21 #[.pointer P] w (AskI w ((xs).length : Nat)) := by
  have hT := Lib.hid ht
  have hM := Lib.hid hm
  have hD := fun w => toA_Len U n c w
  clear ht hm
  unfold ToldP vA at hT
  go_enter Tryz.func21, Tryz.ntmps21
  go_wp2_with (first
    | (go_at_call 47; (with_reducible refine hT.out.mono ?_); rintro e w' ⟨rfl, rfl⟩)
    | (go_at_call 167; (with_reducible refine hM.out.mono ?_); rintro e w' ⟨rfl, hb⟩))
  go_ret
  exact ⟨rfl, hb⟩
theorem box_Len_B (w : World) (P : Option Addr) (p : Nat) (xs : List Int) (ht : ToldP w P (vB p)) (hm : Calls Tryz.prog 158 #[.pointer (some ⟨p, 0, none⟩)] w (AskI w ((xs).length : Nat))) : Calls Tryz.prog 21 #[.pointer P] w (AskI w ((xs).length : Nat)) := by
  have hT := Lib.hid ht
  have hM := Lib.hid hm
  have hD := fun w => toB_Len p w
  clear ht hm
  unfold ToldP vB at hT
  go_enter Tryz.func21, Tryz.ntmps21
  go_wp2_with (first
    | (go_at_call 47; (with_reducible refine hT.out.mono ?_); rintro e w' ⟨rfl, rfl⟩)
    | (go_at_call 158; (with_reducible refine hM.out.mono ?_); rintro e w' ⟨rfl, hb⟩))
  go_ret
  exact ⟨rfl, hb⟩
theorem box_Len_R (w : World) (P : Option Addr) (U : Option Addr) (n c : Nat) (xs : List Int) (ht : ToldP w P (vR U n c)) (hm : Calls Tryz.prog 178 #[.slice U n c] w (AskI w ((xs).length : Nat))) : Calls Tryz.prog 21 #[.pointer P] w (AskI w ((xs).length : Nat)) := by
  have hT := Lib.hid ht
  have hM := Lib.hid hm
  have hD := fun w => toR_Len U n c w
  clear ht hm
  unfold ToldP vR at hT
  go_enter Tryz.func21, Tryz.ntmps21
  go_wp2_with (first
    | (go_at_call 47; (with_reducible refine hT.out.mono ?_); rintro e w' ⟨rfl, rfl⟩)
    | (go_at_call 178; (with_reducible refine hM.out.mono ?_); rintro e w' ⟨rfl, hb⟩))
  go_ret
  exact ⟨rfl, hb⟩
theorem box_Len (w : World) (B : Nat) (P : Option Addr) (v : Value) (xs : List Int) (ht : ToldP w P v) (m : Nm w B v xs) (hB : B ≤ w.heap.size) : Calls Tryz.prog 21 #[.pointer P] w (AskI w ((xs).length : Nat)) := by
  rcases m.way with ⟨U, c, rfl, h2, h3⟩ | ⟨p, s, r, ws, rfl, h2, rfl, _⟩ | ⟨rs, U, c, rfl, h2, h3, rfl, h4⟩
  · have h5 : xs.length ≤ 1000000 := Nat.le_trans m.few (by omega)
    exact box_Len_A w P U _ c xs ht (askA_Len w _ _ U xs rfl)
  · exact box_Len_B w P p _ ht (askB_Len w p s r ws h2)
  · exact box_Len_R w P U _ c _ ht (askR_Len w B _ _ U rs rfl h2 hB h3)
end Go.Proofs.YtkehehfphccpbaaGreatDoor
end
section
namespace Go.Proofs.YtkehehfphccpbaaGreatDoor.R
set_option maxRecDepth 40000
open Go.RowKit
end Go.Proofs.YtkehehfphccpbaaGreatDoor.R
namespace Go.Proofs.YtkehehfphccpbaaGreatDoor.A
open Go.RowKit
set_option maxHeartbeats 4000000 in
set_option maxRecDepth 100000 in
theorem box_clone (w : World) (B n c : Nat) (A : Option Addr) (xs : List Int) (hn : n = xs.length) (hr : Rh w B A xs) (hB : B ≤ w.heap.size) (few : n ≤ 1000000) :
    Calls Tryz.prog 176 #[.slice A n c] w fun e w' => ∃ v, e = .returned v ∧ w'.ownsRow w.heap.size 35 1 v n (hv xs) ∧ Below w.heap.size w w' := by
  obtain ⟨i0, hi, hz0, hz1, hz2⟩ := info_parts u16_info
  have q22 : ∀ (w : World) (a : Option Addr) (n c n' c' : Nat), (binOp .eql 72 (.slice a n c) (.slice none n' c')).run Tryz.prog w = .ok (.bool a.isNone) w := fun w a n c n' c' => Lib.run_eql_slice_nil w _ _ a n c n' c' Tryz.underlying72
  cases A with
  | none =>
    have h0 : xs = [] := by
      cases xs with
      | nil => rfl
      | cons r rs => obtain ⟨b, off, h, _⟩ := hr (by simp); cases h
    subst h0
    subst hn
    go_enter Tryz.func176, Tryz.ntmps176
    go_wp2
    go_ret
    exact ⟨_, rfl, ⟨rfl, .inl ⟨rfl, rfl⟩⟩, Below.refl _ _⟩
  | some ad =>
    have b1 := (Below.refl w.heap.size w).alloc (Nat.le_refl _) (.cells #[] 35)
    have HRD := Lib.hid (Rh.reads (hr.below b1 hB))
    rw [← hn] at HRD
    have HO : Hid ((w.alloc (.cells #[] 35)).ownsRow w.heap.size 35 1 (.slice (some ⟨w.heap.size, 0, none⟩) 0 0) 0 []) := Lib.hid ⟨rfl, .inr ⟨w.heap.size, 0, #[], rfl, Nat.le_refl _, R.alloc_topI w _, Nat.le_refl _, by decide, rfl, rfl⟩⟩
    have HB := Lib.hid b1
    have HLN := Lib.hid hn
    clear hr hn b1
    go_enter Tryz.func176, Tryz.ntmps176
    go_wp2_with (at_builtin; refine wpList_append_any _ rfl (.tmp 5) (.tmp 6) 72 rfl w.heap.size 35 i0 (.int .u16 0) 1 2 Tryz.underlying72 hi hz0 hz1 hz2 rfl (by decide) (.slice (some ⟨w.heap.size, 0, none⟩) 0 0) 0 [] rfl HO.out B (some ad) n c (hv xs) rfl HRD.out (hv_one xs) (by unfold maxLen; omega) (by omega) (by simp) ?_; intro v' w' g1 g2 g3; replace g1 := Lib.hid g1; replace g2 := Lib.hid g2)
    go_ret
    have h := g1.out
    rw [Nat.zero_add, List.nil_append] at h
    exact ⟨v', rfl, h, HB.out.grown g2.out (by simp) (fun g hg => (HO.out.lt g hg).1)⟩
end Go.Proofs.YtkehehfphccpbaaGreatDoor.A
end
