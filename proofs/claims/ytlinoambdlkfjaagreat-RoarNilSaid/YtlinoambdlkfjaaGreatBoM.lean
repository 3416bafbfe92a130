
/- A box of few numbers: a new one of none; Has, Next, Prev, Cost; the text walked. -/
import Derived.Test.YtlinoambdlkfjaaGreatBoN
namespace Go.Proofs.YtlinoambdlkfjaaGreat
set_option maxRecDepth 40000
open Go.RowKit
theorem alloc_top (w : World) (o : Obj) : (w.alloc o).heap[w.heap.size]? = some o := by
  show (w.heap.push o)[w.heap.size]? = some o
  simp
/-- A box at q that keeps xs, rising and few, as an array. -/
structure Ba (w : World) (q : Nat) (xs : List Int) : Prop where
  up : xs.Pairwise (· < ·)
  range : ∀ y ∈ xs, 0 ≤ y ∧ y ≤ 65535
  few : xs.length ≤ 4096
  kept : ∃ U c, Bx w q (vA U xs.length c) ∧ Rh w w.heap.size U xs ∧ xs.length ≤ c
theorem Ba.below {w w' : World} {q : Nat} {xs : List Int} (b : Ba w q xs) (hb : Below w.heap.size w w') : Ba w' q xs := by
  obtain ⟨h1, h2, h3, U, c, a, r, hc⟩ := b
  refine ⟨h1, h2, h3, U, c, a.all_below hb, ?_, hc⟩
  intro hne
  obtain ⟨g, off, e, hlt, hcl⟩ := (r.below hb (Nat.le_refl _)) hne
  exact ⟨g, off, e, Nat.lt_of_lt_of_le hlt hb.size, hcl⟩
/-- The same, and the array lies in none of the blocks A. -/
structure Bd (w : World) (q : Nat) (xs : List Int) (A : Nat → Prop) : Prop where
  up : xs.Pairwise (· < ·)
  range : ∀ y ∈ xs, 0 ≤ y ∧ y ≤ 65535
  few : xs.length ≤ 4096
  kept : ∃ U c, Bx w q (vA U xs.length c) ∧ Rh w w.heap.size U xs ∧ xs.length ≤ c ∧ ∀ g off, U = some ⟨g, off, none⟩ → ¬ A g
theorem Bd.ba {w : World} {q : Nat} {xs : List Int} {A : Nat → Prop} (b : Bd w q xs A) : Ba w q xs := by
  obtain ⟨h1, h2, h3, U, c, a, r, hc, _⟩ := b
  exact ⟨h1, h2, h3, U, c, a, r, hc⟩
theorem Bd.mono {w : World} {q : Nat} {xs : List Int} {A A' : Nat → Prop} (b : Bd w q xs A) (h : ∀ j, A' j → A j) : Bd w q xs A' := by
  obtain ⟨h1, h2, h3, U, c, a, r, hc, hg⟩ := b
  exact ⟨h1, h2, h3, U, c, a, r, hc, fun g off e ha => hg g off e (h g ha)⟩
theorem Bd.lt {w : World} {q : Nat} {xs : List Int} {A : Nat → Prop} (b : Bd w q xs A) : q < w.heap.size := by
  obtain ⟨_, _, _, U, c, a, _⟩ := b
  exact a.lt
theorem Ba.lt {w : World} {q : Nat} {xs : List Int} (b : Ba w q xs) : q < w.heap.size := by
  obtain ⟨_, _, _, U, c, a, _⟩ := b
  exact a.lt
theorem Bd.row {w : World} {q : Nat} {xs : List Int} {A : Nat → Prop} (b : Bd w q xs A) : ∃ v, w.heap[q]? = some (.cells #[v] 88 (0, 0)) := by
  obtain ⟨_, _, _, U, c, a, _⟩ := b
  exact ⟨_, a.row⟩
theorem Ba.row {w : World} {q : Nat} {xs : List Int} (b : Ba w q xs) : ∃ v, w.heap[q]? = some (.cells #[v] 88 (0, 0)) := by
  obtain ⟨_, _, _, U, c, a, _⟩ := b
  exact ⟨_, a.row⟩
theorem Bd.but {w w' : World} {q : Nat} {xs : List Int} {A S : Nat → Prop} (b : Bd w q xs A) (h : ButS w w' S) (hS : ∀ j, S j → A j) (hq : ¬ S q) : Bd w' q xs A := by
  obtain ⟨h1, h2, h3, U, c, a, r, hc, hg⟩ := b
  refine ⟨h1, h2, h3, U, c, ⟨(h.block q a.lt hq).trans a.row⟩, ?_, hc, hg⟩
  intro hne
  obtain ⟨g, off, e, hlt, hcl⟩ := r hne
  refine ⟨g, off, e, Nat.lt_of_lt_of_le hlt h.size, fun k hk => ?_⟩
  rw [← hcl k hk]
  exact h.cell hlt (fun hs => hg g off e (hS g hs)) _
set_option maxHeartbeats 8000000 in
theorem of_none_box (w : World) : Calls Tryz.prog 63 #[.slice none 0 0] w fun e w' => ∃ q, e = .returned (.pointer (some ⟨q, 0, none⟩)) ∧ Ba w' q [] ∧ w.heap.size ≤ q ∧ Below w.heap.size w w' := by
  have HO := Lib.hid (of_none w)
  have HP := fun W U c => Lib.hid (plain_few W U 0 c (by omega))
  unfold vA at HP
  go_enter Tryz.func63, Tryz.ntmps63
  go_wp2_with (first
    | (go_at_call 81; (with_reducible refine HO.out.mono ?_); rintro e w1 ⟨U, c, rfl, hb⟩; replace hb := Lib.hid hb)
    | (go_at_call 52; (with_reducible refine (HP _ _ _).out.mono ?_); rintro e w2 ⟨rfl, hb2⟩; replace hb2 := Lib.hid hb2))
  go_ret
  have hB := hb.out.trans (hb2.out.mono hb.out.size)
  exact ⟨w2.heap.size, rfl, ⟨List.Pairwise.nil, by simp, by simp, U, c, ⟨alloc_top w2 _⟩, Rh.nil _ _ _, Nat.zero_le _⟩, hB.size, hB.alloc hB.size _⟩
set_option maxHeartbeats 8000000 in
theorem box_new (w : World) : Calls Tryz.prog 43 #[] w fun e w' => ∃ q, e = .returned (.pointer (some ⟨q, 0, none⟩)) ∧ Ba w' q [] ∧ w.heap.size ≤ q ∧ Below w.heap.size w w' := by
  have HO := Lib.hid (of_none_box w)
  go_enter Tryz.func43, Tryz.ntmps43
  go_wp2_with (go_at_call 63; (with_reducible refine HO.out.mono ?_); rintro e w1 ⟨q, rfl, h⟩; replace h := Lib.hid h)
  go_ret
  exact ⟨q, rfl, h.out⟩
theorem ba_Has (w : World) (q : Nat) (xs : List Int) (b : Ba w q xs) (x : Nat) : Calls Tryz.prog 32 #[.pointer (some ⟨q, 0, none⟩), .int .u16 (x : Int)] w (AskB w (M.rHas xs (x : Int))) := by
  obtain ⟨h1, _, h3, U, c, a, r, _⟩ := b
  exact box_Has_A w _ U _ c xs x (told_any w q _ a) (askA_Has w w.heap.size _ c U xs rfl r (by omega) h1 _)
theorem ba_Next (w : World) (q : Nat) (xs : List Int) (b : Ba w q xs) (x : Nat) : Calls Tryz.prog 23 #[.pointer (some ⟨q, 0, none⟩), .int .u16 (x : Int)] w (AskP w (M.rNext xs (x : Int))) := by
  obtain ⟨h1, h2, h3, U, c, a, r, _⟩ := b
  exact box_Next_A w _ U _ c xs x (told_any w q _ a) (askA_Next w w.heap.size _ c U xs rfl r (by omega) h2 h1 _)
theorem ba_Prev (w : World) (q : Nat) (xs : List Int) (b : Ba w q xs) (x : Nat) : Calls Tryz.prog 28 #[.pointer (some ⟨q, 0, none⟩), .int .u16 (x : Int)] w (AskP w (M.rPrev xs (x : Int))) := by
  obtain ⟨h1, h2, h3, U, c, a, r, _⟩ := b
  exact box_Prev_A w _ U _ c xs x (told_any w q _ a) (askA_Prev w w.heap.size _ c U xs rfl r (by omega) h2 h1 _)
theorem ba_Cost (w : World) (q : Nat) (xs : List Int) (b : Ba w q xs) : Calls Tryz.prog 64 #[.pointer (some ⟨q, 0, none⟩)] w (AskI w (xs.length : Nat)) := by
  obtain ⟨_, _, _, U, c, a, _⟩ := b
  have hT := Lib.hid (told_any w q _ a)
  have hM := Lib.hid (askA_cost w _ c U xs rfl)
  have hD := fun w => toA_cost U xs.length c w
  clear a
  unfold ToldP vA at hT
  go_enter Tryz.func64, Tryz.ntmps64
  go_wp2_with (first
    | (go_at_call 45; (with_reducible refine hT.out.mono ?_); rintro e w' ⟨rfl, rfl⟩)
    | (go_at_call 162; (with_reducible refine hM.out.mono ?_); rintro e w' ⟨rfl, hb⟩))
  go_ret
  exact ⟨rfl, hb⟩
end Go.Proofs.YtlinoambdlkfjaaGreat
