/- How a box keeps its numbers, the three ways in one; kind, list, plain and bits of any. A box: its numbers and how they are kept; blocks in which no numbers are kept; plain facts. change of a box by the functions of Fill and of Wipe; Fill and Wipe. Add and Drop of a box. New, Of and Optimise of a box. -/
import Derived.Test.YtkehehfphccpbaaGreatDoorMgBc
import Derived.Test.YtkehehfphccpbaaGreatDoorMgOb
import Derived.Test.YtkehehfphccpbaaGreatDoorMgRc
section
namespace Go.Proofs.YtkehehfphccpbaaGreatDoor
set_option maxRecDepth 40000
open Go.RowKit
/-- The plain way of these numbers; the way of a box. -/
def pk (xs : List Int) : Nat := if xs.length ≤ 4096 then 1 else 2
def kd (long : Bool) (xs : List Int) : Nat := if long then 3 else pk xs
theorem pk_few {xs : List Int} (h : xs.length ≤ 4096) : pk xs = 1 := if_pos h
theorem pk_many {xs : List Int} (h : 4096 < xs.length) : pk xs = 2 := if_neg (by omega)
theorem pk_le (xs : List Int) : pk xs ≤ 2 := by unfold pk; split <;> omega
theorem kd_le (long : Bool) (xs : List Int) : kd long xs ≤ 3 := by unfold kd; have := pk_le xs; split <;> omega
/-- Numbers of 16 bits that rise. -/
structure Up16 (xs : List Int) : Prop where
  up : xs.Pairwise (· < ·)
  range : ∀ y ∈ xs, 0 ≤ y ∧ y ≤ 65535
theorem Up16.few {xs : List Int} (u : Up16 xs) : xs.length ≤ 65536 := up_few u.up u.range
/-- The row in which an array or runs are kept is of their type. -/
def Tyd (w : World) (v : Value) : Prop := ∀ U n c, (v = vA U n c ∨ v = vR U n c) → n ≠ 0 → ∃ g off cs T, U = some ⟨g, off, none⟩ ∧ w.heap[g]? = some (.cells cs T (0, 0)) ∧ (T = 35 ∨ T = 112)
theorem Tyd.below {w w' : World} {v : Value} (h : Tyd w v) (hb : Below w.heap.size w w') : Tyd w' v := fun U n c e hn => by
  obtain ⟨g, off, cs, T, h1, h2, h3⟩ := h U n c e hn
  exact ⟨g, off, cs, T, h1, (hb.block g (Array.getElem?_eq_some_iff.1 h2).1).trans h2, h3⟩
theorem Tyd.b (w : World) (p : Nat) : Tyd w (vB p) := fun U n c e => by
  rcases e with e | e
  · unfold vB vA at e; simp at e
  · unfold vB vR at e; simp at e
theorem Tyd.own16 {w : World} {base n c : Nat} {U : Option Addr} {xs : List Value} (ho : w.ownsRow base 35 1 (.slice U n c) n xs) : Tyd w (vA U n c) := fun U' n' c' e hn => by
  rcases e with e | e
  · unfold vA at e
    simp only [Value.iface.injEq, Value.slice.injEq, true_and] at e
    obtain ⟨rfl, rfl, rfl⟩ := e
    rcases ho.2 with ⟨_, h0⟩ | ⟨g, cap, cur, hv, _, hg, _⟩
    · exact absurd h0 hn
    · simp only [Value.slice.injEq] at hv
      exact ⟨g, 0, cur, _, hv.1, hg, .inl rfl⟩
  · unfold vA vR at e; simp at e
theorem Tyd.ownR {w : World} {base n c : Nat} {U : Option Addr} {xs : List Value} (ho : w.ownsRow base 112 2 (.slice U n c) n xs) : Tyd w (vR U n c) := fun U' n' c' e hn => by
  rcases e with e | e
  · unfold vA vR at e; simp at e
  · unfold vR at e
    simp only [Value.iface.injEq, Value.slice.injEq, true_and] at e
    obtain ⟨rfl, rfl, rfl⟩ := e
    rcases ho.2 with ⟨_, h0⟩ | ⟨g, cap, cur, hv, _, hg, _⟩
    · exact absurd h0 hn
    · simp only [Value.slice.injEq] at hv
      exact ⟨g, 0, cur, _, hv.1, hg, .inr rfl⟩
/-- v keeps xs in way k (1 an array, 2 a bitmap whose words lie in block r, 3 runs), in blocks ahead of B. -/
def Way (w : World) (B : Nat) (v : Value) (xs : List Int) (k r : Nat) : Prop :=
  ((k = 1 ∧ NA w B v xs) ∨ (k = 2 ∧ ∃ p s ws, v = vB p ∧ Bm w p s r ws ∧ sl ws = xs ∧ p < B ∧ s < B ∧ r < B) ∨ (k = 3 ∧ ∃ rs, NR w B v xs rs)) ∧ Tyd w v
section
variable {w w' : World} {B C : Nat} {v : Value} {xs : List Int} {k r : Nat}
theorem Way.nm (h : Way w B v xs k r) (u : Up16 xs) : Nm w B v xs := ⟨u.up, u.range, by
  rcases h.1 with ⟨_, h⟩ | ⟨_, p, s, ws, h1, h2, h3, h4, h5, h6⟩ | ⟨_, rs, h⟩
  · exact .inl h
  · exact .inr (.inl ⟨p, s, r, ws, h1, h2, h3, h4, h5, h6⟩)
  · exact .inr (.inr ⟨rs, h⟩)⟩
theorem Way.below (h : Way w B v xs k r) (hb : Below C w w') (hB : B ≤ C) (hC : w.heap.size ≤ C) : Way w' B v xs k r := by
  refine ⟨?_, h.2.below (hb.mono hC)⟩
  rcases h.1 with ⟨e, h⟩ | ⟨e, p, s, ws, h1, h2, h3, h4, h5, h6⟩ | ⟨e, rs, h⟩
  · exact .inl ⟨e, h.below hb hB⟩
  · exact .inr (.inl ⟨e, p, s, ws, h1, h2.below hb (by omega) (by omega) (by omega), h3, h4, h5, h6⟩)
  · exact .inr (.inr ⟨e, rs, h.below hb hB⟩)
theorem Way.more (h : Way w B v xs k r) (hB : B ≤ C) : Way w C v xs k r := by
  refine ⟨?_, h.2⟩
  rcases h.1 with ⟨e, U, c, h1, h2, h3⟩ | ⟨e, p, s, ws, h1, h2, h3, h4, h5, h6⟩ | ⟨e, rs, U, c, h1, h2, h3⟩
  · exact .inl ⟨e, U, c, h1, h2.more hB, h3⟩
  · exact .inr (.inl ⟨e, p, s, ws, h1, h2, h3, by omega, by omega, by omega⟩)
  · exact .inr (.inr ⟨e, rs, U, c, h1, h2.more hB, h3⟩)
theorem Way.next (h : Way w w.heap.size v xs k r) (hb : Below w.heap.size w w') : Way w' w'.heap.size v xs k r := (h.below hb (Nat.le_refl _) (Nat.le_refl _)).more hb.size
theorem Way.form (h : Way w B v xs k r) : ∃ t x, v = .iface t x := by
  rcases h.1 with ⟨_, U, c, rfl, _⟩ | ⟨_, p, s, ws, rfl, _⟩ | ⟨_, rs, U, c, rfl, _⟩
  · exact ⟨_, _, rfl⟩
  · exact ⟨_, _, rfl⟩
  · exact ⟨_, _, rfl⟩
theorem Way.pos (h : Way w B v xs k r) : 1 ≤ k ∧ k ≤ 3 := by
  rcases h.1 with ⟨e, _⟩ | ⟨e, _⟩ | ⟨e, _⟩ <;> omega
theorem kind_any (W : World) (h : Way w B v xs k r) : Calls Tryz.prog 33 #[v] W fun e w' => e = .returned (.int .i64 (k : Int)) ∧ W = w' := by
  rcases h.1 with ⟨rfl, U, c, rfl, _⟩ | ⟨rfl, p, s, ws, rfl, _⟩ | ⟨rfl, rs, U, c, rfl, _⟩
  · exact kind_a W U _ c
  · exact kind_b W p
  · exact kind_r W U _ c
theorem NAy.way {b : Nat} (h : NAy w b v xs) (r : Nat) : Way w w.heap.size v xs 1 r := by
  obtain ⟨u, rfl, ho⟩ := h
  obtain ⟨U, c, rfl, hr, _⟩ := Rh.of_own ho
  exact ⟨.inl ⟨rfl, U, c, rfl, hr, own_cap ho U c rfl⟩, Tyd.own16 ho⟩
theorem NBy.way {b : Nat} (h : NBy w b v xs) : ∃ r, b ≤ r ∧ Way w w.heap.size v xs 2 r := by
  obtain ⟨p, s, r, ws, rfl, h1, h2, _, _, h3⟩ := h
  exact ⟨r, h3, .inr (.inl ⟨rfl, p, s, ws, rfl, h1, h2, h1.lt.1, h1.lt.2.1, h1.lt.2.2⟩), Tyd.b _ _⟩
theorem NRy.way {b : Nat} {rs : List (Int × Int)} (h : NRy w b v rs) (hg : R.Rn.Ok rs) (r : Nat) : Way w w.heap.size v (R.Rn.flat rs) 3 r := by
  obtain ⟨u, rfl, ho⟩ := h
  obtain ⟨U, c, rfl, hr, hc⟩ := R.Rq.of_own ho
  exact ⟨.inr (.inr ⟨rfl, rs, U, c, rfl, hr, hg, rfl, hc⟩), Tyd.ownR ho⟩
end
/-- The words' block behind a change: the elder one, or a new one. -/
def OldR (w : World) (k r k' r' : Nat) : Prop := k' = 2 → (k = 2 ∧ r' = r) ∨ w.heap.size ≤ r'
/-- What plain answers: the numbers, kept plain. -/
def PlainP (w : World) (k r : Nat) (xs : List Int) (e : Ending) (w' : World) : Prop := ∃ v' r', e = .returned v' ∧ Way w' w'.heap.size v' xs (pk xs) r' ∧ OldR w k r (pk xs) r' ∧ Below w.heap.size w w'
theorem plain_any (w : World) (B : Nat) (v : Value) (xs : List Int) (k r : Nat) (m : Way w B v xs k r) (u : Up16 xs) (hB : B ≤ w.heap.size) (hT : Tab w) : Calls Tryz.prog 48 #[v] w (PlainP w k r xs) := by
  have few := u.few
  rcases Nat.lt_or_ge 4096 xs.length with hc | hc
  · rcases m.1 with ⟨_, U, c, rfl, h2, h3⟩ | ⟨e, p, s, ws, rfl, h2, rfl, h4, h5, h6⟩ | ⟨_, rs, U, c, rfl, h2, h3, rfl, h4⟩
    · refine (plain_A_many w U _ c xs (askA_Len w _ _ U xs rfl) u.up u.range (fun W hW => asA_list W B _ _ U xs rfl (h2.below hW hB) (Nat.le_trans hB hW.size) (by omega)) hc).mono ?_
      rintro e w' ⟨v', rfl, h, hb⟩
      obtain ⟨r', hr, hw⟩ := h.way
      exact ⟨v', r', rfl, by rw [pk_many hc]; exact hw, fun _ => .inr hr, hb⟩
    · refine (plain_B_many w p _ (askB_Len w p s r ws h2) hc).mono ?_
      rintro e' w' ⟨rfl, hb⟩
      have hw : Way w B (vB p) (sl ws) 2 r := ⟨.inr (.inl ⟨rfl, p, s, ws, rfl, h2, rfl, h4, h5, h6⟩), Tyd.b _ _⟩
      exact ⟨_, r, rfl, by rw [pk_many hc]; exact (hw.below hb hB (Nat.le_refl _)).more (Nat.le_trans hB hb.size), fun _ => .inl ⟨e, rfl⟩, hb⟩
    · refine (plain_R_many w U _ c _ (askR_Len w B _ _ U rs rfl h2 hB h3) u.up u.range (fun W hW => asR_list W B _ _ U rs rfl (h2.below hW hB) (Nat.le_trans hB hW.size) h3) hc).mono ?_
      rintro e w' ⟨v', rfl, h, hb⟩
      obtain ⟨r', hr, hw⟩ := h.way
      exact ⟨v', r', rfl, by rw [pk_many hc]; exact hw, fun _ => .inr hr, hb⟩
  · rcases m.1 with ⟨_, U, c, rfl, h2, h3⟩ | ⟨e, p, s, ws, rfl, h2, rfl, h4, h5, h6⟩ | ⟨_, rs, U, c, rfl, h2, h3, rfl, h4⟩
    · refine (plain_A_few w U _ c xs (askA_Len w _ _ U xs rfl) hc).mono ?_
      rintro e w' ⟨rfl, hb⟩
      have hw : Way w B (vA U xs.length c) xs 1 r := ⟨.inl ⟨rfl, U, c, rfl, h2, h3⟩, m.2⟩
      exact ⟨_, r, rfl, by rw [pk_few hc]; exact (hw.below hb hB (Nat.le_refl _)).more (Nat.le_trans hB hb.size), fun h => (by rw [pk_few hc] at h; cases h), hb⟩
    · refine (plain_B_few w p _ (askB_Len w p s r ws h2) u.up u.range (fun W hW => asB_list W p s r ws (h2.below hW (by omega) (by omega) (by omega)) (hT.below hW hT.pos)) hc).mono ?_
      rintro e w' ⟨v', rfl, h, hb⟩
      exact ⟨v', r, rfl, by rw [pk_few hc]; exact h.way r, fun h => (by rw [pk_few hc] at h; cases h), hb⟩
    · refine (plain_R_few w U _ c _ (askR_Len w B _ _ U rs rfl h2 hB h3) u.up u.range (fun W hW => asR_list W B _ _ U rs rfl (h2.below hW hB) (Nat.le_trans hB hW.size) h3) hc).mono ?_
      rintro e w' ⟨v', rfl, h, hb⟩
      exact ⟨v', r, rfl, by rw [pk_few hc]; exact h.way r, fun h => (by rw [pk_few hc] at h; cases h), hb⟩
/-- What bits answers: a bitmap of the numbers, the box's own (2) or a new one. -/
def BitsP (w : World) (B : Nat) (v : Value) (k r : Nat) (xs : List Int) (e : Ending) (w' : World) : Prop := ∃ p s h us, e = .returned (.pointer (some ⟨p, 0, none⟩)) ∧ Bm w' p s h us ∧ sl us = xs ∧ Below w.heap.size w w' ∧ ((k = 2 ∧ v = vB p ∧ h = r ∧ p < B ∧ s < B ∧ h < B) ∨ (k ≠ 2 ∧ w.heap.size ≤ p ∧ w.heap.size ≤ s ∧ w.heap.size ≤ h))
theorem bits_any (w : World) (B : Nat) (v : Value) (xs : List Int) (k r : Nat) (m : Way w B v xs k r) (u : Up16 xs) (hB : B ≤ w.heap.size) : Calls Tryz.prog 71 #[v] w (BitsP w B v k r xs) := by
  have few := u.few
  rcases m.1 with ⟨rfl, U, c, rfl, h2, h3⟩ | ⟨rfl, p, s, ws, rfl, h2, rfl, h4, h5, h6⟩ | ⟨rfl, rs, U, c, rfl, h2, h3, rfl, h4⟩
  · refine (bits_A w U _ c xs u.up u.range (fun W hW => asA_list W B _ _ U xs rfl (h2.below hW hB) (Nat.le_trans hB hW.size) (by omega))).mono ?_
    rintro e w' ⟨p, s, h, us, rfl, a1, a2, a3, a4, a5, hb⟩
    exact ⟨p, s, h, us, rfl, a1, a2, hb, .inr ⟨by decide, a3, a4, a5⟩⟩
  · refine (bits_B w p).mono ?_
    rintro e w' ⟨rfl, hb⟩
    exact ⟨p, s, r, ws, rfl, h2.below hb (by omega) (by omega) (by omega), rfl, hb, .inl ⟨rfl, rfl, rfl, h4, h5, h6⟩⟩
  · refine (bits_R w U _ c _ u.up u.range (fun W hW => asR_list W B _ _ U rs rfl (h2.below hW hB) (Nat.le_trans hB hW.size) h3)).mono ?_
    rintro e w' ⟨p, s, h, us, rfl, a1, a2, a3, a4, a5, hb⟩
    exact ⟨p, s, h, us, rfl, a1, a2, hb, .inr ⟨by decide, a3, a4, a5⟩⟩
end Go.Proofs.YtkehehfphccpbaaGreatDoor
end
section
namespace Go.Proofs.YtkehehfphccpbaaGreatDoor
set_option maxRecDepth 40000
open Go.RowKit
theorem sub_same {l m : List Int} (hl : l.Pairwise (· < ·)) (hm : m.Pairwise (· < ·)) (h : ∀ y ∈ l, y ∈ m) (he : m.length ≤ l.length) : l = m := by
  have e : l = m.filter (fun y => decide (y ∈ l)) := M.sorted_ext hl (hm.filter _) (fun y => by
    rw [List.mem_filter, decide_eq_true_eq]
    exact ⟨fun hy => ⟨h y hy, hy⟩, fun hy => hy.2⟩)
  have h1 : (m.filter (fun y => decide (y ∈ l))).length = m.length := by
    have h2 := List.length_filter_le (fun y => decide (y ∈ l)) m
    rw [← e] at h2 ⊢
    omega
  have h3 := List.length_filter_eq_length_iff.1 h1
  have h4 : m.filter (fun y => decide (y ∈ l)) = m := List.filter_eq_self.2 h3
  rw [h4] at e
  exact e
theorem chg_zero {o : Bool} {l m : List Int} {f t : Int} (hl : l.Pairwise (· < ·)) (h : M.Chg o l m f t 0) : m = l := by
  obtain ⟨h1, h2, h3⟩ := h
  cases o
  · rw [if_neg (by decide)] at h3
    refine sub_same h1 hl (fun y hy => ?_) (by omega)
    have := (h2 y).1 hy
    split at this
    · exact absurd this (by decide)
    · exact this
  · rw [if_pos rfl] at h3
    refine (sub_same hl h1 (fun y hy => ?_) (by omega)).symm
    refine (h2 y).2 ?_
    split
    · rfl
    · exact hy
theorem chg_up {o : Bool} {l m : List Int} {f t : Int} {n : Nat} (hl : Up16 l) (h : M.Chg o l m f t n) (hf : 0 ≤ f) (ht : t ≤ 65535) : Up16 m := by
  refine ⟨h.1, fun y hy => ?_⟩
  have := (h.2.1 y).1 hy
  split at this
  · omega
  · exact hl.range y this
theorem chg_has {l : List Int} {v : Int} (hl : l.Pairwise (· < ·)) (h : v ∈ l) : M.Chg true l l v v 0 := by
  refine ⟨hl, fun y => ?_, by simp⟩
  by_cases e : y = v
  · subst e; rw [if_pos ⟨Int.le_refl _, Int.le_refl _⟩]; simp [h]
  · rw [if_neg (by omega)]
theorem chg_lacks {l : List Int} {v : Int} (hl : l.Pairwise (· < ·)) (h : ¬ v ∈ l) : M.Chg false l l v v 0 := by
  refine ⟨hl, fun y => ?_, by simp⟩
  by_cases e : y = v
  · subst e; rw [if_pos ⟨Int.le_refl _, Int.le_refl _⟩]; simp [h]
  · rw [if_neg (by omega)]
theorem chg_add {l m : List Int} {v : Int} (hl : l.Pairwise (· < ·)) (hm : m.Pairwise (· < ·)) (h : ∀ x, x ∈ m ↔ x ∈ l ∨ x = v) (hv : ¬ v ∈ l) : M.Chg true l m v v 1 := by
  refine ⟨hm, fun y => ?_, ?_⟩
  · by_cases e : y = v
    · subst e; rw [if_pos ⟨Int.le_refl _, Int.le_refl _⟩]; simp [h y]
    · rw [if_neg (by omega), h y]; simp [e]
  · rw [if_pos rfl]
    have h1 : m.length ≤ (v :: l).length := M.up_len hm (fun y hy => by
      rcases (h y).1 hy with e | e
      · exact List.mem_cons_of_mem _ e
      · subst e; exact List.mem_cons_self ..)
    have hvm : v ∈ m := (h v).2 (.inr rfl)
    have h2 : l.length ≤ (m.erase v).length := M.up_len hl (fun y hy => (List.mem_erase_of_ne (fun e => by rw [e] at hy; exact hv hy)).2 ((h y).2 (.inl hy)))
    rw [List.length_erase_of_mem hvm] at h2
    have h3 := List.length_pos_of_mem hvm
    rw [List.length_cons] at h1
    omega
theorem chg_flip {o : Bool} {l m : List Int} {v : Int} {n : Nat} (hl : l.Pairwise (· < ·)) (h : M.Chg o l m v v n) : M.Chg (!o) m l v v n ∨ n = 0 := by
  by_cases hn : n = 0
  · exact .inr hn
  · left
    obtain ⟨h1, h2, h3⟩ := h
    have key : ∀ y, ¬ y = v → (y ∈ m ↔ y ∈ l) := fun y e => by rw [h2 y, if_neg (by omega)]
    have hv : v ∈ m ↔ o = true := by rw [h2 v, if_pos ⟨Int.le_refl _, Int.le_refl _⟩]
    have hvl : v ∈ l ↔ ¬ o = true := by
      constructor
      · intro h5 ho
        subst ho
        have : l = m := sub_same hl h1 (fun y hy => by
          by_cases e : y = v
          · subst e; exact hv.2 rfl
          · exact (key y e).2 hy) (by
            have h6 := M.up_len (xs := l) h1 (fun y hy => by
              by_cases e : y = v
              · subst e; exact h5
              · exact (key y e).1 hy)
            exact h6)
        subst this
        rw [if_pos rfl] at h3
        omega
      · intro ho
        by_cases h5 : v ∈ l
        · exact h5
        · exfalso
          have ho : o = false := by cases o <;> simp_all
          subst ho
          rw [if_neg (by decide)] at h3
          have h6 := M.up_len (xs := m) hl (fun y hy => (key y (fun e => by rw [e] at hy; exact h5 hy)).2 hy)
          omega
    refine ⟨hl, fun y => ?_, ?_⟩
    · by_cases e : y = v
      · subst e
        rw [if_pos ⟨Int.le_refl _, Int.le_refl _⟩, hvl]
        cases o <;> simp
      · rw [if_neg (by omega), key y e]
    · cases o
      · rw [if_neg (by decide)] at h3
        simp; omega
      · rw [if_pos rfl] at h3
        simp; omega
theorem chg_drop {l m : List Int} {v : Int} (hl : l.Pairwise (· < ·)) (hm : m.Pairwise (· < ·)) (h : ∀ x, x ∈ m ↔ x ∈ l ∧ x ≠ v) (hv : v ∈ l) : M.Chg false l m v v 1 := by
  have := chg_add hm hl (fun x => by
    rw [h x]
    by_cases e : x = v
    · subst e; simp [hv]
    · simp [e]) (fun h' => ((h v).1 h').2 rfl)
  rcases chg_flip hm this with h5 | h5
  · exact h5
  · exact absurd h5 (by decide)
/-- Block g is none in which numbers are kept. -/
structure Alien (w : World) (g : Nat) : Prop where
  row : ∃ cs T, w.heap[g]? = some (.cells cs T (0, 0)) ∧ T ≠ 89 ∧ T ≠ 116 ∧ T ≠ 117 ∧ T ≠ 35 ∧ T ≠ 112
  cell : ∀ (o : Nat) (i : Int), w.cell? ⟨g, o, none⟩ ≠ some (.int .u16 i)
theorem Alien.of {w : World} {g : Nat} {cs : Array Value} {T : TypeId} (h : w.heap[g]? = some (.cells cs T (0, 0))) (h1 : T ≠ 89) (h2 : T ≠ 116) (h3 : T ≠ 117) (h4 : T ≠ 35) (h5 : T ≠ 112) (hc : ∀ (o : Nat) (i : Int), cs[o]? ≠ some (Value.int .u16 i)) : Alien w g :=
  ⟨⟨cs, T, h, h1, h2, h3, h4, h5⟩, fun o i e => hc o i (by rw [cell_of_row _ _ _ _ _ (0, 0) h] at e; exact e)⟩
theorem Bx.alien {w : World} {q : Nat} {t : TypeId} {x : Value} (a : Bx w q (.iface t x)) : Alien w q :=
  Alien.of a.row (by decide) (by decide) (by decide) (by decide) (by decide) (fun o i => by
    match o with
    | 0 => intro e; cases e
    | o + 1 => intro e; simp at e)
theorem Bs.alien {w : World} {g n : Nat} {bs : List Bool} (a : Bs w g n bs) : Alien w g :=
  Alien.of a.row (by decide) (by decide) (by decide) (by decide) (by decide) (fun o i e => by
    rw [List.getElem?_toArray, List.getElem?_map] at e
    cases h : bs[o]? with
    | none => rw [h] at e; cases e
    | some x => rw [h] at e; cases e)
theorem cell_keep {w w' : World} {B g b o : Nat} {i : Int} (ha : Alien w g) (hk : ∀ j, j < B → j ≠ g → w'.heap[j]? = w.heap[j]?) (hb : b < B) (h : w.cell? ⟨b, o, none⟩ = some (.int .u16 i)) : w'.cell? ⟨b, o, none⟩ = some (.int .u16 i) := by
  have hne : b ≠ g := fun e => by subst e; exact ha.cell o i h
  unfold World.cell? at h ⊢
  rw [hk b hb hne]
  exact h
theorem Rh.keep {w w' : World} {B C g : Nat} {U : Option Addr} {xs : List Int} (h : Rh w B U xs) (ha : Alien w g) (hk : ∀ j, j < C → j ≠ g → w'.heap[j]? = w.heap[j]?) (hB : B ≤ C) : Rh w' B U xs := fun hne => by
  obtain ⟨b, off, h1, h2, h3⟩ := h hne
  exact ⟨b, off, h1, h2, fun k hk' => cell_keep ha hk (by omega) (h3 k hk')⟩
theorem Rq_keep {w w' : World} {B C g : Nat} {U : Option Addr} {rs : List (Int × Int)} (h : R.Rq w B U rs) (ha : Alien w g) (hk : ∀ j, j < C → j ≠ g → w'.heap[j]? = w.heap[j]?) (hB : B ≤ C) : R.Rq w' B U rs := fun hne => by
  obtain ⟨b, off, h1, h2, h3⟩ := h hne
  exact ⟨b, off, h1, h2, fun k hk' => ⟨cell_keep ha hk (by omega) (h3 k hk').1, cell_keep ha hk (by omega) (h3 k hk').2⟩⟩
theorem Alien.ne_bm {w : World} {g p s h : Nat} {ws : List Nat} (ha : Alien w g) (m : Bm w p s h ws) : p ≠ g ∧ s ≠ g ∧ h ≠ g := by
  obtain ⟨cs, T, h1, h2, h3, h4, _⟩ := ha.row
  refine ⟨fun e => ?_, fun e => ?_, fun e => ?_⟩
  · have := m.row; rw [e, h1] at this; cases this; exact h2 rfl
  · have := m.st.1; rw [e, h1] at this; cases this; exact h3 rfl
  · have := m.st.2.1; rw [e, h1] at this; cases this; exact h4 rfl
theorem Bm.keep {w w' : World} {p s h : Nat} {ws : List Nat} (m : Bm w p s h ws) (hp : w'.heap[p]? = w.heap[p]?) (hs : w'.heap[s]? = w.heap[s]?) (hh : w'.heap[h]? = w.heap[h]?) : Bm w' p s h ws :=
  ⟨hp.trans m.row, ⟨hs.trans m.st.1, hh.trans m.st.2.1, m.st.2.2.1, m.st.2.2.2⟩, m.len⟩
theorem Tyd.keep {w w' : World} {g : Nat} {v : Value} (h : Tyd w v) (hg : ∀ cs T, w.heap[g]? = some (.cells cs T (0, 0)) → T ≠ 35 ∧ T ≠ 112) (hk : ∀ j, j < w.heap.size → j ≠ g → w'.heap[j]? = w.heap[j]?) : Tyd w' v := fun U n c e hn => by
  obtain ⟨g', off, cs, T, h1, h2, h3⟩ := h U n c e hn
  refine ⟨g', off, cs, T, h1, (hk g' (Array.getElem?_eq_some_iff.1 h2).1 (fun e2 => ?_)).trans h2, h3⟩
  subst e2
  obtain ⟨a1, a2⟩ := hg cs T h2
  rcases h3 with e3 | e3
  · exact a1 e3
  · exact a2 e3
theorem Way.keep {w w' : World} {B g : Nat} {v : Value} {xs : List Int} {k r : Nat} (h : Way w B v xs k r) (ha : Alien w g) (hk : ∀ j, j < w.heap.size → j ≠ g → w'.heap[j]? = w.heap[j]?) (hB : B ≤ w.heap.size) : Way w' B v xs k r := by
  have hk0 := hk
  replace hk : ∀ j, j < B → j ≠ g → w'.heap[j]? = w.heap[j]? := fun j hj => hk0 j (by omega)
  refine ⟨?_, h.2.keep (fun cs T hg => by
    obtain ⟨cs2, T2, h1, _, _, _, h5, h6⟩ := ha.row
    rw [hg] at h1
    cases h1
    exact ⟨h5, h6⟩) hk0⟩
  rcases h.1 with ⟨e, U, c, h1, h2, h3⟩ | ⟨e, p, s, ws, h1, h2, h3, h4, h5, h6⟩ | ⟨e, rs, U, c, h1, h2, h3⟩
  · exact .inl ⟨e, U, c, h1, h2.keep ha hk (Nat.le_refl _), h3⟩
  · obtain ⟨n1, n2, n3⟩ := ha.ne_bm h2
    exact .inr (.inl ⟨e, p, s, ws, h1, h2.keep (hk p h4 n1) (hk s h5 n2) (hk r h6 n3), h3, h4, h5, h6⟩)
  · exact .inr (.inr ⟨e, rs, U, c, h1, Rq_keep h2 ha hk (Nat.le_refl _), h3⟩)
/-- A box at block q: its numbers; kept as runs, or plain; the words of a bitmap lie in block r. -/
structure Bo (w : World) (q r : Nat) (xs : List Int) (long : Bool) : Prop where
  u : Up16 xs
  kept : ∃ v, Bx w q v ∧ Way w w.heap.size v xs (kd long xs) r
section
variable {w w' : World} {q r : Nat} {xs : List Int} {long : Bool}
theorem Bo.lt (b : Bo w q r xs long) : q < w.heap.size := by obtain ⟨v, h, _⟩ := b.kept; exact h.lt
theorem Bo.next (b : Bo w q r xs long) (hb : Below w.heap.size w w') : Bo w' q r xs long := by
  obtain ⟨v, h, m⟩ := b.kept
  exact ⟨b.u, v, h.all_below hb, m.next hb⟩
theorem Bo.alien (b : Bo w q r xs long) : Alien w q := by
  obtain ⟨v, h, m⟩ := b.kept
  obtain ⟨t, x, rfl⟩ := m.form
  exact h.alien
theorem Bo.keep {g : Nat} (b : Bo w q r xs long) (ha : Alien w g) (hq : q ≠ g) (hs : w.heap.size ≤ w'.heap.size) (hk : ∀ j, j < w.heap.size → j ≠ g → w'.heap[j]? = w.heap[j]?) : Bo w' q r xs long := by
  obtain ⟨v, h, m⟩ := b.kept
  exact ⟨b.u, v, ⟨(hk q h.lt hq).trans h.row⟩, (m.keep ha hk (Nat.le_refl _)).more hs⟩
theorem Bo.rlt (b : Bo w q r xs long) (h : kd long xs = 2) : r < w.heap.size := by
  obtain ⟨v, _, m⟩ := b.kept
  rcases m.1 with ⟨e, _⟩ | ⟨_, p, s, ws, _, _, _, _, _, h6⟩ | ⟨e, _⟩
  · omega
  · exact h6
  · omega
end
/-- A row of another type may change. -/
theorem Bo.keepT {w w' : World} {q r : Nat} {xs : List Int} {long : Bool} {g : Nat} {cs : Array Value} {T : TypeId} (b : Bo w q r xs long) (hg : w.heap[g]? = some (.cells cs T (0, 0))) (h0 : T ≠ 57) (h1 : T ≠ 89) (h2 : T ≠ 116) (h3 : T ≠ 117) (h4 : T ≠ 35) (h5 : T ≠ 112)
    (hs : w.heap.size ≤ w'.heap.size) (hk : ∀ j, j < w.heap.size → j ≠ g → w'.heap[j]? = w.heap[j]?) : Bo w' q r xs long := by
  have ty : ∀ {j : Nat} {ds : Array Value} {S : TypeId}, w.heap[j]? = some (.cells ds S (0, 0)) → T ≠ S → w'.heap[j]? = w.heap[j]? := fun {j ds S} hj hne => hk j (Array.getElem?_eq_some_iff.1 hj).1 (fun e => by
    subst e
    rw [hg] at hj
    injection hj with hj
    injection hj with _ hj
    exact hne hj)
  obtain ⟨v, a, m⟩ := b.kept
  refine ⟨b.u, v, ⟨(ty a.row h0).trans a.row⟩, Way.more ⟨?_, m.2.keep (g := g) (fun cs2 T2 h => by rw [hg] at h; cases h; exact ⟨h4, h5⟩) hk⟩ hs⟩
  have cell : ∀ {U : Option Addr} {b' off n o : Nat} {u : Value}, U = some ⟨b', off, none⟩ → (∃ c, v = vA U n c ∨ v = vR U n c) → n ≠ 0 → w.cell? ⟨b', o, none⟩ = some u → w'.cell? ⟨b', o, none⟩ = some u := fun {U b' off n o u} hU hv hn hc => by
    obtain ⟨c, hv⟩ := hv
    obtain ⟨g', off', ds, S, e1, e2, e3⟩ := m.2 U n c hv hn
    rw [hU] at e1
    cases e1
    have hh := ty e2 (by rcases e3 with e3 | e3 <;> rw [e3] <;> assumption)
    unfold World.cell? at hc ⊢
    rw [hh]
    exact hc
  rcases m.1 with ⟨e, U, c, hv, h6, h7⟩ | ⟨e, p, s, ws, hv, h6, h7, h8⟩ | ⟨e, rs, U, c, hv, h6, h7, h8, h9⟩
  · refine .inl ⟨e, U, c, hv, fun hne => ?_, h7⟩
    obtain ⟨b', off, e1, e2, e3⟩ := h6 hne
    exact ⟨b', off, e1, e2, fun k hk' => cell e1 ⟨c, .inl hv⟩ (fun e0 => hne (List.eq_nil_of_length_eq_zero e0)) (e3 k hk')⟩
  · exact .inr (.inl ⟨e, p, s, ws, hv, h6.keep (ty h6.row h1) (ty h6.st.1 h2) (ty h6.st.2.1 h3), h7, h8⟩)
  · refine .inr (.inr ⟨e, rs, U, c, hv, fun hne => ?_, h7, h8, h9⟩)
    obtain ⟨b', off, e1, e2, e3⟩ := h6 hne
    have hn : rs.length ≠ 0 := fun e0 => hne (List.eq_nil_of_length_eq_zero e0)
    exact ⟨b', off, e1, e2, fun k hk' => ⟨cell e1 ⟨c, .inr hv⟩ hn (e3 k hk').1, cell e1 ⟨c, .inr hv⟩ hn (e3 k hk').2⟩⟩
/-- The cost of these numbers, kept so. -/
def pcost (xs : List Int) : Nat := if xs.length ≤ 4096 then xs.length else 1024
def bcost (long : Bool) (xs : List Int) : Nat := if long then 2 * R.cst xs xs else pcost xs
theorem nr_cst {w : World} {B : Nat} {v : Value} {xs : List Int} {rs : List (Int × Int)} (hu : Up16 xs) (h : NR w B v xs rs) : rs.length = R.cst xs xs := by
  obtain ⟨U, c, h1, h2, h3, h4, h5⟩ := h
  have e := R.Rn.starts_len h3 hu.up (fun x => by rw [← h4, R.Rn.mem_flat])
  exact e.symm
end Go.Proofs.YtkehehfphccpbaaGreatDoor
end
section
namespace Go.Proofs.YtkehehfphccpbaaGreatDoor
set_option maxRecDepth 40000
open Go.RowKit
theorem Tab.ne_bm {w : World} (t : Tab w) {p s h : Nat} {ws : List Nat} (m : Bm w p s h ws) : h ≠ 0 := fun e => by
  have h1 := t 0 (by decide)
  subst e
  rw [cell_of_row _ _ _ _ _ (0, 0) m.st.2.1] at h1
  rw [List.getElem?_toArray, List.getElem?_map] at h1
  cases e2 : ws[0]? with
  | none => rw [e2] at h1; cases h1
  | some x => rw [e2] at h1; cases h1
theorem Tab.ne_bx {w : World} (t : Tab w) {q : Nat} {ty : TypeId} {x : Value} (a : Bx w q (.iface ty x)) : q ≠ 0 := fun e => by
  have h1 := t 0 (by decide)
  subst e
  rw [a.c0] at h1
  cases h1
theorem Tab.grown {w w' : World} (t : Tab w) {h : Nat} (hg : w.grownBy w' (some h)) (hh : h ≠ 0) : Tab w' := fun j hj => by
  have h1 := t j hj
  have hp := t.pos
  unfold World.cell? at h1 ⊢
  rw [hg.block 0 hp (by intro e; cases e; exact hh rfl)]
  exact h1
theorem set_below {w : World} {q : Nat} {v : Value} {j : Nat} (h : j ≠ q) : (w.setCell ⟨q, 0, none⟩ v).heap[j]? = w.heap[j]? := by
  unfold World.setCell
  rw [Array.getElem?_modify, if_neg (by show ¬ q = j; exact fun e => h e.symm)]
/-- What a change of a box leaves: n of the numbers from f up to t were changed. -/
def ChP (o : Bool) (w : World) (q r : Nat) (xs : List Int) (long : Bool) (f t : Int) (n : Nat) (w' : World) : Prop :=
  ∃ ys r', M.Chg o xs ys f t n ∧ Bo w' q r' ys (long && decide (n = 0)) ∧ OldR w (kd long xs) r (kd (long && decide (n = 0)) ys) r' ∧ ButS w w' (fun j => j = q ∨ (kd long xs = 2 ∧ j = r))
/-- A box's new value is stored. -/
theorem Bo.store {w : World} {q : Nat} {v u : Value} {ys : List Int} {k r : Nat} {long : Bool} (a : Bx w q u) (al : Alien w q) (hy : Up16 ys) (m : Way w w.heap.size v ys k r) (hk : kd long ys = k) : Bo (w.setCell ⟨q, 0, none⟩ v) q r ys long := by
  subst hk
  have hs : (w.setCell ⟨q, 0, none⟩ v).heap.size = w.heap.size := by simp [World.setCell]
  refine ⟨hy, v, a.kept v, ?_⟩
  rw [hs]
  exact m.keep al (fun j _ hne => set_below hne) (Nat.le_refl _)
theorem kd_false (xs : List Int) : kd false xs = pk xs := rfl
theorem kd_true (xs : List Int) : kd true xs = 3 := rfl
set_option maxHeartbeats 4000000 in
theorem change_fill (w : World) (q r : Nat) (xs : List Int) (long : Bool) (b : Bo w q r xs long) (hT : Tab w) (f t : Nat) (hf : f ≤ 65535) (ht : t ≤ 65535) (b1 b2 : Nat) (c1 : w.cell? ⟨b1, 0, none⟩ = some (.int .u16 (f : Int))) (c2 : w.cell? ⟨b2, 0, none⟩ = some (.int .u16 (t : Int))) (hb1 : b1 < w.heap.size) (hb2 : b2 < w.heap.size) :
    Calls Tryz.prog 42 #[.pointer (some ⟨q, 0, none⟩), .func (.func 43) #[] #[.pointer (some ⟨b1, 0, none⟩), .pointer (some ⟨b2, 0, none⟩)]] w fun e w' => ∃ n : Nat, e = .returned (.int .i64 (n : Int)) ∧ ChP true w q r xs long (f : Int) (t : Int) n w' := by
  obtain ⟨v, a, m⟩ := b.kept
  have hU := Lib.hid b.u
  have hAl := Lib.hid b.alien
  have hA := Lib.hid a
  have hTH := Lib.hid hT
  have c0 := a.c0
  have HB := Lib.hid (bits_any w w.heap.size v xs _ r m b.u (Nat.le_refl _))
  have HM := Lib.hid m
  have hqne : Hid (q ≠ 0) := Lib.hid (by
    obtain ⟨ty, x, rfl⟩ := m.form
    exact hT.ne_bx a)
  have C1 := Lib.hid (And.intro c1 (And.intro c2 (And.intro hb1 hb2)))
  obtain ⟨k, hk⟩ : ∃ k, kd long xs = k := ⟨_, rfl⟩
  have HK := Lib.hid hk
  rw [hk] at HB HM
  clear b a m hT c1 c2 hb1 hb2 hk
  go_enter Tryz.func42, Tryz.ntmps42
  go_wp2_with (go_at_call 71; (with_reducible refine HB.out.mono ?_); rintro e w1 ⟨p, s, h, us, rfl, hm1, hs1, hb1, hw1⟩
               have HM1 := Lib.hid hm1
               have HS1 := Lib.hid hs1
               have HB1 := Lib.hid hb1
               have HW1 := Lib.hid hw1
               have HF := Lib.hid (fill_fn w1 p s h us hm1 f t hf ht b1 b2 ((hb1.cell (p := ⟨b1, 0, none⟩) C1.out.2.2.1).trans C1.out.1) ((hb1.cell (p := ⟨b2, 0, none⟩) C1.out.2.2.2).trans C1.out.2.1))
               clear hm1 hs1 hb1 hw1 HB)
  go_wp2_with (go_at_call 43; (with_reducible refine HF.out.mono ?_); rintro e w2 ⟨n, rfl, us2, hc2, hm2, hg2⟩
               have HC2 := Lib.hid hc2
               have HM2 := Lib.hid hm2
               have HG2 := Lib.hid hg2
               clear hc2 hm2 hg2 HF
               have hne0 : Hid (h ≠ 0) := Lib.hid ((hTH.out.below HB1.out hTH.out.pos).ne_bm HM1.out)
               have hT2 : Hid (Tab w2) := Lib.hid ((hTH.out.below HB1.out hTH.out.pos).grown HG2.out hne0.out)
               have hqh : Hid (q ≠ h) := Lib.hid (by
                 have hv := HM.out.form
                 have hax := hA.out.all_below HB1.out
                 obtain ⟨ty, x, hv⟩ := hv
                 rw [hv] at hax
                 exact fun e => (hax.alien.ne_bm HM1.out).2.2 e.symm)
               have hA2 : Hid (Bx w2 q v) := Lib.hid ⟨(HG2.out.block q (Nat.lt_of_lt_of_le hA.out.lt HB1.out.size) (by intro e; cases e; exact hqh.out rfl)).trans (hA.out.all_below HB1.out).row⟩
               have c02 := hA2.out.c0
               have HU2 : Hid (Up16 (sl us2)) := Lib.hid (by
                 have := HC2.out
                 rw [HS1.out] at this
                 exact chg_up hU.out this (by omega) (by omega))
               have HBut : Hid (ButS w w2 (fun j => j = q ∨ (k = 2 ∧ j = r))) := Lib.hid ((ButS.of_below HB1.out (Nat.le_refl _)).then (ButS.of_grown (S := fun j => j = h) HG2.out (fun j e => by cases e; rfl)) (fun j e => by
                 subst e
                 rcases HW1.out with ⟨h1, _, h2, _⟩ | ⟨_, _, _, h2⟩
                 · exact .inl (.inr ⟨h1, h2⟩)
                 · exact .inr h2))
               have HP := Lib.hid (plain_any w2 w2.heap.size (vB p) (sl us2) 2 h ⟨.inr (.inl ⟨rfl, p, s, us2, rfl, HM2.out, rfl, HM2.out.lt.1, HM2.out.lt.2.1, HM2.out.lt.2.2⟩), Tyd.b _ _⟩ HU2.out (Nat.le_refl _) hT2.out))
  · have hpos : 0 < n := by first | assumption | (simp at *; omega)
    unfold vB at HP
    go_wp2_with (go_at_call 48; (with_reducible refine HP.out.mono ?_); rintro e w3 ⟨v3, r3, rfl, hw3, hr3, hb3⟩; obtain ⟨t3, x3, rfl⟩ := hw3.form
                 have HW3 := Lib.hid hw3
                 have HR3 := Lib.hid hr3
                 have HB3 := Lib.hid hb3
                 have hA3 : Hid (Bx w3 q v) := Lib.hid (hA2.out.all_below hb3)
                 have c03 := hA3.out.c0
                 have fz : w3.frozen? ⟨q, 0, none⟩ = false := by simp [World.frozen?, hA3.out.row]
                 clear hw3 hr3 hb3 HP)
    go_ret
    have hd : (long && decide (n = 0)) = false := by rw [decide_eq_false (by omega), Bool.and_false]
    refine ⟨n, rfl, sl us2, r3, by rw [← HS1.out]; exact HC2.out, ?_, ?_, ?_⟩
    · rw [hd]
      have hal3 : Alien w3 q := by
        obtain ⟨ty, x, rfl⟩ := HM.out.form
        exact hA3.out.alien
      exact Bo.store hA3.out hal3 HU2.out HW3.out rfl
    · rw [hd, kd_false]
      intro hk2
      have hz2 := HG2.out.size
      have hz1 := HB1.out.size
      rcases HR3.out hk2 with ⟨_, e⟩ | e
      · subst e
        rw [HK.out]
        rcases HW1.out with ⟨h1, _, h2, _⟩ | ⟨_, _, _, h2⟩
        · exact .inl ⟨h1, h2⟩
        · exact .inr h2
      · exact .inr (by omega)
    · rw [HK.out]
      exact (HBut.out.trans (ButS.of_below HB3.out (Nat.le_refl _))).trans (but_set' _ q 0 _ _ (.inl rfl))
  · obtain rfl : n = 0 := by first | omega | (simp at *; omega)
    go_ret
    have hsame : sl us2 = xs := by
      have h1 := HC2.out
      rw [HS1.out] at h1
      exact chg_zero hU.out.up h1
    have hd : (long && decide (0 = 0)) = long := by simp
    refine ⟨0, rfl, sl us2, r, by rw [← HS1.out]; exact HC2.out, ?_, ?_, by rw [HK.out]; exact HBut.out⟩
    · have hd : (long && decide (0 = 0)) = long := by simp
      rw [hd, hsame]
      refine ⟨hU.out, v, hA2.out, ?_⟩
      rw [HK.out]
      rcases HW1.out with ⟨h1, hv, h2, h3, h4, h5⟩ | ⟨h1, h2, h3, h4⟩
      · subst hv
        subst h2
        exact ⟨.inr (.inl ⟨h1, p, s, us2, rfl, HM2.out, hsame, HM2.out.lt.1, HM2.out.lt.2.1, HM2.out.lt.2.2⟩), Tyd.b _ _⟩
      · have hbw : Below w.heap.size w w2 := HB1.out.trans ((ButS.of_grown (S := fun j => j = h) HG2.out (fun j e => by cases e; rfl)).below HB1.out.size (fun j e => by subst e; exact h4))
        exact HM.out.next hbw
    · have hd : (long && decide (0 = 0)) = long := by simp
      rw [hd, hsame]
      intro h2
      exact .inl ⟨h2, rfl⟩
set_option maxHeartbeats 4000000 in
theorem change_wipe (w : World) (q r : Nat) (xs : List Int) (long : Bool) (b : Bo w q r xs long) (hT : Tab w) (f t : Nat) (hf : f ≤ 65535) (ht : t ≤ 65535) (b1 b2 : Nat) (c1 : w.cell? ⟨b1, 0, none⟩ = some (.int .u16 (f : Int))) (c2 : w.cell? ⟨b2, 0, none⟩ = some (.int .u16 (t : Int))) (hb1 : b1 < w.heap.size) (hb2 : b2 < w.heap.size) :
    Calls Tryz.prog 42 #[.pointer (some ⟨q, 0, none⟩), .func (.func 45) #[] #[.pointer (some ⟨b1, 0, none⟩), .pointer (some ⟨b2, 0, none⟩)]] w fun e w' => ∃ n : Nat, e = .returned (.int .i64 (n : Int)) ∧ ChP false w q r xs long (f : Int) (t : Int) n w' := by
  obtain ⟨v, a, m⟩ := b.kept
  have hU := Lib.hid b.u
  have hAl := Lib.hid b.alien
  have hA := Lib.hid a
  have hTH := Lib.hid hT
  have c0 := a.c0
  have HB := Lib.hid (bits_any w w.heap.size v xs _ r m b.u (Nat.le_refl _))
  have HM := Lib.hid m
  have hqne : Hid (q ≠ 0) := Lib.hid (by
    obtain ⟨ty, x, rfl⟩ := m.form
    exact hT.ne_bx a)
  have C1 := Lib.hid (And.intro c1 (And.intro c2 (And.intro hb1 hb2)))
  obtain ⟨k, hk⟩ : ∃ k, kd long xs = k := ⟨_, rfl⟩
  have HK := Lib.hid hk
  rw [hk] at HB HM
  clear b a m hT c1 c2 hb1 hb2 hk
  go_enter Tryz.func42, Tryz.ntmps42
  go_wp2_with (go_at_call 71; (with_reducible refine HB.out.mono ?_); rintro e w1 ⟨p, s, h, us, rfl, hm1, hs1, hb1, hw1⟩
               have HM1 := Lib.hid hm1
               have HS1 := Lib.hid hs1
               have HB1 := Lib.hid hb1
               have HW1 := Lib.hid hw1
               have HF := Lib.hid (wipe_fn w1 p s h us hm1 f t hf ht b1 b2 ((hb1.cell (p := ⟨b1, 0, none⟩) C1.out.2.2.1).trans C1.out.1) ((hb1.cell (p := ⟨b2, 0, none⟩) C1.out.2.2.2).trans C1.out.2.1))
               clear hm1 hs1 hb1 hw1 HB)
  go_wp2_with (go_at_call 45; (with_reducible refine HF.out.mono ?_); rintro e w2 ⟨n, rfl, us2, hc2, hm2, hg2⟩
               have HC2 := Lib.hid hc2
               have HM2 := Lib.hid hm2
               have HG2 := Lib.hid hg2
               clear hc2 hm2 hg2 HF
               have hne0 : Hid (h ≠ 0) := Lib.hid ((hTH.out.below HB1.out hTH.out.pos).ne_bm HM1.out)
               have hT2 : Hid (Tab w2) := Lib.hid ((hTH.out.below HB1.out hTH.out.pos).grown HG2.out hne0.out)
               have hqh : Hid (q ≠ h) := Lib.hid (by
                 have hv := HM.out.form
                 have hax := hA.out.all_below HB1.out
                 obtain ⟨ty, x, hv⟩ := hv
                 rw [hv] at hax
                 exact fun e => (hax.alien.ne_bm HM1.out).2.2 e.symm)
               have hA2 : Hid (Bx w2 q v) := Lib.hid ⟨(HG2.out.block q (Nat.lt_of_lt_of_le hA.out.lt HB1.out.size) (by intro e; cases e; exact hqh.out rfl)).trans (hA.out.all_below HB1.out).row⟩
               have c02 := hA2.out.c0
               have HU2 : Hid (Up16 (sl us2)) := Lib.hid (by
                 have := HC2.out
                 rw [HS1.out] at this
                 exact chg_up hU.out this (by omega) (by omega))
               have HBut : Hid (ButS w w2 (fun j => j = q ∨ (k = 2 ∧ j = r))) := Lib.hid ((ButS.of_below HB1.out (Nat.le_refl _)).then (ButS.of_grown (S := fun j => j = h) HG2.out (fun j e => by cases e; rfl)) (fun j e => by
                 subst e
                 rcases HW1.out with ⟨h1, _, h2, _⟩ | ⟨_, _, _, h2⟩
                 · exact .inl (.inr ⟨h1, h2⟩)
                 · exact .inr h2))
               have HP := Lib.hid (plain_any w2 w2.heap.size (vB p) (sl us2) 2 h ⟨.inr (.inl ⟨rfl, p, s, us2, rfl, HM2.out, rfl, HM2.out.lt.1, HM2.out.lt.2.1, HM2.out.lt.2.2⟩), Tyd.b _ _⟩ HU2.out (Nat.le_refl _) hT2.out))
  · have hpos : 0 < n := by first | assumption | (simp at *; omega)
    unfold vB at HP
    go_wp2_with (go_at_call 48; (with_reducible refine HP.out.mono ?_); rintro e w3 ⟨v3, r3, rfl, hw3, hr3, hb3⟩; obtain ⟨t3, x3, rfl⟩ := hw3.form
                 have HW3 := Lib.hid hw3
                 have HR3 := Lib.hid hr3
                 have HB3 := Lib.hid hb3
                 have hA3 : Hid (Bx w3 q v) := Lib.hid (hA2.out.all_below hb3)
                 have c03 := hA3.out.c0
                 have fz : w3.frozen? ⟨q, 0, none⟩ = false := by simp [World.frozen?, hA3.out.row]
                 clear hw3 hr3 hb3 HP)
    go_ret
    have hd : (long && decide (n = 0)) = false := by rw [decide_eq_false (by omega), Bool.and_false]
    refine ⟨n, rfl, sl us2, r3, by rw [← HS1.out]; exact HC2.out, ?_, ?_, ?_⟩
    · rw [hd]
      have hal3 : Alien w3 q := by
        obtain ⟨ty, x, rfl⟩ := HM.out.form
        exact hA3.out.alien
      exact Bo.store hA3.out hal3 HU2.out HW3.out rfl
    · rw [hd, kd_false]
      intro hk2
      have hz2 := HG2.out.size
      have hz1 := HB1.out.size
      rcases HR3.out hk2 with ⟨_, e⟩ | e
      · subst e
        rw [HK.out]
        rcases HW1.out with ⟨h1, _, h2, _⟩ | ⟨_, _, _, h2⟩
        · exact .inl ⟨h1, h2⟩
        · exact .inr h2
      · exact .inr (by omega)
    · rw [HK.out]
      exact (HBut.out.trans (ButS.of_below HB3.out (Nat.le_refl _))).trans (but_set' _ q 0 _ _ (.inl rfl))
  · obtain rfl : n = 0 := by first | omega | (simp at *; omega)
    go_ret
    have hsame : sl us2 = xs := by
      have h1 := HC2.out
      rw [HS1.out] at h1
      exact chg_zero hU.out.up h1
    have hd : (long && decide (0 = 0)) = long := by simp
    refine ⟨0, rfl, sl us2, r, by rw [← HS1.out]; exact HC2.out, ?_, ?_, by rw [HK.out]; exact HBut.out⟩
    · have hd : (long && decide (0 = 0)) = long := by simp
      rw [hd, hsame]
      refine ⟨hU.out, v, hA2.out, ?_⟩
      rw [HK.out]
      rcases HW1.out with ⟨h1, hv, h2, h3, h4, h5⟩ | ⟨h1, h2, h3, h4⟩
      · subst hv
        subst h2
        exact ⟨.inr (.inl ⟨h1, p, s, us2, rfl, HM2.out, hsame, HM2.out.lt.1, HM2.out.lt.2.1, HM2.out.lt.2.2⟩), Tyd.b _ _⟩
      · have hbw : Below w.heap.size w w2 := HB1.out.trans ((ButS.of_grown (S := fun j => j = h) HG2.out (fun j e => by cases e; rfl)).below HB1.out.size (fun j e => by subst e; exact h4))
        exact HM.out.next hbw
    · have hd : (long && decide (0 = 0)) = long := by simp
      rw [hd, hsame]
      intro h2
      exact .inl ⟨h2, rfl⟩
set_option maxHeartbeats 4000000 in
theorem box_Fill (w : World) (q r : Nat) (xs : List Int) (long : Bool) (b : Bo w q r xs long) (hT : Tab w) (f t : Nat) (hf : f ≤ 65535) (ht : t ≤ 65535) :
    Calls Tryz.prog 15 #[.pointer (some ⟨q, 0, none⟩), .int .u16 (f : Int), .int .u16 (t : Int)] w fun e w' => ∃ n : Nat, e = .returned (.int .i64 (n : Int)) ∧ ChP true w q r xs long (f : Int) (t : Int) n w' := by
  have b2 : Below w.heap.size w ((w.alloc (.cells #[.int .u16 (f : Int)] 35)).alloc (.cells #[.int .u16 (t : Int)] 35)) := ((Below.refl _ w).alloc (Nat.le_refl _) _).alloc (by simp) _
  have hz : (w.alloc (.cells #[.int .u16 (f : Int)] 35)).heap.size = w.heap.size + 1 := by simp
  have hz2 : ((w.alloc (.cells #[.int .u16 (f : Int)] 35)).alloc (.cells #[.int .u16 (t : Int)] 35)).heap.size = w.heap.size + 1 + 1 := by simp
  have h1 : ((w.alloc (.cells #[.int .u16 (f : Int)] 35)).alloc (.cells #[.int .u16 (t : Int)] 35)).heap[w.heap.size]? = some (.cells #[.int .u16 (f : Int)] 35 (0, 0)) :=
    (((Below.refl _ (w.alloc (.cells #[.int .u16 (f : Int)] 35))).alloc (Nat.le_refl _) _).block w.heap.size (by omega)).trans (alloc_top w _ rfl)
  have h2 : ((w.alloc (.cells #[.int .u16 (f : Int)] 35)).alloc (.cells #[.int .u16 (t : Int)] 35)).heap[w.heap.size + 1]? = some (.cells #[.int .u16 (t : Int)] 35 (0, 0)) := alloc_top _ _ hz.symm
  have hC := change_fill _ q r xs long (b.next b2) (hT.below b2 hT.pos) f t hf ht w.heap.size (w.heap.size + 1) (by rw [cell_of_row _ _ _ _ _ (0, 0) h1]; rfl) (by rw [cell_of_row _ _ _ _ _ (0, 0) h2]; rfl) (by omega) (by omega)
  have HC := Lib.hid hC
  have HB := Lib.hid b2
  have hR : Hid (kd long xs = 2 → r < w.heap.size) := Lib.hid b.rlt
  clear hC b2 b hT h1 h2 hz hz2
  go_enter Tryz.func15, Tryz.ntmps15
  go_wp2_with (go_at_call 42; (with_reducible refine HC.out.mono ?_); rintro e w3 ⟨n, rfl, hp⟩; have HP := Lib.hid hp; clear hp HC)
  go_ret
  obtain ⟨ys, r', h1, h2, h3, h4⟩ := HP.out
  refine ⟨n, rfl, ys, r', h1, h2, fun e => ?_, (ButS.of_below HB.out (Nat.le_refl _)).trans h4⟩
  rcases h3 e with h5 | h5
  · exact .inl h5
  · exact .inr (Nat.le_trans HB.out.size h5)
theorem box_Fill_nil (w : World) (f t : Int) :
    Calls Tryz.prog 15 #[.pointer none, .int .u16 f, .int .u16 t] w (AskI w 0) := by
  have HB : Hid (Below w.heap.size w ((w.alloc (.cells #[.int .u16 f] 35)).alloc (.cells #[.int .u16 t] 35))) := Lib.hid (((Below.refl _ w).alloc (Nat.le_refl _) _).alloc (by simp) _)
  go_enter Tryz.func15, Tryz.ntmps15
  go_wp2_with (go_at_call 42; (with_reducible refine (change_nil _ _).mono ?_); rintro e w3 ⟨rfl, rfl⟩)
  go_ret
  exact ⟨rfl, HB.out⟩
set_option maxHeartbeats 4000000 in
theorem box_Wipe (w : World) (q r : Nat) (xs : List Int) (long : Bool) (b : Bo w q r xs long) (hT : Tab w) (f t : Nat) (hf : f ≤ 65535) (ht : t ≤ 65535) :
    Calls Tryz.prog 16 #[.pointer (some ⟨q, 0, none⟩), .int .u16 (f : Int), .int .u16 (t : Int)] w fun e w' => ∃ n : Nat, e = .returned (.int .i64 (n : Int)) ∧ ChP false w q r xs long (f : Int) (t : Int) n w' := by
  have b2 : Below w.heap.size w ((w.alloc (.cells #[.int .u16 (f : Int)] 35)).alloc (.cells #[.int .u16 (t : Int)] 35)) := ((Below.refl _ w).alloc (Nat.le_refl _) _).alloc (by simp) _
  have hz : (w.alloc (.cells #[.int .u16 (f : Int)] 35)).heap.size = w.heap.size + 1 := by simp
  have hz2 : ((w.alloc (.cells #[.int .u16 (f : Int)] 35)).alloc (.cells #[.int .u16 (t : Int)] 35)).heap.size = w.heap.size + 1 + 1 := by simp
  have h1 : ((w.alloc (.cells #[.int .u16 (f : Int)] 35)).alloc (.cells #[.int .u16 (t : Int)] 35)).heap[w.heap.size]? = some (.cells #[.int .u16 (f : Int)] 35 (0, 0)) :=
    (((Below.refl _ (w.alloc (.cells #[.int .u16 (f : Int)] 35))).alloc (Nat.le_refl _) _).block w.heap.size (by omega)).trans (alloc_top w _ rfl)
  have h2 : ((w.alloc (.cells #[.int .u16 (f : Int)] 35)).alloc (.cells #[.int .u16 (t : Int)] 35)).heap[w.heap.size + 1]? = some (.cells #[.int .u16 (t : Int)] 35 (0, 0)) := alloc_top _ _ hz.symm
  have hC := change_wipe _ q r xs long (b.next b2) (hT.below b2 hT.pos) f t hf ht w.heap.size (w.heap.size + 1) (by rw [cell_of_row _ _ _ _ _ (0, 0) h1]; rfl) (by rw [cell_of_row _ _ _ _ _ (0, 0) h2]; rfl) (by omega) (by omega)
  have HC := Lib.hid hC
  have HB := Lib.hid b2
  have hR : Hid (kd long xs = 2 → r < w.heap.size) := Lib.hid b.rlt
  clear hC b2 b hT h1 h2 hz hz2
  go_enter Tryz.func16, Tryz.ntmps16
  go_wp2_with (go_at_call 42; (with_reducible refine HC.out.mono ?_); rintro e w3 ⟨n, rfl, hp⟩; have HP := Lib.hid hp; clear hp HC)
  go_ret
  obtain ⟨ys, r', h1, h2, h3, h4⟩ := HP.out
  refine ⟨n, rfl, ys, r', h1, h2, fun e => ?_, (ButS.of_below HB.out (Nat.le_refl _)).trans h4⟩
  rcases h3 e with h5 | h5
  · exact .inl h5
  · exact .inr (Nat.le_trans HB.out.size h5)
theorem box_Wipe_nil (w : World) (f t : Int) :
    Calls Tryz.prog 16 #[.pointer none, .int .u16 f, .int .u16 t] w (AskI w 0) := by
  have HB : Hid (Below w.heap.size w ((w.alloc (.cells #[.int .u16 f] 35)).alloc (.cells #[.int .u16 t] 35))) := Lib.hid (((Below.refl _ w).alloc (Nat.le_refl _) _).alloc (by simp) _)
  go_enter Tryz.func16, Tryz.ntmps16
  go_wp2_with (go_at_call 42; (with_reducible refine (change_nil _ _).mono ?_); rintro e w3 ⟨rfl, rfl⟩)
  go_ret
  exact ⟨rfl, HB.out⟩
end Go.Proofs.YtkehehfphccpbaaGreatDoor
end
section
namespace Go.Proofs.YtkehehfphccpbaaGreatDoor
set_option maxRecDepth 40000
open Go.RowKit
section
variable {o : Bool} {w w1 w' : World} {q r : Nat} {xs : List Int} {long : Bool} {f t : Int} {n : Nat}
theorem ChP.after (hb : Below w.heap.size w w1) (h : ChP o w1 q r xs long f t n w') : ChP o w q r xs long f t n w' := by
  obtain ⟨ys, r', h1, h2, h3, h4⟩ := h
  refine ⟨ys, r', h1, h2, fun e => ?_, (ButS.of_below hb (Nat.le_refl _)).trans h4⟩
  rcases h3 e with h5 | h5
  · exact .inl h5
  · exact .inr (Nat.le_trans hb.size h5)
theorem ChP.none (b : Bo w q r xs long) (hb : Below w.heap.size w w') (hc : M.Chg o xs xs f t 0) : ChP o w q r xs long f t 0 w' :=
  ⟨xs, r, hc, by simpa using b.next hb, fun e => .inl ⟨by simpa using e, rfl⟩, ButS.of_below hb (Nat.le_refl _)⟩
end
theorem Bo.told {w : World} {q r : Nat} {xs : List Int} {long : Bool} (b : Bo w q r xs long) : ∃ v, ToldP w (some ⟨q, 0, none⟩) v ∧ Nm w w.heap.size v xs := by
  obtain ⟨v, a, m⟩ := b.kept
  exact ⟨v, a.told, m.nm b.u⟩
theorem bo_Has (w : World) (q r : Nat) (xs : List Int) (long : Bool) (b : Bo w q r xs long) (x : Nat) (hx : x ≤ 65535) : Calls Tryz.prog 27 #[.pointer (some ⟨q, 0, none⟩), .int .u16 (x : Int)] w (AskB w (decide ((x : Int) ∈ xs))) := by
  obtain ⟨v, ht, m⟩ := b.told
  rw [← has_eq]
  exact box_Has w w.heap.size _ v xs x hx ht m (Nat.le_refl _)
theorem bo_Len (w : World) (q r : Nat) (xs : List Int) (long : Bool) (b : Bo w q r xs long) : Calls Tryz.prog 21 #[.pointer (some ⟨q, 0, none⟩)] w (AskI w ((xs).length : Nat)) := by
  obtain ⟨v, ht, m⟩ := b.told
  exact box_Len w w.heap.size _ v xs ht m (Nat.le_refl _)
theorem bo_List (w : World) (q r : Nat) (xs : List Int) (long : Bool) (b : Bo w q r xs long) (hT : Tab w) : Calls Tryz.prog 18 #[.pointer (some ⟨q, 0, none⟩)] w (ListP w xs) := by
  obtain ⟨v, ht, m⟩ := b.told
  exact box_List w _ xs w.heap.size v ht m (Nat.le_refl _) hT
theorem bo_Kind (w : World) (q r : Nat) (xs : List Int) (long : Bool) (b : Bo w q r xs long) : Calls Tryz.prog 8 #[.pointer (some ⟨q, 0, none⟩)] w (AskI w (kd long xs : Nat)) := by
  obtain ⟨v, a, m⟩ := b.kept
  exact box_Kind w q v _ a (kind_any w m)
theorem add_none (w : World) (q r : Nat) (xs : List Int) (long : Bool) (b : Bo w q r xs long) (x : Nat) (hx : x ≤ 65535) (hv : (x : Int) ∈ xs) :
    Calls Tryz.prog 29 #[.pointer (some ⟨q, 0, none⟩), .int .u16 (x : Int)] w fun e w' => ∃ n : Nat, e = .returned (.bool (decide (0 < n))) ∧ ChP true w q r xs long (x : Int) (x : Int) n w' := by
  have hH := bo_Has w q r xs long b x hx
  rw [decide_eq_true hv] at hH
  have HH := Lib.hid hH
  have HB := Lib.hid b
  have HC := Lib.hid (chg_has b.u.up hv)
  clear hH b hv
  go_enter Tryz.func29, Tryz.ntmps29
  go_wp2_with (go_at_call 27; (with_reducible refine HH.out.mono ?_); rintro e w1 ⟨rfl, hb⟩; have HB1 := Lib.hid hb; clear hb)
  go_ret
  exact ⟨0, rfl, ChP.none HB.out HB1.out HC.out⟩
set_option maxHeartbeats 4000000 in
theorem add_A (w : World) (q r : Nat) (xs : List Int) (b : Bo w q r xs false) (hc : xs.length ≤ 4096) (hT : Tab w) (x : Nat) (hx : x ≤ 65535) (hv : ¬ (x : Int) ∈ xs) :
    Calls Tryz.prog 29 #[.pointer (some ⟨q, 0, none⟩), .int .u16 (x : Int)] w fun e w' => ∃ n : Nat, e = .returned (.bool (decide (0 < n))) ∧ ChP true w q r xs false (x : Int) (x : Int) n w' := by
  have hH := bo_Has w q r xs false b x hx
  rw [decide_eq_false hv] at hH
  have HH := Lib.hid hH
  obtain ⟨v, a, m⟩ := b.kept
  have hal := Lib.hid b.alien
  have hU := Lib.hid b.u
  have hk1 : kd false xs = 1 := pk_few hc
  rw [hk1] at m
  rcases m.1 with ⟨_, U, c, rfl, h2, h3⟩ | ⟨e, _⟩ | ⟨e, _⟩
  · have HAD := Lib.hid (fun W (hW : Below w.heap.size w W) => A.a_add W w.heap.size xs.length c U xs (x : Int) rfl (h2.below hW (Nat.le_refl _)) hU.out.up hW.size h3 (by omega))
    have hA := fun w => isAA w U xs.length c
    have HA := Lib.hid a
    have HT := Lib.hid hT
    have HK := Lib.hid hk1
    have HV := Lib.hid hv
    have HCC := Lib.hid hc
    have hxR : Hid ((0 : Int) ≤ (x : Int) ∧ (x : Int) ≤ 65535) := Lib.hid (by omega)
    clear b hH h2 h3 a hT hk1 hv hc m
    unfold vA at *
    have c0 := HA.out.c0
    go_enter Tryz.func29, Tryz.ntmps29
    go_wp2_with (first
      | (go_at_call 27; (with_reducible refine HH.out.mono ?_); rintro e w1 ⟨rfl, hb⟩; have HB1 := Lib.hid hb; have c01 := (HA.out.all_below hb).c0; clear hb c0)
      | (go_at_call 50; (with_reducible refine (HAD.out _ HB1.out).mono ?_); rintro e w2 ⟨val, zs, rfl, hz1, hz2, hz3, ho, hb⟩
         obtain ⟨U2, c2, rfl, hr2, _⟩ := Rh.of_own ho
         have hbw : Below w.heap.size w w2 := HB1.out.trans (hb.mono HB1.out.size)
         have HB2 := Lib.hid hbw
         have hz0 : Up16 zs := ⟨hz1, fun y hy => by
           have := (hz2 y).1 hy
           rcases this with h | h
           · exact hU.out.range y h
           · have := hxR.out; omega⟩
         have HZ := Lib.hid hz0
         have HZ2 := Lib.hid hz2
         have HZ3 := Lib.hid hz3
         have HW2 : Hid (Way w2 w2.heap.size (vA U2 zs.length c2) zs 1 r) := Lib.hid ⟨.inl ⟨rfl, U2, c2, rfl, hr2, own_cap ho U2 c2 rfl⟩, Tyd.own16 ho⟩
         have c02 := (HA.out.all_below hbw).c0
         have fz2 : w2.frozen? ⟨q, 0, none⟩ = false := by simp [World.frozen?, (HA.out.all_below hbw).row]
         have HP := Lib.hid (plain_any w2 w2.heap.size _ zs 1 r HW2.out hz0 (Nat.le_refl _) (HT.out.below hbw HT.out.pos))
         unfold vA at HP
         have hd1 : Hid (true = true) := Lib.hid rfl
         clear hb hbw hz1 hz2 hz3 hz0 ho hr2 c01)
      | (go_at_call 48; (with_reducible refine HP.out.mono ?_); rintro e w3 ⟨v3, r3, rfl, hw3, hr3, hb3⟩; obtain ⟨t3, x3, rfl⟩ := hw3.form
         have HW3 := Lib.hid hw3
         have HR3 := Lib.hid hr3
         have HB3 : Hid (Below w.heap.size w w3) := Lib.hid (HB2.out.trans (hb3.mono HB2.out.size))
         have c03 := (HA.out.all_below HB3.out).c0
         have fz3 : w3.frozen? ⟨q, 0, none⟩ = false := by simp [World.frozen?, (HA.out.all_below HB3.out).row]
         clear hw3 hr3 hb3 HP c02 fz2))
    go_ret
    have hA3 := HA.out.all_below HB3.out
    refine ⟨1, rfl, zs, r3, chg_add hU.out.up HZ.out.up HZ2.out HV.out, ?_, fun e => ?_, (ButS.of_below HB3.out (Nat.le_refl _)).trans (but_set' _ q 0 _ _ (.inl rfl))⟩
    · exact Bo.store hA3 hA3.alien HZ.out HW3.out rfl
    · rcases HR3.out e with ⟨e2, _⟩ | e2
      · cases e2
      · exact .inr (Nat.le_trans HB2.out.size e2)
  · cases e
  · cases e
set_option maxHeartbeats 4000000 in
theorem add_B (w : World) (q r : Nat) (xs : List Int) (long : Bool) (b : Bo w q r xs long) (hT : Tab w) (x : Nat) (hx : x ≤ 65535) (hv : ¬ (x : Int) ∈ xs) (p : Nat) (a : Bx w q (vB p)) :
    Calls Tryz.prog 29 #[.pointer (some ⟨q, 0, none⟩), .int .u16 (x : Int)] w fun e w' => ∃ n : Nat, e = .returned (.bool (decide (0 < n))) ∧ ChP true w q r xs long (x : Int) (x : Int) n w' := by
  have hH := bo_Has w q r xs long b x hx
  rw [decide_eq_false hv] at hH
  have HH := Lib.hid hH
  have hA := fun w => isBA w p
  have HA := Lib.hid a
  have HF := Lib.hid (fun W (hW : Below w.heap.size w W) => box_Fill W q r xs long (b.next hW) (hT.below hW hT.pos) x x hx hx)
  clear b hH a hT hv
  unfold vB at *
  have c0 := HA.out.c0
  go_enter Tryz.func29, Tryz.ntmps29
  go_wp2_with (first
    | (go_at_call 27; (with_reducible refine HH.out.mono ?_); rintro e w1 ⟨rfl, hb⟩; have HB1 := Lib.hid hb; have c01 := (HA.out.all_below hb).c0; clear hb c0)
    | (go_at_call 15; (with_reducible refine (HF.out _ HB1.out).mono ?_); rintro e w2 ⟨n, rfl, hp⟩; have HP := Lib.hid (hp.after HB1.out); clear hp))
  go_ret
  exact ⟨n, by simp, HP.out⟩
set_option maxHeartbeats 4000000 in
theorem add_R (w : World) (q r : Nat) (xs : List Int) (long : Bool) (b : Bo w q r xs long) (hT : Tab w) (x : Nat) (hx : x ≤ 65535) (hv : ¬ (x : Int) ∈ xs) (U : Option Addr) (n c : Nat) (a : Bx w q (vR U n c)) :
    Calls Tryz.prog 29 #[.pointer (some ⟨q, 0, none⟩), .int .u16 (x : Int)] w fun e w' => ∃ n : Nat, e = .returned (.bool (decide (0 < n))) ∧ ChP true w q r xs long (x : Int) (x : Int) n w' := by
  have hH := bo_Has w q r xs long b x hx
  rw [decide_eq_false hv] at hH
  have HH := Lib.hid hH
  have hA := fun w => isRA w U n c
  have HA := Lib.hid a
  have HF := Lib.hid (fun W (hW : Below w.heap.size w W) => box_Fill W q r xs long (b.next hW) (hT.below hW hT.pos) x x hx hx)
  clear b hH a hT hv
  unfold vR at *
  have c0 := HA.out.c0
  go_enter Tryz.func29, Tryz.ntmps29
  go_wp2_with (first
    | (go_at_call 27; (with_reducible refine HH.out.mono ?_); rintro e w1 ⟨rfl, hb⟩; have HB1 := Lib.hid hb; have c01 := (HA.out.all_below hb).c0; clear hb c0)
    | (go_at_call 15; (with_reducible refine (HF.out _ HB1.out).mono ?_); rintro e w2 ⟨n, rfl, hp⟩; have HP := Lib.hid (hp.after HB1.out); clear hp))
  go_ret
  exact ⟨n, by simp, HP.out⟩
theorem bo_Add (w : World) (q r : Nat) (xs : List Int) (long : Bool) (b : Bo w q r xs long) (hT : Tab w) (x : Nat) (hx : x ≤ 65535) :
    Calls Tryz.prog 29 #[.pointer (some ⟨q, 0, none⟩), .int .u16 (x : Int)] w fun e w' => ∃ n : Nat, e = .returned (.bool (decide (0 < n))) ∧ ChP true w q r xs long (x : Int) (x : Int) n w' := by
  by_cases hv : ¬ (x : Int) ∈ xs
  · obtain ⟨v, a, m⟩ := b.kept
    rcases m.1 with ⟨e, U, c, rfl, _⟩ | ⟨e, p, s, ws, rfl, _⟩ | ⟨e, rs, U, c, rfl, _⟩
    · cases long
      · by_cases hc : xs.length ≤ 4096
        · exact add_A w q r xs b hc hT x hx hv
        · exact absurd e (by rw [kd_false, pk_many (by omega)]; decide)
      · cases e
    · exact add_B w q r xs long b hT x hx hv p a
    · exact add_R w q r xs long b hT x hx hv U _ c a
  · exact add_none w q r xs long b x hx (Classical.not_not.1 hv)
theorem drop_none (w : World) (q r : Nat) (xs : List Int) (long : Bool) (b : Bo w q r xs long) (x : Nat) (hx : x ≤ 65535) (hv : ¬ (x : Int) ∈ xs) :
    Calls Tryz.prog 31 #[.pointer (some ⟨q, 0, none⟩), .int .u16 (x : Int)] w fun e w' => ∃ n : Nat, e = .returned (.bool (decide (0 < n))) ∧ ChP false w q r xs long (x : Int) (x : Int) n w' := by
  have hH := bo_Has w q r xs long b x hx
  rw [decide_eq_false hv] at hH
  have HH := Lib.hid hH
  have HB := Lib.hid b
  have HC := Lib.hid (chg_lacks b.u.up hv)
  clear hH b hv
  go_enter Tryz.func31, Tryz.ntmps31
  go_wp2_with (go_at_call 27; (with_reducible refine HH.out.mono ?_); rintro e w1 ⟨rfl, hb⟩; have HB1 := Lib.hid hb; clear hb)
  go_ret
  exact ⟨0, rfl, ChP.none HB.out HB1.out HC.out⟩
set_option maxHeartbeats 4000000 in
theorem drop_A (w : World) (q r : Nat) (xs : List Int) (b : Bo w q r xs false) (hc : xs.length ≤ 4096) (hT : Tab w) (x : Nat) (hx : x ≤ 65535) (hv : (x : Int) ∈ xs) :
    Calls Tryz.prog 31 #[.pointer (some ⟨q, 0, none⟩), .int .u16 (x : Int)] w fun e w' => ∃ n : Nat, e = .returned (.bool (decide (0 < n))) ∧ ChP false w q r xs false (x : Int) (x : Int) n w' := by
  have hH := bo_Has w q r xs false b x hx
  rw [decide_eq_true hv] at hH
  have HH := Lib.hid hH
  obtain ⟨v, a, m⟩ := b.kept
  have hal := Lib.hid b.alien
  have hU := Lib.hid b.u
  have hk1 : kd false xs = 1 := pk_few hc
  rw [hk1] at m
  rcases m.1 with ⟨_, U, c, rfl, h2, h3⟩ | ⟨e, _⟩ | ⟨e, _⟩
  · have HAD := Lib.hid (fun W (hW : Below w.heap.size w W) => A.a_drop W w.heap.size xs.length c U xs (x : Int) rfl (h2.below hW (Nat.le_refl _)) hU.out.up hW.size h3 (by omega))
    have hA := fun w => isAA w U xs.length c
    have HA := Lib.hid a
    have HT := Lib.hid hT
    have HK := Lib.hid hk1
    have HV := Lib.hid hv
    have HCC := Lib.hid hc
    have hxR : Hid ((0 : Int) ≤ (x : Int) ∧ (x : Int) ≤ 65535) := Lib.hid (by omega)
    clear b hH h2 h3 a hT hk1 hv hc m
    unfold vA at *
    have c0 := HA.out.c0
    go_enter Tryz.func31, Tryz.ntmps31
    go_wp2_with (first
      | (go_at_call 27; (with_reducible refine HH.out.mono ?_); rintro e w1 ⟨rfl, hb⟩; have HB1 := Lib.hid hb; have c01 := (HA.out.all_below hb).c0; clear hb c0)
      | (go_at_call 51; (with_reducible refine (HAD.out _ HB1.out).mono ?_); rintro e w2 ⟨val, zs, rfl, hz1, hz2, hz3, ho, hb⟩
         obtain ⟨U2, c2, rfl, hr2, _⟩ := Rh.of_own ho
         have hbw : Below w.heap.size w w2 := HB1.out.trans (hb.mono HB1.out.size)
         have HB2 := Lib.hid hbw
         have hz0 : Up16 zs := ⟨hz1, fun y hy => by
           have := (hz2 y).1 hy
           exact hU.out.range y this.1⟩
         have HZ := Lib.hid hz0
         have HZ2 := Lib.hid hz2
         have HZ3 := Lib.hid hz3
         have HW2 : Hid (Way w2 w2.heap.size (vA U2 zs.length c2) zs 1 r) := Lib.hid ⟨.inl ⟨rfl, U2, c2, rfl, hr2, own_cap ho U2 c2 rfl⟩, Tyd.own16 ho⟩
         have c02 := (HA.out.all_below hbw).c0
         have fz2 : w2.frozen? ⟨q, 0, none⟩ = false := by simp [World.frozen?, (HA.out.all_below hbw).row]
         have HP := Lib.hid (plain_any w2 w2.heap.size _ zs 1 r HW2.out hz0 (Nat.le_refl _) (HT.out.below hbw HT.out.pos))
         unfold vA at HP
         have hd1 : Hid (true = true) := Lib.hid rfl
         clear hb hbw hz1 hz2 hz3 hz0 ho hr2 c01))
    go_ret
    have hA2 := HA.out.all_below HB2.out
    have hl : zs.length ≤ 4096 := by have := HZ3.out; have := HCC.out; omega
    refine ⟨1, rfl, zs, r, chg_drop hU.out.up HZ.out.up HZ2.out HV.out, ?_, fun e => ?_, (ButS.of_below HB2.out (Nat.le_refl _)).trans (but_set' _ q 0 _ _ (.inl rfl))⟩
    · exact Bo.store hA2 hA2.alien HZ.out HW2.out (pk_few hl)
    · exfalso
      have e' : pk zs = 2 := e
      rw [pk_few hl] at e'
      cases e'
  · cases e
  · cases e
set_option maxHeartbeats 4000000 in
theorem drop_B (w : World) (q r : Nat) (xs : List Int) (long : Bool) (b : Bo w q r xs long) (hT : Tab w) (x : Nat) (hx : x ≤ 65535) (hv : (x : Int) ∈ xs) (p : Nat) (a : Bx w q (vB p)) :
    Calls Tryz.prog 31 #[.pointer (some ⟨q, 0, none⟩), .int .u16 (x : Int)] w fun e w' => ∃ n : Nat, e = .returned (.bool (decide (0 < n))) ∧ ChP false w q r xs long (x : Int) (x : Int) n w' := by
  have hH := bo_Has w q r xs long b x hx
  rw [decide_eq_true hv] at hH
  have HH := Lib.hid hH
  have hA := fun w => isBA w p
  have HA := Lib.hid a
  have HF := Lib.hid (fun W (hW : Below w.heap.size w W) => box_Wipe W q r xs long (b.next hW) (hT.below hW hT.pos) x x hx hx)
  clear b hH a hT hv
  unfold vB at *
  have c0 := HA.out.c0
  go_enter Tryz.func31, Tryz.ntmps31
  go_wp2_with (first
    | (go_at_call 27; (with_reducible refine HH.out.mono ?_); rintro e w1 ⟨rfl, hb⟩; have HB1 := Lib.hid hb; have c01 := (HA.out.all_below hb).c0; clear hb c0)
    | (go_at_call 16; (with_reducible refine (HF.out _ HB1.out).mono ?_); rintro e w2 ⟨n, rfl, hp⟩; have HP := Lib.hid (hp.after HB1.out); clear hp))
  go_ret
  exact ⟨n, by simp, HP.out⟩
set_option maxHeartbeats 4000000 in
theorem drop_R (w : World) (q r : Nat) (xs : List Int) (long : Bool) (b : Bo w q r xs long) (hT : Tab w) (x : Nat) (hx : x ≤ 65535) (hv : (x : Int) ∈ xs) (U : Option Addr) (n c : Nat) (a : Bx w q (vR U n c)) :
    Calls Tryz.prog 31 #[.pointer (some ⟨q, 0, none⟩), .int .u16 (x : Int)] w fun e w' => ∃ n : Nat, e = .returned (.bool (decide (0 < n))) ∧ ChP false w q r xs long (x : Int) (x : Int) n w' := by
  have hH := bo_Has w q r xs long b x hx
  rw [decide_eq_true hv] at hH
  have HH := Lib.hid hH
  have hA := fun w => isRA w U n c
  have HA := Lib.hid a
  have HF := Lib.hid (fun W (hW : Below w.heap.size w W) => box_Wipe W q r xs long (b.next hW) (hT.below hW hT.pos) x x hx hx)
  clear b hH a hT hv
  unfold vR at *
  have c0 := HA.out.c0
  go_enter Tryz.func31, Tryz.ntmps31
  go_wp2_with (first
    | (go_at_call 27; (with_reducible refine HH.out.mono ?_); rintro e w1 ⟨rfl, hb⟩; have HB1 := Lib.hid hb; have c01 := (HA.out.all_below hb).c0; clear hb c0)
    | (go_at_call 16; (with_reducible refine (HF.out _ HB1.out).mono ?_); rintro e w2 ⟨n, rfl, hp⟩; have HP := Lib.hid (hp.after HB1.out); clear hp))
  go_ret
  exact ⟨n, by simp, HP.out⟩
theorem bo_Drop (w : World) (q r : Nat) (xs : List Int) (long : Bool) (b : Bo w q r xs long) (hT : Tab w) (x : Nat) (hx : x ≤ 65535) :
    Calls Tryz.prog 31 #[.pointer (some ⟨q, 0, none⟩), .int .u16 (x : Int)] w fun e w' => ∃ n : Nat, e = .returned (.bool (decide (0 < n))) ∧ ChP false w q r xs long (x : Int) (x : Int) n w' := by
  by_cases hv : (x : Int) ∈ xs
  · obtain ⟨v, a, m⟩ := b.kept
    rcases m.1 with ⟨e, U, c, rfl, _⟩ | ⟨e, p, s, ws, rfl, _⟩ | ⟨e, rs, U, c, rfl, _⟩
    · cases long
      · by_cases hc : xs.length ≤ 4096
        · exact drop_A w q r xs b hc hT x hx hv
        · exact absurd e (by rw [kd_false, pk_many (by omega)]; decide)
      · cases e
    · exact drop_B w q r xs long b hT x hx hv p a
    · exact drop_R w q r xs long b hT x hx hv U _ c a
  · exact drop_none w q r xs long b x hx hv
end Go.Proofs.YtkehehfphccpbaaGreatDoor
end
section
namespace Go.Proofs.YtkehehfphccpbaaGreatDoor
set_option maxRecDepth 40000
open Go.RowKit
/-- A new box. -/
def NewP (w : World) (ys : List Int) (e : Ending) (w' : World) : Prop := ∃ q r, e = .returned (.pointer (some ⟨q, 0, none⟩)) ∧ Bo w' q r ys false ∧ w.heap.size ≤ q ∧ (kd false ys = 2 → w.heap.size ≤ r) ∧ Below w.heap.size w w'
theorem bo_alloc {w : World} {v : Value} {ys : List Int} {r : Nat} (u : Up16 ys) (m : Way w w.heap.size v ys (pk ys) r) : Bo (w.alloc (.cells #[v] 57)) w.heap.size r ys false :=
  ⟨u, v, ⟨alloc_top w _ rfl⟩, m.next ((Below.refl _ w).alloc (Nat.le_refl _) _)⟩
set_option maxHeartbeats 4000000 in
theorem box_Of (w : World) (B n c : Nat) (U : Option Addr) (xs : List Int) (hn : n = xs.length) (hr : Rh w B U xs) (hB : B ≤ w.heap.size) (few : n ≤ 1000000) (hx : ∀ y ∈ xs, 0 ≤ y ∧ y ≤ 65535) (hT : Tab w) :
    Calls Tryz.prog 26 #[.slice U n c] w fun e w' => ∃ ys, (∀ x, x ∈ ys ↔ x ∈ xs) ∧ NewP w ys e w' := by
  have HO := Lib.hid (A.of_any w B n c U xs hn hr hB few)
  have HX := Lib.hid hx
  have HT := Lib.hid hT
  clear hn hr hx hT few
  go_enter Tryz.func26, Tryz.ntmps26
  go_wp2_with (first
    | (go_at_call 49; (with_reducible refine HO.out.mono ?_); rintro e w1 ⟨v, zs, rfl, hz1, hz2, ho, hb, hl⟩
       obtain ⟨U1, c1, rfl, hr1, _⟩ := Rh.of_own ho
       have HB1 := Lib.hid hb
       have hz0 : Up16 zs := ⟨hz1, fun y hy => HX.out y ((hz2 y).1 hy)⟩
       have HZ := Lib.hid hz0
       have HZ2 := Lib.hid hz2
       have HP := Lib.hid (plain_any w1 w1.heap.size (vA U1 zs.length c1) zs 1 w1.heap.size ⟨.inl ⟨rfl, U1, c1, rfl, hr1, own_cap ho U1 c1 rfl⟩, Tyd.own16 ho⟩ hz0 (Nat.le_refl _) (HT.out.below hb HT.out.pos))
       unfold vA at HP
       clear hz1 hz2 ho hb hr1 hz0 HO)
    | (go_at_call 48; (with_reducible refine HP.out.mono ?_); rintro e w2 ⟨v2, r2, rfl, hw2, hr2, hb2⟩; obtain ⟨t2, x2, rfl⟩ := hw2.form
       have HW2 := Lib.hid hw2
       have HR2 := Lib.hid hr2
       have HB2 : Hid (Below w.heap.size w w2) := Lib.hid (HB1.out.trans (hb2.mono HB1.out.size))
       clear hw2 hr2 hb2 HP))
  go_ret
  refine ⟨zs, HZ2.out, w2.heap.size, r2, rfl, bo_alloc HZ.out HW2.out, HB2.out.size, fun e => ?_, HB2.out.alloc HB2.out.size _⟩
  rcases HR2.out e with ⟨e2, _⟩ | e2
  · cases e2
  · exact Nat.le_trans HB1.out.size e2
theorem box_New (w : World) (hT : Tab w) : Calls Tryz.prog 28 #[] w (NewP w []) := by
  have HO := Lib.hid (box_Of w w.heap.size 0 0 none [] rfl (Rh.nil _ _ _) (Nat.le_refl _) (by omega) (by simp) hT)
  go_enter Tryz.func28, Tryz.ntmps28
  go_wp2_with (go_at_call 26; (with_reducible refine HO.out.mono ?_); rintro e w1 ⟨ys, hy, q, r, rfl, h1, h2, h3, h4⟩
               obtain rfl : ys = [] := List.eq_nil_iff_forall_not_mem.2 fun x hx => by have := (hy x).1 hx; cases this
               have HQ := Lib.hid (And.intro h1 (And.intro h2 (And.intro h3 h4)))
               clear h1 h2 h3 h4 hy)
  go_ret
  exact ⟨q, r, rfl, HQ.out⟩
/-- What Optimise leaves. -/
def optl (xs : List Int) : Bool := decide (2 * R.cst xs xs < pcost xs)
def OptP (w : World) (q r : Nat) (xs : List Int) (long long' : Bool) (e : Ending) (w' : World) : Prop :=
  ∃ r', e = .returned (.bool ((kd long' xs : Int) != (kd long xs : Int))) ∧ Bo w' q r' xs long' ∧ OldR w (kd long xs) r (kd long' xs) r' ∧ ButS w w' (fun j => j = q)
theorem plain_few (w : World) (v : Value) (xs : List Int) (k r : Nat) (m : Way w w.heap.size v xs k r) (u : Up16 xs) (hT : Tab w) (hc : xs.length ≤ 4096) : Calls Tryz.prog 48 #[v] w fun e w' => ∃ U c, e = .returned (vA U xs.length c) ∧ (∀ r', Way w' w'.heap.size (vA U xs.length c) xs 1 r') ∧ Below w.heap.size w w' := by
  refine (plain_any w w.heap.size v xs k r m u (Nat.le_refl _) hT).mono ?_
  rintro e w' ⟨v', r', rfl, hw, hr, hb⟩
  rw [pk_few hc] at hw
  have hw2 := hw.2
  rcases hw.1 with ⟨_, U, c, rfl, h2, h3⟩ | ⟨e, _⟩ | ⟨e, _⟩
  · exact ⟨U, c, rfl, fun r' => ⟨.inl ⟨rfl, U, c, rfl, h2, h3⟩, hw2⟩, hb⟩
  · cases e
  · cases e
theorem plain_many (w : World) (v : Value) (xs : List Int) (k r : Nat) (m : Way w w.heap.size v xs k r) (u : Up16 xs) (hT : Tab w) (hc : 4096 < xs.length) : Calls Tryz.prog 48 #[v] w fun e w' => ∃ p r', e = .returned (vB p) ∧ Way w' w'.heap.size (vB p) xs 2 r' ∧ OldR w k r 2 r' ∧ Below w.heap.size w w' := by
  refine (plain_any w w.heap.size v xs k r m u (Nat.le_refl _) hT).mono ?_
  rintro e w' ⟨v', r', rfl, hw, hr, hb⟩
  rw [pk_many hc] at hw hr
  rcases hw.1 with ⟨e, _⟩ | ⟨_, p, s, ws, rfl, h2, h3⟩ | ⟨e, _⟩
  · cases e
  · exact ⟨p, r', rfl, ⟨.inr (.inl ⟨rfl, p, s, ws, rfl, h2, h3⟩), Tyd.b _ _⟩, hr, hb⟩
  · cases e
set_option maxHeartbeats 8000000 in
theorem opt_few_runs (w : World) (q r : Nat) (xs : List Int) (long : Bool) (b : Bo w q r xs long) (hT : Tab w) (hc : xs.length ≤ 4096) (hlt : 2 * R.cst xs xs < xs.length) :
    Calls Tryz.prog 32 #[.pointer (some ⟨q, 0, none⟩)] w (OptP w q r xs long true) := by
  obtain ⟨v, a, m⟩ := b.kept
  have HA := Lib.hid a
  have HM := Lib.hid m
  have HU := Lib.hid b.u
  have HT := Lib.hid hT
  have few := b.u.few
  have hal := Lib.hid b.alien
  have HTO := Lib.hid (told_any w q v a)
  have HPL := Lib.hid (plain_few w v xs _ r m b.u hT hc)
  have HLI := Lib.hid (fun W (hW : Below w.heap.size w W) => bo_List W q r xs long (b.next hW) (hT.below hW hT.pos))
  have HK := Lib.hid (fun W => kind_any W m)
  have cfew : R.cst xs xs ≤ 65536 := Nat.le_trans (R.cst_le _ _) few
  obtain ⟨K, hK⟩ : ∃ K, R.cst xs xs = K := ⟨_, rfl⟩
  rw [hK] at hlt cfew
  have HKK := Lib.hid hK
  obtain ⟨M2, hM2⟩ : ∃ M2, 2 * K = M2 := ⟨_, rfl⟩
  have HM2 := Lib.hid hM2
  have hM2' : M2 ≤ 131072 := by omega
  have hd : decide ((M2 : Int) < (xs.length : Int)) = true := decide_eq_true (by omega)
  have hdN : decide (M2 < xs.length) = true := decide_eq_true (by omega)
  have HC := Lib.hid hc
  clear a m b hT hc hK hlt hM2
  go_enter Tryz.func32, Tryz.ntmps32
  go_wp2_with (first
    | (go_at_call 47; (with_reducible refine HTO.out.mono ?_); rintro e w0 ⟨rfl, rfl⟩)
    | (go_at_call 48; (with_reducible refine HPL.out.mono ?_); rintro e w1 ⟨U1, c1, rfl, hw1, hb1⟩; have HW1 := Lib.hid hw1; clear hw1; have HD1 := Lib.hid (fun w => toA_cost U1 xs.length c1 w); have hD1 := HD1.out; unfold vA
       have HB1 := Lib.hid hb1
       have HLI1 := Lib.hid (HLI.out w1 hb1)
       clear hb1 HPL)
    | (go_at_call 18; (with_reducible refine HLI1.out.mono ?_); rintro e w2 ⟨v2, rfl, ho2, hb2⟩
       obtain ⟨U2, c2, rfl, hr2, _⟩ := Rh.of_own ho2
       have hb2w : Below w.heap.size w w2 := HB1.out.trans (hb2.mono HB1.out.size)
       have HB2 := Lib.hid hb2w
       have HB12 := Lib.hid hb2
       have HOF := Lib.hid (R.r_of w2 w2.heap.size xs.length c2 U2 xs rfl hr2 (Nat.le_refl _) HU.out.range (by omega))
       clear ho2 hb2 hb2w hr2)
    | (go_at_call 52; (with_reducible refine HOF.out.mono ?_); rintro e w3 ⟨v3, qs, rfl, hq1, hq2, hq3, ho3, hb3⟩
       obtain ⟨U3, c3, rfl, hr3, hc3⟩ := R.Rq.of_own ho3
       have hb3w : Below w.heap.size w w3 := HB2.out.trans (hb3.mono HB2.out.size)
       have HB3 := Lib.hid hb3w
       have HB13 := Lib.hid (HB12.out.trans (hb3.mono HB12.out.size))
       have HFL : Hid (R.Rn.flat qs = xs) := Lib.hid (M.sorted_ext (R.Rn.flat_up hq1) HU.out.up fun y => by rw [R.Rn.mem_flat, hq2 y])
       have hlen : qs.length = K := by
         have e := R.Rn.starts_len hq1 HU.out.up (fun y => (hq2 y).symm)
         rw [← HKK.out]
         exact e.symm
       have HL3 := Lib.hid hlen
       have HWR : Hid (Way w3 w3.heap.size (vR U3 qs.length c3) xs 3 w3.heap.size) := Lib.hid ⟨.inr (.inr ⟨rfl, qs, U3, c3, rfl, hr3, hq1, HFL.out, hc3⟩), Tyd.ownR ho3⟩
       rw [hlen] at HWR ⊢
       have HCR := Lib.hid (asR_cost w3 K c3 U3 (by omega))
       rw [HM2.out] at HCR
       have c03 := (HA.out.all_below hb3w).c0
       clear ho3 hb3 hb3w hr3 hq1 hq2 hq3 hc3 hlen HOF)
    | (go_at_call 53; (with_reducible refine HCR.out.mono ?_); rintro e w4 ⟨rfl, hb4⟩
       have HB4 : Hid (Below w.heap.size w w4) := Lib.hid (HB3.out.trans (hb4.mono HB3.out.size))
       have HB14 := Lib.hid (HB13.out.trans (hb4.mono HB13.out.size))
       have HB34 := Lib.hid hb4
       clear hb4)
    | (go_at_call 173; (with_reducible refine (askA_cost _ _ _ _ xs rfl).mono ?_); rintro e w5 ⟨rfl, hb5⟩
       have HB5 : Hid (Below w.heap.size w w5) := Lib.hid (HB4.out.trans (hb5.mono HB4.out.size))
       have HB15 := Lib.hid (HB14.out.trans (hb5.mono HB14.out.size))
       have HB35 := Lib.hid (HB34.out.trans (hb5.mono HB34.out.size))
       have HWK : Hid (Way w5 w5.heap.size (vR U3 K c3) xs 3 w3.heap.size) := Lib.hid (HWR.out.next HB35.out)
       have HKE := Lib.hid (keep_any w5 q v 78 (.slice U3 K c3) _ 3 (HA.out.all_below HB5.out) (HK.out w5) (fun W => kind_r W U3 K c3))
       clear hb5)
    | (go_at_call 54; (with_reducible refine HKE.out.mono ?_); rintro e w6 ⟨rfl, rfl⟩))
  go_ret
  refine ⟨w3.heap.size, rfl, ?_, fun e => (by cases e), (ButS.of_below HB5.out (Nat.le_refl _)).trans (but_set' _ q 0 _ _ rfl)⟩
  have hA5 := HA.out.all_below HB5.out
  have hal5 : Alien w5 q := by
    obtain ⟨t, x, rfl⟩ := HM.out.form
    exact hA5.alien
  exact Bo.store hA5 hal5 HU.out HWK.out rfl
set_option maxHeartbeats 8000000 in
theorem opt_few_plain (w : World) (q r : Nat) (xs : List Int) (long : Bool) (b : Bo w q r xs long) (hT : Tab w) (hc : xs.length ≤ 4096) (hlt : xs.length ≤ 2 * R.cst xs xs) :
    Calls Tryz.prog 32 #[.pointer (some ⟨q, 0, none⟩)] w (OptP w q r xs long false) := by
  obtain ⟨v, a, m⟩ := b.kept
  have HA := Lib.hid a
  have HM := Lib.hid m
  have HU := Lib.hid b.u
  have HT := Lib.hid hT
  have few := b.u.few
  have hal := Lib.hid b.alien
  have HTO := Lib.hid (told_any w q v a)
  have HPL := Lib.hid (plain_few w v xs _ r m b.u hT hc)
  have HLI := Lib.hid (fun W (hW : Below w.heap.size w W) => bo_List W q r xs long (b.next hW) (hT.below hW hT.pos))
  have HK := Lib.hid (fun W => kind_any W m)
  have cfew : R.cst xs xs ≤ 65536 := Nat.le_trans (R.cst_le _ _) few
  obtain ⟨K, hK⟩ : ∃ K, R.cst xs xs = K := ⟨_, rfl⟩
  rw [hK] at hlt cfew
  have HKK := Lib.hid hK
  obtain ⟨M2, hM2⟩ : ∃ M2, 2 * K = M2 := ⟨_, rfl⟩
  have HM2 := Lib.hid hM2
  have hM2' : M2 ≤ 131072 := by omega
  have hd : decide ((M2 : Int) < (xs.length : Int)) = false := decide_eq_false (by omega)
  have hdN : decide (M2 < xs.length) = false := decide_eq_false (by omega)
  have HC := Lib.hid hc
  clear a m b hT hc hK hlt hM2
  go_enter Tryz.func32, Tryz.ntmps32
  go_wp2_with (first
    | (go_at_call 47; (with_reducible refine HTO.out.mono ?_); rintro e w0 ⟨rfl, rfl⟩)
    | (go_at_call 48; (with_reducible refine HPL.out.mono ?_); rintro e w1 ⟨U1, c1, rfl, hw1, hb1⟩; have HW1 := Lib.hid hw1; clear hw1; have HD1 := Lib.hid (fun w => toA_cost U1 xs.length c1 w); have hD1 := HD1.out; unfold vA
       have HB1 := Lib.hid hb1
       have HLI1 := Lib.hid (HLI.out w1 hb1)
       clear hb1 HPL)
    | (go_at_call 18; (with_reducible refine HLI1.out.mono ?_); rintro e w2 ⟨v2, rfl, ho2, hb2⟩
       obtain ⟨U2, c2, rfl, hr2, _⟩ := Rh.of_own ho2
       have hb2w : Below w.heap.size w w2 := HB1.out.trans (hb2.mono HB1.out.size)
       have HB2 := Lib.hid hb2w
       have HB12 := Lib.hid hb2
       have HOF := Lib.hid (R.r_of w2 w2.heap.size xs.length c2 U2 xs rfl hr2 (Nat.le_refl _) HU.out.range (by omega))
       clear ho2 hb2 hb2w hr2)
    | (go_at_call 52; (with_reducible refine HOF.out.mono ?_); rintro e w3 ⟨v3, qs, rfl, hq1, hq2, hq3, ho3, hb3⟩
       obtain ⟨U3, c3, rfl, hr3, hc3⟩ := R.Rq.of_own ho3
       have hb3w : Below w.heap.size w w3 := HB2.out.trans (hb3.mono HB2.out.size)
       have HB3 := Lib.hid hb3w
       have HB13 := Lib.hid (HB12.out.trans (hb3.mono HB12.out.size))
       have HFL : Hid (R.Rn.flat qs = xs) := Lib.hid (M.sorted_ext (R.Rn.flat_up hq1) HU.out.up fun y => by rw [R.Rn.mem_flat, hq2 y])
       have hlen : qs.length = K := by
         have e := R.Rn.starts_len hq1 HU.out.up (fun y => (hq2 y).symm)
         rw [← HKK.out]
         exact e.symm
       have HL3 := Lib.hid hlen
       have HWR : Hid (Way w3 w3.heap.size (vR U3 qs.length c3) xs 3 w3.heap.size) := Lib.hid ⟨.inr (.inr ⟨rfl, qs, U3, c3, rfl, hr3, hq1, HFL.out, hc3⟩), Tyd.ownR ho3⟩
       rw [hlen] at HWR ⊢
       have HCR := Lib.hid (asR_cost w3 K c3 U3 (by omega))
       rw [HM2.out] at HCR
       have c03 := (HA.out.all_below hb3w).c0
       clear ho3 hb3 hb3w hr3 hq1 hq2 hq3 hc3 hlen HOF)
    | (go_at_call 53; (with_reducible refine HCR.out.mono ?_); rintro e w4 ⟨rfl, hb4⟩
       have HB4 : Hid (Below w.heap.size w w4) := Lib.hid (HB3.out.trans (hb4.mono HB3.out.size))
       have HB14 := Lib.hid (HB13.out.trans (hb4.mono HB13.out.size))
       have HB34 := Lib.hid hb4
       clear hb4)
    | (go_at_call 173; (with_reducible refine (askA_cost _ _ _ _ xs rfl).mono ?_); rintro e w5 ⟨rfl, hb5⟩
       have HB5 : Hid (Below w.heap.size w w5) := Lib.hid (HB4.out.trans (hb5.mono HB4.out.size))
       have HB15 := Lib.hid (HB14.out.trans (hb5.mono HB14.out.size))
       have HB35 := Lib.hid (HB34.out.trans (hb5.mono HB34.out.size))
       have HWK : Hid (Way w5 w5.heap.size (vA U1 xs.length c1) xs 1 r) := Lib.hid ((HW1.out r).next HB15.out)
       have HKE := Lib.hid (keep_any w5 q v 72 (.slice U1 xs.length c1) _ 1 (HA.out.all_below HB5.out) (HK.out w5) (fun W => kind_a W U1 xs.length c1))
       clear hb5)
    | (go_at_call 54; (with_reducible refine HKE.out.mono ?_); rintro e w6 ⟨rfl, rfl⟩))
  go_ret
  have hk : kd false xs = 1 := pk_few HC.out
  have hA5 := HA.out.all_below HB5.out
  have hal5 : Alien w5 q := by
    obtain ⟨t, x, rfl⟩ := HM.out.form
    exact hA5.alien
  refine ⟨r, by rw [hk]; rfl, Bo.store hA5 hal5 HU.out HWK.out hk, fun e => (by rw [hk] at e; cases e), (ButS.of_below HB5.out (Nat.le_refl _)).trans (but_set' _ q 0 _ _ rfl)⟩
set_option maxHeartbeats 8000000 in
theorem opt_many_runs (w : World) (q r : Nat) (xs : List Int) (long : Bool) (b : Bo w q r xs long) (hT : Tab w) (hc : 4096 < xs.length) (hlt : 2 * R.cst xs xs < 1024) :
    Calls Tryz.prog 32 #[.pointer (some ⟨q, 0, none⟩)] w (OptP w q r xs long true) := by
  obtain ⟨v, a, m⟩ := b.kept
  have HA := Lib.hid a
  have HM := Lib.hid m
  have HU := Lib.hid b.u
  have HT := Lib.hid hT
  have few := b.u.few
  have hal := Lib.hid b.alien
  have HTO := Lib.hid (told_any w q v a)
  have HPL := Lib.hid (plain_many w v xs _ r m b.u hT hc)
  have HLI := Lib.hid (fun W (hW : Below w.heap.size w W) => bo_List W q r xs long (b.next hW) (hT.below hW hT.pos))
  have HK := Lib.hid (fun W => kind_any W m)
  have cfew : R.cst xs xs ≤ 65536 := Nat.le_trans (R.cst_le _ _) few
  obtain ⟨K, hK⟩ : ∃ K, R.cst xs xs = K := ⟨_, rfl⟩
  rw [hK] at hlt cfew
  have HKK := Lib.hid hK
  obtain ⟨M2, hM2⟩ : ∃ M2, 2 * K = M2 := ⟨_, rfl⟩
  have HM2 := Lib.hid hM2
  have hM2' : M2 ≤ 131072 := by omega
  have hd : decide ((M2 : Int) < 1024) = true := decide_eq_true (by omega)
  have hdN : decide (M2 < 1024) = true := decide_eq_true (by omega)
  have HC := Lib.hid hc
  clear a m b hT hc hK hlt hM2
  go_enter Tryz.func32, Tryz.ntmps32
  go_wp2_with (first
    | (go_at_call 47; (with_reducible refine HTO.out.mono ?_); rintro e w0 ⟨rfl, rfl⟩)
    | (go_at_call 48; (with_reducible refine HPL.out.mono ?_); rintro e w1 ⟨p1, r1, rfl, hw1, hr1, hb1⟩; have HW1 := Lib.hid hw1; have HR1 := Lib.hid hr1; clear hw1 hr1; have hD1 := fun w => toB_cost p1 w; unfold vB
       have HB1 := Lib.hid hb1
       have HLI1 := Lib.hid (HLI.out w1 hb1)
       clear hb1 HPL)
    | (go_at_call 18; (with_reducible refine HLI1.out.mono ?_); rintro e w2 ⟨v2, rfl, ho2, hb2⟩
       obtain ⟨U2, c2, rfl, hr2, _⟩ := Rh.of_own ho2
       have hb2w : Below w.heap.size w w2 := HB1.out.trans (hb2.mono HB1.out.size)
       have HB2 := Lib.hid hb2w
       have HB12 := Lib.hid hb2
       have HOF := Lib.hid (R.r_of w2 w2.heap.size xs.length c2 U2 xs rfl hr2 (Nat.le_refl _) HU.out.range (by omega))
       clear ho2 hb2 hb2w hr2)
    | (go_at_call 52; (with_reducible refine HOF.out.mono ?_); rintro e w3 ⟨v3, qs, rfl, hq1, hq2, hq3, ho3, hb3⟩
       obtain ⟨U3, c3, rfl, hr3, hc3⟩ := R.Rq.of_own ho3
       have hb3w : Below w.heap.size w w3 := HB2.out.trans (hb3.mono HB2.out.size)
       have HB3 := Lib.hid hb3w
       have HB13 := Lib.hid (HB12.out.trans (hb3.mono HB12.out.size))
       have HFL : Hid (R.Rn.flat qs = xs) := Lib.hid (M.sorted_ext (R.Rn.flat_up hq1) HU.out.up fun y => by rw [R.Rn.mem_flat, hq2 y])
       have hlen : qs.length = K := by
         have e := R.Rn.starts_len hq1 HU.out.up (fun y => (hq2 y).symm)
         rw [← HKK.out]
         exact e.symm
       have HL3 := Lib.hid hlen
       have HWR : Hid (Way w3 w3.heap.size (vR U3 qs.length c3) xs 3 w3.heap.size) := Lib.hid ⟨.inr (.inr ⟨rfl, qs, U3, c3, rfl, hr3, hq1, HFL.out, hc3⟩), Tyd.ownR ho3⟩
       rw [hlen] at HWR ⊢
       have HCR := Lib.hid (asR_cost w3 K c3 U3 (by omega))
       rw [HM2.out] at HCR
       have c03 := (HA.out.all_below hb3w).c0
       clear ho3 hb3 hb3w hr3 hq1 hq2 hq3 hc3 hlen HOF)
    | (go_at_call 53; (with_reducible refine HCR.out.mono ?_); rintro e w4 ⟨rfl, hb4⟩
       have HB4 : Hid (Below w.heap.size w w4) := Lib.hid (HB3.out.trans (hb4.mono HB3.out.size))
       have HB14 := Lib.hid (HB13.out.trans (hb4.mono HB13.out.size))
       have HB34 := Lib.hid hb4
       clear hb4)
    | (go_at_call 194; (with_reducible refine (asB_cost _ _).mono ?_); rintro e w5 ⟨rfl, hb5⟩
       have HB5 : Hid (Below w.heap.size w w5) := Lib.hid (HB4.out.trans (hb5.mono HB4.out.size))
       have HB15 := Lib.hid (HB14.out.trans (hb5.mono HB14.out.size))
       have HB35 := Lib.hid (HB34.out.trans (hb5.mono HB34.out.size))
       have HWK : Hid (Way w5 w5.heap.size (vR U3 K c3) xs 3 w3.heap.size) := Lib.hid (HWR.out.next HB35.out)
       have HKE := Lib.hid (keep_any w5 q v 78 (.slice U3 K c3) _ 3 (HA.out.all_below HB5.out) (HK.out w5) (fun W => kind_r W U3 K c3))
       clear hb5)
    | (go_at_call 54; (with_reducible refine HKE.out.mono ?_); rintro e w6 ⟨rfl, rfl⟩))
  go_ret
  refine ⟨w3.heap.size, rfl, ?_, fun e => (by cases e), (ButS.of_below HB5.out (Nat.le_refl _)).trans (but_set' _ q 0 _ _ rfl)⟩
  have hA5 := HA.out.all_below HB5.out
  have hal5 : Alien w5 q := by
    obtain ⟨t, x, rfl⟩ := HM.out.form
    exact hA5.alien
  exact Bo.store hA5 hal5 HU.out HWK.out rfl
set_option maxHeartbeats 8000000 in
theorem opt_many_plain (w : World) (q r : Nat) (xs : List Int) (long : Bool) (b : Bo w q r xs long) (hT : Tab w) (hc : 4096 < xs.length) (hlt : 1024 ≤ 2 * R.cst xs xs) :
    Calls Tryz.prog 32 #[.pointer (some ⟨q, 0, none⟩)] w (OptP w q r xs long false) := by
  obtain ⟨v, a, m⟩ := b.kept
  have HA := Lib.hid a
  have HM := Lib.hid m
  have HU := Lib.hid b.u
  have HT := Lib.hid hT
  have few := b.u.few
  have hal := Lib.hid b.alien
  have HTO := Lib.hid (told_any w q v a)
  have HPL := Lib.hid (plain_many w v xs _ r m b.u hT hc)
  have HLI := Lib.hid (fun W (hW : Below w.heap.size w W) => bo_List W q r xs long (b.next hW) (hT.below hW hT.pos))
  have HK := Lib.hid (fun W => kind_any W m)
  have cfew : R.cst xs xs ≤ 65536 := Nat.le_trans (R.cst_le _ _) few
  obtain ⟨K, hK⟩ : ∃ K, R.cst xs xs = K := ⟨_, rfl⟩
  rw [hK] at hlt cfew
  have HKK := Lib.hid hK
  obtain ⟨M2, hM2⟩ : ∃ M2, 2 * K = M2 := ⟨_, rfl⟩
  have HM2 := Lib.hid hM2
  have hM2' : M2 ≤ 131072 := by omega
  have hd : decide ((M2 : Int) < 1024) = false := decide_eq_false (by omega)
  have hdN : decide (M2 < 1024) = false := decide_eq_false (by omega)
  have HC := Lib.hid hc
  clear a m b hT hc hK hlt hM2
  go_enter Tryz.func32, Tryz.ntmps32
  go_wp2_with (first
    | (go_at_call 47; (with_reducible refine HTO.out.mono ?_); rintro e w0 ⟨rfl, rfl⟩)
    | (go_at_call 48; (with_reducible refine HPL.out.mono ?_); rintro e w1 ⟨p1, r1, rfl, hw1, hr1, hb1⟩; have HW1 := Lib.hid hw1; have HR1 := Lib.hid hr1; clear hw1 hr1; have hD1 := fun w => toB_cost p1 w; unfold vB
       have HB1 := Lib.hid hb1
       have HLI1 := Lib.hid (HLI.out w1 hb1)
       clear hb1 HPL)
    | (go_at_call 18; (with_reducible refine HLI1.out.mono ?_); rintro e w2 ⟨v2, rfl, ho2, hb2⟩
       obtain ⟨U2, c2, rfl, hr2, _⟩ := Rh.of_own ho2
       have hb2w : Below w.heap.size w w2 := HB1.out.trans (hb2.mono HB1.out.size)
       have HB2 := Lib.hid hb2w
       have HB12 := Lib.hid hb2
       have HOF := Lib.hid (R.r_of w2 w2.heap.size xs.length c2 U2 xs rfl hr2 (Nat.le_refl _) HU.out.range (by omega))
       clear ho2 hb2 hb2w hr2)
    | (go_at_call 52; (with_reducible refine HOF.out.mono ?_); rintro e w3 ⟨v3, qs, rfl, hq1, hq2, hq3, ho3, hb3⟩
       obtain ⟨U3, c3, rfl, hr3, hc3⟩ := R.Rq.of_own ho3
       have hb3w : Below w.heap.size w w3 := HB2.out.trans (hb3.mono HB2.out.size)
       have HB3 := Lib.hid hb3w
       have HB13 := Lib.hid (HB12.out.trans (hb3.mono HB12.out.size))
       have HFL : Hid (R.Rn.flat qs = xs) := Lib.hid (M.sorted_ext (R.Rn.flat_up hq1) HU.out.up fun y => by rw [R.Rn.mem_flat, hq2 y])
       have hlen : qs.length = K := by
         have e := R.Rn.starts_len hq1 HU.out.up (fun y => (hq2 y).symm)
         rw [← HKK.out]
         exact e.symm
       have HL3 := Lib.hid hlen
       have HWR : Hid (Way w3 w3.heap.size (vR U3 qs.length c3) xs 3 w3.heap.size) := Lib.hid ⟨.inr (.inr ⟨rfl, qs, U3, c3, rfl, hr3, hq1, HFL.out, hc3⟩), Tyd.ownR ho3⟩
       rw [hlen] at HWR ⊢
       have HCR := Lib.hid (asR_cost w3 K c3 U3 (by omega))
       rw [HM2.out] at HCR
       have c03 := (HA.out.all_below hb3w).c0
       clear ho3 hb3 hb3w hr3 hq1 hq2 hq3 hc3 hlen HOF)
    | (go_at_call 53; (with_reducible refine HCR.out.mono ?_); rintro e w4 ⟨rfl, hb4⟩
       have HB4 : Hid (Below w.heap.size w w4) := Lib.hid (HB3.out.trans (hb4.mono HB3.out.size))
       have HB14 := Lib.hid (HB13.out.trans (hb4.mono HB13.out.size))
       have HB34 := Lib.hid hb4
       clear hb4)
    | (go_at_call 194; (with_reducible refine (asB_cost _ _).mono ?_); rintro e w5 ⟨rfl, hb5⟩
       have HB5 : Hid (Below w.heap.size w w5) := Lib.hid (HB4.out.trans (hb5.mono HB4.out.size))
       have HB15 := Lib.hid (HB14.out.trans (hb5.mono HB14.out.size))
       have HB35 := Lib.hid (HB34.out.trans (hb5.mono HB34.out.size))
       have HWK : Hid (Way w5 w5.heap.size (vB p1) xs 2 r1) := Lib.hid (HW1.out.next HB15.out)
       have HKE := Lib.hid (keep_any w5 q v 82 (.agg #[.pointer (some ⟨p1, 0, none⟩)]) _ 2 (HA.out.all_below HB5.out) (HK.out w5) (fun W => kind_b W p1))
       clear hb5)
    | (go_at_call 54; (with_reducible refine HKE.out.mono ?_); rintro e w6 ⟨rfl, rfl⟩))
  go_ret
  have hk : kd false xs = 2 := pk_many HC.out
  have hA5 := HA.out.all_below HB5.out
  have hal5 : Alien w5 q := by
    obtain ⟨t, x, rfl⟩ := HM.out.form
    exact hA5.alien
  refine ⟨r1, by rw [hk]; rfl, Bo.store hA5 hal5 HU.out HWK.out hk, fun e => HR1.out rfl, (ButS.of_below HB5.out (Nat.le_refl _)).trans (but_set' _ q 0 _ _ rfl)⟩
theorem bo_Optimise (w : World) (q r : Nat) (xs : List Int) (long : Bool) (b : Bo w q r xs long) (hT : Tab w) :
    Calls Tryz.prog 32 #[.pointer (some ⟨q, 0, none⟩)] w (OptP w q r xs long (optl xs)) := by
  unfold optl pcost
  by_cases hc : xs.length ≤ 4096
  · rw [if_pos hc]
    by_cases h : 2 * R.cst xs xs < xs.length
    · rw [decide_eq_true h]; exact opt_few_runs w q r xs long b hT hc h
    · rw [decide_eq_false h]; exact opt_few_plain w q r xs long b hT hc (by omega)
  · rw [if_neg hc]
    by_cases h : 2 * R.cst xs xs < 1024
    · rw [decide_eq_true h]; exact opt_many_runs w q r xs long b hT (by omega) h
    · rw [decide_eq_false h]; exact opt_many_plain w q r xs long b hT (by omega) (by omega)
end Go.Proofs.YtkehehfphccpbaaGreatDoor
end
