
/- Clear of a table; two tables side by side; the text walked. -/
import Derived.Test.YtkpfgbcjimkfeaaHPlays
namespace Go.Proofs.Ytkpfgbcjimkfeaa
open Go.RowKit
abbrev clr (w : World) (P Q' : Nat) : World := ((w.setCell ⟨P, 2, none⟩ (.slice (some ⟨Q', 0, none⟩) 8 8)).setCell ⟨P, 3, none⟩ (.int .i64 0)).setCell ⟨P, 4, none⟩ (.int .i64 0)
theorem clr_but (w : World) (P Q' : Nat) : ButS w (clr w P Q') (· = P) := ((but_set' _ P 2 _ (· = P) rfl).trans (but_set' _ P 3 _ (· = P) rfl)).trans (but_set' _ P 4 _ (· = P) rfl)
theorem row_new {w : World} {P M Q Q' seed n c pr : Nat} (a : TRow w P Q M seed n c pr) : TRow (clr w P Q') P Q' M seed 8 0 0 := by
  have h1 := set_heap a 2 (.slice (some ⟨Q', 0, none⟩) 8 8)
  have h2 := set_heap h1 3 (.int .i64 0)
  have h3 := set_heap h2 4 (.int .i64 0)
  unfold TRow
  simpa using h3
theorem tab_clear (w : World) (P Q M seed n pr cl : Nat) (es : List (H.Key × Nat)) (a : Tab w P Q M seed n es pr cl) :
    Calls Try.prog 14 #[.pointer (some ⟨P, 0, none⟩)] w fun e w' => e = .returned (.tuple #[]) ∧ ∃ Q', Tab w' P Q' M seed 8 [] 0 cl ∧ ButS w w' (· = P) ∧ w.heap.size ≤ Q' := by
  obtain ⟨ps, t, p, h1, h2, h3, h4, h5, h6, h7, h8⟩ := a
  obtain ⟨E, hE, hmk⟩ := mk_eight
  have HE := Lib.hid hE
  have hlt := h1.row.lt
  have hc2 := h1.row.c2
  have hc3 := h1.row.c3
  have hc4 := h1.row.c4
  have hf2 := h1.row.fr 2
  have hf3 := h1.row.fr 3
  have hf4 := h1.row.fr 4
  have HROW := Lib.hid h1.row
  have HMT := Lib.hid h7
  have hne := (tb_ne_m h1 h7).1
  clear hE h1 h2 h3 h4 h5 h6 h7
  go_enter Try.func14, Try.ntmps14
  go_wp2
  refine bodyPost_end (results_none rfl _ _ _) rfl ?_
  have hz : (clr w P w.heap.size).heap.size = w.heap.size := by simp [World.setCell]
  have hbt : ButS w ((clr w P w.heap.size).alloc (.cells E.toArray 60)) (· = P) := (clr_but w P _).trans (but_alloc' _ _ _)
  refine ⟨rfl, w.heap.size, tb_new ((Below.heap_alloc _ _ _ (by omega)).trans (row_new HROW.out)) ?_ (HMT.out.but hbt (fun e => hne e.symm)) h8, hbt, Nat.le_refl _⟩
  have h := alloc_topI (clr w P w.heap.size) (.cells E.toArray 60)
  rw [hz] at h
  rw [← HE.out]
  exact h
/-- Two tables and two lists, apart from one another; block T is none of theirs. -/
def H2 (w0 w : World) (T P1 M1 s1 P2 M2 s2 k : Nat) (es1 es2 : List (H.Key × Nat)) (v1 v2 : Value) : Prop :=
  ∃ Q1 n1 pr1 cl1 Q2 n2 pr2 cl2, HS w P1 Q1 M1 s1 n1 es1 pr1 cl1 v1 ∧ HS w P2 Q2 M2 s2 n2 es2 pr2 cl2 v2 ∧ es1.length ≤ k ∧ es2.length ≤ k ∧ cl1 ≤ k ∧ cl2 ≤ k ∧
    (∀ j, TF P1 Q1 M1 j → ¬ TF P2 Q2 M2 j) ∧ (∀ g, v1.ownBlock = some g → ¬ TF P2 Q2 M2 g) ∧ (∀ g, v2.ownBlock = some g → ¬ TF P1 Q1 M1 g) ∧
    (∀ j, TF P1 Q1 M1 j ∨ TF P2 Q2 M2 j → w0.heap.size ≤ j ∧ j ≠ T) ∧ Below w0.heap.size w0 w
section
variable {w0 w w' : World} {T P1 M1 s1 P2 M2 s2 k : Nat} {es1 es2 : List (H.Key × Nat)} {v1 v2 : Value}
theorem H2.swap (h : H2 w0 w T P1 M1 s1 P2 M2 s2 k es1 es2 v1 v2) : H2 w0 w T P2 M2 s2 P1 M1 s1 k es2 es1 v2 v1 := by
  obtain ⟨Q1, n1, pr1, cl1, Q2, n2, pr2, cl2, a, b, c1, c2, c3, c4, d1, d2, d3, e1, e2⟩ := h
  exact ⟨Q2, n2, pr2, cl2, Q1, n1, pr1, cl1, b, a, c2, c1, c4, c3, fun j h1 h2 => d1 j h2 h1, d3, d2, fun j h => e1 j h.symm, e2⟩
theorem H2.below (h : H2 w0 w T P1 M1 s1 P2 M2 s2 k es1 es2 v1 v2) (hb : Below w.heap.size w w') : H2 w0 w' T P1 M1 s1 P2 M2 s2 k es1 es2 v1 v2 := by
  obtain ⟨Q1, n1, pr1, cl1, Q2, n2, pr2, cl2, a, b, c1, c2, c3, c4, d1, d2, d3, e1, e2⟩ := h
  exact ⟨Q1, n1, pr1, cl1, Q2, n2, pr2, cl2, a.below hb, b.below hb, c1, c2, c3, c4, d1, d2, d3, e1, e2.trans (hb.mono e2.size)⟩
theorem H2.box (h : H2 w0 w T P1 M1 s1 P2 M2 s2 k es1 es2 v1 v2) (o : Obj) : H2 w0 (w.alloc o) w.heap.size P1 M1 s1 P2 M2 s2 k es1 es2 v1 v2 := by
  obtain ⟨Q1, n1, pr1, cl1, Q2, n2, pr2, cl2, a, b, c1, c2, c3, c4, d1, d2, d3, e1, e2⟩ := h
  have hb : Below w.heap.size w (w.alloc o) := (Below.refl _ w).alloc (Nat.le_refl _) o
  refine ⟨Q1, n1, pr1, cl1, Q2, n2, pr2, cl2, a.below hb, b.below hb, c1, c2, c3, c4, d1, d2, d3, fun j hj => ⟨(e1 j hj).1, ?_⟩, e2.trans (hb.mono e2.size)⟩
  rcases hj with h | h
  · have := a.tab.tf_lt j h; omega
  · have := b.tab.tf_lt j h; omega
theorem H2.more (h : H2 w0 w T P1 M1 s1 P2 M2 s2 k es1 es2 v1 v2) {k' : Nat} (hk : k ≤ k') : H2 w0 w T P1 M1 s1 P2 M2 s2 k' es1 es2 v1 v2 := by
  obtain ⟨Q1, n1, pr1, cl1, Q2, n2, pr2, cl2, a, b, c1, c2, c3, c4, d1, d2, d3, e1, e2⟩ := h
  exact ⟨Q1, n1, pr1, cl1, Q2, n2, pr2, cl2, a, b, by omega, by omega, by omega, by omega, d1, d2, d3, e1, e2⟩
/-- An act on the first of the two. -/
theorem H2.act (h : H2 w0 w T P1 M1 s1 P2 M2 s2 k es1 es2 v1 v2) (hT : T < w.heap.size) (hk : k ≤ 1000) (d l p x : Nat) (hd : d < 256) (l1 : l < 256) (p1 : p < 18446744073709551616) (x1 : x < 18446744073709551616) :
    Calls Try.prog 8 #[.pointer (some ⟨P1, 0, none⟩), v1, hactv d l p x] w fun e w' => ∃ v', e = .returned (.tuple #[v', .bool true]) ∧ H2 w0 w' T P1 M1 s1 P2 M2 s2 (k + 1) (hdo es1 d (l, p) x) es2 v' v2 ∧ w'.heap[T]? = w.heap[T]? ∧ w.heap.size ≤ w'.heap.size := by
  obtain ⟨Q1, n1, pr1, cl1, Q2, n2, pr2, cl2, a, b, c1, c2, c3, c4, d1, d2, d3, e1, e2⟩ := h
  have htf1 := a.tab.tf_lt
  have htf2 := b.tab.tf_lt
  refine (law_do w P1 Q1 M1 s1 n1 pr1 cl1 es1 v1 a (by omega) (by omega) d l p x hd l1 p1 x1).mono ?_
  rintro e w' ⟨Q', n', pr', v', rfl, h1, h2, h3, h4⟩
  have hlen := hdo_len es1 d (l, p) x
  have hcl : (if d % 4 = 3 then cl1 + 1 else cl1) ≤ k + 1 := by split <;> omega
  have hb0 := e2.size
  have hq : ∀ j, TF P1 Q' M1 j → TF P1 Q1 M1 j ∨ w.heap.size ≤ j := fun j hj => by
    rcases hj with h | h | h
    · exact .inl (.inl h)
    · rcases h3 with h3 | h3
      · exact .inl (.inr (.inl (h.trans h3)))
      · exact .inr (by omega)
    · exact .inl (.inr (.inr h))
  have hv2lt : ∀ g, v2.ownBlock = some g → g < w.heap.size := fun g e => (own_lt b.lx e).1
  refine ⟨v', rfl, ⟨Q', n', pr', _, Q2, n2, pr2, cl2, h1, ⟨b.tab.but h2 (fun j hj h => d1 j h hj), h2.own b.lx (fun g e h => d3 g e h), b.off, b.ris⟩, by omega, by omega, hcl, by omega, fun j hj h => ?_, fun g e h => ?_, fun g e h => ?_, fun j hj => ?_, e2.trans (h2.below hb0 (fun j hj => (e1 j (.inl hj)).1))⟩, h2.block T hT (fun h => (e1 T (.inl h)).2 rfl), h2.size⟩
  · rcases hq j hj with h5 | h5
    · exact d1 j h5 h
    · have := htf2 j h; omega
  · rcases h4 with rfl | h4
    · exact d2 g e h
    · have := h4 g e; have := htf2 g h; omega
  · rcases hq g h with h5 | h5
    · exact d3 g e h5
    · have := hv2lt g e; omega
  · rcases hj with hj | hj
    · rcases hq j hj with h5 | h5
      · exact e1 j (.inl h5)
      · exact ⟨by omega, by omega⟩
    · exact e1 j (.inr hj)
end
end Go.Proofs.Ytkpfgbcjimkfeaa
