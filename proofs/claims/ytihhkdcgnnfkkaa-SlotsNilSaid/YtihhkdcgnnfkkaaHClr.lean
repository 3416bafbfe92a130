
/- Clear of a table; the text walked. -/
import Derived.Test.YtihhkdcgnnfkkaaHTab4
namespace Go.Proofs.Ytihhkdcgnnfkkaa.Hs
set_option maxRecDepth 4000
open Go.RowKit
abbrev clr (w : World) (P Q' : Nat) : World := ((w.setCell ⟨P, 2, none⟩ (.slice (some ⟨Q', 0, none⟩) 8 8)).setCell ⟨P, 3, none⟩ (.int .i64 0)).setCell ⟨P, 4, none⟩ (.int .i64 0)
theorem clr_but (w : World) (P Q' : Nat) : ButS w (clr w P Q') (· = P) := ((but_set' _ P 2 _ (· = P) rfl).trans (but_set' _ P 3 _ (· = P) rfl)).trans (but_set' _ P 4 _ (· = P) rfl)
theorem row_new {w : World} {P M Q Q' seed n c pr : Nat} (a : TRow w P Q M seed n c pr) : TRow (clr w P Q') P Q' M seed 8 0 0 := by
  have h1 := set_heap a 2 (.slice (some ⟨Q', 0, none⟩) 8 8)
  have h2 := set_heap h1 3 (.int .i64 0)
  have h3 := set_heap h2 4 (.int .i64 0)
  unfold TRow
  simpa using h3
theorem tab_clear (w : World) (P Q M seed n pr cl : Nat) (es : List (H.Key × Nat)) (a : Tab w P Q M seed n es pr cl) :
    Calls Try.prog 29 #[.pointer (some ⟨P, 0, none⟩)] w fun e w' => e = .returned (.tuple #[]) ∧ ∃ Q', Tab w' P Q' M seed 8 [] 0 cl ∧ ButS w w' (· = P) ∧ w.heap.size ≤ Q' := by
  obtain ⟨ps, t, p, h1, h2, h3, h4, h5, h6, h7, h8⟩ := a
  obtain ⟨E, hE, hmk⟩ := mk_eight
  have HE := Lib.hid hE
  have hlt := h1.row.lt
  have hc2 := h1.row.c2
  have hc3 := h1.row.c3
  have hc4 := h1.row.c4
  have hf2 := h1.row.fr 2
  have hf3 := h1.row.fr 3
  have hf4 := h1.row.fr 4
  have HROW := Lib.hid h1.row
  have HMT := Lib.hid h7
  have hne := (tb_ne_m h1 h7).1
  clear hE h1 h2 h3 h4 h5 h6 h7
  go_enter Try.func29, Try.ntmps29
  go_wp2
  refine bodyPost_end (results_none rfl _ _ _) rfl ?_
  have hz : (clr w P w.heap.size).heap.size = w.heap.size := by simp [World.setCell]
  have hbt : ButS w ((clr w P w.heap.size).alloc (.cells E.toArray 86)) (· = P) := (clr_but w P _).trans (but_alloc' _ _ _)
  refine ⟨rfl, w.heap.size, tb_new ((Below.heap_alloc _ _ _ (by omega)).trans (row_new HROW.out)) ?_ (HMT.out.but hbt (fun e => hne e.symm)) h8, hbt, Nat.le_refl _⟩
  have h := alloc_topI (clr w P w.heap.size) (.cells E.toArray 86)
  rw [hz] at h
  rw [← HE.out]
  exact h
end Go.Proofs.Ytihhkdcgnnfkkaa.Hs
