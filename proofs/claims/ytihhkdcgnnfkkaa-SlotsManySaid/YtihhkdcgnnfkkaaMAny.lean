
/- A meter of any five numbers, as a table of its own has it; the text walked. -/
import Derived.Test.YtihhkdcgnnfkkaaButC
namespace Go.Proofs.Ytihhkdcgnnfkkaa.Hs
open Go.RowKit
theorem ret_int {k : IntKind} {a b : Int} (h : a = b) : Ending.returned (.int k a) = .returned (.int k b) := by rw [h]
theorem ret_bool {a b : Bool} (h : a = b) : Ending.returned (.bool a) = .returned (.bool b) := by rw [h]
/-- Block g is a meter; what its numbers are isn't told. -/
def Mt (w : World) (g _r _c _s _t _p : Nat) : Prop := ∃ r c s t p : Int, w.heap[g]? = some (.cells #[.int .i64 r, .int .i64 c, .int .i64 s, .int .i64 t, .int .i64 p] 72 (0, 0))
section
variable {w w' : World} {g r c s t p : Nat}
theorem Mt.lt (h : Mt w g r c s t p) : g < w.heap.size := by
  obtain ⟨_, _, _, _, _, h⟩ := h
  exact row_lt h
theorem Mt.below {B : Nat} (h : Mt w g r c s t p) (hb : Below B w w') (hg : g < B) : Mt w' g r c s t p := by
  obtain ⟨a1, a2, a3, a4, a5, h⟩ := h
  exact ⟨a1, a2, a3, a4, a5, (hb.block g hg).trans h⟩
theorem Mt.any {r' c' s' t' p' : Nat} (h : Mt w g r c s t p) : Mt w g r' c' s' t' p' := h
theorem set_heap {cs : Array Value} {T : TypeId} (h : w.heap[g]? = some (.cells cs T (0, 0))) (i : Nat) (u : Value) : (w.setCell ⟨g, i, none⟩ u).heap[g]? = some (.cells (cs.setIfInBounds i u) T (0, 0)) := by
  simp [World.setCell, Array.getElem?_modify, h]
end
theorem grown_set (w : World) (g i : Nat) (u : Value) : w.grownBy (w.setCell ⟨g, i, none⟩ u) (some g) :=
  ⟨rfl, rfl, rfl, by simp [World.setCell], fun j _ hne => Below.heap_setCell w _ u j (fun e => hne (by rw [e]))⟩
theorem but_set' (w : World) (h k : Nat) (u : Value) (S : Nat → Prop) (hS : S h) : ButS w (w.setCell ⟨h, k, none⟩ u) S := ButS.of_grown (grown_set w h k u) (fun j e => by cases e; exact hS)
theorem grown_trans2 {a b c : World} {g : Nat} (h : a.grownBy b (some g)) (k : b.grownBy c (some g)) : a.grownBy c (some g) :=
  ⟨k.os.trans h.os, k.tape.trans h.tape, k.output.trans h.output, Nat.le_trans h.size k.size, fun j hj hne => (k.block j (Nat.lt_of_lt_of_le hj h.size) hne).trans (h.block j hj hne)⟩
theorem grown_drew {a b : World} {row : Option Nat} (h : a.grownBy b row) : a.grownBy b.drew row := ⟨h.os, h.tape, h.output, h.size, h.block⟩
theorem below_drewN {B : Nat} {w w' : World} (h : Below B w w') (n : Nat) : Below B w (w'.drewN n) := ⟨h.os, h.tape, h.output, h.size, h.block⟩
theorem m_step (w : World) (g : Nat) (h : Mt w g 0 0 0 0 0) :
    Calls Try.prog 48 #[.pointer (some ⟨g, 0, none⟩)] w fun e w' => e = .returned (.tuple #[]) ∧ Mt w' g 0 0 0 0 0 ∧ w.grownBy w' (some g) := by
  obtain ⟨r, c, s, t, p, hr⟩ := h
  have hc := cell_of_row w g 3 _ _ (0, 0) hr
  have hf3 := frozen_of_row w g 3 _ _ hr
  simp at hc
  obtain ⟨T, hT⟩ : ∃ T, wrap64 (t + 1) = T := ⟨_, rfl⟩
  have hT2 : IntKind.i64.wrap (t + 1) = T := (IntWalk.i64_left _).trans hT
  have h2 := row_set hr 3 (.int .i64 T)
  simp at h2
  have k3 := cell_of_row _ g 3 _ _ (0, 0) h2
  have k4 := cell_of_row _ g 4 _ _ (0, 0) h2
  have f4 := frozen_of_row _ g 4 _ _ h2
  simp at k3 k4
  have H := Lib.hid h2
  have G := Lib.hid (grown_set w g 3 (.int .i64 T))
  clear hr h2
  go_enter Try.func48, Try.ntmps48
  go_wp2
  go_region
  go_end0
  refine ⟨rfl, ⟨r, c, s, T, max p T, ?_⟩, grown_drew (grown_trans2 G.out (grown_set _ _ _ _))⟩
  have := row_set H.out 4 (.int .i64 (max p T))
  simp at this
  exact this
theorem m_call (w : World) (g r c s t p : Nat) (h : Mt w g r c s t p) (_hr : c < 1000000) (_ht : t < 1000000) :
    Calls Try.prog 44 #[.pointer (some ⟨g, 0, none⟩)] w fun e w' => e = .returned (.tuple #[]) ∧ Mt w' g r (c + 1) s (t + 1) (max p (t + 1)) ∧ w.grownBy w' (some g) := by
  obtain ⟨r, c, s, t, p, hr⟩ := h
  have hc := cell_of_row w g 1 _ _ (0, 0) hr
  have hf := frozen_of_row w g 1 _ _ hr
  simp at hc
  have h2 : Mt (w.setCell ⟨g, 1, none⟩ (.int .i64 (wrap64 (c + 1)))) g 0 0 0 0 0 := ⟨r, wrap64 (c + 1), s, t, p, by
    have := row_set hr 1 (.int .i64 (wrap64 (c + 1)))
    simpa using this⟩
  have H := Lib.hid h2
  have G := Lib.hid (grown_set w g 1 (.int .i64 (wrap64 (c + 1))))
  have hsH := Lib.hid (m_step _ g h2)
  clear hr h2
  go_enter Try.func44, Try.ntmps44
  go_wp2_with (go_at_call 48; (with_reducible refine hsH.out.mono ?_); rintro e w1 ⟨rfl, hm, hg⟩; have HM := Lib.hid hm; have HG := Lib.hid hg; clear hm hg)
  go_end0
  exact ⟨rfl, HM.out.any, grown_trans2 G.out HG.out⟩
theorem m_new (w : World) :
    Calls Try.prog 20 #[] w fun e w' => e = .returned (.pointer (some ⟨w.heap.size, 0, none⟩)) ∧ Mt w' w.heap.size 0 0 0 0 0 ∧ Below w.heap.size w w' := by
  go_enter Try.func20, Try.ntmps20
  go_wp2
  go_ret
  exact ⟨rfl, ⟨0, 0, 0, 0, 0, K.alloc_top _ _⟩, (Below.refl _ w).alloc (Nat.le_refl _) _⟩
end Go.Proofs.Ytihhkdcgnnfkkaa.Hs
