
/- What the document's Do answers (stepstoneref11): the answer's block behind the writing of it. -/
import Derived.Test.YtndielncleohlaaDoorK6
namespace Go.Proofs.YtndielncleohlaaDoor
set_option maxRecDepth 4000
open Go.RowKit
namespace K
theorem set_one {W : World} {g : Nat} {a b c b' c' : Value} {T : TypeId} (h : W.heap[g]? = some (.cells #[a, b, c] T (0, 0))) : ((W.setCell ⟨g, 1, none⟩ b').setCell ⟨g, 2, none⟩ c').heap[g]? = some (.cells #[a, b', c'] T (0, 0)) := by
  have h1 := Go.heap_setCell_same W g 1 _ _ b' h
  have h2 := Go.heap_setCell_same _ g 2 _ _ c' h1
  simpa using h2
theorem set_all {W : World} {g : Nat} {a b c a' b' c' : Value} {T : TypeId} (h : W.heap[g]? = some (.cells #[a, b, c] T (0, 0))) : (((W.setCell ⟨g, 0, none⟩ a').setCell ⟨g, 1, none⟩ b').setCell ⟨g, 2, none⟩ c').heap[g]? = some (.cells #[a', b', c'] T (0, 0)) := by
  have h0 := Go.heap_setCell_same W g 0 _ _ a' h
  exact set_one (a := a') (b := b) (c := c) (by simpa using h0)
theorem kx_set {W : World} {v : Value} {ys : List Nat} (h : KX W v ys) (p : Addr) (u : Value) (hp : v.ownBlock ≠ some p.block) : KX (W.setCell p u) v ys := by
  refine ⟨h.1, ?_⟩
  rcases h.2 with hn | ⟨g, cap, cur, e, hb0, hg, rest⟩
  · exact .inl hn
  · refine .inr ⟨g, cap, cur, e, hb0, (Go.heap_setCell_other W p g u ?_).trans hg, rest⟩
    intro e2
    subst e
    exact hp (by simp [Value.ownBlock, e2])
theorem kx_drewN {W : World} {v : Value} {ys : List Nat} (h : KX W v ys) (n : Nat) : KX (W.drewN n) v ys := h.below (below_drewN (Below.refl _ _) n)
end K
/-- What is there when the answer has been written. -/
theorem k_end {w W : World} {v : Value} {ys : List Nat} {a b c a' b' c' : Value} {T : TypeId} (hW0 : W.heap[w.heap.size + 1]? = some (.cells #[a, b, c] T (0, 0))) (hL : Below w.heap.size w W) (hK : KX W v ys) (hne : v.ownBlock ≠ some (w.heap.size + 1)) (n : Nat) :
    ((((W.setCell ⟨w.heap.size + 1, 0, none⟩ a').setCell ⟨w.heap.size + 1, 1, none⟩ b').setCell ⟨w.heap.size + 1, 2, none⟩ c').drewN n).heap[w.heap.size + 1]? = some (.cells #[a', b', c'] T (0, 0)) ∧
    KX ((((W.setCell ⟨w.heap.size + 1, 0, none⟩ a').setCell ⟨w.heap.size + 1, 1, none⟩ b').setCell ⟨w.heap.size + 1, 2, none⟩ c').drewN n) v ys ∧
    Below w.heap.size w ((((W.setCell ⟨w.heap.size + 1, 0, none⟩ a').setCell ⟨w.heap.size + 1, 1, none⟩ b').setCell ⟨w.heap.size + 1, 2, none⟩ c').drewN n) :=
  ⟨K.set_all hW0, K.kx_drewN (K.kx_set (K.kx_set (K.kx_set hK _ _ hne) _ _ hne) _ _ hne) n, below_drewN (((hL.setCell (p := ⟨w.heap.size + 1, 0, none⟩) (by simp) _).setCell (p := ⟨w.heap.size + 1, 1, none⟩) (by simp) _).setCell (p := ⟨w.heap.size + 1, 2, none⟩) (by simp) _) n⟩
theorem kx_own {w : World} {v : Value} {xs : List Nat} (h : KX w v xs) : v.ownBlock ≠ some (w.heap.size + 1) := by
  intro e
  have := (K.own_lt h e).1
  omega
structure KE (w w2 w4 : World) (v : Value) (xs : List Nat) : Prop where
  a0 : w4.heap[w.heap.size + 1]? = some kanso
  x0 : w4.heap[w2.heap.size]? = some kanso
  kx : KX w4 v xs
  low : Below w.heap.size w w4
  size : w.heap.size + 2 ≤ w2.heap.size
theorem KE.of {w w2 w4 : World} {v : Value} {xs : List Nat} {d k : Nat} (h : KD w w2 v xs d k) (hb : Below (w2.alloc kanso).heap.size (w2.alloc kanso) w4) : KE w w2 w4 v xs := by
  have hs : (w2.alloc kanso).heap.size = w2.heap.size + 1 := by simp
  have b2 : Below w2.heap.size w2 w4 := ((Below.refl _ _).alloc (Nat.le_refl _) _).trans (hb.mono (by rw [hs]; omega))
  refine ⟨(b2.block _ (by have := h.size; omega)).trans h.a0, (hb.block _ (by rw [hs]; omega)).trans (K.alloc_top w2 _), h.kx.below b2, h.low.trans (b2.mono h.low.size), h.size⟩
end Go.Proofs.YtndielncleohlaaDoor
