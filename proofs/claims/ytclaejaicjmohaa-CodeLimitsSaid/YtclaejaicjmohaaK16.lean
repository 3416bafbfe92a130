
/- What a set of keys by its methods must keep (layers 11, 12, 14): a law's side walks on this alone. -/
import Derived.Test.YtclaejaicjmohaaK10
import Derived.Test.YtclaejaicjmohaaK12
namespace Go.Proofs.Ytclaejaicjmohaa
set_option maxRecDepth 4000
open Go.RowKit
namespace K
/-- Nothing is written but in the blocks O. -/
structure Chg (w w' : World) (O : Nat → Prop) : Prop where
  os : w'.os = w.os
  tape : w'.tape = w.tape
  output : w'.output = w.output
  size : w.heap.size ≤ w'.heap.size
  block : ∀ g, g < w.heap.size → ¬ O g → w'.heap[g]? = w.heap[g]?
theorem Chg.of_below {w w' : World} {O : Nat → Prop} (h : Below w.heap.size w w') : Chg w w' O := ⟨h.os, h.tape, h.output, h.size, fun g hg _ => h.block g hg⟩
theorem Chg.trans {w w1 w2 : World} {O O1 : Nat → Prop} (h : Chg w w1 O) (h1 : Chg w1 w2 O1) (hO : ∀ j, O1 j → O j ∨ w.heap.size ≤ j) : Chg w w2 O :=
  ⟨h1.os.trans h.os, h1.tape.trans h.tape, h1.output.trans h.output, Nat.le_trans h.size h1.size, fun g hg hn => (h1.block g (Nat.lt_of_lt_of_le hg h.size) (fun h2 => by rcases hO g h2 with h3 | h3; exact hn h3; omega)).trans (h.block g hg hn)⟩
theorem Chg.below {w w' : World} {O : Nat → Prop} {B : Nat} (h : Chg w w' O) (hB : B ≤ w.heap.size) (hO : ∀ j, O j → B ≤ j) : Below B w w' := by
  refine ⟨h.os, h.tape, h.output, Nat.le_trans (by first | exact hB | exact h.size) (by first | exact h.size | exact Nat.le_refl _), fun g hg => h.block g (Nat.lt_of_lt_of_le hg hB) (fun h2 => by have := hO g h2; omega)⟩
theorem Chg.kx {w w' : World} {O : Nat → Prop} (h : Chg w w' O) {v : Value} {xs : List Nat} (hk : KX w v xs) (hv : ∀ g, v.ownBlock = some g → ¬ O g) : KX w' v xs := by
  refine ⟨hk.1, ?_⟩
  rcases hk.2 with hn | ⟨g, cap, cur, e, hb0, hg, rest⟩
  · exact .inl hn
  · exact .inr ⟨g, cap, cur, e, hb0, (h.block g (Array.getElem?_eq_some_iff.1 hg).1 (hv g (by subst e; rfl))).trans hg, rest⟩
end K
end Go.Proofs.Ytclaejaicjmohaa
