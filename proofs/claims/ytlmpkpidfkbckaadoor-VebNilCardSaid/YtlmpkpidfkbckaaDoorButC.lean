
/- What a call leaves of the world but for some blocks. -/
import Derived.Test.YtlmpkpidfkbckaaDoorQM
import Derived.Lib.Hide
import Derived.OwnWalk
import Derived.Laws.OwnMore
import Derived.Below
namespace Go.Proofs.YtlmpkpidfkbckaaDoor
open Go.RowKit
section
variable {w w' : World}
structure ButS (w w' : World) (S : Nat → Prop) : Prop where
  os : w'.os = w.os
  tape : w'.tape = w.tape
  output : w'.output = w.output
  size : w.heap.size ≤ w'.heap.size
  block : ∀ j, j < w.heap.size → ¬ S j → w'.heap[j]? = w.heap[j]?
theorem ButS.refl (w : World) (S : Nat → Prop) : ButS w w S := ⟨rfl, rfl, rfl, Nat.le_refl _, fun _ _ _ => rfl⟩
theorem ButS.trans {w2 : World} {S : Nat → Prop} (h : ButS w w' S) (k : ButS w' w2 S) : ButS w w2 S :=
  ⟨k.os.trans h.os, k.tape.trans h.tape, k.output.trans h.output, Nat.le_trans h.size k.size, fun j hj hs => (k.block j (Nat.lt_of_lt_of_le hj h.size) hs).trans (h.block j hj hs)⟩
theorem ButS.mono {S T : Nat → Prop} (h : ButS w w' S) (hST : ∀ j, j < w.heap.size → S j → T j) : ButS w w' T := ⟨h.os, h.tape, h.output, h.size, fun j hj ht => h.block j hj fun hs => ht (hST j hj hs)⟩
/-- One step more, which changes but what S has, or is younger. -/
theorem ButS.then {w2 : World} {S T : Nat → Prop} (h : ButS w w' S) (k : ButS w' w2 T) (hT : ∀ j, T j → S j ∨ w.heap.size ≤ j) : ButS w w2 S :=
  ⟨k.os.trans h.os, k.tape.trans h.tape, k.output.trans h.output, Nat.le_trans h.size k.size, fun j hj hs => (k.block j (Nat.lt_of_lt_of_le hj h.size) fun ht => by rcases hT j ht with h1 | h1; exact hs h1; omega).trans (h.block j hj hs)⟩
theorem ButS.of_grown {row : Option Nat} {S : Nat → Prop} (g : w.grownBy w' row) (h : ∀ j, row = some j → S j) : ButS w w' S :=
  ⟨g.os, g.tape, g.output, g.size, fun j hj hs => g.block j hj fun e => hs (h j e.symm)⟩
theorem ButS.drewN {S : Nat → Prop} (h : ButS w w' S) (n : Nat) : ButS w (w'.drewN n) S := ⟨h.os, h.tape, h.output, h.size, h.block⟩
theorem ButS.below {S : Nat → Prop} {B : Nat} (h : ButS w w' S) (hB : B ≤ w.heap.size) (hS : ∀ j, S j → B ≤ j) : Below B w w' :=
  ⟨h.os, h.tape, h.output, h.size, fun k hk => h.block k (by omega) fun hs => by have := hS k hs; omega⟩
theorem ButS.own {S : Nat → Prop} {base : Nat} {e : TypeId} {size n : Nat} {v : Value} {xs : List Value} (b : ButS w w' S) (h : w.ownsRow base e size v n xs) (hS : ∀ k, v.ownBlock = some k → ¬ S k) : w'.ownsRow base e size v n xs := by
  refine ⟨h.1, ?_⟩
  rcases h.2 with hn | ⟨g, cap, cur, rfl, hb, hg, rest⟩
  · exact .inl hn
  · exact .inr ⟨g, cap, cur, rfl, hb, (b.block g (Array.getElem?_eq_some_iff.1 hg).1 (hS g rfl)).trans hg, rest⟩
end
theorem ButS.cell {w w' : World} {S : Nat → Prop} (h : ButS w w' S) {b : Nat} (hb : b < w.heap.size) (hs : ¬ S b) (o : Nat) : w'.cell? ⟨b, o, none⟩ = w.cell? ⟨b, o, none⟩ := by
  simp [World.cell?, h.block b hb hs]
theorem ButS.of_below {B : Nat} {w w' : World} {S : Nat → Prop} (h : Below B w w') (hB : w.heap.size ≤ B) : ButS w w' S :=
  ⟨h.os, h.tape, h.output, h.size, fun j hj _ => h.block j (by omega)⟩
theorem but_alloc' (w : World) (o : Obj) (S : Nat → Prop) : ButS w (w.alloc o) S := ButS.of_grown (World.grownBy_alloc w o none) (by simp)
theorem ButS.of_chg {w w' : World} {S : Nat → Prop} (h : K.Chg w w' S) : ButS w w' S := ⟨h.os, h.tape, h.output, h.size, h.block⟩
theorem ButS.chg {w w' : World} {S : Nat → Prop} (h : ButS w w' S) : K.Chg w w' S := ⟨h.os, h.tape, h.output, h.size, h.block⟩
end Go.Proofs.YtlmpkpidfkbckaaDoor
