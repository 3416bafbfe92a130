
/- Rows, blocks that are written; a meter whose numbers may be any; the texts walked. -/
import Derived.Test.YtclaejaicjmohaaK16
import Derived.IntWalk
import Derived.Laws.Rows
import Derived.LoopTactic
import Derived.RegionTactic
namespace Go.Proofs.Ytclaejaicjmohaa
open Go.RowKit
theorem row_lt {w : World} {g : Nat} {o : Obj} (h : w.heap[g]? = some o) : g < w.heap.size := (Array.getElem?_eq_some_iff.1 h).1
theorem row_ne {w : World} {g g' : Nat} {cs cs' : Array Value} {T T' : TypeId} (h : w.heap[g]? = some (.cells cs T (0, 0))) (h' : w.heap[g']? = some (.cells cs' T' (0, 0))) (hT : T ≠ T') : g ≠ g' := by
  rintro rfl
  rw [h] at h'
  injection h' with h'
  injection h' with _ ht
  exact hT ht
theorem row_set {w : World} {g : Nat} {cs : Array Value} {T : TypeId} (h : w.heap[g]? = some (.cells cs T (0, 0))) (i : Nat) (u : Value) : (w.setCell ⟨g, i, none⟩ u).heap[g]? = some (.cells (cs.setIfInBounds i u) T (0, 0)) := by
  simp [World.setCell, Array.getElem?_modify, h]
theorem chg_set (w : World) (g i : Nat) (u : Value) (O : Nat → Prop) (h : O g) : K.Chg w (w.setCell ⟨g, i, none⟩ u) O :=
  ⟨rfl, rfl, rfl, by simp [World.setCell], fun j _ hn => Below.heap_setCell w _ u j (fun e => hn (by rw [e]; exact h))⟩
theorem chg_alloc (w : World) (o : Obj) (O : Nat → Prop) : K.Chg w (w.alloc o) O := K.Chg.of_below ((Below.refl _ w).alloc (Nat.le_refl _) _)
theorem chg_refl (w : World) (O : Nat → Prop) : K.Chg w w O := ⟨rfl, rfl, rfl, Nat.le_refl _, fun _ _ _ => rfl⟩
theorem K.Chg.mono {w w' : World} {O O' : Nat → Prop} (h : K.Chg w w' O) (hO : ∀ j, O j → O' j) : K.Chg w w' O' := ⟨h.os, h.tape, h.output, h.size, fun g hg hn => h.block g hg (fun h1 => hn (hO g h1))⟩
theorem K.Chg.same {w w1 w2 : World} {O : Nat → Prop} (h : K.Chg w w1 O) (h1 : K.Chg w1 w2 O) : K.Chg w w2 O := h.trans h1 (fun _ h => .inl h)
theorem K.Chg.drewN {w w' : World} {O : Nat → Prop} (h : K.Chg w w' O) (n : Nat) : K.Chg w (w'.drewN n) O := ⟨h.os, h.tape, h.output, h.size, h.block⟩
theorem K.Chg.grown {w w1 w2 : World} {O : Nat → Prop} {row : Option Nat} (h : K.Chg w w1 O) (g : w1.grownBy w2 row) (hr : ∀ j, row = some j → O j ∨ w.heap.size ≤ j) : K.Chg w w2 O :=
  h.trans (O1 := fun j => row = some j) ⟨g.os, g.tape, g.output, g.size, fun k hk hn => g.block k hk (fun e => hn e.symm)⟩ (fun j hj => hr j hj)
theorem K.Chg.cell {w w' : World} {O : Nat → Prop} (h : K.Chg w w' O) {b : Nat} (hb : b < w.heap.size) (hn : ¬ O b) (o : Nat) : w'.cell? ⟨b, o, none⟩ = w.cell? ⟨b, o, none⟩ := by simp [World.cell?, h.block b hb hn]
theorem K.Chg.own {w w' : World} {O : Nat → Prop} {base : Nat} {e : TypeId} {size n : Nat} {v : Value} {xs : List Value} (b : K.Chg w w' O) (h : w.ownsRow base e size v n xs) (hS : ∀ k, v.ownBlock = some k → ¬ O k) : w'.ownsRow base e size v n xs := by
  refine ⟨h.1, ?_⟩
  rcases h.2 with hn | ⟨g, cap, cur, rfl, hb, hg, rest⟩
  · exact .inl hn
  · exact .inr ⟨g, cap, cur, rfl, hb, (b.block g (row_lt hg) (hS g rfl)).trans hg, rest⟩
theorem own_some {w : World} {base : Nat} {e : TypeId} {size n c : Nat} {A : Option Addr} {xs : List Value} (h : w.ownsRow base e size (.slice A n c) n xs) (hn : 0 < n) : ∃ g, A = some ⟨g, 0, none⟩ := by
  rcases h.2 with ⟨_, rfl⟩ | ⟨g, cap, cur, hv, _⟩
  · omega
  · simp at hv; exact ⟨g, hv.1⟩
theorem own_addr {w : World} {base : Nat} {e : TypeId} {size n c : Nat} {A : Option Addr} {xs : List Value} (h : w.ownsRow base e size (.slice A n c) n xs) : (A = none ∧ n = 0 ∧ c = 0) ∨ ∃ g, A = some ⟨g, 0, none⟩ ∧ g < w.heap.size ∧ n ≤ c ∧ ∃ cur, w.heap[g]? = some (.cells cur e (0, 0)) := by
  rcases h.2 with ⟨hv, rfl⟩ | ⟨g, cap, cur, hv, _, hg, hc, _⟩
  · simp at hv; exact .inl ⟨hv.1, rfl, hv.2⟩
  · simp at hv; exact .inr ⟨g, hv.1, row_lt hg, by omega, cur, hg⟩
theorem own_cap {w : World} {base : Nat} {e : TypeId} {size n c : Nat} {A : Option Addr} {xs : List Value} (h : w.ownsRow base e size (.slice A n c) n xs) : n ≤ c := by
  rcases h.2 with ⟨hv, rfl⟩ | ⟨g, cap, cur, hv, _, _, hnc, _⟩
  · omega
  · simp at hv; omega
theorem own_cut {w : World} {base : Nat} {e : TypeId} {size n c : Nat} {A : Option Addr} {xs : List Value} (h : w.ownsRow base e size (.slice A n c) n xs) {k : Nat} (hk : k ≤ n) : w.ownsRow base e size (.slice A k c) k (xs.take (k * size)) := by
  have hl := h.1
  have hle : k * size ≤ n * size := Nat.mul_le_mul_right _ hk
  refine ⟨by rw [List.length_take]; omega, ?_⟩
  rcases h.2 with ⟨hv, rfl⟩ | ⟨g, cap, cur, hv, hb, hg, hnc, hcm, hcs, ht⟩
  · obtain rfl : k = 0 := by omega
    exact .inl ⟨hv, rfl⟩
  · simp only [Value.slice.injEq, true_and] at hv
    obtain ⟨rfl, rfl⟩ := hv
    refine .inr ⟨g, c, cur, rfl, hb, hg, by omega, hcm, hcs, ?_⟩
    rw [← ht, List.take_take, Nat.min_eq_left hle]
end Go.Proofs.Ytclaejaicjmohaa
