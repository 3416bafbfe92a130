
/- The document's lists of keys (stepstoneref11): a list without a key, apart; the text walked. -/
import Derived.Test.YtclaejaicjmohaaK1
namespace Go.Proofs.Ytclaejaicjmohaa
set_option maxRecDepth 4000
open Go.RowKit
namespace K
/-- A list with a key, and without one. -/
def add (xs : List Nat) (k : Nat) : List Nat := if fo xs k then xs else xs.take (fi xs k) ++ k :: xs.drop (fi xs k)
def drop (xs : List Nat) (k : Nat) : List Nat := if fo xs k then xs.take (fi xs k) ++ xs.drop (fi xs k + 1) else xs
theorem alloc_top (w : World) (o : Obj) : (w.alloc o).heap[w.heap.size]? = some o := by
  show (w.heap.push o)[w.heap.size]? = some o
  simp
theorem own_form {w : World} {base : Nat} {e : TypeId} {size n : Nat} {v : Value} {xs : List Value} (h : w.ownsRow base e size v n xs) : ∃ A c, v = .slice A n c := by
  rcases h.2 with ⟨rfl, rfl⟩ | ⟨g, cap, cur, rfl, _⟩
  · exact ⟨none, 0, rfl⟩
  · exact ⟨_, _, rfl⟩
theorem own_lt {W : World} {base : Nat} {e : TypeId} {size n : Nat} {v : Value} {xs : List Value} (h : W.ownsRow base e size v n xs) {j : Nat} (hj : v.ownBlock = some j) : j < W.heap.size ∧ base ≤ j := by
  rcases h.2 with ⟨rfl, _⟩ | ⟨g, cap, cur, rfl, hb, hg, _⟩
  · simp [Value.ownBlock] at hj
  · simp [Value.ownBlock] at hj
    subst hj
    exact ⟨(Array.getElem?_eq_some_iff.1 hg).1, hb⟩
theorem own_base {w : World} {base base' : Nat} {e : TypeId} {size n : Nat} {v : Value} {xs : List Value} (h : w.ownsRow base e size v n xs) (hb : base' ≤ base) : w.ownsRow base' e size v n xs := by
  refine ⟨h.1, ?_⟩
  rcases h.2 with h | ⟨g, cap, cur, hv, hb', rest⟩
  · exact .inl h
  · exact .inr ⟨g, cap, cur, hv, by omega, rest⟩
theorem wv_one (xs : List Nat) : ∀ u ∈ wv xs, u.oneCell' = true := by
  intro u hu
  obtain ⟨x, _, rfl⟩ := List.mem_map.1 hu
  rfl
theorem wv_app (a b : List Nat) : wv (a ++ b) = wv a ++ wv b := by simp [wv]
theorem own_empty {w : World} {g : Nat} (h : w.heap[g]? = some (.cells #[] 22 (0, 0))) : w.ownsRow g 22 1 (.slice (some ⟨g, 0, none⟩) 0 0) 0 [] :=
  ⟨rfl, .inr ⟨g, 0, #[], rfl, Nat.le_refl _, h, Nat.le_refl _, by decide, rfl, rfl⟩⟩
theorem grown_next {w W W' : World} {row : Option Nat} (hb : Below w.heap.size w W) (hg : W.grownBy W' row) (h : ∀ g, row = some g → w.heap.size ≤ g) : Below w.heap.size w W' := hb.grown hg hb.size h
theorem kx_of {w : World} {base n : Nat} {v : Value} {xs : List Nat} (h : w.ownsRow base 22 1 v n (wv xs)) (hn : n = xs.length) : KX w v xs := by
  subst hn
  exact own_base h (Nat.zero_le _)
theorem one_cell (w : World) (v : Value) (t : TypeId) : ∀ (j : Nat) (u : Value), [v][j]? = some u → (w.alloc (.cells #[v] t)).cell? ((⟨w.heap.size, 0, none⟩ : Addr).add j) = some u := by
  intro j u h
  exact cell_one w v t j u h
/-- The front of a list, and its rest, as slices of it read. -/
theorem front {w : World} {g c : Nat} {xs : List Nat} (h : KX w (.slice (some ⟨g, 0, none⟩) xs.length c) xs) {k : Nat} (hk : k ≤ xs.length) : Reads w w.heap.size 1 (some ⟨g, 0, none⟩) k (wv (xs.take k)) := by
  refine ⟨by simp [wv, Nat.min_eq_left hk], fun h0 => ⟨_, rfl, ?_, fun j u hu => ?_⟩⟩
  · rcases h.form with ⟨e, _⟩ | ⟨g', c', e, _, hg, _⟩
    · simp at e
    · injection e with e; injection e with e; injection e with e; subst e; exact hg
  · refine World.ownsRow.cells h (g := g) rfl j u ?_
    have e : wv xs = wv (xs.take k) ++ wv (xs.drop k) := by rw [← wv_app, List.take_append_drop]
    rw [e]
    rw [List.getElem?_append_left]
    · exact hu
    · rcases Nat.lt_or_ge j (wv (xs.take k)).length with h1 | h1
      · exact h1
      · rw [List.getElem?_eq_none h1] at hu; cases hu
theorem rest {w : World} {g c : Nat} {xs : List Nat} (h : KX w (.slice (some ⟨g, 0, none⟩) xs.length c) xs) {k : Nat} (hk : k ≤ xs.length) (A : Option Addr) (hA : k < xs.length → A = some ⟨g, k, none⟩) : Reads w w.heap.size 1 A (xs.length - k) (wv (xs.drop k)) := by
  refine ⟨by simp [wv], fun h0 => ?_⟩
  rw [hA (by omega)]
  refine ⟨_, rfl, ?_, fun j u hu => ?_⟩
  · rcases h.form with ⟨e, _⟩ | ⟨g', c', e, _, hg, _⟩
    · simp at e
    · injection e with e; injection e with e; injection e with e; subst e; exact hg
  · have h1 : (wv xs)[k + j]? = some u := by
      have e : wv xs = wv (xs.take k) ++ wv (xs.drop k) := by rw [← wv_app, List.take_append_drop]
      have hl : (wv (xs.take k)).length = k := by simp [wv, Nat.min_eq_left hk]
      rw [e, List.getElem?_append_right (by omega), hl, Nat.add_sub_cancel_left]
      exact hu
    have h2 := World.ownsRow.cells h (g := g) rfl _ u h1
    have e2 : (⟨g, k, none⟩ : Addr).add j = ⟨g, k + j, none⟩ := by unfold Addr.add; split <;> simp_all
    rw [add_off] at h2
    rw [e2]
    exact h2
theorem slice_from (g len c k : Nat) (i : Int) (hi : i = (k : Int)) (hk : k ≤ len) (hc : len ≤ c) : ∃ A3, (k < len → A3 = some ⟨g, k, none⟩) ∧
    (∀ w, (Instr.sliceAt 24 (.slice (some ⟨g, 0, none⟩) len c) (some (.int .i64 i)) none none).run Try.prog w = .ok (.slice A3 (len - k) (c - k)) w) ∧
    (∀ w, (Instr.slice 24 (.slice (some ⟨g, 0, none⟩) len c) (some (.int .i64 i)) none none).run Try.prog w = .ok (.slice A3 (len - k) (c - k)) w) := by
  subst hi
  have hu : Try.prog.underlying 24 = some (.slice (Try.prog.elem 24)) := by kernel_rfl
  have hz : ∀ w, (Go.sizeOf (Try.prog.elem 24)).run Try.prog w = .ok 1 w := fun w => Try.sizeOf22 w
  have h2 : ∀ w, (Instr.slice 24 (.slice (some ⟨g, 0, none⟩) len c) (some (.int .i64 (k : Int))) none none).run Try.prog w = .ok (sliced (some ⟨g, 0, none⟩) k len c 1) w := fun w => by
    have h := run_slice_l (P := Try.prog) (w := w) (t := 24) (a := some ⟨g, 0, none⟩) (len := len) (cap := c) (ht := hu) (kl := .i64) (l := (k : Int)) (h0 := by omega) (h1 := by omega)
    rw [h, hz]
    simp [Result.andThen]
  refine ⟨if c = k then some ⟨g, 0, none⟩ else (some (⟨g, 0, none⟩ : Addr)).map (·.add (k * 1)), fun h => ?_, fun w => ?_, fun w => (h2 w).trans rfl⟩
  · rw [if_neg (by omega)]
    simp [add_off]
  · exact (run_sliceAt_slice (w := w) (h := hu) ..).trans ((h2 w).trans rfl)
end K
/-- What is answered: a list, in a block that was there or a new one. -/
def KLP (w : World) (v0 : Value) (xs : List Nat) (e : Ending) (w' : World) : Prop :=
  ∃ v, e = .returned v ∧ KX w' v xs ∧ Below w.heap.size w w' ∧ (v = v0 ∨ ∀ g, v.ownBlock = some g → w.heap.size ≤ g)
end Go.Proofs.Ytclaejaicjmohaa
