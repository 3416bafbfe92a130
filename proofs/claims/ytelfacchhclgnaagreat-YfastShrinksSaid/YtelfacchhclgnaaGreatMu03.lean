/- What the document's Do answers (stepstoneref11), whatever is asked; and plain facts of rising lists. How many unlike beginnings keys have (stepstoneref11), what a trie and an x-fast trie use; the texts walked. What a trie and an x-fast trie use (stepstoneref11); the texts walked. What a set of keys by its methods must keep (layers 11, 12, 14): a law's side walks on this alone. Rows, blocks that are written; a meter whose numbers may be any; the texts walked. What a call leaves of the world but for some blocks. A range over a function whose iterator lays blocks of its own and reads them between the rounds: the body owns some blocks, the iterator others. -/
import Derived.IntWalk
import Derived.Laws.Rows
import Derived.LoopTactic
import Derived.RegionTactic
import Derived.Lib.Hide
import Derived.OwnWalk
import Derived.Laws.OwnMore
import Derived.Below
import Derived.RangeFuncNested
import Derived.RangeFuncBound
import Derived.RangeFuncCalls
import Derived.RangeFuncBox
import Derived.RangeFuncLeaves
import Derived.Shelf.Abstract
import Derived.Shelf.RegionOpen
import Derived.OwnWalkIn
import Derived.TacticsInMore
import Derived.LoopNIn
import Derived.LoopIn
import Derived.Maps.AppendAt
import Derived.Test.YtelfacchhclgnaaGreatMu02
section
namespace Go.Proofs.YtelfacchhclgnaaGreat
set_option maxRecDepth 4000
open Go.RowKit
namespace K
/-- The list behind a call; the error, the key and the yes it answers. -/
def doL (xs : List Nat) (d k : Nat) : List Nat := if d % 9 ≤ 1 then add xs k else if d % 9 = 2 then drop xs k else if d % 9 = 8 then [] else xs
def doE (xs : List Nat) (d k : Nat) : Nat := if d % 9 ≤ 1 then (if fo xs k then 4 else 0) else if d % 9 = 2 then (if fo xs k then 0 else 3) else 0
def doK (xs : List Nat) (d k : Nat) : Nat := if d % 9 = 4 then nx xs k else if d % 9 = 5 then pv xs k else if d % 9 = 6 then nx xs 0 else if d % 9 = 7 then pv xs 18446744073709551615 else 0
def doY (xs : List Nat) (d k : Nat) : Bool := if d % 9 = 3 then fo xs k else if d % 9 = 4 then nxb xs k else if d % 9 = 5 then pvb xs k else if d % 9 = 6 then nxb xs 0 else if d % 9 = 7 then pvb xs 18446744073709551615 else false
end K
namespace K
/-- The list rises. -/
def Up (xs : List Nat) : Prop := xs.Pairwise (· < ·)
theorem up_tail {x : Nat} {xs : List Nat} (h : Up (x :: xs)) : Up xs := (List.pairwise_cons.1 h).2
theorem up_lt {xs : List Nat} (h : Up xs) {i j : Nat} (hij : i < j) (hj : j < xs.length) : xs[i]'(by omega) < xs[j] := (List.pairwise_iff_getElem.1 h) i j (by omega) hj hij
theorem fo_mem {xs : List Nat} (h : Up xs) (k : Nat) : fo xs k = true ↔ k ∈ xs := by
  constructor
  · intro h1
    obtain ⟨h2, h3⟩ := fo_lt h1
    rw [← h3]
    exact List.getElem_mem h2
  · intro hm
    obtain ⟨i, hi, rfl⟩ := List.getElem_of_mem hm
    have h1 : fi xs xs[i] = i := by
      rcases Nat.lt_trichotomy (fi xs xs[i]) i with h1 | h1 | h1
      · have h2 := fi_at (xs := xs) (k := xs[i]) (by omega)
        have h3 := up_lt h h1 hi
        omega
      · exact h1
      · obtain ⟨_, h3⟩ := fi_lt h1
        omega
    unfold fo
    rw [h1, List.getElem?_eq_getElem hi]
    simp
theorem take_lt {xs : List Nat} (k : Nat) : ∀ x ∈ xs.take (fi xs k), x < k := by
  intro x hx
  obtain ⟨j, hj, rfl⟩ := List.getElem_of_mem hx
  rw [List.length_take] at hj
  rw [List.getElem_take]
  exact (fi_lt (k := k) (by omega)).2
theorem drop_le {xs : List Nat} (h : Up xs) (k : Nat) : ∀ x ∈ xs.drop (fi xs k), k ≤ x := by
  intro x hx
  obtain ⟨j, hj, rfl⟩ := List.getElem_of_mem hx
  rw [List.length_drop] at hj
  rw [List.getElem_drop]
  have h1 := fi_at (xs := xs) (k := k) (by omega)
  rcases Nat.eq_zero_or_pos j with rfl | hp
  · simpa using h1
  · exact Nat.le_of_lt (Nat.lt_of_le_of_lt h1 (up_lt h (i := fi xs k) (j := fi xs k + j) (by omega) (by omega)))
theorem drop_ne {xs : List Nat} (h : Up xs) {k : Nat} (hf : fo xs k = false) : ∀ x ∈ xs.drop (fi xs k), k < x := by
  intro x hx
  have h1 := drop_le h k x hx
  have h2 : x ∈ xs := List.mem_of_mem_drop hx
  have h3 : x ≠ k := by
    rintro rfl
    rw [(fo_mem h x).2 h2] at hf
    cases hf
  omega
theorem add_up {xs : List Nat} (h : Up xs) (k : Nat) : Up (add xs k) := by
  unfold add
  split
  · exact h
  · rename_i hf
    have hf : fo xs k = false := by simpa using hf
    refine List.pairwise_append.2 ⟨h.sublist (List.take_sublist _ _), List.pairwise_cons.2 ⟨drop_ne h hf, h.sublist (List.drop_sublist _ _)⟩, fun a ha b hb => ?_⟩
    have h1 := take_lt k a ha
    rcases List.mem_cons.1 hb with rfl | hb
    · exact h1
    · exact Nat.lt_trans h1 (drop_ne h hf b hb)
theorem add_mem {xs : List Nat} (h : Up xs) (k x : Nat) : x ∈ add xs k ↔ x = k ∨ x ∈ xs := by
  unfold add
  split
  · rename_i hf
    have := (fo_mem h k).1 hf
    constructor
    · exact .inr
    · rintro (rfl | h1)
      · exact this
      · exact h1
  · have e : x ∈ xs ↔ x ∈ xs.take (fi xs k) ∨ x ∈ xs.drop (fi xs k) := by rw [← List.mem_append, List.take_append_drop]
    rw [List.mem_append, List.mem_cons, e]
    constructor
    · rintro (h | h | h)
      · exact .inr (.inl h)
      · exact .inl h
      · exact .inr (.inr h)
    · rintro (h | h | h)
      · exact .inr (.inl h)
      · exact .inl h
      · exact .inr (.inr h)
theorem drop_up {xs : List Nat} (h : Up xs) (k : Nat) : Up (drop xs k) := by
  unfold drop
  split
  · refine h.sublist ?_
    have := (List.Sublist.refl (xs.take (fi xs k))).append (List.drop_sublist_drop_left xs (Nat.le_succ (fi xs k)))
    rwa [List.take_append_drop] at this
  · exact h
theorem drop_mem {xs : List Nat} (h : Up xs) (k x : Nat) : x ∈ drop xs k ↔ x ≠ k ∧ x ∈ xs := by
  unfold drop
  split
  · rename_i hf
    obtain ⟨h1, h2⟩ := fo_lt hf
    have e : xs = xs.take (fi xs k) ++ k :: xs.drop (fi xs k + 1) := by
      have := List.take_append_drop (fi xs k) xs
      rw [List.drop_eq_getElem_cons h1, h2] at this
      exact this.symm
    have hu : Up (xs.take (fi xs k) ++ k :: xs.drop (fi xs k + 1)) := e ▸ h
    obtain ⟨_, hu2, hu3⟩ := List.pairwise_append.1 hu
    have hu4 := (List.pairwise_cons.1 hu2).1
    have e2 : x ∈ xs ↔ x ∈ xs.take (fi xs k) ∨ x = k ∨ x ∈ xs.drop (fi xs k + 1) := by
      constructor
      · intro hx; rw [e] at hx; simpa using hx
      · intro hx; rw [e]; simpa using hx
    rw [List.mem_append, e2]
    constructor
    · rintro (h5 | h5)
      · exact ⟨Nat.ne_of_lt (hu3 x h5 k (by simp)), .inl h5⟩
      · exact ⟨(Nat.ne_of_lt (hu4 x h5)).symm, .inr (.inr h5)⟩
    · rintro ⟨h5, h6 | h6 | h6⟩
      · exact .inl h6
      · exact absurd h6 h5
      · exact .inr h6
  · rename_i hf
    constructor
    · intro hx
      refine ⟨?_, hx⟩
      rintro rfl
      exact hf ((fo_mem h x).2 hx)
    · exact fun h => h.2
end K
end Go.Proofs.YtelfacchhclgnaaGreat
end
section
namespace Go.Proofs.YtelfacchhclgnaaGreat
set_option maxRecDepth 4000
open Go.RowKit
namespace K
def kc (xs : List Nat) (b j : Nat) : Bool := decide (j = 0) || (decide (0 < b) && !decide ((xs[j]?).getD 0 / 2 ^ (64 - b) = (xs[j - 1]?).getD 0 / 2 ^ (64 - b)))
def kd (xs : List Nat) (b : Nat) : Nat → Nat
  | 0 => 0
  | j + 1 => kd xs b j + if kc xs b j then 1 else 0
/-- How many unlike beginnings of b bits. -/
def kinds (xs : List Nat) (b : Nat) : Nat := kd xs b xs.length
theorem kd_le (xs : List Nat) (b : Nat) : ∀ j, kd xs b j ≤ j
  | 0 => Nat.le_refl _
  | j + 1 => by
    have := kd_le xs b j
    unfold kd
    split <;> omega
theorem kinds_le (xs : List Nat) (b : Nat) : kinds xs b ≤ xs.length := kd_le _ _ _
end K
end Go.Proofs.YtelfacchhclgnaaGreat
end
section
namespace Go.Proofs.YtelfacchhclgnaaGreat
set_option maxRecDepth 4000
open Go.RowKit
namespace K
/-- What a trie uses: how many unlike beginnings of 0 bits, and of 4, 10, .. 58. -/
def trs (xs : List Nat) : Nat → Nat
  | 0 => kinds xs 0
  | j + 1 => trs xs j + kinds xs (4 + 6 * j)
def trie (xs : List Nat) : Nat := trs xs 10
/-- What an x-fast trie uses. -/
def xfs (xs : List Nat) : Nat → Nat
  | 0 => xs.length
  | j + 1 => xfs xs j + kinds xs j
def xfast (xs : List Nat) : Nat := xfs xs 65
theorem xfs_le (xs : List Nat) : ∀ j, xfs xs j ≤ (j + 1) * xs.length
  | 0 => by simp [xfs]
  | j + 1 => by
    have h1 := xfs_le xs j
    have h2 := kinds_le xs j
    show xfs xs j + kinds xs j ≤ (j + 1 + 1) * xs.length
    rw [Nat.add_mul (j + 1)]
    omega
end K
end Go.Proofs.YtelfacchhclgnaaGreat
end
section
namespace Go.Proofs.YtelfacchhclgnaaGreat
set_option maxRecDepth 4000
open Go.RowKit
namespace K
/-- Nothing is written but in the blocks O. -/
structure Chg (w w' : World) (O : Nat → Prop) : Prop where
  os : w'.os = w.os
  tape : w'.tape = w.tape
  output : w'.output = w.output
  size : w.heap.size ≤ w'.heap.size
  block : ∀ g, g < w.heap.size → ¬ O g → w'.heap[g]? = w.heap[g]?
theorem Chg.of_below {w w' : World} {O : Nat → Prop} (h : Below w.heap.size w w') : Chg w w' O := ⟨h.os, h.tape, h.output, h.size, fun g hg _ => h.block g hg⟩
theorem Chg.trans {w w1 w2 : World} {O O1 : Nat → Prop} (h : Chg w w1 O) (h1 : Chg w1 w2 O1) (hO : ∀ j, O1 j → O j ∨ w.heap.size ≤ j) : Chg w w2 O :=
  ⟨h1.os.trans h.os, h1.tape.trans h.tape, h1.output.trans h.output, Nat.le_trans h.size h1.size, fun g hg hn => (h1.block g (Nat.lt_of_lt_of_le hg h.size) (fun h2 => by rcases hO g h2 with h3 | h3; exact hn h3; omega)).trans (h.block g hg hn)⟩
theorem Chg.below {w w' : World} {O : Nat → Prop} {B : Nat} (h : Chg w w' O) (hB : B ≤ w.heap.size) (hO : ∀ j, O j → B ≤ j) : Below B w w' := by
  refine ⟨h.os, h.tape, h.output, Nat.le_trans (by first | exact hB | exact h.size) (by first | exact h.size | exact Nat.le_refl _), fun g hg => h.block g (Nat.lt_of_lt_of_le hg hB) (fun h2 => by have := hO g h2; omega)⟩
theorem Chg.kx {w w' : World} {O : Nat → Prop} (h : Chg w w' O) {v : Value} {xs : List Nat} (hk : KX w v xs) (hv : ∀ g, v.ownBlock = some g → ¬ O g) : KX w' v xs := by
  refine ⟨hk.1, ?_⟩
  rcases hk.2 with hn | ⟨g, cap, cur, e, hb0, hg, rest⟩
  · exact .inl hn
  · exact .inr ⟨g, cap, cur, e, hb0, (h.block g (Array.getElem?_eq_some_iff.1 hg).1 (hv g (by subst e; rfl))).trans hg, rest⟩
end K
end Go.Proofs.YtelfacchhclgnaaGreat
end
section
namespace Go.Proofs.YtelfacchhclgnaaGreat
set_option maxRecDepth 20000
open Go.RowKit
theorem row_lt {w : World} {g : Nat} {o : Obj} (h : w.heap[g]? = some o) : g < w.heap.size := (Array.getElem?_eq_some_iff.1 h).1
theorem row_ne {w : World} {g g' : Nat} {cs cs' : Array Value} {T T' : TypeId} (h : w.heap[g]? = some (.cells cs T (0, 0))) (h' : w.heap[g']? = some (.cells cs' T' (0, 0))) (hT : T ≠ T') : g ≠ g' := by
  rintro rfl
  rw [h] at h'
  injection h' with h'
  injection h' with _ ht
  exact hT ht
theorem row_set {w : World} {g : Nat} {cs : Array Value} {T : TypeId} (h : w.heap[g]? = some (.cells cs T (0, 0))) (i : Nat) (u : Value) : (w.setCell ⟨g, i, none⟩ u).heap[g]? = some (.cells (cs.setIfInBounds i u) T (0, 0)) := by
  simp [World.setCell, Array.getElem?_modify, h]
theorem chg_set (w : World) (g i : Nat) (u : Value) (O : Nat → Prop) (h : O g) : K.Chg w (w.setCell ⟨g, i, none⟩ u) O :=
  ⟨rfl, rfl, rfl, by simp [World.setCell], fun j _ hn => Below.heap_setCell w _ u j (fun e => hn (by rw [e]; exact h))⟩
theorem chg_alloc (w : World) (o : Obj) (O : Nat → Prop) : K.Chg w (w.alloc o) O := K.Chg.of_below ((Below.refl _ w).alloc (Nat.le_refl _) _)
theorem chg_refl (w : World) (O : Nat → Prop) : K.Chg w w O := ⟨rfl, rfl, rfl, Nat.le_refl _, fun _ _ _ => rfl⟩
theorem K.Chg.mono {w w' : World} {O O' : Nat → Prop} (h : K.Chg w w' O) (hO : ∀ j, O j → O' j) : K.Chg w w' O' := ⟨h.os, h.tape, h.output, h.size, fun g hg hn => h.block g hg (fun h1 => hn (hO g h1))⟩
theorem K.Chg.same {w w1 w2 : World} {O : Nat → Prop} (h : K.Chg w w1 O) (h1 : K.Chg w1 w2 O) : K.Chg w w2 O := h.trans h1 (fun _ h => .inl h)
theorem K.Chg.drewN {w w' : World} {O : Nat → Prop} (h : K.Chg w w' O) (n : Nat) : K.Chg w (w'.drewN n) O := ⟨h.os, h.tape, h.output, h.size, h.block⟩
theorem K.Chg.grown {w w1 w2 : World} {O : Nat → Prop} {row : Option Nat} (h : K.Chg w w1 O) (g : w1.grownBy w2 row) (hr : ∀ j, row = some j → O j ∨ w.heap.size ≤ j) : K.Chg w w2 O :=
  h.trans (O1 := fun j => row = some j) ⟨g.os, g.tape, g.output, g.size, fun k hk hn => g.block k hk (fun e => hn e.symm)⟩ (fun j hj => hr j hj)
theorem K.Chg.cell {w w' : World} {O : Nat → Prop} (h : K.Chg w w' O) {b : Nat} (hb : b < w.heap.size) (hn : ¬ O b) (o : Nat) : w'.cell? ⟨b, o, none⟩ = w.cell? ⟨b, o, none⟩ := by simp [World.cell?, h.block b hb hn]
theorem K.Chg.own {w w' : World} {O : Nat → Prop} {base : Nat} {e : TypeId} {size n : Nat} {v : Value} {xs : List Value} (b : K.Chg w w' O) (h : w.ownsRow base e size v n xs) (hS : ∀ k, v.ownBlock = some k → ¬ O k) : w'.ownsRow base e size v n xs := by
  refine ⟨h.1, ?_⟩
  rcases h.2 with hn | ⟨g, cap, cur, rfl, hb, hg, rest⟩
  · exact .inl hn
  · exact .inr ⟨g, cap, cur, rfl, hb, (b.block g (row_lt hg) (hS g rfl)).trans hg, rest⟩
theorem own_some {w : World} {base : Nat} {e : TypeId} {size n c : Nat} {A : Option Addr} {xs : List Value} (h : w.ownsRow base e size (.slice A n c) n xs) (hn : 0 < n) : ∃ g, A = some ⟨g, 0, none⟩ := by
  rcases h.2 with ⟨_, rfl⟩ | ⟨g, cap, cur, hv, _⟩
  · omega
  · simp at hv; exact ⟨g, hv.1⟩
theorem own_addr {w : World} {base : Nat} {e : TypeId} {size n c : Nat} {A : Option Addr} {xs : List Value} (h : w.ownsRow base e size (.slice A n c) n xs) : (A = none ∧ n = 0 ∧ c = 0) ∨ ∃ g, A = some ⟨g, 0, none⟩ ∧ g < w.heap.size ∧ n ≤ c ∧ ∃ cur, w.heap[g]? = some (.cells cur e (0, 0)) := by
  rcases h.2 with ⟨hv, rfl⟩ | ⟨g, cap, cur, hv, _, hg, hc, _⟩
  · simp at hv; exact .inl ⟨hv.1, rfl, hv.2⟩
  · simp at hv; exact .inr ⟨g, hv.1, row_lt hg, by omega, cur, hg⟩
theorem own_cap {w : World} {base : Nat} {e : TypeId} {size n c : Nat} {A : Option Addr} {xs : List Value} (h : w.ownsRow base e size (.slice A n c) n xs) : n ≤ c := by
  rcases h.2 with ⟨hv, rfl⟩ | ⟨g, cap, cur, hv, _, _, hnc, _⟩
  · omega
  · simp at hv; omega
theorem own_cut {w : World} {base : Nat} {e : TypeId} {size n c : Nat} {A : Option Addr} {xs : List Value} (h : w.ownsRow base e size (.slice A n c) n xs) {k : Nat} (hk : k ≤ n) : w.ownsRow base e size (.slice A k c) k (xs.take (k * size)) := by
  have hl := h.1
  have hle : k * size ≤ n * size := Nat.mul_le_mul_right _ hk
  refine ⟨by rw [List.length_take]; omega, ?_⟩
  rcases h.2 with ⟨hv, rfl⟩ | ⟨g, cap, cur, hv, hb, hg, hnc, hcm, hcs, ht⟩
  · obtain rfl : k = 0 := by omega
    exact .inl ⟨hv, rfl⟩
  · simp only [Value.slice.injEq, true_and] at hv
    obtain ⟨rfl, rfl⟩ := hv
    refine .inr ⟨g, c, cur, rfl, hb, hg, by omega, hcm, hcs, ?_⟩
    rw [← ht, List.take_take, Nat.min_eq_left hle]
/-- What a meter's counters were once. -/
class Gh where
  r0 : Int
  c0 : Int
set_option linter.unusedSectionVars false
variable [Gh]
/-- The counters since then: a reads, b calls. -/
def GR (tk : Nat) (r c : Int) : Prop := ∃ a b : Nat, a + b = tk ∧ (r - Gh.r0 - a) % 18446744073709551616 = 0 ∧ (c - Gh.c0 - b) % 18446744073709551616 = 0
/-- A meter that took tk steps in this operation, all of them told by its counters; 2000000: as it was once. -/
def Mx (w : World) (g tk : Nat) : Prop := ∃ r c s p t : Int, w.heap[g]? = some (.cells #[.int .i64 r, .int .i64 c, .int .i64 s, .int .i64 t, .int .i64 p] 87 (0, 0)) ∧ ((tk = 2000000 ∧ r = Gh.r0 ∧ c = Gh.c0) ∨ (tk < 2000000 ∧ t = (tk : Int) ∧ GR tk r c))
theorem GR.read {tk : Nat} {r c : Int} (h : GR tk r c) : GR (tk + 1) (wrap64 (r + 1)) c := by
  obtain ⟨a, b, h1, h2, h3⟩ := h
  refine ⟨a + 1, b, by omega, ?_, h3⟩
  unfold wrap64
  omega
theorem GR.call {tk : Nat} {r c : Int} (h : GR tk r c) : GR (tk + 1) r (wrap64 (c + 1)) := by
  obtain ⟨a, b, h1, h2, h3⟩ := h
  refine ⟨a, b + 1, by omega, h2, ?_⟩
  unfold wrap64
  omega
theorem x_start (w : World) (g tk : Nat) (h : Mx w g tk) (htk : tk = 2000000) :
    Calls Tryz.prog 46 #[.pointer (some ⟨g, 0, none⟩)] w fun e w' => e = .returned (.tuple #[]) ∧ Mx w' g 0 ∧ K.Chg w w' (· = g) := by
  obtain ⟨r, c, s, p, t, hr, hg⟩ := h
  have hG : GR 0 r c := by
    rcases hg with ⟨_, h1, h2⟩ | ⟨h1, _⟩
    · exact ⟨0, 0, rfl, by rw [h1]; simp, by rw [h2]; simp⟩
    · omega
  have HG := Lib.hid hG
  clear hg hG htk
  have hc := cell_of_row w g 2 _ _ (0, 0) hr
  have hc3 := cell_of_row w g 3 _ _ (0, 0) hr
  have hf : ∀ i, w.frozen? ⟨g, i, none⟩ = false := fun i => frozen_of_row w g i _ _ hr
  have hf2 := hf 2
  have hf3 := hf 3
  simp at hc hc3
  have H := Lib.hid hr
  clear hr hf
  go_enter Tryz.func46, Tryz.ntmps46
  go_wp2
  go_end0
  refine ⟨rfl, ⟨r, c, wrap64 (s + 1), p, 0, ?_, .inr ⟨by decide, rfl, HG.out⟩⟩, (chg_set w g 2 _ (· = g) rfl).same (chg_set _ g 3 _ (· = g) rfl)⟩
  have := row_set (row_set H.out 2 (.int .i64 (wrap64 (s + 1)))) 3 (.int .i64 ((0 : Nat) : Int))
  simpa using this
theorem x_read (w : World) (g tk : Nat) (h : Mx w g tk) (ht : tk < 1000000) :
    Calls Tryz.prog 114 #[.pointer (some ⟨g, 0, none⟩)] w fun e w' => e = .returned (.tuple #[]) ∧ Mx w' g (tk + 1) ∧ K.Chg w w' (· = g) := by
  have hs : ∀ (w : World) (r c s p : Int), w.heap[g]? = some (.cells #[.int .i64 r, .int .i64 c, .int .i64 s, .int .i64 (tk : Int), .int .i64 p] 87 (0, 0)) → GR (tk + 1) r c → Calls Tryz.prog 117 #[.pointer (some ⟨g, 0, none⟩)] w fun e w' => e = .returned (.tuple #[]) ∧ Mx w' g (tk + 1) ∧ K.Chg w w' (· = g) := by
    intro w r c s p hr hgr
    have HGR := Lib.hid hgr
    clear hgr
    have hc := cell_of_row w g 3 _ _ (0, 0) hr
    have hf3 := frozen_of_row w g 3 _ _ hr
    simp at hc
    have h2 := row_set hr 3 (.int .i64 ((tk : Int) + 1))
    simp at h2
    have k3 := cell_of_row _ g 3 _ _ (0, 0) h2
    have k4 := cell_of_row _ g 4 _ _ (0, 0) h2
    have f4 := frozen_of_row _ g 4 _ _ h2
    simp at k3 k4
    have ws : IntKind.i64.wrap ((tk : Int) + 1) = (tk : Int) + 1 := IntWalk.i64_in _ (by omega)
    have H := Lib.hid h2
    clear hr h2
    go_enter Tryz.func117, Tryz.ntmps117
    go_wp2
    go_region
    go_end0
    refine ⟨rfl, ⟨r, c, s, max p ((tk : Int) + 1), (tk : Int) + 1, ?_, .inr ⟨by omega, rfl, HGR.out⟩⟩, ((chg_set w g 3 _ (· = g) rfl).same (chg_set _ g 4 _ (· = g) rfl)).drewN 1⟩
    have := row_set H.out 4 (.int .i64 (max p ((tk : Int) + 1)))
    simp at this
    exact this
  obtain ⟨r, c, s, p, t, hr, hg⟩ := h
  obtain ⟨rfl, hG⟩ : t = (tk : Int) ∧ GR tk r c := by
    rcases hg with ⟨h1, _⟩ | ⟨_, h1, h2⟩
    · omega
    · exact ⟨h1, h2⟩
  have hc := cell_of_row w g 0 _ _ (0, 0) hr
  have hf0 := frozen_of_row w g 0 _ _ hr
  simp at hc
  have h1 : (w.setCell ⟨g, 0, none⟩ (.int .i64 (wrap64 (r + 1)))).heap[g]? = some (.cells #[.int .i64 (wrap64 (r + 1)), .int .i64 c, .int .i64 s, .int .i64 (tk : Int), .int .i64 p] 87 (0, 0)) := by
    have := row_set hr 0 (.int .i64 (wrap64 (r + 1)))
    simpa using this
  have hsH := Lib.hid (hs _ (wrap64 (r + 1)) c s p h1 hG.read)
  clear hs hr hg h1 hG
  go_enter Tryz.func114, Tryz.ntmps114
  go_wp2_with (go_at_call 117; (with_reducible refine hsH.out.mono ?_); rintro e w2 ⟨rfl, hm2, hg2⟩; have hm2H := Lib.hid hm2; have hg2H := Lib.hid hg2; clear hm2 hg2)
  go_end0
  exact ⟨rfl, hm2H.out, (chg_set w g 0 _ (· = g) rfl).same hg2H.out⟩
theorem x_new (w : World) (h0 : Gh.r0 = 0 ∧ Gh.c0 = 0) : Calls Tryz.prog 67 #[] w fun e w' => e = .returned (.pointer (some ⟨w.heap.size, 0, none⟩)) ∧ Mx w' w.heap.size 0 ∧ Below w.heap.size w w' := by
  have H0 := Lib.hid h0
  clear h0
  go_enter Tryz.func67, Tryz.ntmps67
  go_wp2
  go_ret
  exact ⟨rfl, ⟨0, 0, 0, 0, 0, K.alloc_top _ _, .inr ⟨by decide, rfl, 0, 0, rfl, by rw [H0.out.1]; simp, by rw [H0.out.2]; simp⟩⟩, (Below.refl _ w).alloc (Nat.le_refl _) _⟩
theorem Mx.lt {w : World} {g tk : Nat} (h : Mx w g tk) : g < w.heap.size := by
  obtain ⟨r, c, s, p, t, hr, _⟩ := h
  exact row_lt hr
theorem Mx.chg {w w' : World} {g tk : Nat} {O : Nat → Prop} (h : Mx w g tk) (hc : K.Chg w w' O) (hn : ¬ O g) : Mx w' g tk := by
  have hl := h.lt
  obtain ⟨r, c, s, p, t, hr, hg⟩ := h
  exact ⟨r, c, s, p, t, (hc.block g hl hn).trans hr, hg⟩
end Go.Proofs.YtelfacchhclgnaaGreat
end
section
namespace Go.Proofs.YtelfacchhclgnaaGreat
open Go.RowKit
section
variable {w w' : World}
structure ButS (w w' : World) (S : Nat → Prop) : Prop where
  os : w'.os = w.os
  tape : w'.tape = w.tape
  output : w'.output = w.output
  size : w.heap.size ≤ w'.heap.size
  block : ∀ j, j < w.heap.size → ¬ S j → w'.heap[j]? = w.heap[j]?
theorem ButS.refl (w : World) (S : Nat → Prop) : ButS w w S := ⟨rfl, rfl, rfl, Nat.le_refl _, fun _ _ _ => rfl⟩
theorem ButS.trans {w2 : World} {S : Nat → Prop} (h : ButS w w' S) (k : ButS w' w2 S) : ButS w w2 S :=
  ⟨k.os.trans h.os, k.tape.trans h.tape, k.output.trans h.output, Nat.le_trans h.size k.size, fun j hj hs => (k.block j (Nat.lt_of_lt_of_le hj h.size) hs).trans (h.block j hj hs)⟩
theorem ButS.mono {S T : Nat → Prop} (h : ButS w w' S) (hST : ∀ j, j < w.heap.size → S j → T j) : ButS w w' T := ⟨h.os, h.tape, h.output, h.size, fun j hj ht => h.block j hj fun hs => ht (hST j hj hs)⟩
/-- One step more, which changes but what S has, or is younger. -/
theorem ButS.then {w2 : World} {S T : Nat → Prop} (h : ButS w w' S) (k : ButS w' w2 T) (hT : ∀ j, T j → S j ∨ w.heap.size ≤ j) : ButS w w2 S :=
  ⟨k.os.trans h.os, k.tape.trans h.tape, k.output.trans h.output, Nat.le_trans h.size k.size, fun j hj hs => (k.block j (Nat.lt_of_lt_of_le hj h.size) fun ht => by rcases hT j ht with h1 | h1; exact hs h1; omega).trans (h.block j hj hs)⟩
theorem ButS.of_grown {row : Option Nat} {S : Nat → Prop} (g : w.grownBy w' row) (h : ∀ j, row = some j → S j) : ButS w w' S :=
  ⟨g.os, g.tape, g.output, g.size, fun j hj hs => g.block j hj fun e => hs (h j e.symm)⟩
theorem ButS.drewN {S : Nat → Prop} (h : ButS w w' S) (n : Nat) : ButS w (w'.drewN n) S := ⟨h.os, h.tape, h.output, h.size, h.block⟩
theorem ButS.below {S : Nat → Prop} {B : Nat} (h : ButS w w' S) (hB : B ≤ w.heap.size) (hS : ∀ j, S j → B ≤ j) : Below B w w' :=
  ⟨h.os, h.tape, h.output, h.size, fun k hk => h.block k (by omega) fun hs => by have := hS k hs; omega⟩
theorem ButS.own {S : Nat → Prop} {base : Nat} {e : TypeId} {size n : Nat} {v : Value} {xs : List Value} (b : ButS w w' S) (h : w.ownsRow base e size v n xs) (hS : ∀ k, v.ownBlock = some k → ¬ S k) : w'.ownsRow base e size v n xs := by
  refine ⟨h.1, ?_⟩
  rcases h.2 with hn | ⟨g, cap, cur, rfl, hb, hg, rest⟩
  · exact .inl hn
  · exact .inr ⟨g, cap, cur, rfl, hb, (b.block g (Array.getElem?_eq_some_iff.1 hg).1 (hS g rfl)).trans hg, rest⟩
end
theorem ButS.cell {w w' : World} {S : Nat → Prop} (h : ButS w w' S) {b : Nat} (hb : b < w.heap.size) (hs : ¬ S b) (o : Nat) : w'.cell? ⟨b, o, none⟩ = w.cell? ⟨b, o, none⟩ := by
  simp [World.cell?, h.block b hb hs]
theorem ButS.of_below {B : Nat} {w w' : World} {S : Nat → Prop} (h : Below B w w') (hB : w.heap.size ≤ B) : ButS w w' S :=
  ⟨h.os, h.tape, h.output, h.size, fun j hj _ => h.block j (by omega)⟩
theorem but_alloc' (w : World) (o : Obj) (S : Nat → Prop) : ButS w (w.alloc o) S := ButS.of_grown (World.grownBy_alloc w o none) (by simp)
theorem ButS.of_chg {w w' : World} {S : Nat → Prop} (h : K.Chg w w' S) : ButS w w' S := ⟨h.os, h.tape, h.output, h.size, h.block⟩
theorem ButS.chg {w w' : World} {S : Nat → Prop} (h : ButS w w' S) : K.Chg w w' S := ⟨h.os, h.tape, h.output, h.size, h.block⟩
end Go.Proofs.YtelfacchhclgnaaGreat
end
section
namespace Go.Proofs.YtelfacchhclgnaaGreat
open Go.RowKit Go.Shelf
/-- I speaks of the blocks O alone, and of what lies below B. -/
def Abides {β : Type} (B : Nat) (I : β → (Nat → Prop) → World → Prop) : Prop :=
  ∀ s O W W' R, I s O W → ButS W W' R → (∀ j, R j → ¬ O j ∧ B ≤ j) → I s O W'
/-- What J is told of the blocks R, the iterator's own: it may turn them, lay others, let some go. -/
def Steps {β : Type} (J : β → (Nat → Prop) → World → Prop) : Prop :=
  ∀ s R R' W W', J s R W → ButS W W' R → (∀ j, R' j → (R j ∨ W.heap.size ≤ j) ∧ j < W'.heap.size) → J s R' W'
/-- An iterator over any body that leaves the iterator's blocks, and what lies below n₀, as they are. -/
def SeqO {α : Type} (F : Fence) (n : Nat) (P : Program) (g : Nat) (lb : Array Value) (encs : α → Array Value) (n₀ : Nat) (S Sp : List α → Prop) (N : Nat) (w : World) : Prop :=
  ∀ (l : Nat) (J Jx : List α → (Nat → Prop) → World → Prop) (W : World), Below w.heap.size w W → Steps J → Steps Jx →
    (∀ pre x R W1, J pre R W1 → pre.length < N → YieldAt F (n - 1) P l (encs x) W1 fun e W' =>
      (e = .returned (.bool true) ∧ J (pre ++ [x]) R W' ∧ Below n₀ W1 W' ∧ ∀ j, R j → W'.heap[j]? = W1.heap[j]?) ∨ (e = .returned (.bool false) ∧ Jx (pre ++ [x]) R W')) →
    J [] (fun _ => False) W →
    CallsIn F n P g (#[.func (.yield l) #[] #[]] ++ lb) W fun e W' => (∃ v, e = .returned v) ∧ ((∃ xs R, S xs ∧ J xs R W') ∨ (∃ pre R, Sp pre ∧ Jx pre R W'))
/-- What is left of the world by a round's part that owns O; O': what it owns then. -/
def OwnStep (O O' : Nat → Prop) (W W' : World) : Prop := ButS W W' O ∧ ∀ j, O' j → (O j ∨ W.heap.size ≤ j) ∧ j < W'.heap.size
theorem OwnStep.trans {O O1 O2 : Nat → Prop} {W W1 W2 : World} (h : OwnStep O O1 W W1) (k : OwnStep O1 O2 W1 W2) : OwnStep O O2 W W2 :=
  ⟨h.1.then k.1 (fun j hj => (h.2 j hj).1), fun j hj => ⟨by
    rcases (k.2 j hj).1 with h1 | h1
    · exact (h.2 j h1).1
    · right; have := h.1.size; omega, (k.2 j hj).2⟩⟩
/-- How a round's body is left. -/
def roundO {α : Type} (I : List α → (Nat → Prop) → World → Prop) (Ix : Code → List α → (Nat → Prop) → World → Prop) (xs : List α) (O : Nat → Prop) (W : World) : Exit → Act → World → Prop
  | .normal, _, W' => ∃ O', OwnStep O O' W W' ∧ I xs O' W'
  | .ret, _, W' => ∃ O', OwnStep O O' W W' ∧ Ix .ret xs O' W'
  | .exit id, _, W' => ∃ O', OwnStep O O' W W' ∧ Ix (.exit id) xs O' W'
  | .goto t, _, W' => ∃ O', OwnStep O O' W W' ∧ Ix (.goto t) xs O' W'
  | .panic _, _, _ => False
  | .outgrown, _, _ => False
theorem but_put (W : World) (l : Nat) (o : Obj) : ButS W (W.putObj l o) (· = l) := ⟨rfl, rfl, rfl, by simp, fun j _ hj => World.putObj_heap_other hj⟩
variable {F : Fence} {n : Nat} {P : Program}
end Go.Proofs.YtelfacchhclgnaaGreat
end
