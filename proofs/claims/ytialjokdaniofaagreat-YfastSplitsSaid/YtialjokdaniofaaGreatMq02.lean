/- The document's lists of keys (stepstoneref11): where a key stands, the next, the last; the texts walked. The document's lists of keys (stepstoneref11): a list without a key, apart; the text walked. The document's lists of keys (stepstoneref11): a list with a key, apart; the text walked. The document's lists of keys (stepstoneref11): a list made of keys; the text walked. The document's lists of keys (stepstoneref11): the next key from a place on, the last up to there; the texts walked. What the document's Do answers (stepstoneref11), and the list then: what is there behind the search. What the document's Do answers (stepstoneref11): the answer's block behind the writing of it. What the document's Do answers (stepstoneref11): what changes nothing; the text walked. What the document's Do answers (stepstoneref11): what errs, clears, adds and drops; the text walked. What the document's Do answers (stepstoneref11), whatever is asked; and plain facts of rising lists. How many unlike beginnings keys have (stepstoneref11), what a trie and an x-fast trie use; the texts walked. What a trie and an x-fast trie use (stepstoneref11); the texts walked. What a set of keys by its methods must keep (layers 11, 12, 14): a law's side walks on this alone. -/
import Derived.Deep.RegionHeld3
import Derived.Test.YtialjokdaniofaaGreatMq01
section
namespace Go.Proofs.YtialjokdaniofaaGreat
set_option maxRecDepth 4000
open Go.RowKit
namespace K
/-- Where a key stands, or would stand; does it? -/
def fi (xs : List Nat) (k : Nat) : Nat := (xs.takeWhile fun x => decide (x < k)).length
def fo (xs : List Nat) (k : Nat) : Bool := decide (xs[fi xs k]? = some k)
theorem fi_le (xs : List Nat) (k : Nat) : fi xs k ≤ xs.length := (List.takeWhile_prefix _).length_le
theorem fi_lt {xs : List Nat} {k j : Nat} (h : j < fi xs k) : ∃ h' : j < xs.length, xs[j] < k := by
  have h' : j < xs.length := Nat.lt_of_lt_of_le h (fi_le xs k)
  refine ⟨h', ?_⟩
  have hm : (xs.takeWhile fun x => decide (x < k))[j]'h ∈ xs.takeWhile fun x => decide (x < k) := List.getElem_mem h
  have h2 := List.all_eq_true.1 (List.all_takeWhile (l := xs) (p := fun x => decide (x < k))) _ hm
  have e : (xs.takeWhile fun x => decide (x < k))[j]'h = xs[j] := (List.takeWhile_prefix _).getElem h
  rw [e] at h2
  exact of_decide_eq_true h2
theorem fi_at {xs : List Nat} {k : Nat} (h : fi xs k < xs.length) : k ≤ xs[fi xs k] := by
  have : ∀ (l : List Nat) (h : (l.takeWhile fun x => decide (x < k)).length < l.length), k ≤ l[(l.takeWhile fun x => decide (x < k)).length] := by
    intro l
    induction l with
    | nil => intro h; simp at h
    | cons x l ih =>
      intro h
      by_cases hx : x < k
      · simp only [List.takeWhile_cons, decide_eq_true hx, if_true] at h ⊢
        simpa using ih (by simpa using h)
      · simp only [List.takeWhile_cons, decide_eq_false hx, Bool.false_eq_true, if_false]
        simp; omega
  exact this xs h
theorem fo_lt {xs : List Nat} {k : Nat} (h : fo xs k = true) : ∃ h' : fi xs k < xs.length, xs[fi xs k] = k := by
  unfold fo at h
  have h2 := of_decide_eq_true h
  exact List.getElem?_eq_some_iff.1 h2
end K
/-- The slice holds these keys, in blocks that nobody writes. -/
def KX (w : World) (v : Value) (xs : List Nat) : Prop := w.ownsRow 0 22 1 v xs.length (wv xs)
theorem KX.form {w : World} {v : Value} {xs : List Nat} (h : KX w v xs) : (v = .slice none 0 0 ∧ xs = []) ∨ ∃ g c, v = .slice (some ⟨g, 0, none⟩) xs.length c ∧ xs.length ≤ c ∧ g < w.heap.size ∧
    ∀ (k : Nat) (h : k < xs.length), w.cell? ⟨g, k, none⟩ = some (.int .u64 (xs[k] : Nat)) := by
  rcases h.2 with ⟨rfl, hn⟩ | ⟨g, cap, cur, rfl, hb, hg, hnc, _⟩
  · exact .inl ⟨rfl, by simpa using hn⟩
  · refine .inr ⟨g, cap, rfl, hnc, (Array.getElem?_eq_some_iff.1 hg).1, fun k hk => ?_⟩
    have := h.cells (g := g) rfl k (.int .u64 (xs[k] : Nat)) (by simp [hk])
    rw [add_off] at this
    exact this
theorem KX.below {w w' : World} {v : Value} {xs : List Nat} (h : KX w v xs) (hb : Below w.heap.size w w') : KX w' v xs := by
  refine ⟨h.1, ?_⟩
  rcases h.2 with hn | ⟨g, cap, cur, e, hb0, hg, rest⟩
  · exact .inl hn
  · exact .inr ⟨g, cap, cur, e, hb0, (hb.block g (Array.getElem?_eq_some_iff.1 hg).1).trans hg, rest⟩
theorem KX.nil (w : World) : KX w (.slice none 0 0) [] := ⟨by simp, .inl ⟨rfl, rfl⟩⟩
end Go.Proofs.YtialjokdaniofaaGreat
end
section
namespace Go.Proofs.YtialjokdaniofaaGreat
set_option maxRecDepth 4000
open Go.RowKit
namespace K
/-- A list with a key, and without one. -/
def add (xs : List Nat) (k : Nat) : List Nat := if fo xs k then xs else xs.take (fi xs k) ++ k :: xs.drop (fi xs k)
def drop (xs : List Nat) (k : Nat) : List Nat := if fo xs k then xs.take (fi xs k) ++ xs.drop (fi xs k + 1) else xs
theorem alloc_top (w : World) (o : Obj) : (w.alloc o).heap[w.heap.size]? = some o := by
  show (w.heap.push o)[w.heap.size]? = some o
  simp
theorem own_form {w : World} {base : Nat} {e : TypeId} {size n : Nat} {v : Value} {xs : List Value} (h : w.ownsRow base e size v n xs) : ∃ A c, v = .slice A n c := by
  rcases h.2 with ⟨rfl, rfl⟩ | ⟨g, cap, cur, rfl, _⟩
  · exact ⟨none, 0, rfl⟩
  · exact ⟨_, _, rfl⟩
theorem wv_app (a b : List Nat) : wv (a ++ b) = wv a ++ wv b := by simp [wv]
theorem rest {w : World} {g c : Nat} {xs : List Nat} (h : KX w (.slice (some ⟨g, 0, none⟩) xs.length c) xs) {k : Nat} (hk : k ≤ xs.length) (A : Option Addr) (hA : k < xs.length → A = some ⟨g, k, none⟩) : Reads w w.heap.size 1 A (xs.length - k) (wv (xs.drop k)) := by
  refine ⟨by simp [wv], fun h0 => ?_⟩
  rw [hA (by omega)]
  refine ⟨_, rfl, ?_, fun j u hu => ?_⟩
  · rcases h.form with ⟨e, _⟩ | ⟨g', c', e, _, hg, _⟩
    · simp at e
    · injection e with e; injection e with e; injection e with e; subst e; exact hg
  · have h1 : (wv xs)[k + j]? = some u := by
      have e : wv xs = wv (xs.take k) ++ wv (xs.drop k) := by rw [← wv_app, List.take_append_drop]
      have hl : (wv (xs.take k)).length = k := by simp [wv, Nat.min_eq_left hk]
      rw [e, List.getElem?_append_right (by omega), hl, Nat.add_sub_cancel_left]
      exact hu
    have h2 := World.ownsRow.cells h (g := g) rfl _ u h1
    have e2 : (⟨g, k, none⟩ : Addr).add j = ⟨g, k + j, none⟩ := by unfold Addr.add; split <;> simp_all
    rw [add_off] at h2
    rw [e2]
    exact h2
end K
/-- What is answered: a list, in a block that was there or a new one. -/
def KLP (w : World) (v0 : Value) (xs : List Nat) (e : Ending) (w' : World) : Prop :=
  ∃ v, e = .returned v ∧ KX w' v xs ∧ Below w.heap.size w w' ∧ (v = v0 ∨ ∀ g, v.ownBlock = some g → w.heap.size ≤ g)
end Go.Proofs.YtialjokdaniofaaGreat
end
section
namespace Go.Proofs.YtialjokdaniofaaGreat
set_option maxRecDepth 4000
open Go.RowKit
end Go.Proofs.YtialjokdaniofaaGreat
end
section
namespace Go.Proofs.YtialjokdaniofaaGreat
set_option maxRecDepth 4000
open Go.RowKit
namespace K
def off (xs : List Nat) : List Nat := xs.foldl add []
theorem add_len (xs : List Nat) (k : Nat) : (add xs k).length ≤ xs.length + 1 := by
  unfold add
  split
  · omega
  · rw [List.length_append, List.length_cons, List.length_take, List.length_drop]
    have := fi_le xs k
    omega
end K
end Go.Proofs.YtialjokdaniofaaGreat
end
section
namespace Go.Proofs.YtialjokdaniofaaGreat
set_option maxRecDepth 4000
open Go.RowKit
namespace K
/-- The least key from k on; the greatest up to k; 0: none. -/
def nx (xs : List Nat) (k : Nat) : Nat := (xs[fi xs k]?).getD 0
def nxb (xs : List Nat) (k : Nat) : Bool := decide (fi xs k < xs.length)
def pv (xs : List Nat) (k : Nat) : Nat := if fo xs k then k else if fi xs k = 0 then 0 else (xs[fi xs k - 1]?).getD 0
def pvb (xs : List Nat) (k : Nat) : Bool := fo xs k || !decide (fi xs k = 0)
end K
end Go.Proofs.YtialjokdaniofaaGreat
end
section
namespace Go.Proofs.YtialjokdaniofaaGreat
set_option maxRecDepth 4000
open Go.RowKit
abbrev kactv (d k : Nat) : Value := .agg #[.int .u8 (d : Int), .int .u64 (k : Int)]
abbrev kacto (d k : Nat) : Obj := .cells #[.int .u8 (d : Int), .int .u64 (k : Int)] 32
abbrev kansv (E K : Nat) (Y : Bool) : Value := .agg #[.int .i64 (E : Int), .int .u64 (K : Int), .bool Y]
abbrev kanso : Obj := .cells #[.int .i64 0, .int .u64 0, .bool false] 34
abbrev kw (w : World) (d k : Nat) : World := (w.alloc (kacto d k)).alloc kanso
structure KD (w w2 : World) (v : Value) (xs : List Nat) (d k : Nat) : Prop where
  c0 : w2.cell? ⟨w.heap.size, 0, none⟩ = some (.int .u8 (d : Int))
  c1 : w2.cell? ⟨w.heap.size, 1, none⟩ = some (.int .u64 (k : Int))
  a0 : w2.heap[w.heap.size + 1]? = some kanso
  kx : KX w2 v xs
  low : Below w.heap.size w w2
  size : w.heap.size + 2 ≤ w2.heap.size
def KDo (w : World) (v0 : Value) (ys : List Nat) (E K : Nat) (Y : Bool) (e : Ending) (w' : World) : Prop :=
  ∃ v, e = .returned (.tuple #[v, kansv E K Y]) ∧ KX w' v ys ∧ Below w.heap.size w w' ∧ (v = v0 ∨ ∀ g, v.ownBlock = some g → w.heap.size ≤ g)
end Go.Proofs.YtialjokdaniofaaGreat
end
section
namespace Go.Proofs.YtialjokdaniofaaGreat
set_option maxRecDepth 4000
open Go.RowKit
namespace K
end K
structure KE (w w2 w4 : World) (v : Value) (xs : List Nat) : Prop where
  a0 : w4.heap[w.heap.size + 1]? = some kanso
  x0 : w4.heap[w2.heap.size]? = some kanso
  kx : KX w4 v xs
  low : Below w.heap.size w w4
  size : w.heap.size + 2 ≤ w2.heap.size
theorem KE.of {w w2 w4 : World} {v : Value} {xs : List Nat} {d k : Nat} (h : KD w w2 v xs d k) (hb : Below (w2.alloc kanso).heap.size (w2.alloc kanso) w4) : KE w w2 w4 v xs := by
  have hs : (w2.alloc kanso).heap.size = w2.heap.size + 1 := by simp
  have b2 : Below w2.heap.size w2 w4 := ((Below.refl _ _).alloc (Nat.le_refl _) _).trans (hb.mono (by rw [hs]; omega))
  refine ⟨(b2.block _ (by have := h.size; omega)).trans h.a0, (hb.block _ (by rw [hs]; omega)).trans (K.alloc_top w2 _), h.kx.below b2, h.low.trans (b2.mono h.low.size), h.size⟩
end Go.Proofs.YtialjokdaniofaaGreat
end
section
namespace Go.Proofs.YtialjokdaniofaaGreat
set_option maxRecDepth 4000
open Go.RowKit
end Go.Proofs.YtialjokdaniofaaGreat
end
section
namespace Go.Proofs.YtialjokdaniofaaGreat
set_option maxRecDepth 4000
open Go.RowKit
end Go.Proofs.YtialjokdaniofaaGreat
end
section
namespace Go.Proofs.YtialjokdaniofaaGreat
set_option maxRecDepth 4000
open Go.RowKit
namespace K
/-- The list behind a call; the error, the key and the yes it answers. -/
def doL (xs : List Nat) (d k : Nat) : List Nat := if d % 9 ≤ 1 then add xs k else if d % 9 = 2 then drop xs k else if d % 9 = 8 then [] else xs
def doE (xs : List Nat) (d k : Nat) : Nat := if d % 9 ≤ 1 then (if fo xs k then 4 else 0) else if d % 9 = 2 then (if fo xs k then 0 else 3) else 0
def doK (xs : List Nat) (d k : Nat) : Nat := if d % 9 = 4 then nx xs k else if d % 9 = 5 then pv xs k else if d % 9 = 6 then nx xs 0 else if d % 9 = 7 then pv xs 18446744073709551615 else 0
def doY (xs : List Nat) (d k : Nat) : Bool := if d % 9 = 3 then fo xs k else if d % 9 = 4 then nxb xs k else if d % 9 = 5 then pvb xs k else if d % 9 = 6 then nxb xs 0 else if d % 9 = 7 then pvb xs 18446744073709551615 else false
end K
namespace K
/-- The list rises. -/
def Up (xs : List Nat) : Prop := xs.Pairwise (· < ·)
theorem up_tail {x : Nat} {xs : List Nat} (h : Up (x :: xs)) : Up xs := (List.pairwise_cons.1 h).2
theorem up_lt {xs : List Nat} (h : Up xs) {i j : Nat} (hij : i < j) (hj : j < xs.length) : xs[i]'(by omega) < xs[j] := (List.pairwise_iff_getElem.1 h) i j (by omega) hj hij
theorem fo_mem {xs : List Nat} (h : Up xs) (k : Nat) : fo xs k = true ↔ k ∈ xs := by
  constructor
  · intro h1
    obtain ⟨h2, h3⟩ := fo_lt h1
    rw [← h3]
    exact List.getElem_mem h2
  · intro hm
    obtain ⟨i, hi, rfl⟩ := List.getElem_of_mem hm
    have h1 : fi xs xs[i] = i := by
      rcases Nat.lt_trichotomy (fi xs xs[i]) i with h1 | h1 | h1
      · have h2 := fi_at (xs := xs) (k := xs[i]) (by omega)
        have h3 := up_lt h h1 hi
        omega
      · exact h1
      · obtain ⟨_, h3⟩ := fi_lt h1
        omega
    unfold fo
    rw [h1, List.getElem?_eq_getElem hi]
    simp
theorem take_lt {xs : List Nat} (k : Nat) : ∀ x ∈ xs.take (fi xs k), x < k := by
  intro x hx
  obtain ⟨j, hj, rfl⟩ := List.getElem_of_mem hx
  rw [List.length_take] at hj
  rw [List.getElem_take]
  exact (fi_lt (k := k) (by omega)).2
theorem drop_le {xs : List Nat} (h : Up xs) (k : Nat) : ∀ x ∈ xs.drop (fi xs k), k ≤ x := by
  intro x hx
  obtain ⟨j, hj, rfl⟩ := List.getElem_of_mem hx
  rw [List.length_drop] at hj
  rw [List.getElem_drop]
  have h1 := fi_at (xs := xs) (k := k) (by omega)
  rcases Nat.eq_zero_or_pos j with rfl | hp
  · simpa using h1
  · exact Nat.le_of_lt (Nat.lt_of_le_of_lt h1 (up_lt h (i := fi xs k) (j := fi xs k + j) (by omega) (by omega)))
theorem drop_ne {xs : List Nat} (h : Up xs) {k : Nat} (hf : fo xs k = false) : ∀ x ∈ xs.drop (fi xs k), k < x := by
  intro x hx
  have h1 := drop_le h k x hx
  have h2 : x ∈ xs := List.mem_of_mem_drop hx
  have h3 : x ≠ k := by
    rintro rfl
    rw [(fo_mem h x).2 h2] at hf
    cases hf
  omega
theorem add_up {xs : List Nat} (h : Up xs) (k : Nat) : Up (add xs k) := by
  unfold add
  split
  · exact h
  · rename_i hf
    have hf : fo xs k = false := by simpa using hf
    refine List.pairwise_append.2 ⟨h.sublist (List.take_sublist _ _), List.pairwise_cons.2 ⟨drop_ne h hf, h.sublist (List.drop_sublist _ _)⟩, fun a ha b hb => ?_⟩
    have h1 := take_lt k a ha
    rcases List.mem_cons.1 hb with rfl | hb
    · exact h1
    · exact Nat.lt_trans h1 (drop_ne h hf b hb)
theorem add_mem {xs : List Nat} (h : Up xs) (k x : Nat) : x ∈ add xs k ↔ x = k ∨ x ∈ xs := by
  unfold add
  split
  · rename_i hf
    have := (fo_mem h k).1 hf
    constructor
    · exact .inr
    · rintro (rfl | h1)
      · exact this
      · exact h1
  · have e : x ∈ xs ↔ x ∈ xs.take (fi xs k) ∨ x ∈ xs.drop (fi xs k) := by rw [← List.mem_append, List.take_append_drop]
    rw [List.mem_append, List.mem_cons, e]
    constructor
    · rintro (h | h | h)
      · exact .inr (.inl h)
      · exact .inl h
      · exact .inr (.inr h)
    · rintro (h | h | h)
      · exact .inr (.inl h)
      · exact .inl h
      · exact .inr (.inr h)
theorem drop_up {xs : List Nat} (h : Up xs) (k : Nat) : Up (drop xs k) := by
  unfold drop
  split
  · refine h.sublist ?_
    have := (List.Sublist.refl (xs.take (fi xs k))).append (List.drop_sublist_drop_left xs (Nat.le_succ (fi xs k)))
    rwa [List.take_append_drop] at this
  · exact h
theorem drop_mem {xs : List Nat} (h : Up xs) (k x : Nat) : x ∈ drop xs k ↔ x ≠ k ∧ x ∈ xs := by
  unfold drop
  split
  · rename_i hf
    obtain ⟨h1, h2⟩ := fo_lt hf
    have e : xs = xs.take (fi xs k) ++ k :: xs.drop (fi xs k + 1) := by
      have := List.take_append_drop (fi xs k) xs
      rw [List.drop_eq_getElem_cons h1, h2] at this
      exact this.symm
    have hu : Up (xs.take (fi xs k) ++ k :: xs.drop (fi xs k + 1)) := e ▸ h
    obtain ⟨_, hu2, hu3⟩ := List.pairwise_append.1 hu
    have hu4 := (List.pairwise_cons.1 hu2).1
    have e2 : x ∈ xs ↔ x ∈ xs.take (fi xs k) ∨ x = k ∨ x ∈ xs.drop (fi xs k + 1) := by
      constructor
      · intro hx; rw [e] at hx; simpa using hx
      · intro hx; rw [e]; simpa using hx
    rw [List.mem_append, e2]
    constructor
    · rintro (h5 | h5)
      · exact ⟨Nat.ne_of_lt (hu3 x h5 k (by simp)), .inl h5⟩
      · exact ⟨(Nat.ne_of_lt (hu4 x h5)).symm, .inr (.inr h5)⟩
    · rintro ⟨h5, h6 | h6 | h6⟩
      · exact .inl h6
      · exact absurd h6 h5
      · exact .inr h6
  · rename_i hf
    constructor
    · intro hx
      refine ⟨?_, hx⟩
      rintro rfl
      exact hf ((fo_mem h x).2 hx)
    · exact fun h => h.2
end K
end Go.Proofs.YtialjokdaniofaaGreat
end
section
namespace Go.Proofs.YtialjokdaniofaaGreat
set_option maxRecDepth 4000
open Go.RowKit
namespace K
def kc (xs : List Nat) (b j : Nat) : Bool := decide (j = 0) || (decide (0 < b) && !decide ((xs[j]?).getD 0 / 2 ^ (64 - b) = (xs[j - 1]?).getD 0 / 2 ^ (64 - b)))
def kd (xs : List Nat) (b : Nat) : Nat → Nat
  | 0 => 0
  | j + 1 => kd xs b j + if kc xs b j then 1 else 0
/-- How many unlike beginnings of b bits. -/
def kinds (xs : List Nat) (b : Nat) : Nat := kd xs b xs.length
theorem kd_le (xs : List Nat) (b : Nat) : ∀ j, kd xs b j ≤ j
  | 0 => Nat.le_refl _
  | j + 1 => by
    have := kd_le xs b j
    unfold kd
    split <;> omega
theorem kinds_le (xs : List Nat) (b : Nat) : kinds xs b ≤ xs.length := kd_le _ _ _
end K
end Go.Proofs.YtialjokdaniofaaGreat
end
section
namespace Go.Proofs.YtialjokdaniofaaGreat
set_option maxRecDepth 4000
open Go.RowKit
namespace K
/-- What a trie uses: how many unlike beginnings of 0 bits, and of 4, 10, .. 58. -/
def trs (xs : List Nat) : Nat → Nat
  | 0 => kinds xs 0
  | j + 1 => trs xs j + kinds xs (4 + 6 * j)
def trie (xs : List Nat) : Nat := trs xs 10
/-- What an x-fast trie uses. -/
def xfs (xs : List Nat) : Nat → Nat
  | 0 => xs.length
  | j + 1 => xfs xs j + kinds xs j
def xfast (xs : List Nat) : Nat := xfs xs 65
theorem xfs_le (xs : List Nat) : ∀ j, xfs xs j ≤ (j + 1) * xs.length
  | 0 => by simp [xfs]
  | j + 1 => by
    have h1 := xfs_le xs j
    have h2 := kinds_le xs j
    show xfs xs j + kinds xs j ≤ (j + 1 + 1) * xs.length
    rw [Nat.add_mul (j + 1)]
    omega
end K
end Go.Proofs.YtialjokdaniofaaGreat
end
section
namespace Go.Proofs.YtialjokdaniofaaGreat
set_option maxRecDepth 4000
open Go.RowKit
namespace K
/-- Nothing is written but in the blocks O. -/
structure Chg (w w' : World) (O : Nat → Prop) : Prop where
  os : w'.os = w.os
  tape : w'.tape = w.tape
  output : w'.output = w.output
  size : w.heap.size ≤ w'.heap.size
  block : ∀ g, g < w.heap.size → ¬ O g → w'.heap[g]? = w.heap[g]?
theorem Chg.of_below {w w' : World} {O : Nat → Prop} (h : Below w.heap.size w w') : Chg w w' O := ⟨h.os, h.tape, h.output, h.size, fun g hg _ => h.block g hg⟩
theorem Chg.trans {w w1 w2 : World} {O O1 : Nat → Prop} (h : Chg w w1 O) (h1 : Chg w1 w2 O1) (hO : ∀ j, O1 j → O j ∨ w.heap.size ≤ j) : Chg w w2 O :=
  ⟨h1.os.trans h.os, h1.tape.trans h.tape, h1.output.trans h.output, Nat.le_trans h.size h1.size, fun g hg hn => (h1.block g (Nat.lt_of_lt_of_le hg h.size) (fun h2 => by rcases hO g h2 with h3 | h3; exact hn h3; omega)).trans (h.block g hg hn)⟩
theorem Chg.below {w w' : World} {O : Nat → Prop} {B : Nat} (h : Chg w w' O) (hB : B ≤ w.heap.size) (hO : ∀ j, O j → B ≤ j) : Below B w w' := by
  refine ⟨h.os, h.tape, h.output, Nat.le_trans (by first | exact hB | exact h.size) (by first | exact h.size | exact Nat.le_refl _), fun g hg => h.block g (Nat.lt_of_lt_of_le hg hB) (fun h2 => by have := hO g h2; omega)⟩
theorem Chg.kx {w w' : World} {O : Nat → Prop} (h : Chg w w' O) {v : Value} {xs : List Nat} (hk : KX w v xs) (hv : ∀ g, v.ownBlock = some g → ¬ O g) : KX w' v xs := by
  refine ⟨hk.1, ?_⟩
  rcases hk.2 with hn | ⟨g, cap, cur, e, hb0, hg, rest⟩
  · exact .inl hn
  · exact .inr ⟨g, cap, cur, e, hb0, (h.block g (Array.getElem?_eq_some_iff.1 hg).1 (hv g (by subst e; rfl))).trans hg, rest⟩
end K
end Go.Proofs.YtialjokdaniofaaGreat
end
