/- What joining two rising lists tells: plain facts. How many unlike beginnings keys have (stepstoneref11), what a trie and an x-fast trie use; the texts walked. What a trie and an x-fast trie use (stepstoneref11); the texts walked. What a set of keys by its methods must keep (layers 11, 12, 14): a law's side walks on this alone. Rows, blocks that are written; a meter whose numbers may be any; the texts walked. What a call leaves of the world but for some blocks. A range over a function whose iterator lays blocks of its own and reads them between the rounds: the body owns some blocks, the iterator others. -/
import Derived.IntWalk
import Derived.Laws.Rows
import Derived.LoopTactic
import Derived.RegionTactic
import Derived.Lib.Hide
import Derived.OwnWalk
import Derived.Laws.OwnMore
import Derived.Below
import Derived.RangeFuncNested
import Derived.RangeFuncBound
import Derived.RangeFuncCalls
import Derived.RangeFuncBox
import Derived.RangeFuncLeaves
import Derived.Shelf.Abstract
import Derived.Shelf.RegionOpen
import Derived.OwnWalkIn
import Derived.TacticsInMore
import Derived.LoopNIn
import Derived.LoopIn
import Derived.Maps.AppendAt
import Derived.Test.YtepdhjcgpjjjlaaMt02
section
namespace Go.Proofs.Ytepdhjcgpjjjlaa
set_option maxRecDepth 20000
open Go.RowKit
namespace S
/-- Is a number told that is, or isn't, in the first and in the second list? -/
def tells (q : Nat → Bool) (a b : Prop) : Prop := (a ∧ ¬ b ∧ q 0 = true) ∨ (¬ a ∧ b ∧ q 1 = true) ∨ (a ∧ b ∧ q 2 = true)
/-- One step: what is told, and what is left of the second list. -/
def step (q : Nat → Bool) (s : List Nat × List Nat) (x : Nat) : List Nat × List Nat :=
  (s.1 ++ (if q 1 then s.2.takeWhile (fun y => decide (y < x)) else []) ++ (if q (if (s.2.dropWhile (fun y => decide (y < x))).head? = some x then 2 else 0) then [x] else []),
   if (s.2.dropWhile (fun y => decide (y < x))).head? = some x then (s.2.dropWhile (fun y => decide (y < x))).tail else s.2.dropWhile (fun y => decide (y < x)))
def run (q : Nat → Bool) (ys xs : List Nat) : List Nat × List Nat := xs.foldl (step q) ([], ys)
def jn (q : Nat → Bool) (xs ys : List Nat) : List Nat := (run q ys xs).1 ++ if q 1 then (run q ys xs).2 else []
theorem run_snoc (q : Nat → Bool) (ys xs : List Nat) (x : Nat) : run q ys (xs ++ [x]) = step q (run q ys xs) x := by
  unfold run
  rw [List.foldl_append]
  rfl
theorem run_pre (q : Nat → Bool) (ys xs zs : List Nat) : (run q ys xs).1 <+: (run q ys (xs ++ zs)).1 := by
  induction zs generalizing xs with
  | nil => rw [List.append_nil]; exact List.prefix_refl _
  | cons z zs ih =>
    have h1 : (run q ys xs).1 <+: (run q ys (xs ++ [z])).1 := by
      rw [run_snoc]
      exact ⟨_, by unfold step; rw [List.append_assoc]⟩
    have h2 := ih (xs ++ [z])
    rw [List.append_assoc] at h2
    exact h1.trans h2
theorem snoc_ind {α : Type} {C : List α → Prop} (h0 : C []) (h1 : ∀ l x, C l → C (l ++ [x])) (l : List α) : C l := by
  have : ∀ r : List α, C r.reverse := fun r => by
    induction r with
    | nil => exact h0
    | cons x r ih => rw [List.reverse_cons]; exact h1 _ x ih
  have h := this l.reverse
  rwa [List.reverse_reverse] at h
theorem run_suf (q : Nat → Bool) (ys xs : List Nat) : ∃ d, ys = d ++ (run q ys xs).2 := by
  refine snoc_ind (C := fun xs => ∃ d, ys = d ++ (run q ys xs).2) ⟨[], rfl⟩ (fun xs x ih => ?_) xs
  · obtain ⟨d, h⟩ := ih
    rw [run_snoc]
    generalize run q ys xs = s at *
    have e := List.takeWhile_append_dropWhile (p := fun y => decide (y < x)) (l := s.2)
    unfold step
    dsimp only
    split
    · rename_i hh
      generalize s.2.dropWhile (fun y => decide (y < x)) = r at *
      generalize s.2.takeWhile (fun y => decide (y < x)) = lo at *
      cases r with
      | nil => simp at hh
      | cons y r => exact ⟨d ++ lo ++ [y], by rw [h, ← e]; simp⟩
    · exact ⟨d ++ s.2.takeWhile (fun y => decide (y < x)), by rw [h, List.append_assoc, e]⟩
theorem run_mono (q : Nat → Bool) (ys xs zs : List Nat) : (run q ys xs).1 <+: jn q (xs ++ zs) ys := (run_pre q ys xs zs).trans ⟨_, rfl⟩
/-- What is so behind each step. -/
structure Inv (q : Nat → Bool) (ys xs : List Nat) (s : List Nat × List Nat) (d : List Nat) : Prop where
  cut : ys = d ++ s.2
  old : ∀ y ∈ d, ∃ x ∈ xs, y ≤ x
  rest : ∀ y ∈ s.2, ∀ x ∈ xs, x < y
  up : K.Up s.1
  le : ∀ z ∈ s.1, ∃ x ∈ xs, z ≤ x
  mem : ∀ z, z ∈ s.1 ↔ tells q (z ∈ xs) (z ∈ d)
theorem up_app {a b : List Nat} (ha : K.Up a) (hb : K.Up b) (h : ∀ x ∈ a, ∀ y ∈ b, x < y) : K.Up (a ++ b) := List.pairwise_append.2 ⟨ha, hb, h⟩
theorem Inv.start (q : Nat → Bool) (ys : List Nat) : Inv q ys [] (run q ys []) [] := ⟨rfl, by simp, by simp, List.Pairwise.nil, fun z hz => by simp [run] at hz, fun z => by simp [run, tells]⟩
theorem Inv.more {q : Nat → Bool} {ys xs : List Nat} {s : List Nat × List Nat} {d : List Nat} (h : Inv q ys xs s d) (hy : K.Up ys) {x : Nat} (hx : ∀ p ∈ xs, p < x) : ∃ d', Inv q ys (xs ++ [x]) (step q s x) d' := by
  obtain ⟨cut, old, rest, up, le, mem⟩ := h
  obtain ⟨s1, s2⟩ := s
  dsimp only at *
  have e := List.takeWhile_append_dropWhile (p := fun y => decide (y < x)) (l := s2)
  have hlo : ∀ y ∈ s2.takeWhile (fun y => decide (y < x)), y < x := fun y hy => by
    have := List.all_takeWhile (p := fun y => decide (y < x)) (l := s2)
    rw [List.all_eq_true] at this
    simpa using this y hy
  have hup2 : K.Up s2 := by
    have : K.Up (d ++ s2) := cut ▸ hy
    exact (List.pairwise_append.1 this).2.1
  have hdd : ∀ y ∈ d, ∀ z ∈ s2, y < z := by
    have : K.Up (d ++ s2) := cut ▸ hy
    exact (List.pairwise_append.1 this).2.2
  have hhi : ∀ y ∈ s2.dropWhile (fun y => decide (y < x)), x ≤ y := by
    intro y hy2
    have hup3 : K.Up (s2.dropWhile (fun y => decide (y < x))) := List.Pairwise.sublist (List.dropWhile_sublist _) hup2
    cases hr : s2.dropWhile (fun y => decide (y < x)) with
    | nil => rw [hr] at hy2; cases hy2
    | cons b r =>
      have hb : ¬ (decide (b < x) = true) := by
        have := List.head?_dropWhile_not (p := fun y => decide (y < x)) s2
        rw [hr] at this
        simpa using this
      have hb : x ≤ b := by simpa using hb
      rw [hr] at hy2 hup3
      rcases List.mem_cons.1 hy2 with rfl | hy2
      · exact hb
      · have := (List.pairwise_cons.1 hup3).1 y hy2
        omega
  have hlr : ∀ y ∈ s2.takeWhile (fun y => decide (y < x)), ∀ p ∈ xs, p < y := fun y hy2 => rest y (by rw [← e]; exact List.mem_append_left _ hy2)
  have hul : K.Up (s2.takeWhile (fun y => decide (y < x))) := List.Pairwise.sublist (List.takeWhile_sublist _) hup2
  have huh : K.Up (s2.dropWhile (fun y => decide (y < x))) := List.Pairwise.sublist (List.dropWhile_sublist _) hup2
  have hld : ∀ y ∈ d, ∀ z ∈ s2.takeWhile (fun y => decide (y < x)), y < z := fun y hy z hz => hdd y hy z (by rw [← e]; exact List.mem_append_left _ hz)
  have hlh : ∀ y ∈ s2.takeWhile (fun y => decide (y < x)), ∀ z ∈ s2.dropWhile (fun y => decide (y < x)), y < z := fun y h1 z h2 => by have := hlo y h1; have := hhi z h2; omega
  have hxd : x ∉ d := fun hm => by
    obtain ⟨p, hp, hle⟩ := old x hm
    have := hx p hp
    omega
  have hxx : x ∉ xs := fun hm => by have := hx x hm; omega
  unfold step
  dsimp only
  generalize s2.takeWhile (fun y => decide (y < x)) = lo at *
  generalize s2.dropWhile (fun y => decide (y < x)) = hi at *
  have hsx : ∀ z ∈ s1, z < x := fun z hz => by
    obtain ⟨p, hp, hle⟩ := le z hz
    have := hx p hp
    omega
  have hsl : ∀ z ∈ s1, ∀ y ∈ lo, z < y := fun z hz y hy2 => by
    obtain ⟨p, hp, hle⟩ := le z hz
    have := hlr y hy2 p hp
    omega
  have upA : ∀ (c : Bool), K.Up (s1 ++ (if q 1 then lo else []) ++ (if c then [x] else [])) := fun c => by
    refine up_app (up_app up ?_ ?_) ?_ ?_
    · split
      · exact hul
      · exact List.Pairwise.nil
    · intro z hz y hy2
      split at hy2
      · exact hsl z hz y hy2
      · cases hy2
    · split
      · exact List.pairwise_singleton _ _
      · exact List.Pairwise.nil
    · intro z hz y hy2
      split at hy2
      · obtain rfl := List.mem_singleton.1 hy2
        rcases List.mem_append.1 hz with hz | hz
        · exact hsx z hz
        · split at hz
          · exact hlo z hz
          · cases hz
      · cases hy2
  have leA : ∀ (c : Bool), ∀ z ∈ s1 ++ (if q 1 then lo else []) ++ (if c then [x] else []), ∃ p ∈ xs ++ [x], z ≤ p := fun c z hz => by
    refine ⟨x, by simp, ?_⟩
    rcases List.mem_append.1 hz with hz | hz
    · rcases List.mem_append.1 hz with hz | hz
      · exact Nat.le_of_lt (hsx z hz)
      · split at hz
        · exact Nat.le_of_lt (hlo z hz)
        · cases hz
    · split at hz
      · obtain rfl := List.mem_singleton.1 hz
        exact Nat.le_refl _
      · cases hz
  have memA : ∀ (c : Bool) z, z ∈ s1 ++ (if q 1 then lo else []) ++ (if c then [x] else []) ↔ tells q (z ∈ xs) (z ∈ d) ∨ (z ∈ lo ∧ q 1 = true) ∨ (z = x ∧ c = true) := fun c z => by
    rw [List.mem_append, List.mem_append, mem z]
    constructor
    · rintro ((h | h) | h)
      · exact .inl h
      · split at h
        · rename_i hq; exact .inr (.inl ⟨h, hq⟩)
        · cases h
      · split at h
        · rename_i hq; exact .inr (.inr ⟨List.mem_singleton.1 h, hq⟩)
        · cases h
    · rintro (h | ⟨h, hq⟩ | ⟨h, hq⟩)
      · exact .inl (.inl h)
      · exact .inl (.inr (by rw [if_pos hq]; exact h))
      · exact .inr (by rw [if_pos hq]; exact List.mem_singleton.2 h)
  have hlx : ∀ z ∈ lo, z ∉ xs ∧ z ∉ d ∧ z ≠ x := fun z hz => ⟨fun hm => by have := hlr z hz z hm; omega, fun hm => by have := hld z hm z hz; omega, fun e => by have := hlo z hz; omega⟩
  by_cases hh : hi.head? = some x
  · rw [if_pos hh, if_pos hh]
    cases hi with
    | nil => simp at hh
    | cons b r =>
      simp at hh
      subst hh
      refine ⟨d ++ lo ++ [b], by rw [cut, ← e]; simp, fun y hy2 => ⟨b, by simp, ?_⟩, fun y hy2 p hp => ?_, upA _, leA _, fun z => (memA _ z).trans ?_⟩
      · rcases List.mem_append.1 hy2 with hy2 | hy2
        · rcases List.mem_append.1 hy2 with hy2 | hy2
          · obtain ⟨p, hp, hle⟩ := old y hy2
            have := hx p hp
            omega
          · exact Nat.le_of_lt (hlo y hy2)
        · obtain rfl := List.mem_singleton.1 hy2
          exact Nat.le_refl _
      · have hby : b < y := (List.pairwise_cons.1 huh).1 y hy2
        rcases List.mem_append.1 hp with hp | hp
        · have := hx p hp
          omega
        · obtain rfl := List.mem_singleton.1 hp
          exact hby
      · unfold tells
        simp only [List.mem_append, List.mem_singleton]
        by_cases hz : z = b
        · subst hz
          constructor
          · rintro ((⟨h, _⟩ | ⟨_, h, _⟩ | ⟨h, _⟩) | ⟨h, _⟩ | ⟨_, h⟩)
            · exact absurd h hxx
            · exact absurd h hxd
            · exact absurd h hxx
            · exact absurd rfl (hlx z h).2.2
            · exact .inr (.inr ⟨.inr rfl, .inr rfl, h⟩)
          · rintro (⟨_, h, _⟩ | ⟨h, _⟩ | ⟨_, _, h⟩)
            · exact absurd (.inr rfl) h
            · exact absurd (.inr rfl) h
            · exact .inr (.inr ⟨rfl, h⟩)
        · simp only [hz, or_false, false_and]
          by_cases hl : z ∈ lo
          · obtain ⟨n1, n2, _⟩ := hlx z hl
            simp [hl, n1, n2]
          · simp [hl]
  · rw [if_neg hh, if_neg hh]
    have hxhi : x ∉ hi := fun hm => by
      cases hi with
      | nil => cases hm
      | cons b r =>
        simp at hh
        have h1 := hhi b (by simp)
        rcases List.mem_cons.1 hm with e2 | hm
        · exact hh e2.symm
        · have := (List.pairwise_cons.1 huh).1 x hm
          omega
    refine ⟨d ++ lo, by rw [cut, ← e]; simp, fun y hy2 => ⟨x, by simp, ?_⟩, fun y hy2 p hp => ?_, upA _, leA _, fun z => (memA _ z).trans ?_⟩
    · rcases List.mem_append.1 hy2 with hy2 | hy2
      · obtain ⟨p, hp, hle⟩ := old y hy2
        have := hx p hp
        omega
      · exact Nat.le_of_lt (hlo y hy2)
    · have h1 := hhi y hy2
      have hyx : x ≠ y := fun e2 => hxhi (e2 ▸ hy2)
      rcases List.mem_append.1 hp with hp | hp
      · have := hx p hp
        omega
      · obtain rfl := List.mem_singleton.1 hp
        omega
    · have hxlo : x ∉ lo := fun hm => (hlx x hm).2.2 rfl
      unfold tells
      simp only [List.mem_append, List.mem_singleton]
      by_cases hz : z = x
      · subst hz
        simp [hxx, hxd, hxlo]
      · simp only [hz, or_false, false_and]
        by_cases hl : z ∈ lo
        · obtain ⟨n1, n2, _⟩ := hlx z hl
          simp [hl, n1, n2]
        · simp [hl]
theorem run_inv (q : Nat → Bool) {ys xs : List Nat} (hy : K.Up ys) (hx : K.Up xs) : ∃ d, Inv q ys xs (run q ys xs) d := by
  revert hx
  refine snoc_ind (C := fun xs => K.Up xs → ∃ d, Inv q ys xs (run q ys xs) d) (fun _ => ⟨[], Inv.start q ys⟩) (fun xs x ih hx => ?_) xs
  · obtain ⟨h1, _, h3⟩ := List.pairwise_append.1 hx
    obtain ⟨d, h⟩ := ih h1
    rw [run_snoc]
    exact h.more hy (fun p hp => h3 p hp x (by simp))
/-- What is told rises, and is what is wanted. -/
theorem jn_spec (q : Nat → Bool) {xs ys : List Nat} (hx : K.Up xs) (hy : K.Up ys) : K.Up (jn q xs ys) ∧ ∀ z, z ∈ jn q xs ys ↔ tells q (z ∈ xs) (z ∈ ys) := by
  obtain ⟨d, cut, old, rest, up, le, mem⟩ := run_inv q hy hx
  unfold jn
  generalize run q ys xs = s at *
  have hup2 : K.Up s.2 ∧ ∀ y ∈ d, ∀ z ∈ s.2, y < z := by
    have : K.Up (d ++ s.2) := cut ▸ hy
    exact (List.pairwise_append.1 this).2
  refine ⟨up_app up ?_ (fun z hz y hy2 => ?_), fun z => ?_⟩
  · split
    · exact hup2.1
    · exact List.Pairwise.nil
  · split at hy2
    · obtain ⟨p, hp, hle⟩ := le z hz
      have := rest y hy2 p hp
      omega
    · cases hy2
  · rw [List.mem_append, mem z, cut]
    have hn : z ∈ s.2 → z ∉ xs ∧ z ∉ d := fun hz => ⟨fun hm => by have := rest z hz z hm; omega, fun hm => by have := hup2.2 z hm z hz; omega⟩
    unfold tells
    by_cases hz : z ∈ s.2
    · obtain ⟨n1, n2⟩ := hn hz
      by_cases hq : q 1 = true <;> simp [hz, n1, n2, hq]
    · by_cases hq : q 1 = true <;> simp [hz, hq]
theorem step_len (q : Nat → Bool) (s : List Nat × List Nat) (x : Nat) : (step q s x).1.length + (step q s x).2.length ≤ s.1.length + s.2.length + 1 := by
  have e := congrArg List.length (List.takeWhile_append_dropWhile (p := fun y => decide (y < x)) (l := s.2))
  rw [List.length_append] at e
  unfold step
  dsimp only
  generalize s.2.dropWhile (fun y => decide (y < x)) = hi at *
  generalize s.2.takeWhile (fun y => decide (y < x)) = lo at *
  have h1 : (if q 1 then lo else []).length ≤ lo.length := by split <;> simp
  have h2 : ∀ b : Bool, (if b then [x] else []).length ≤ 1 := fun b => by split <;> simp
  have h3 : (if hi.head? = some x then hi.tail else hi).length ≤ hi.length := by
    split
    · rw [List.length_tail]; omega
    · exact Nat.le_refl _
  have h4 := h2 (q (if hi.head? = some x then 2 else 0))
  simp only [List.length_append]
  omega
theorem run_len (q : Nat → Bool) (ys xs : List Nat) : (run q ys xs).1.length + (run q ys xs).2.length ≤ xs.length + ys.length := by
  refine snoc_ind (C := fun xs => (run q ys xs).1.length + (run q ys xs).2.length ≤ xs.length + ys.length) ?_ (fun xs x ih => ?_) xs
  · simp [run]
  · rw [run_snoc]
    have := step_len q (run q ys xs) x
    rw [List.length_append, List.length_singleton]
    omega
theorem jn_len (q : Nat → Bool) (xs ys : List Nat) : (jn q xs ys).length ≤ xs.length + ys.length := by
  have := run_len q ys xs
  unfold jn
  rw [List.length_append]
  have h : (if q 1 then (run q ys xs).2 else []).length ≤ (run q ys xs).2.length := by split <;> simp
  omega
end S
end Go.Proofs.Ytepdhjcgpjjjlaa
end
section
namespace Go.Proofs.Ytepdhjcgpjjjlaa
set_option maxRecDepth 4000
open Go.RowKit
namespace K
def kc (xs : List Nat) (b j : Nat) : Bool := decide (j = 0) || (decide (0 < b) && !decide ((xs[j]?).getD 0 / 2 ^ (64 - b) = (xs[j - 1]?).getD 0 / 2 ^ (64 - b)))
def kd (xs : List Nat) (b : Nat) : Nat → Nat
  | 0 => 0
  | j + 1 => kd xs b j + if kc xs b j then 1 else 0
/-- How many unlike beginnings of b bits. -/
def kinds (xs : List Nat) (b : Nat) : Nat := kd xs b xs.length
end K
end Go.Proofs.Ytepdhjcgpjjjlaa
end
section
namespace Go.Proofs.Ytepdhjcgpjjjlaa
set_option maxRecDepth 4000
open Go.RowKit
namespace K
/-- What a trie uses: how many unlike beginnings of 0 bits, and of 4, 10, .. 58. -/
def trs (xs : List Nat) : Nat → Nat
  | 0 => kinds xs 0
  | j + 1 => trs xs j + kinds xs (4 + 6 * j)
def trie (xs : List Nat) : Nat := trs xs 10
/-- What an x-fast trie uses. -/
def xfs (xs : List Nat) : Nat → Nat
  | 0 => xs.length
  | j + 1 => xfs xs j + kinds xs j
def xfast (xs : List Nat) : Nat := xfs xs 65
end K
end Go.Proofs.Ytepdhjcgpjjjlaa
end
section
namespace Go.Proofs.Ytepdhjcgpjjjlaa
set_option maxRecDepth 4000
open Go.RowKit
namespace K
/-- Nothing is written but in the blocks O. -/
structure Chg (w w' : World) (O : Nat → Prop) : Prop where
  os : w'.os = w.os
  tape : w'.tape = w.tape
  output : w'.output = w.output
  size : w.heap.size ≤ w'.heap.size
  block : ∀ g, g < w.heap.size → ¬ O g → w'.heap[g]? = w.heap[g]?
theorem Chg.of_below {w w' : World} {O : Nat → Prop} (h : Below w.heap.size w w') : Chg w w' O := ⟨h.os, h.tape, h.output, h.size, fun g hg _ => h.block g hg⟩
theorem Chg.trans {w w1 w2 : World} {O O1 : Nat → Prop} (h : Chg w w1 O) (h1 : Chg w1 w2 O1) (hO : ∀ j, O1 j → O j ∨ w.heap.size ≤ j) : Chg w w2 O :=
  ⟨h1.os.trans h.os, h1.tape.trans h.tape, h1.output.trans h.output, Nat.le_trans h.size h1.size, fun g hg hn => (h1.block g (Nat.lt_of_lt_of_le hg h.size) (fun h2 => by rcases hO g h2 with h3 | h3; exact hn h3; omega)).trans (h.block g hg hn)⟩
theorem Chg.below {w w' : World} {O : Nat → Prop} {B : Nat} (h : Chg w w' O) (hB : B ≤ w.heap.size) (hO : ∀ j, O j → B ≤ j) : Below B w w' := by
  refine ⟨h.os, h.tape, h.output, Nat.le_trans (by first | exact hB | exact h.size) (by first | exact h.size | exact Nat.le_refl _), fun g hg => h.block g (Nat.lt_of_lt_of_le hg hB) (fun h2 => by have := hO g h2; omega)⟩
theorem Chg.kx {w w' : World} {O : Nat → Prop} (h : Chg w w' O) {v : Value} {xs : List Nat} (hk : KX w v xs) (hv : ∀ g, v.ownBlock = some g → ¬ O g) : KX w' v xs := by
  refine ⟨hk.1, ?_⟩
  rcases hk.2 with hn | ⟨g, cap, cur, e, hb0, hg, rest⟩
  · exact .inl hn
  · exact .inr ⟨g, cap, cur, e, hb0, (h.block g (Array.getElem?_eq_some_iff.1 hg).1 (hv g (by subst e; rfl))).trans hg, rest⟩
end K
end Go.Proofs.Ytepdhjcgpjjjlaa
end
section
namespace Go.Proofs.Ytepdhjcgpjjjlaa
open Go.RowKit
theorem row_lt {w : World} {g : Nat} {o : Obj} (h : w.heap[g]? = some o) : g < w.heap.size := (Array.getElem?_eq_some_iff.1 h).1
theorem row_set {w : World} {g : Nat} {cs : Array Value} {T : TypeId} (h : w.heap[g]? = some (.cells cs T (0, 0))) (i : Nat) (u : Value) : (w.setCell ⟨g, i, none⟩ u).heap[g]? = some (.cells (cs.setIfInBounds i u) T (0, 0)) := by
  simp [World.setCell, Array.getElem?_modify, h]
theorem chg_set (w : World) (g i : Nat) (u : Value) (O : Nat → Prop) (h : O g) : K.Chg w (w.setCell ⟨g, i, none⟩ u) O :=
  ⟨rfl, rfl, rfl, by simp [World.setCell], fun j _ hn => Below.heap_setCell w _ u j (fun e => hn (by rw [e]; exact h))⟩
theorem K.Chg.mono {w w' : World} {O O' : Nat → Prop} (h : K.Chg w w' O) (hO : ∀ j, O j → O' j) : K.Chg w w' O' := ⟨h.os, h.tape, h.output, h.size, fun g hg hn => h.block g hg (fun h1 => hn (hO g h1))⟩
theorem K.Chg.same {w w1 w2 : World} {O : Nat → Prop} (h : K.Chg w w1 O) (h1 : K.Chg w1 w2 O) : K.Chg w w2 O := h.trans h1 (fun _ h => .inl h)
theorem K.Chg.drewN {w w' : World} {O : Nat → Prop} (h : K.Chg w w' O) (n : Nat) : K.Chg w (w'.drewN n) O := ⟨h.os, h.tape, h.output, h.size, h.block⟩
theorem K.Chg.grown {w w1 w2 : World} {O : Nat → Prop} {row : Option Nat} (h : K.Chg w w1 O) (g : w1.grownBy w2 row) (hr : ∀ j, row = some j → O j ∨ w.heap.size ≤ j) : K.Chg w w2 O :=
  h.trans (O1 := fun j => row = some j) ⟨g.os, g.tape, g.output, g.size, fun k hk hn => g.block k hk (fun e => hn e.symm)⟩ (fun j hj => hr j hj)
theorem K.Chg.cell {w w' : World} {O : Nat → Prop} (h : K.Chg w w' O) {b : Nat} (hb : b < w.heap.size) (hn : ¬ O b) (o : Nat) : w'.cell? ⟨b, o, none⟩ = w.cell? ⟨b, o, none⟩ := by simp [World.cell?, h.block b hb hn]
theorem K.Chg.own {w w' : World} {O : Nat → Prop} {base : Nat} {e : TypeId} {size n : Nat} {v : Value} {xs : List Value} (b : K.Chg w w' O) (h : w.ownsRow base e size v n xs) (hS : ∀ k, v.ownBlock = some k → ¬ O k) : w'.ownsRow base e size v n xs := by
  refine ⟨h.1, ?_⟩
  rcases h.2 with hn | ⟨g, cap, cur, rfl, hb, hg, rest⟩
  · exact .inl hn
  · exact .inr ⟨g, cap, cur, rfl, hb, (b.block g (row_lt hg) (hS g rfl)).trans hg, rest⟩
theorem own_cut {w : World} {base : Nat} {e : TypeId} {size n c : Nat} {A : Option Addr} {xs : List Value} (h : w.ownsRow base e size (.slice A n c) n xs) {k : Nat} (hk : k ≤ n) : w.ownsRow base e size (.slice A k c) k (xs.take (k * size)) := by
  have hl := h.1
  have hle : k * size ≤ n * size := Nat.mul_le_mul_right _ hk
  refine ⟨by rw [List.length_take]; omega, ?_⟩
  rcases h.2 with ⟨hv, rfl⟩ | ⟨g, cap, cur, hv, hb, hg, hnc, hcm, hcs, ht⟩
  · obtain rfl : k = 0 := by omega
    exact .inl ⟨hv, rfl⟩
  · simp only [Value.slice.injEq, true_and] at hv
    obtain ⟨rfl, rfl⟩ := hv
    refine .inr ⟨g, c, cur, rfl, hb, hg, by omega, hcm, hcs, ?_⟩
    rw [← ht, List.take_take, Nat.min_eq_left hle]
end Go.Proofs.Ytepdhjcgpjjjlaa
end
section
namespace Go.Proofs.Ytepdhjcgpjjjlaa
open Go.RowKit
section
variable {w w' : World}
structure ButS (w w' : World) (S : Nat → Prop) : Prop where
  os : w'.os = w.os
  tape : w'.tape = w.tape
  output : w'.output = w.output
  size : w.heap.size ≤ w'.heap.size
  block : ∀ j, j < w.heap.size → ¬ S j → w'.heap[j]? = w.heap[j]?
theorem ButS.refl (w : World) (S : Nat → Prop) : ButS w w S := ⟨rfl, rfl, rfl, Nat.le_refl _, fun _ _ _ => rfl⟩
theorem ButS.trans {w2 : World} {S : Nat → Prop} (h : ButS w w' S) (k : ButS w' w2 S) : ButS w w2 S :=
  ⟨k.os.trans h.os, k.tape.trans h.tape, k.output.trans h.output, Nat.le_trans h.size k.size, fun j hj hs => (k.block j (Nat.lt_of_lt_of_le hj h.size) hs).trans (h.block j hj hs)⟩
theorem ButS.mono {S T : Nat → Prop} (h : ButS w w' S) (hST : ∀ j, j < w.heap.size → S j → T j) : ButS w w' T := ⟨h.os, h.tape, h.output, h.size, fun j hj ht => h.block j hj fun hs => ht (hST j hj hs)⟩
/-- One step more, which changes but what S has, or is younger. -/
theorem ButS.then {w2 : World} {S T : Nat → Prop} (h : ButS w w' S) (k : ButS w' w2 T) (hT : ∀ j, T j → S j ∨ w.heap.size ≤ j) : ButS w w2 S :=
  ⟨k.os.trans h.os, k.tape.trans h.tape, k.output.trans h.output, Nat.le_trans h.size k.size, fun j hj hs => (k.block j (Nat.lt_of_lt_of_le hj h.size) fun ht => by rcases hT j ht with h1 | h1; exact hs h1; omega).trans (h.block j hj hs)⟩
theorem ButS.of_grown {row : Option Nat} {S : Nat → Prop} (g : w.grownBy w' row) (h : ∀ j, row = some j → S j) : ButS w w' S :=
  ⟨g.os, g.tape, g.output, g.size, fun j hj hs => g.block j hj fun e => hs (h j e.symm)⟩
theorem ButS.drewN {S : Nat → Prop} (h : ButS w w' S) (n : Nat) : ButS w (w'.drewN n) S := ⟨h.os, h.tape, h.output, h.size, h.block⟩
theorem ButS.below {S : Nat → Prop} {B : Nat} (h : ButS w w' S) (hB : B ≤ w.heap.size) (hS : ∀ j, S j → B ≤ j) : Below B w w' :=
  ⟨h.os, h.tape, h.output, h.size, fun k hk => h.block k (by omega) fun hs => by have := hS k hs; omega⟩
theorem ButS.own {S : Nat → Prop} {base : Nat} {e : TypeId} {size n : Nat} {v : Value} {xs : List Value} (b : ButS w w' S) (h : w.ownsRow base e size v n xs) (hS : ∀ k, v.ownBlock = some k → ¬ S k) : w'.ownsRow base e size v n xs := by
  refine ⟨h.1, ?_⟩
  rcases h.2 with hn | ⟨g, cap, cur, rfl, hb, hg, rest⟩
  · exact .inl hn
  · exact .inr ⟨g, cap, cur, rfl, hb, (b.block g (Array.getElem?_eq_some_iff.1 hg).1 (hS g rfl)).trans hg, rest⟩
end
theorem ButS.cell {w w' : World} {S : Nat → Prop} (h : ButS w w' S) {b : Nat} (hb : b < w.heap.size) (hs : ¬ S b) (o : Nat) : w'.cell? ⟨b, o, none⟩ = w.cell? ⟨b, o, none⟩ := by
  simp [World.cell?, h.block b hb hs]
theorem ButS.of_below {B : Nat} {w w' : World} {S : Nat → Prop} (h : Below B w w') (hB : w.heap.size ≤ B) : ButS w w' S :=
  ⟨h.os, h.tape, h.output, h.size, fun j hj _ => h.block j (by omega)⟩
theorem but_alloc' (w : World) (o : Obj) (S : Nat → Prop) : ButS w (w.alloc o) S := ButS.of_grown (World.grownBy_alloc w o none) (by simp)
theorem ButS.of_chg {w w' : World} {S : Nat → Prop} (h : K.Chg w w' S) : ButS w w' S := ⟨h.os, h.tape, h.output, h.size, h.block⟩
end Go.Proofs.Ytepdhjcgpjjjlaa
end
section
namespace Go.Proofs.Ytepdhjcgpjjjlaa
open Go.RowKit Go.Shelf
/-- I speaks of the blocks O alone, and of what lies below B. -/
def Abides {β : Type} (B : Nat) (I : β → (Nat → Prop) → World → Prop) : Prop :=
  ∀ s O W W' R, I s O W → ButS W W' R → (∀ j, R j → ¬ O j ∧ B ≤ j) → I s O W'
/-- What J is told of the blocks R, the iterator's own: it may turn them, lay others, let some go. -/
def Steps {β : Type} (J : β → (Nat → Prop) → World → Prop) : Prop :=
  ∀ s R R' W W', J s R W → ButS W W' R → (∀ j, R' j → (R j ∨ W.heap.size ≤ j) ∧ j < W'.heap.size) → J s R' W'
/-- An iterator over any body that leaves the iterator's blocks, and what lies below n₀, as they are. -/
def SeqO {α : Type} (F : Fence) (n : Nat) (P : Program) (g : Nat) (lb : Array Value) (encs : α → Array Value) (n₀ : Nat) (S Sp : List α → Prop) (N : Nat) (w : World) : Prop :=
  ∀ (l : Nat) (J Jx : List α → (Nat → Prop) → World → Prop) (W : World), Below w.heap.size w W → Steps J → Steps Jx →
    (∀ pre x R W1, J pre R W1 → pre.length < N → YieldAt F (n - 1) P l (encs x) W1 fun e W' =>
      (e = .returned (.bool true) ∧ J (pre ++ [x]) R W' ∧ Below n₀ W1 W' ∧ ∀ j, R j → W'.heap[j]? = W1.heap[j]?) ∨ (e = .returned (.bool false) ∧ Jx (pre ++ [x]) R W')) →
    J [] (fun _ => False) W →
    CallsIn F n P g (#[.func (.yield l) #[] #[]] ++ lb) W fun e W' => (∃ v, e = .returned v) ∧ ((∃ xs R, S xs ∧ J xs R W') ∨ (∃ pre R, Sp pre ∧ Jx pre R W'))
/-- What is left of the world by a round's part that owns O; O': what it owns then. -/
def OwnStep (O O' : Nat → Prop) (W W' : World) : Prop := ButS W W' O ∧ ∀ j, O' j → (O j ∨ W.heap.size ≤ j) ∧ j < W'.heap.size
theorem OwnStep.trans {O O1 O2 : Nat → Prop} {W W1 W2 : World} (h : OwnStep O O1 W W1) (k : OwnStep O1 O2 W1 W2) : OwnStep O O2 W W2 :=
  ⟨h.1.then k.1 (fun j hj => (h.2 j hj).1), fun j hj => ⟨by
    rcases (k.2 j hj).1 with h1 | h1
    · exact (h.2 j h1).1
    · right; have := h.1.size; omega, (k.2 j hj).2⟩⟩
/-- How a round's body is left. -/
def roundO {α : Type} (I : List α → (Nat → Prop) → World → Prop) (Ix : Code → List α → (Nat → Prop) → World → Prop) (xs : List α) (O : Nat → Prop) (W : World) : Exit → Act → World → Prop
  | .normal, _, W' => ∃ O', OwnStep O O' W W' ∧ I xs O' W'
  | .ret, _, W' => ∃ O', OwnStep O O' W W' ∧ Ix .ret xs O' W'
  | .exit id, _, W' => ∃ O', OwnStep O O' W W' ∧ Ix (.exit id) xs O' W'
  | .goto t, _, W' => ∃ O', OwnStep O O' W W' ∧ Ix (.goto t) xs O' W'
  | .panic _, _, _ => False
  | .outgrown, _, _ => False
theorem but_put (W : World) (l : Nat) (o : Obj) : ButS W (W.putObj l o) (· = l) := ⟨rfl, rfl, rfl, by simp, fun j _ hj => World.putObj_heap_other hj⟩
variable {F : Fence} {n : Nat} {P : Program}
end Go.Proofs.Ytepdhjcgpjjjlaa
end
