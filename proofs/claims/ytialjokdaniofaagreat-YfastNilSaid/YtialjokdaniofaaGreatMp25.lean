/- slices.Compact at 64-bit numbers: laid over the library's contract. A row of 64-bit numbers that is put in order: what stays, and what a swap does; the comparison, walked. Plain facts on a row that is parted about a number, and on what is put in order in parts. A row that is nearly in order is put in order, where few steps will do; the text walked. Plain facts: what is left to be put in order when a row has been parted. The heap: one number goes down; the heap is built and emptied; the text walked. The heap is built and emptied; the text walked. A row is parted about one of its numbers; the text walked. A range turned round; the choice of a number about which a row is parted; the text walked. The number about which a row is parted is chosen; the text walked. Some patterns are broken: three numbers change places with others, by a sequence that looks like chance; the text walked. Some patterns are broken; the text walked. The sort itself: parted about a number, the smaller part by itself, the greater one in the next round; the text walked. slices.Sort over a row of one's own: the same numbers, in order. slices.Compact over a row of one's own that is in order: each number once. slices.Sort and Compact of nothing. Plain facts: a row of Bools read as the list of the places that are true. array: the search by halves, Rank, Has, Select, Next; the text walked. Cuts of lists of 64-bit numbers; Add, Drop, Part; the text walked. -/
import Derived.Shelf.SlGeneric
import Derived.Shelf.SlicesE.Compact
import Derived.Test.YtialjokdaniofaaGreatProg
import Derived.WalkKit
import Derived.BigGuard
import Derived.BigCall
import Derived.CellFam
import Derived.Deep.Draws
import Derived.Deep.QuietTactic
import Derived.BigQuiet
import Derived.RegionTactic
import Derived.Lib.Hide
import Derived.IntWalk
import Derived.Sort.LotA
import Derived.Sort.LotB
import Derived.Shelf.GgSortFunc.SW
import Derived.Laws.BitsAllLaws
import Derived.Laws.Bits64b
import Derived.Laws.Closers25b
import Derived.Lib.BitFns
import Derived.Lib.Strings
import Derived.Lib.Small
import Derived.Lib.Walk
import Derived.Deep.CutRange
import Derived.Deep.RegionHeld3
import Derived.Test.YtialjokdaniofaaGreatMp24
import Derived.Test.YtialjokdaniofaaGreatMp01
section
namespace Go.Proofs
set_option maxRecDepth 20000
open Go.Shelf
def Tryz.compH_ren : Go.Shelf.Ren := ⟨fun | 43 => 135 | n => n, fun | 22 => 47 | 23 => 22 | 3 => 3 | 4 => 4 | 0 => 0 | n => n, fun | n => n⟩
end Go.Proofs
end
section
namespace Go.Proofs.YtialjokdaniofaaGreat.Kb
set_option maxRecDepth 20000
open Go.RowKit Go.Sort
/-- In w the n cells at blk, off read as d; all else is as in w0, but for what is new. -/
structure Rr (w0 : World) (blk off n : Nat) (d : Array Int) (w : World) : Prop where
  size : d.size = n
  sw : SW (Value.int .u64) w0 blk off d w
  lt : blk < w0.heap.size
  h0 : ∃ d0 : Array Int, Holds (Value.int .u64) w0 blk off d0 ∧ d0.size = n
  few : n < 4611686018427387904
section
variable {w0 w : World} {blk off n : Nat} {d d' : Array Int}
theorem Rr.start (h : Holds (Value.int .u64) w0 blk off d) (hb : blk < w0.heap.size) (hn : d.size < 4611686018427387904) : Rr w0 blk off d.size d w0 :=
  ⟨rfl, SW.start h, hb, ⟨d, h, rfl⟩, hn⟩
theorem Rr.holds (h : Rr w0 blk off n d w) : Holds (Value.int .u64) w blk off d := by
  obtain ⟨d0, h0, hs⟩ := h.h0
  exact h.sw.holds h.lt h0 (h.size.trans hs.symm)
theorem Rr.cell (h : Rr w0 blk off n d w) {t : Nat} (ht : t < n) : w.cell? ⟨blk, off + t, none⟩ = some (.int .u64 d[t]!) := (h.holds t (by rw [h.size]; exact ht)).1
theorem Rr.free (h : Rr w0 blk off n d w) {t : Nat} (ht : t < n) : w.frozen? ⟨blk, off + t, none⟩ = false := (h.holds t (by rw [h.size]; exact ht)).2
theorem Rr.drewN (h : Rr w0 blk off n d w) (q : Nat) : Rr w0 blk off n d (w.drewN q) := ⟨h.size, h.sw.drewN q, h.lt, h.h0, h.few⟩
theorem Rr.alloc (h : Rr w0 blk off n d w) (o : Obj) : Rr w0 blk off n d (w.alloc o) := ⟨h.size, h.sw.alloc o, h.lt, h.h0, h.few⟩
theorem Rr.setNew (h : Rr w0 blk off n d w) (b o : Nat) (v : Value) (hb : w0.heap.size ≤ b) : Rr w0 blk off n d (w.setCell ⟨b, o, none⟩ v) := ⟨h.size, h.sw.setCell_new b o v hb, h.lt, h.h0, h.few⟩
theorem Rr.le (h : Rr w0 blk off n d w) : w0.heap.size ≤ w.heap.size := h.sw.le
theorem Rr.swap (h : Rr w0 blk off n d w) (i j : Nat) (hi : i < n) (hj : j < n) :
    Rr w0 blk off n (swp d i j) ((w.setCell ⟨blk, off + i, none⟩ (.int .u64 d[j]!)).setCell ⟨blk, off + j, none⟩ (.int .u64 d[i]!)) :=
  ⟨(size_swp d i j).trans h.size, h.sw.swap h.lt i j (by rw [h.size]; exact hi) (by rw [h.size]; exact hj), h.lt, h.h0, h.few⟩
end
/-- What a step on the places from a up to b leaves: the row with these permuted, of which Q holds. -/
def Sr (w0 : World) (blk off n a b : Nat) (d : Array Int) (Q : Array Int → Prop) (w' : World) : Prop := ∃ d', Rr w0 blk off n d' w' ∧ PermIn a b d d' ∧ Q d'
set_option maxHeartbeats 1000000 in
theorem isnan_any (x : Int) (w : World) : Calls Tryz.prog 145 #[.int .u64 x] w fun e w' => e = .returned (.bool false) ∧ w' = w := by
  go_enter Tryz.func145, Tryz.ntmps145
  go_wp2
  go_ret
  exact ⟨by simp, rfl⟩
set_option maxHeartbeats 1000000 in
theorem less_any (x y : Int) (w : World) : Calls Tryz.prog 118 #[.int .u64 x, .int .u64 y] w fun e w' => e = .returned (.bool (ltInt x y)) ∧ w' = w := by
  go_enter Tryz.func118, Tryz.ntmps118
  go_wp2_with (go_at_call 145; refine (isnan_any _ _).mono ?_; rintro e w' ⟨rfl, rfl⟩)
  go_ret
  exact ⟨rfl, rfl⟩
end Go.Proofs.YtialjokdaniofaaGreat.Kb
end
section
namespace Go.Proofs.YtialjokdaniofaaGreat.Kb
set_option maxRecDepth 20000
open Go.Sort
theorem lt_yes {x y : Int} (h : ltInt x y = true) : x < y := by simpa [ltInt] using h
theorem lt_no {x y : Int} (h : ltInt x y = false) : y ≤ x := by simpa [ltInt] using h
def Lo (p x : Int) : Prop := x < p
def Hi (p x : Int) : Prop := p ≤ x
def Le (p x : Int) : Prop := x ≤ p
def Gt (p x : Int) : Prop := p < x
/-- The row dk is d with the places from a up to b permuted; p stands at a; U holds of what stands behind it up to i, V of what stands behind j. -/
structure Pt (U V : Int → Int → Prop) (a b i j : Nat) (p : Int) (d dk : Array Int) : Prop where
  perm : PermIn a b d dk
  top : dk[a]! = p
  up : ∀ k, a < k → k < i → U p dk[k]!
  down : ∀ k, j < k → k < b → V p dk[k]!
section
variable {U V : Int → Int → Prop} {a b i j : Nat} {p : Int} {d dk : Array Int}
theorem swp_same (d : Array Int) (i : Nat) : ∀ k : Nat, (swp d i i)[k]! = d[k]! := by
  intro k
  by_cases h : k = i
  · subst h
    by_cases hk : k < d.size
    · exact swp_right d k k hk
    · rw [getElem!_neg _ k (by rw [size_swp]; exact hk), getElem!_neg _ k hk]
  · exact swp_other d i i k h h
theorem swp_at (d : Array Int) {i j : Nat} (hi : i < d.size) (hj : j < d.size) : (swp d i j)[i]! = d[j]! ∧ (swp d i j)[j]! = d[i]! := by
  by_cases h : i = j
  · subst h; exact ⟨swp_same _ _ _, swp_same _ _ _⟩
  · exact ⟨swp_left d i j hi h, swp_right d i j hj⟩
theorem Pt.start {v : Nat} (ha : a ≤ v) (hv : v < b) (hb : b ≤ d.size) : Pt U V a b (a + 1) (b - 1) d[v]! d (swp d a v) :=
  ⟨swp_permIn d a b a v (Nat.le_refl _) (by omega) ha hv hb, (swp_at d (by omega) (by omega)).1, fun k h1 h2 => by omega, fun k h1 h2 => by omega⟩
theorem Pt.next (h : Pt U V a b i j p d dk) (hu : U p dk[i]!) : Pt U V a b (i + 1) j p d dk :=
  ⟨h.perm, h.top, fun k h1 h2 => by
    by_cases e : k = i
    · subst e; exact hu
    · exact h.up k h1 (by omega), h.down⟩
theorem Pt.prev (h : Pt U V a b i j p d dk) (hv : V p dk[j]!) (hj : 0 < j) : Pt U V a b i (j - 1) p d dk :=
  ⟨h.perm, h.top, h.up, fun k h1 h2 => by
    by_cases e : k = j
    · subst e; exact hv
    · exact h.down k (by omega) h2⟩
theorem Pt.swap (h : Pt U V a b i j p d dk) (hai : a < i) (hij : i < j) (hjb : j < b) (hb : b ≤ d.size) (hu : U p dk[j]!) (hv : V p dk[i]!) : Pt U V a b (i + 1) (j - 1) p d (swp dk i j) := by
  have hs : dk.size = d.size := h.perm.1
  obtain ⟨e1, e2⟩ := swp_at dk (i := i) (j := j) (by omega) (by omega)
  refine ⟨permIn_trans _ _ _ _ _ h.perm (swp_permIn dk a b i j (by omega) (by omega) (by omega) hjb (by omega)), ?_, fun k h1 h2 => ?_, fun k h1 h2 => ?_⟩
  · rw [swp_other dk i j a (by omega) (by omega)]; exact h.top
  · by_cases e : k = i
    · subst e; rw [e1]; exact hu
    · rw [swp_other dk i j k (by omega) (by omega)]; exact h.up k h1 (by omega)
  · by_cases e : k = j
    · subst e; rw [e2]; exact hv
    · rw [swp_other dk i j k (by omega) (by omega)]; exact h.down k (by omega) h2
theorem Pt.ends (h : Pt Le Gt a b i j p d dk) (hij : j < i) : (∀ k, a ≤ k → k < i → dk[k]! ≤ p) ∧ ∀ k, i ≤ k → k < b → p < dk[k]! :=
  ⟨fun k h1 h2 => by
    by_cases e : k = a
    · subst e; exact Int.le_of_eq h.top
    · exact h.up k (by omega) h2, fun k h1 h2 => h.down k (by omega) h2⟩
theorem Pt.last (h : Pt U V a b (j + 1) j p d dk) (haj : a ≤ j) (hjb : j < b) (hb : b ≤ d.size) : PermIn a b d (swp dk j a) ∧ (swp dk j a)[j]! = p ∧ (∀ k, a ≤ k → k < j → U p (swp dk j a)[k]!) ∧ ∀ k, j < k → k < b → V p (swp dk j a)[k]! := by
  have hs : dk.size = d.size := h.perm.1
  obtain ⟨e1, e2⟩ := swp_at dk (i := j) (j := a) (by omega) (by omega)
  refine ⟨permIn_trans _ _ _ _ _ h.perm (swp_permIn dk a b j a haj hjb (Nat.le_refl _) (by omega) (by omega)), e1.trans h.top, fun k h1 h2 => ?_, fun k h1 h2 => ?_⟩
  · by_cases e : k = a
    · subst e; rw [e2]; exact h.up j (by omega) (by omega)
    · rw [swp_other dk j a k (by omega) e]; exact h.up k (by omega) (by omega)
  · rw [swp_other dk j a k (by omega) (by omega)]; exact h.down k h1 h2
end
end Go.Proofs.YtialjokdaniofaaGreat.Kb
end
section
namespace Go.Proofs.YtialjokdaniofaaGreat.Kb
set_option maxRecDepth 20000
open Go.RowKit Go.Sort
/-- Nothing from a up to b is less than what stands ahead of a. -/
def Bel (a b : Nat) (d : Array Int) : Prop := 0 < a → ∀ k, a ≤ k → k < b → d[a - 1]! ≤ d[k]!
theorem Bel.perm {a b : Nat} {d dk : Array Int} (h : Bel a b d) (hp : PermIn a b d dk) (hb : b ≤ d.size) : Bel a b dk := fun h0 k h1 h2 => by
  rw [hp.2.1 (a - 1) (.inl (by omega))]
  exact permIn_all d dk a b (fun x => d[a - 1]! ≤ x) hb hp (fun i h3 h4 => h h0 i h3 h4) k h1 h2
end Go.Proofs.YtialjokdaniofaaGreat.Kb
end
section
namespace Go.Proofs.YtialjokdaniofaaGreat.Kb
set_option maxRecDepth 20000
open Go.Sort
/-- Of the places from a up to b only those from x up to y have still to be put in order. -/
def Fin' (a b x y : Nat) (d dk : Array Int) : Prop := PermIn a b d dk ∧ Bel x y dk ∧ ∀ d', PermIn x y dk d' → SortedIn ltInt x y d' → SortedIn ltInt a b d'
section
variable {a b x y m v : Nat} {d dk d1 d2 : Array Int}
end
end Go.Proofs.YtialjokdaniofaaGreat.Kb
end
section
namespace Go.Proofs.YtialjokdaniofaaGreat.Kb
set_option maxRecDepth 20000
open Go.RowKit Go.Sort
end Go.Proofs.YtialjokdaniofaaGreat.Kb
end
section
namespace Go.Proofs.YtialjokdaniofaaGreat.Kb
set_option maxRecDepth 20000
open Go.RowKit Go.Sort
end Go.Proofs.YtialjokdaniofaaGreat.Kb
end
section
namespace Go.Proofs.YtialjokdaniofaaGreat.Kb
set_option maxRecDepth 20000
open Go.RowKit Go.Sort
end Go.Proofs.YtialjokdaniofaaGreat.Kb
end
section
namespace Go.Proofs.YtialjokdaniofaaGreat.Kb
set_option maxRecDepth 20000
open Go.RowKit Go.Sort
/-- The row, and a counter beside it. -/
structure Sp (w0 : World) (blk off n : Nat) (d : Array Int) (g : Nat) (w : World) : Prop where
  row : Rr w0 blk off n d w
  new : w0.heap.size ≤ g
  at' : ∃ s, w.cell? ⟨g, 0, none⟩ = some (.int .i64 s)
  free : w.frozen? ⟨g, 0, none⟩ = false
theorem Sp.drewN {w0 w : World} {blk off n g : Nat} {d : Array Int} (h : Sp w0 blk off n d g w) (q : Nat) : Sp w0 blk off n d g (w.drewN q) := ⟨h.row.drewN q, h.new, h.at', h.free⟩
theorem Sp.set {w0 w : World} {blk off n g : Nat} {d : Array Int} (h : Sp w0 blk off n d g w) (s : Int) : Sp w0 blk off n d g (w.setCell ⟨g, 0, none⟩ (.int .i64 s)) := by
  obtain ⟨t, ht⟩ := h.at'
  exact ⟨h.row.setNew g 0 _ h.new, h.new, ⟨s, by rw [World.cell?_setCell_same (h := ht)]⟩, by rw [World.frozen?_setCell]; exact h.free⟩
end Go.Proofs.YtialjokdaniofaaGreat.Kb
end
section
namespace Go.Proofs.YtialjokdaniofaaGreat.Kb
set_option maxRecDepth 20000
open Go.RowKit Go.Sort
end Go.Proofs.YtialjokdaniofaaGreat.Kb
end
section
namespace Go.Proofs.YtialjokdaniofaaGreat.Kb
set_option maxRecDepth 20000
open Go.RowKit Go.Sort
theorem tab_all : ∀ n, n < 256 → ((Lib.len8tab[n]?).getD 0).toNat = Lib.bitLen n ∧ Lib.bitLen n ≤ 8 := by decide +kernel
theorem tab_len (b : Int) (h0 : 0 ≤ b) (h : b < 256) (hi : b.toNat < Lib.len8tab.size) : wrap64 ((Lib.len8tab[b.toNat]'hi).toNat : Int) = (Lib.bitLen b.toNat : Int) ∧ Lib.bitLen b.toNat ≤ 8 := by
  obtain ⟨h1, h2⟩ := tab_all b.toNat (by omega)
  rw [getElem?_pos Lib.len8tab b.toNat hi] at h1
  refine ⟨?_, h2⟩
  have e : ((Lib.len8tab[b.toNat]'hi).toNat : Int) = (Lib.bitLen b.toNat : Int) := by rw [← h1]; rfl
  rw [e]; unfold wrap64; omega
/-- The row, and a number that turns beside it. -/
structure Sq (w0 : World) (blk off n : Nat) (d : Array Int) (g : Nat) (w : World) : Prop where
  row : Rr w0 blk off n d w
  new : w0.heap.size ≤ g
  at' : ∃ s, w.cell? ⟨g, 0, none⟩ = some (.int .u64 s)
  free : w.frozen? ⟨g, 0, none⟩ = false
section
variable {w0 w : World} {blk off n g : Nat} {d : Array Int}
theorem Sq.drewN (h : Sq w0 blk off n d g w) (q : Nat) : Sq w0 blk off n d g (w.drewN q) := ⟨h.row.drewN q, h.new, h.at', h.free⟩
theorem Sq.set (h : Sq w0 blk off n d g w) (s : Int) : Sq w0 blk off n d g (w.setCell ⟨g, 0, none⟩ (.int .u64 s)) := by
  obtain ⟨t, ht⟩ := h.at'
  exact ⟨h.row.setNew g 0 _ h.new, h.new, ⟨s, by rw [World.cell?_setCell_same (h := ht)]⟩, by rw [World.frozen?_setCell]; exact h.free⟩
end
end Go.Proofs.YtialjokdaniofaaGreat.Kb
end
section
namespace Go.Proofs.YtialjokdaniofaaGreat.Kb
set_option maxRecDepth 20000
open Go.RowKit Go.Sort
end Go.Proofs.YtialjokdaniofaaGreat.Kb
end
section
namespace Go.Proofs.YtialjokdaniofaaGreat.Kb
set_option maxRecDepth 20000
open Go.RowKit Go.Sort
/-- What is promised of the sort, from a up to b. -/
def PdqAt (w0 : World) (blk off n cap a b : Nat) : Prop := ∀ (w : World) (l : Int) (d : Array Int), Rr w0 blk off n d w → Bel a b d →
  Calls Tryz.prog 152 #[.slice (some ⟨blk, off, none⟩) n cap, .int .i64 a, .int .i64 b, .int .i64 l] w fun e w' => e = .returned (.tuple #[]) ∧ Sr w0 blk off n a b d (SortedIn ltInt a b) w'
end Go.Proofs.YtialjokdaniofaaGreat.Kb
end
section
namespace Go.Proofs.YtialjokdaniofaaGreat.Kb
set_option maxRecDepth 20000
open Go.RowKit Go.Sort
end Go.Proofs.YtialjokdaniofaaGreat.Kb
end
section
namespace Go.Proofs.YtialjokdaniofaaGreat.Kb
set_option maxRecDepth 20000
open Go.RowKit Go.Sort Go.Lib
end Go.Proofs.YtialjokdaniofaaGreat.Kb
end
section
namespace Go.Proofs.YtialjokdaniofaaGreat.Kb
set_option maxRecDepth 20000
open Go.RowKit
theorem own_low {w : World} {base b : Nat} {e : TypeId} {n : Nat} {v : Value} {xs : List Value} (h : w.ownsRow base e 1 v n xs) (hb : b ≤ base) : w.ownsRow b e 1 v n xs := by
  refine ⟨h.1, ?_⟩
  rcases h.2 with h1 | ⟨g, cap, cur, h1, h2, h3⟩
  · exact .inl h1
  · exact .inr ⟨g, cap, cur, h1, Nat.le_trans hb h2, h3⟩
theorem rh_cell {w : World} {B : Nat} {A : Option Addr} {n c : Nat} {xs : List Int} (hr : Rh w B A xs) (hn : n = xs.length) (hB : B ≤ w.heap.size) : Parts (w.alloc (.cells #[.slice A n c] 47)) B w.heap.size 0 [(A, c, xs)] := by
  intro k hk
  have hk0 : k = 0 := by simp at hk; exact hk
  subst hk0
  refine ⟨by simp [hn], ?_⟩
  exact hr.below ((Below.refl _ _).alloc hB _) (Nat.le_refl _)
end Go.Proofs.YtialjokdaniofaaGreat.Kb
end
section
namespace Go.Proofs.YtialjokdaniofaaGreat
namespace M
/-- The places that are true, rising. -/
def L (bs : List Bool) : List Int := ((List.range bs.length).filter fun i => bs[i]?.getD false).map fun i : Nat => (i : Int)
/-- All from f up to t are there (o), or not; n were changed. -/
def Chg (o : Bool) (l l' : List Int) (f t : Int) (n : Nat) : Prop :=
  l'.Pairwise (· < ·) ∧ (∀ y, y ∈ l' ↔ if f ≤ y ∧ y ≤ t then o = true else y ∈ l) ∧ (if o then n + l.length = l'.length else n + l'.length = l.length)
theorem Chg.same {o : Bool} {l a b : List Int} {f t : Int} {n m : Nat} (h : Chg o l a f t n) (k : Chg o l b f t m) : a = b ∧ n = m := by
  have e : a = b := sorted_ext h.1 k.1 fun y => (h.2.1 y).trans (k.2.1 y).symm
  subst e
  refine ⟨rfl, ?_⟩
  have h1 := h.2.2
  have h2 := k.2.2
  cases o
  · rw [if_neg (by decide)] at h1 h2; omega
  · rw [if_pos rfl] at h1 h2; omega
end M
end Go.Proofs.YtialjokdaniofaaGreat
end
section
namespace Go.Proofs.YtialjokdaniofaaGreat.Kb
set_option maxRecDepth 20000
open Go.RowKit
theorem rank_at {xs : List Int} {v : Int} {i : Nat} (hi : i ≤ xs.length) (h1 : ∀ k (h : k < xs.length), k < i → xs[k] < v) (h2 : ∀ k (h : k < xs.length), i ≤ k → v ≤ xs[k]) : M.rRank xs v = i := by
  unfold M.rRank
  have e1 : (xs.take i).filter (fun x => decide (x < v)) = xs.take i := List.filter_eq_self.2 fun x hx => by
    rw [List.mem_take_iff_getElem] at hx
    obtain ⟨k, hk, rfl⟩ := hx
    simpa using h1 k (by omega) (by omega)
  have e2 : (xs.drop i).filter (fun x => decide (x < v)) = [] := List.filter_eq_nil_iff.2 fun x hx => by
    rw [List.mem_drop_iff_getElem] at hx
    obtain ⟨k, hk, rfl⟩ := hx
    have := h2 (i + k) (by omega) (by omega)
    simp; omega
  conv => lhs; rw [← List.take_append_drop i xs]
  rw [List.filter_append, e1, e2]
  simp; omega
theorem mem_at {xs : List Int} {v : Int} {i : Nat} (h1 : ∀ k (h : k < xs.length), k < i → xs[k] < v) (h2 : ∀ k (h : k < xs.length), i ≤ k → v ≤ xs[k]) (hs : xs.Pairwise (· < ·)) : v ∈ xs ↔ ∃ h : i < xs.length, xs[i] = v := by
  constructor
  · intro hv
    obtain ⟨k, hk, he⟩ := List.mem_iff_getElem.1 hv
    rcases Nat.lt_trichotomy k i with h | h | h
    · have := h1 k hk h; omega
    · subst h; exact ⟨hk, he⟩
    · have q1 := List.pairwise_iff_getElem.1 hs i k (by omega) hk h
      have q2 := h2 i (by omega) (Nat.le_refl _)
      omega
  · rintro ⟨h, rfl⟩; exact List.getElem_mem h
/-- What the halves hold. -/
def Half (xs : List Int) (v : Int) (i j : Nat) : Prop := (∀ k (h : k < xs.length), k < i → xs[k] < v) ∧ (∀ k (h : k < xs.length), j ≤ k → v ≤ xs[k])
theorem half_up {xs : List Int} {v : Int} {i j h : Nat} (hs : xs.Pairwise (· < ·)) (hh : Half xs v i j) (hl : h < xs.length) (hy : xs[h] < v) : Half xs v (h + 1) j := by
  refine ⟨fun k hk hki => ?_, hh.2⟩
  rcases Nat.lt_or_eq_of_le (show k ≤ h by omega) with e | e
  · exact Int.lt_trans (List.pairwise_iff_getElem.1 hs k h hk hl e) hy
  · subst e; exact hy
theorem half_down {xs : List Int} {v : Int} {i j h : Nat} (hs : xs.Pairwise (· < ·)) (hh : Half xs v i j) (hl : h < xs.length) (hy : v ≤ xs[h]) : Half xs v i h := by
  refine ⟨hh.1, fun k hk hki => ?_⟩
  rcases Nat.lt_or_eq_of_le hki with e | e
  · exact Int.le_trans hy (Int.le_of_lt (List.pairwise_iff_getElem.1 hs h k hl hk e))
  · subst e; exact hy
set_option maxHeartbeats 1000000 in
theorem nan_any (x : Int) (w : World) : Calls Tryz.prog 119 #[.int .u64 x] w fun e w' => e = .returned (.bool false) ∧ w = w' := by
  go_enter Tryz.func119, Tryz.ntmps119
  go_wp2
  go_ret
  exact ⟨by simp, rfl⟩
set_option maxHeartbeats 8000000 in
set_option maxRecDepth 100000 in
theorem a_search (w : World) (B n c : Nat) (A : Option Addr) (xs : List Int) (v : Int) (hn : n = xs.length) (hr : Rh w B A xs) (hs : xs.Pairwise (· < ·)) (few : n ≤ 1000000) :
    Calls Tryz.prog 85 #[.slice A n c, .int .u64 v] w fun e w' => e = .returned (.tuple #[.int .i64 (M.rRank xs v : Nat), .bool (decide (v ∈ xs))]) ∧ w = w' := by
  have HN := Lib.hid hn
  have HS := Lib.hid hs
  have HR := Lib.hid hr
  clear hn hs hr
  go_enter Tryz.func85, Tryz.ntmps85
  go_wp2_with (fail)
  go_loop [7, 8] (fun vi vj => ∃ i j : Nat, vi = .int .i64 i ∧ vj = .int .i64 j ∧ i ≤ j ∧ j ≤ n ∧ Hid (Half xs v i j)) (fun vi vj => (intOf vj - intOf vi).toNat)
  case atStart => exact ⟨0, n, rfl, rfl, Nat.zero_le _, Nat.le_refl _, Lib.hid ⟨fun k _ h => by omega, fun k h h' => by have := HN.out; omega⟩⟩
  case round =>
    obtain ⟨i, j, rfl, rfl, hij, hjn, hH⟩ := hrel
    by_cases hlt : i < j
    · obtain ⟨h, hh⟩ : ∃ h, h = (i + j) / 2 := ⟨_, rfl⟩
      have eh : ((i : Int) + (j : Int)) / 2 = (h : Int) := by omega
      have hhi : i ≤ h := by omega
      have hhj : h < j := by omega
      clear hh
      have hhn : h < n := by omega
      have hhx : h < xs.length := by rw [← HN.out]; exact hhn
      obtain ⟨b, off, hA, _, hcell⟩ := HR.out.at hhx
      subst hA
      obtain ⟨y, hy⟩ : ∃ y, y = xs[h] := ⟨_, rfl⟩
      rw [← hy] at hcell
      have HY := Lib.hid hy
      clear hy
      have hs0 : 0 ≤ (i : Int) + (j : Int) := by omega
      have hs1 : (i : Int) + (j : Int) ≤ 2000000 := by omega
      go_wp2_with (go_at_call 118; refine (less_any _ _ _).mono ?_; rintro e w' ⟨rfl, rfl⟩)
      · have e : Sort.ltInt y v = true := by assumption
        go_round
        case rel => exact ⟨h + 1, j, by go_num, rfl, by omega, hjn, Lib.hid (half_up HS.out hH.out hhx (by rw [← HY.out]; exact lt_yes e))⟩
        case measure => simp [intOf]; omega
      · have e : Sort.ltInt y v = false := by assumption
        go_round
        case rel => exact ⟨i, h, rfl, rfl, hhi, by omega, Lib.hid (half_down HS.out hH.out hhx (by rw [← HY.out]; exact lt_no e))⟩
        case measure => simp [intOf]; omega
    · have hji : j = i := by omega
      subst hji
      have hrk : Hid (M.rRank xs v = j) := Lib.hid (rank_at (by rw [← HN.out]; exact hjn) hH.out.1 hH.out.2)
      have hmem : Hid (v ∈ xs ↔ ∃ h : j < xs.length, xs[j] = v) := Lib.hid (mem_at hH.out.1 hH.out.2 HS.out)
      by_cases hin : j < n
      · have hjx : j < xs.length := by rw [← HN.out]; exact hin
        obtain ⟨b, off, hA, _, hcell⟩ := HR.out.at hjx
        subst hA
        obtain ⟨y, hy⟩ : ∃ y, y = xs[j] := ⟨_, rfl⟩
        rw [← hy] at hcell
        have HY := Lib.hid hy
        clear hy
        by_cases hyv : y = v
        · have HM : Hid (v ∈ xs) := Lib.hid (hmem.out.2 ⟨hjx, by rw [← HY.out]; exact hyv⟩)
          subst hyv
          go_wp2_with (go_at_call 119; refine (nan_any _ _).mono ?_; rintro e w' ⟨rfl, rfl⟩)
          go_ret2
          exact ⟨by rw [hrk.out, decide_eq_true HM.out]; rfl, rfl⟩
        · have HM : Hid (¬ v ∈ xs) := Lib.hid (fun hv => by obtain ⟨_, h⟩ := hmem.out.1 hv; rw [← HY.out] at h; exact hyv h)
          have hyb : (y == v) = false := by simpa using hyv
          go_wp2_with (go_at_call 119; refine (nan_any _ _).mono ?_; rintro e w' ⟨rfl, rfl⟩)
          go_ret2
          exact ⟨by rw [hrk.out, decide_eq_false HM.out]; rfl, rfl⟩
      · have HM : Hid (¬ v ∈ xs) := Lib.hid (fun hv => by obtain ⟨h, _⟩ := hmem.out.1 hv; rw [← HN.out] at h; exact hin h)
        go_wp2_with (go_at_call 119; refine (nan_any _ _).mono ?_; rintro e w' ⟨rfl, rfl⟩)
        go_ret2
        exact ⟨by rw [hrk.out, decide_eq_false HM.out]; rfl, rfl⟩
theorem rank_le (xs : List Int) (v : Int) : M.rRank xs v ≤ xs.length := List.length_filter_le _ _
/-- What stands ahead of a rank is less, what stands from it on isn't. -/
theorem rank_half {xs : List Int} (hs : xs.Pairwise (· < ·)) (v : Int) : Half xs v (M.rRank xs v) (M.rRank xs v) := by
  induction xs with
  | nil => exact ⟨fun k h => by simp at h, fun k h => by simp at h⟩
  | cons a l ih =>
    rw [List.pairwise_cons] at hs
    obtain ⟨i1, i2⟩ := ih hs.2
    by_cases ha : a < v
    · have e : M.rRank (a :: l) v = M.rRank l v + 1 := by unfold M.rRank; rw [List.filter_cons, if_pos (by simpa using ha)]; rfl
      rw [e]
      refine ⟨fun k hk h => ?_, fun k hk h => ?_⟩
      · cases k with
        | zero => exact ha
        | succ k => exact i1 k (by simpa using hk) (by omega)
      · cases k with
        | zero => omega
        | succ k => exact i2 k (by simpa using hk) (by omega)
    · have hz : ∀ x ∈ a :: l, ¬ x < v := fun x hx => by
        rcases List.mem_cons.1 hx with rfl | hx
        · exact ha
        · have := hs.1 x hx; omega
      have e : M.rRank (a :: l) v = 0 := by
        unfold M.rRank
        rw [List.filter_eq_nil_iff.2 fun x hx => by simpa using hz x hx]
        rfl
      rw [e]
      exact ⟨fun k hk h => by omega, fun k hk _ => by have := hz _ (List.getElem_mem hk); omega⟩
def upv (xs : List Int) (v : Int) : Nat := if v ∈ xs then M.rRank xs v + 1 else M.rRank xs v
end Go.Proofs.YtialjokdaniofaaGreat.Kb
end
section
namespace Go.Proofs.YtialjokdaniofaaGreat.Kb
set_option maxRecDepth 20000
open Go.RowKit Go.Shelf
def cutA (A : Option Addr) (l c : Nat) : Option Addr := if c = l then A else A.map (·.add (l * 1))
theorem cutA_rh {w : World} {B n c l h : Nat} {A : Option Addr} {xs : List Int} (hr : Rh w B A xs) (hn : n = xs.length) (hl : l ≤ h) (hh : h ≤ n) (hc : n ≤ c) : Rh w B (cutA A l c) ((xs.take h).drop l) := by
  intro hne
  have hlen : ((xs.take h).drop l).length = h - l := by rw [List.length_drop, List.length_take]; omega
  have hlt : l < h := by
    rcases Nat.lt_or_ge l h with e | e
    · exact e
    · exact absurd (List.eq_nil_of_length_eq_zero (by omega)) hne
  obtain ⟨b, off, rfl, hb, hcl⟩ := hr (by intro e; subst e; simp at hn; omega)
  refine ⟨b, off + l, ?_, hb, fun k hk => ?_⟩
  · unfold cutA
    rw [if_neg (by omega)]
    show some _ = some _
    unfold Addr.add
    by_cases h0 : l = 0 <;> simp [h0]
  · have h2 : l + k < xs.length := by omega
    have := hcl (l + k) h2
    rw [show off + l + k = off + (l + k) by omega, this]
    simp
theorem cut_l (A : Option Addr) (n c l : Nat) (L : Int) (hL : L = (l : Int)) (hl : l ≤ n) : (∀ w, (Instr.sliceAt 47 (.slice A n c) (some (.int .i64 L)) none none).run Tryz.prog w = .ok (.slice (cutA A l c) (n - l) (c - l)) w) ∧
    (∀ w, (Instr.slice 47 (.slice A n c) (some (.int .i64 L)) none none).run Tryz.prog w = .ok (.slice (cutA A l c) (n - l) (c - l)) w) := by
  subst hL
  have hu : Tryz.prog.underlying 47 = some (.slice (Tryz.prog.elem 47)) := by kernel_rfl
  have hz : ∀ w, (Go.sizeOf (Tryz.prog.elem 47)).run Tryz.prog w = .ok 1 w := fun w => Tryz.sizeOf22 w
  have h2 : ∀ w, (Instr.slice 47 (.slice A n c) (some (.int .i64 (l : Int))) none none).run Tryz.prog w = .ok (sliced A l n c 1) w := fun w => by
    have h := run_slice_l (P := Tryz.prog) (w := w) (t := 47) (a := A) (len := n) (cap := c) (ht := hu) (kl := .i64) (l := (l : Int)) (h0 := by omega) (h1 := by omega)
    rw [h, hz]
    simp [Result.andThen]
  exact ⟨fun w => (run_sliceAt_slice (w := w) (h := hu) ..).trans (h2 w), h2⟩
theorem cut_h (A : Option Addr) (n c l : Nat) (L : Int) (hL : L = (l : Int)) (hl : l ≤ n) (hc : n ≤ c) : (∀ w, (Instr.sliceAt 47 (.slice A n c) none (some (.int .i64 L)) none).run Tryz.prog w = .ok (.slice A l c) w) ∧
    (∀ w, (Instr.slice 47 (.slice A n c) none (some (.int .i64 L)) none).run Tryz.prog w = .ok (.slice A l c) w) := by
  subst hL
  have hu : Tryz.prog.underlying 47 = some (.slice (Tryz.prog.elem 47)) := by kernel_rfl
  have hz : ∀ w, (Go.sizeOf (Tryz.prog.elem 47)).run Tryz.prog w = .ok 1 w := fun w => Tryz.sizeOf22 w
  have h2 : ∀ w, (Instr.slice 47 (.slice A n c) none (some (.int .i64 (l : Int))) none).run Tryz.prog w = .ok (.slice A l c) w := fun w => by
    have h := run_slice_h (P := Tryz.prog) (w := w) (t := 47) (a := A) (len := n) (cap := c) (ht := hu) (kh := .i64) (h := (l : Int)) (h0 := by omega) (h2 := by omega)
    rw [h, hz]
    simp [Result.andThen]
    cases A <;> simp [sliced, Addr.add]
  exact ⟨fun w => (run_sliceAt_slice (w := w) (h := hu) ..).trans (h2 w), h2⟩
theorem rh_take {w : World} {B l : Nat} {A : Option Addr} {xs : List Int} (hr : Rh w B A xs) : Rh w B A (xs.take l) := by
  intro hne
  obtain ⟨b, off, rfl, hb, hcl⟩ := hr (by intro e; subst e; simp at hne)
  refine ⟨b, off, rfl, hb, fun k hk => ?_⟩
  have h2 : k < xs.length := by rw [List.length_take] at hk; omega
  rw [hcl k h2]
  simp
theorem take_lt {xs : List Int} {v : Int} {r : Nat} (h : Half xs v r r) {x : Int} (hx : x ∈ xs.take r) : x < v := by
  obtain ⟨k, hk, rfl⟩ := List.getElem_of_mem hx
  rw [List.getElem_take]
  rw [List.length_take] at hk
  exact h.1 k (by omega) (by omega)
theorem drop_ge {xs : List Int} {v : Int} {r : Nat} (h : Half xs v r r) {x : Int} (hx : x ∈ xs.drop r) : v ≤ x := by
  obtain ⟨k, hk, rfl⟩ := List.getElem_of_mem hx
  rw [List.getElem_drop]
  rw [List.length_drop] at hk
  exact h.2 (r + k) (by omega) (by omega)
theorem sort_add {xs : List Int} {v : Int} {r : Nat} (hs : xs.Pairwise (· < ·)) (h : Half xs v r r) (hn : ¬ v ∈ xs) : (xs.take r ++ ([v] ++ xs.drop r)).Pairwise (· < ·) :=
  List.pairwise_append.2 ⟨hs.sublist (List.take_sublist _ _), List.pairwise_append.2 ⟨List.pairwise_singleton _ _, hs.sublist (List.drop_sublist _ _), fun x hx y hy => by
    rw [List.mem_singleton] at hx
    subst hx
    have h1 := drop_ge h hy
    have h2 : x ≠ y := fun e => hn (e ▸ List.mem_of_mem_drop hy)
    omega⟩, fun x hx y hy => by
    have h1 := take_lt h hx
    rcases List.mem_append.1 hy with h2 | h2
    · rw [List.mem_singleton] at h2; omega
    · have := drop_ge h h2; omega⟩
theorem mem_add {xs : List Int} {v : Int} {r : Nat} (x : Int) : x ∈ xs.take r ++ ([v] ++ xs.drop r) ↔ x ∈ xs ∨ x = v := by
  have h : x ∈ xs ↔ x ∈ xs.take r ∨ x ∈ xs.drop r := by rw [← List.mem_append, List.take_append_drop]
  rw [h, List.mem_append, List.mem_append, List.mem_singleton]
  constructor
  · rintro (h | h | h)
    · exact .inl (.inl h)
    · exact .inr h
    · exact .inl (.inr h)
  · rintro ((h | h) | h)
    · exact .inl h
    · exact .inr (.inr h)
    · exact .inr (.inl h)
end Go.Proofs.YtialjokdaniofaaGreat.Kb
end
