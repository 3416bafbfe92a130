
/- What the document's own functions on lists answer: contracts of each, the text walked; and how a slice of ints in memory reads as a list. -/
import Derived.Test.YtclaejaicjmohaaWords
import Derived.OwnWalk
import Derived.Laws.OwnMore
import Derived.Below
import Derived.LoopTactic
import Derived.Outline
namespace Go.Proofs.Ytclaejaicjmohaa
open Go.RowKit

/-- The slice at A reads as the list xs, in cells below block B. -/
def Rd (w : World) (B : Nat) (A : Option Addr) (xs : List Int) : Prop :=
  xs ≠ [] → ∃ b off, A = some ⟨b, off, none⟩ ∧ b < B ∧ ∀ (k : Nat) (h : k < xs.length), w.cell? ⟨b, off + k, none⟩ = some (.int .i64 xs[k])
theorem Rd.below {w w' : World} {B B' : Nat} {A : Option Addr} {xs : List Int} (h : Rd w B A xs) (hb : Below B' w w') (hB : B ≤ B') : Rd w' B A xs := fun hne => by
  obtain ⟨b, off, rfl, hlt, hc⟩ := h hne
  exact ⟨b, off, rfl, hlt, fun k hk => (hb.cell (p := ⟨b, off + k, none⟩) (by show b < B'; omega)).trans (hc k hk)⟩
theorem Rd.more {w : World} {B B' : Nat} {A : Option Addr} {xs : List Int} (h : Rd w B A xs) (hB : B ≤ B') : Rd w B' A xs := fun hne => by
  obtain ⟨b, off, rfl, hlt, hc⟩ := h hne
  exact ⟨b, off, rfl, by omega, hc⟩
theorem Rd.drew {w : World} {B : Nat} {A : Option Addr} {xs : List Int} (h : Rd w B A xs) (n : Nat) : Rd (w.drewN n) B A xs := h
theorem Rd.at {w : World} {B : Nat} {A : Option Addr} {xs : List Int} (h : Rd w B A xs) {k : Nat} (hk : k < xs.length) : ∃ b off, A = some ⟨b, off, none⟩ ∧ w.cell? ⟨b, off + k, none⟩ = some (.int .i64 xs[k]) := by
  obtain ⟨b, off, rfl, _, hc⟩ := h (by intro e; subst e; simp at hk)
  exact ⟨b, off, rfl, hc k hk⟩
theorem add_off (g k : Nat) : (⟨g, 0, none⟩ : Addr).add k = ⟨g, k, none⟩ := by
  by_cases h : k = 0
  · subst h; rfl
  · simp [Addr.add, h]
theorem cell_one (w : World) (v : Value) (t : TypeId) (j : Nat) (u : Value) (h : [v][j]? = some u) : (w.alloc (.cells #[v] t)).cell? ((⟨w.heap.size, 0, none⟩ : Addr).add j) = some u := by
  match j, h with
  | 0, h =>
    rw [add_off]
    simp at h
    subst h
    simp
theorem one_int (k : IntKind) (n : Int) (u : Value) (h : u ∈ [Value.int k n]) : u.oneCell' = true := by
  simp at h; subst h; rfl
/-- No older block than n. -/
def Fr (n : Nat) (A : Option Addr) : Prop := ∀ ad, A = some ad → n ≤ ad.block
/-- A list that the call appended itself. -/
theorem Rd.of_own {w : World} {base : Nat} {v : Value} {xs : List Int} (h : w.ownsRow base 3 1 v xs.length (xs.map (Value.int .i64))) : ∃ A c, v = .slice A xs.length c ∧ Rd w w.heap.size A xs ∧ Fr base A := by
  rcases h.2 with ⟨rfl, hn⟩ | ⟨g, cap, cur, rfl, hb, hh, _⟩
  · have : xs = [] := by simpa using hn
    subst this
    exact ⟨none, 0, rfl, fun h => absurd rfl h, fun _ h => by cases h⟩
  · refine ⟨_, _, rfl, fun hne => ⟨g, 0, rfl, ?_, fun k hk => ?_⟩, fun _ e => by cases e; exact hb⟩
    · exact (h.lt g rfl).2
    · have := h.cells (g := g) rfl k (.int .i64 xs[k]) (by simp [hk])
      rw [add_off] at this
      rw [Nat.zero_add]
      exact this

theorem below_drewN {B : Nat} {a w : World} (h : Below B a w) (n : Nat) : Below B a (w.drewN n) := ⟨h.os, h.tape, h.output, h.size, h.block⟩
theorem Tab.below {w w' : World} {B : Nat} (h : Tab w) (hb : Below B w w') (hB : 0 < B) : Tab w' := fun j hj => (hb.cell (p := ⟨0, j, none⟩) hB).trans (h j hj)
theorem Tab.pos {w : World} (h : Tab w) : 0 < w.heap.size := by
  have := h 0 (by decide)
  unfold World.cell? at this
  rcases Nat.eq_zero_or_pos w.heap.size with h0 | h0
  · have e : w.heap = #[] := Array.eq_empty_of_size_eq_zero h0
    simp [e] at this
  · exact h0

theorem int_info : (Try.prog.info? 3).map (fun i => (i.zero, i.size, i.bytes)) = some (some (.int .i64 0), 1, 8) := by kernel_rfl

/-- The list of a word, as far as k bits. -/
def pz (x k : Nat) : List Int := ((List.range k).filter fun i => x.testBit i).map fun i : Nat => (i : Int)
theorem pz_succ (x k : Nat) : pz x (k + 1) = pz x k ++ if x.testBit k then [(k : Int)] else [] := by
  unfold pz
  rw [List.range_succ, List.filter_append, List.map_append]
  cases h : x.testBit k <;> simp [h]
theorem pz_yes {x k : Nat} (h : x / 2 ^ k % 2 = 1) : pz x (k + 1) = pz x k ++ [(k : Int)] := by
  rw [pz_succ, Nat.testBit_eq_decide_div_mod_eq, h]; rfl
theorem pz_no {x k : Nat} (h : ¬ x / 2 ^ k % 2 = 1) : pz x (k + 1) = pz x k := by
  rw [pz_succ, Nat.testBit_eq_decide_div_mod_eq]; simp [h]
theorem pz_len (x k : Nat) : (pz x k).length ≤ k := by
  unfold pz; rw [List.length_map]
  exact Nat.le_trans (List.length_filter_le _ _) (by simp)
theorem pz_all (x : Nat) : pz x 64 = M.bz x := rfl
theorem div_pow (x k : Nat) : x / 2 ^ k / 2 = x / 2 ^ (k + 1) := by rw [Nat.div_div_eq_div_mul, Nat.pow_succ]


theorem take_snoc {xs : List Int} {k : Nat} (h : k < xs.length) : xs.take (k + 1) = xs.take k ++ [xs[k]] := by
  rw [List.take_succ_eq_append_getElem h]
theorem take_all {xs : List Int} {k : Nat} (h : ¬ k < xs.length) : xs.take k = xs := List.take_of_length_le (by omega)

end Go.Proofs.Ytclaejaicjmohaa
