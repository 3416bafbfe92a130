/- Plain facts about words as natural numbers: the list of the set bits, ranks, masks, the lowest and the highest bit, population counts. What the functions of package bit answer at every word: contracts of each, the program's text walked. What the document's own functions on lists answer: contracts of each, the text walked; and how a slice of ints in memory reads as a list. What the document's functions that make and compare lists answer, and what words made of bits are: contracts of each, the text walked. Plain facts for the laws of words: masks by counting, a word's rest, sets and clears undone. Plain facts on many words at once: what one has, what all have. What one word has of many, what all have; the first ones of a list: contracts of each, the text walked. Whether two slices of words are alike. -/
import Derived.Lib.TrailingZeros
import Derived.Lib.BitFns
import Derived.Test.YtelfacchhclgnaaGreatProg
import Derived.WalkKit
import Derived.Laws.BitsAllLaws
import Derived.Laws.Bits64b
import Derived.Deep.QuietTactic
import Derived.BigQuiet
import Derived.Lib.Hide
import Derived.LoopTactic
import Derived.Lib.Strings
import Derived.Lib.Slices
import Derived.Lib.Small
import Derived.Lib.Walk
import Derived.OwnWalk
import Derived.Laws.OwnMore
import Derived.Below
import Derived.Outline
import Derived.Maps.AppendAt
import Derived.Deep.AppendLies
import Derived.RegionTactic
section
namespace Go.Proofs.YtelfacchhclgnaaGreat.M

/-- The set bits of a word, rising. -/
def bl (w : Nat) : List Nat := (List.range 64).filter fun i => w.testBit i

theorem mem_bl {w i : Nat} : i ∈ bl w ↔ i < 64 ∧ w.testBit i = true := by simp [bl]

theorem bl_zero : bl 0 = [] := by simp [bl]

theorem bl_sorted (w : Nat) : (bl w).Pairwise (· < ·) := (List.pairwise_lt_range (n := 64)).filter _

theorem bitLen_eq {w : Nat} (hw : w < 2 ^ 64) (h0 : w ≠ 0) : Lib.bitLen w = w.log2 + 1 := by
  have h1 := Nat.log2_self_le h0
  have h2 : w < 2 ^ (w.log2 + 1) := Nat.lt_log2_self
  rw [Lib.bitLen_shift w.log2 w h1 hw]
  have e : w / 2 ^ w.log2 = 1 := by
    have hp : 0 < 2 ^ w.log2 := Nat.two_pow_pos _
    apply Nat.div_eq_of_lt_le
    · omega
    · rw [Nat.pow_succ] at h2; omega
  rw [e]
  rfl

/-- How many bits of the first n are set. -/
def cnt : Nat → Nat → Nat
  | 0, _ => 0
  | n + 1, x => x % 2 + cnt n (x / 2)

/-- The population count's steps, byte by byte. -/
theorem and_join (k x y a b : Nat) (ha : a < 2 ^ k) (hb : b < 2 ^ k) : (2 ^ k * x + a) &&& (2 ^ k * y + b) = 2 ^ k * (x &&& y) + (a &&& b) := by
  have hab : a &&& b < 2 ^ k := Nat.and_lt_two_pow _ hb
  apply Nat.eq_of_testBit_eq
  intro i
  rw [Nat.testBit_and, Nat.testBit_two_pow_mul_add _ ha, Nat.testBit_two_pow_mul_add _ hb, Nat.testBit_two_pow_mul_add _ hab]
  by_cases h : i < k <;> simp [h, Nat.testBit_and]

def s1 (m x : Nat) : Nat := (x / 2 &&& m) + (x &&& m)
def s2 (m x : Nat) : Nat := (x / 4 &&& m) + (x &&& m)
def s3 (m x : Nat) : Nat := (x / 16 + x) &&& m

theorem byte1 : ∀ c, c < 2 → ∀ b, b < 256 → (128 * c + b / 2) &&& 85 = (b / 2) &&& 85 := by decide +kernel
theorem byte2 : ∀ c, c < 4 → ∀ b, b < 256 → (64 * c + b / 4) &&& 51 = (b / 4) &&& 51 := by decide +kernel
theorem lt1 : ∀ b, b < 256 → s1 85 b < 256 := by decide +kernel
theorem lt2 : ∀ b, b < 256 → s2 51 b < 256 ∧ (b < 256 → s2 51 (s1 85 b) % 16 ≤ 4 ∧ s2 51 (s1 85 b) / 16 ≤ 4) := by decide +kernel
theorem byte3 : ∀ c, c < 5 → ∀ h, h < 5 → ∀ l, l < 5 → (16 * c + (16 * h + l) / 16 + (16 * h + l)) &&& 15 = h + l := by decide +kernel
theorem pop8 : ∀ b, b < 256 → s2 51 (s1 85 b) / 16 + s2 51 (s1 85 b) % 16 = cnt 8 b := by decide +kernel

theorem s1_join (m y b : Nat) (hb : b < 256) : s1 (256 * m + 85) (256 * y + b) = 256 * s1 m y + s1 85 b := by
  have e : (256 * y + b) / 2 = 256 * (y / 2) + (128 * (y % 2) + b / 2) := by omega
  have h1 := and_join 8 (y / 2) m (128 * (y % 2) + b / 2) 85 (by omega) (by decide)
  have h2 := and_join 8 y m b 85 hb (by decide)
  have h3 := byte1 (y % 2) (by omega) b hb
  simp only [Nat.reducePow] at h1 h2
  unfold s1
  rw [e]
  omega
theorem s2_join (m y b : Nat) (hb : b < 256) : s2 (256 * m + 51) (256 * y + b) = 256 * s2 m y + s2 51 b := by
  have e : (256 * y + b) / 4 = 256 * (y / 4) + (64 * (y % 4) + b / 4) := by omega
  have h1 := and_join 8 (y / 4) m (64 * (y % 4) + b / 4) 51 (by omega) (by decide)
  have h2 := and_join 8 y m b 51 hb (by decide)
  have h3 := byte2 (y % 4) (by omega) b hb
  simp only [Nat.reducePow] at h1 h2
  unfold s2
  rw [e]
  omega
theorem s3_join (m y b : Nat) (hy : y % 16 ≤ 4) (h1 : b % 16 ≤ 4) (h2 : b / 16 ≤ 4) : s3 (256 * m + 15) (256 * y + b) = 256 * s3 m y + (b / 16 + b % 16) := by
  have e : (256 * y + b) / 16 + (256 * y + b) = 256 * (y / 16 + y) + (16 * (y % 16) + b / 16 + b) := by omega
  have h := and_join 8 (y / 16 + y) m (16 * (y % 16) + b / 16 + b) 15 (by omega) (by decide)
  have h3 := byte3 (y % 16) (by omega) (b / 16) (by omega) (b % 16) (by omega)
  have e2 : 16 * (b / 16) + b % 16 = b := by omega
  rw [e2] at h3
  simp only [Nat.reducePow] at h
  unfold s3
  rw [e]
  omega

/-- The bytes' masks of n bytes. -/
def rep (c : Nat) : Nat → Nat
  | 0 => 0
  | n + 1 => 256 * rep c n + c

/-- The sums of all bytes after the three steps: they lie apart. -/
def pops : Nat → Nat → Nat
  | 0, _ => 0
  | n + 1, x => 256 * pops n (x / 256) + cnt 8 (x % 256)

theorem steps (n x : Nat) : s2 (rep 51 n) (s1 (rep 85 n) x) % 16 ≤ 4 ∧ s3 (rep 15 n) (s2 (rep 51 n) (s1 (rep 85 n) x)) = pops n x := by
  induction n generalizing x with
  | zero => simp [rep, s1, s2, s3, pops]
  | succ n ih =>
    obtain ⟨i1, i2⟩ := ih (x / 256)
    have hb : x % 256 < 256 := Nat.mod_lt _ (by decide)
    have e : x = 256 * (x / 256) + x % 256 := by omega
    have l1 := lt1 _ hb
    have l2 := (lt2 _ hb).2 hb
    have l3 := (lt2 _ l1).1
    have p := pop8 _ hb
    have a1 : s1 (rep 85 (n + 1)) x = 256 * s1 (rep 85 n) (x / 256) + s1 85 (x % 256) := by
      rw [rep]; conv => lhs; rw [e]
      exact s1_join _ _ _ hb
    have a2 : s2 (rep 51 (n + 1)) (s1 (rep 85 (n + 1)) x) = 256 * s2 (rep 51 n) (s1 (rep 85 n) (x / 256)) + s2 51 (s1 85 (x % 256)) := by
      rw [a1, rep]; exact s2_join _ _ _ l1
    refine ⟨by rw [a2]; omega, ?_⟩
    rw [a2, rep, s3_join _ _ _ i1 l2.1 l2.2, i2, p]
    rfl

/-- The list as integers; the document's questions about a rising list of integers. -/
def bz (w : Nat) : List Int := (bl w).map fun i : Nat => (i : Int)
def rHas (l : List Int) (n : Int) : Bool := l.any fun x => x == n
def rNext (l : List Int) (n : Int) : Int := (l.find? fun x => decide (n ≤ x)).getD (-1)
def rPrev (l : List Int) (n : Int) : Int := ((l.filter fun x => decide (x ≤ n)).getLast?).getD (-1)
def rRank (l : List Int) (n : Int) : Nat := (l.filter fun x => decide (x < n)).length
def rSel (l : List Int) (k : Int) : Int := if k < 0 then -1 else (l[k.toNat]?).getD (-1)

def one (i : Int) : Nat := if 0 ≤ i ∧ i < 64 then 2 ^ i.toNat else 0
theorem one_lt (i : Int) : one i < 18446744073709551616 := by
  unfold one
  split
  · rename_i h
    have h64 : i.toNat < 64 := by omega
    exact Nat.pow_lt_pow_right (by decide) h64
  · decide
theorem one_bit (i : Int) (j : Nat) : (one i).testBit j = decide (0 ≤ i ∧ i < 64 ∧ i = (j : Int)) := by
  unfold one
  split
  · rename_i h
    rw [Nat.testBit_two_pow]
    congr 1
    simp only [eq_iff_iff]; omega
  · rename_i h
    rw [Nat.zero_testBit]
    symm
    rw [decide_eq_false_iff_not]; omega

/-- The lowest and the highest bit as the program answers them. -/
def low (w : Nat) : Int := ((bz w).head?).getD (-1)
def high (w : Nat) : Int := ((bz w).getLast?).getD (-1)
/-- Masks. -/
def mask (f t : Int) : Nat := if min t 64 ≤ max f 0 then 0 else ((18446744073709551615 * 2 ^ (max f 0).toNat) % 18446744073709551616) &&& (2 ^ (min t 64).toNat - 1)
/-- The k-th bit: without the lowest one, k times. -/
def less : Nat → Nat → Nat
  | 0, w => w
  | k + 1, w => less k (w &&& (w - 1))
/-- Rising lists with the same members are one. -/
theorem sorted_ext {l m : List Int} (hl : l.Pairwise (· < ·)) (hm : m.Pairwise (· < ·)) (h : ∀ x, x ∈ l ↔ x ∈ m) : l = m := by
  induction l generalizing m with
  | nil =>
    cases m with
    | nil => rfl
    | cons b m => exact absurd ((h b).2 (by simp)) (by simp)
  | cons a l ih =>
    cases m with
    | nil => exact absurd ((h a).1 (by simp)) (by simp)
    | cons b m =>
      obtain ⟨ha, hl2⟩ := List.pairwise_cons.1 hl
      obtain ⟨hb, hm2⟩ := List.pairwise_cons.1 hm
      have hab : a = b := by
        have h1 := (h a).1 (by simp)
        have h2 := (h b).2 (by simp)
        rcases List.mem_cons.1 h1 with e | e
        · exact e
        · rcases List.mem_cons.1 h2 with f | f
          · exact f.symm
          · have := hb a e; have := ha b f; omega
      subst hab
      congr 1
      refine ih hl2 hm2 fun x => ?_
      constructor
      · intro hx
        rcases List.mem_cons.1 ((h x).1 (List.mem_cons_of_mem _ hx)) with e | e
        · have := ha x hx; omega
        · exact e
      · intro hx
        rcases List.mem_cons.1 ((h x).2 (List.mem_cons_of_mem _ hx)) with e | e
        · have := hb x hx; omega
        · exact e

/-- The words of a list of bits. -/
def mk (l : List Int) : Nat := l.foldl (fun w i => w ||| one i) 0
theorem or_lt {a b : Nat} (ha : a < 18446744073709551616) (hb : b < 18446744073709551616) : a ||| b < 18446744073709551616 := Nat.or_lt_two_pow (n := 64) ha hb
/-- A number more. -/
def addGo (n : Int) : List Int → Bool → List Int
  | [], d => if d then [] else [n]
  | x :: xs, d => (if !d && decide (n ≤ x) then [n] else []) ++ ((if x ≠ n then [x] else []) ++ addGo n xs (d || decide (n ≤ x)))
def add (l : List Int) (n : Int) : List Int := (l.filter fun x => decide (x < n)) ++ n :: l.filter fun x => decide (n < x)
def drop (l : List Int) (n : Int) : List Int := l.filter fun x => decide (x ≠ n)

theorem mem_add {l : List Int} {n x : Int} : x ∈ add l n ↔ x = n ∨ x ∈ l := by
  unfold add
  simp only [List.mem_append, List.mem_cons, List.mem_filter, decide_eq_true_eq]
  constructor
  · rintro (⟨h, _⟩ | h | ⟨h, _⟩)
    · exact .inr h
    · exact .inl h
    · exact .inr h
  · rintro (h | h)
    · exact .inr (.inl h)
    · rcases Int.lt_trichotomy x n with h1 | h1 | h1
      · exact .inl ⟨h, h1⟩
      · exact .inr (.inl h1)
      · exact .inr (.inr ⟨h, h1⟩)
theorem mem_drop {l : List Int} {n x : Int} : x ∈ drop l n ↔ x ∈ l ∧ x ≠ n := by simp [drop]

theorem split_at {l : List Int} {n : Nat} {i : Int} (h : l[n]? = some i) : ∃ _ : n < l.length, l = l.take n ++ i :: l.drop (n + 1) := by
  obtain ⟨hn, hi⟩ := List.getElem?_eq_some_iff.1 h
  refine ⟨hn, ?_⟩
  have := (List.take_append_drop n l).symm
  rw [List.drop_eq_getElem_cons hn, hi] at this
  exact this
end Go.Proofs.YtelfacchhclgnaaGreat.M
end
section
namespace Go.Proofs.YtelfacchhclgnaaGreat
open Go.RowKit

theorem ret_int {k : IntKind} {a b : Int} (h : a = b) : Ending.returned (.int k a) = .returned (.int k b) := by rw [h]
theorem ret_bool {a b : Bool} (h : a = b) : Ending.returned (.bool a) = .returned (.bool b) := by rw [h]

theorem tab_size : Lib.len8tab.size = 256 := by decide +kernel
theorem tab_all : ∀ n, n < 256 → ((Lib.len8tab[n]?).getD 0).toNat = Lib.bitLen n ∧ Lib.bitLen n ≤ 8 := by decide +kernel
theorem tab_len (b : Int) (h0 : 0 ≤ b) (h : b < 256) (hi : b.toNat < Lib.len8tab.size) : wrap64 ((Lib.len8tab[b.toNat]'hi).toNat : Int) = (Lib.bitLen b.toNat : Int) ∧ Lib.bitLen b.toNat ≤ 8 := by
  obtain ⟨h1, h2⟩ := tab_all b.toNat (by omega)
  rw [getElem?_pos Lib.len8tab b.toNat hi] at h1
  refine ⟨?_, h2⟩
  have e : ((Lib.len8tab[b.toNat]'hi).toNat : Int) = (Lib.bitLen b.toNat : Int) := by rw [← h1]; rfl
  rw [e]; unfold wrap64; omega
theorem len_fin (x b : Int) (k : Nat) (h0 : 0 ≤ x) (h1 : x ≤ 18446744073709551615) (hb0 : 0 ≤ b) (hb1 : b < 256) (hb : b.toNat = x.toNat / 2 ^ k) (hx : 2 ^ k ≤ x.toNat) (hk : k ≤ 56)
    (hi : b.toNat < Lib.len8tab.size) : wrap64 ((k : Int) + wrap64 ((Lib.len8tab[b.toNat]'hi).toNat : Int)) = (Lib.bitLen x.toNat : Int) := by
  obtain ⟨e, l⟩ := tab_len b hb0 hb1 hi
  have s := Lib.bitLen_shift k x.toNat hx (by omega)
  rw [e, s, ← hb]
  unfold wrap64
  omega
set_option maxHeartbeats 4000000 in
set_option maxRecDepth 100000 in
theorem len64_any (x : Int) (w : World) (h0 : 0 ≤ x) (h1 : x ≤ 18446744073709551615) :
    Calls Tryz.prog 172 #[.int .u64 x] w fun e w' => e = .returned (.int .i64 (Lib.bitLen x.toNat)) ∧ w = w' := by
  have hsz := tab_size
  go_enter Tryz.func172, Tryz.ntmps172
  go_wp2
  all_goals (go_ret; refine ⟨congrArg Ending.returned (congrArg (Value.int IntKind.i64) ?_), rfl⟩)
  all_goals first
    | exact len_fin x (x / 4294967296 / 65536 / 256) 56 h0 h1 (by omega) (by omega) (by omega) (by omega) (by decide) _
    | exact len_fin x (x / 4294967296 / 65536) 48 h0 h1 (by omega) (by omega) (by omega) (by omega) (by decide) _
    | exact len_fin x (x / 4294967296 / 256) 40 h0 h1 (by omega) (by omega) (by omega) (by omega) (by decide) _
    | exact len_fin x (x / 4294967296) 32 h0 h1 (by omega) (by omega) (by omega) (by omega) (by decide) _
    | exact len_fin x (x / 65536 / 256) 24 h0 h1 (by omega) (by omega) (by omega) (by omega) (by decide) _
    | exact len_fin x (x / 65536) 16 h0 h1 (by omega) (by omega) (by omega) (by omega) (by decide) _
    | exact len_fin x (x / 256) 8 h0 h1 (by omega) (by omega) (by omega) (by omega) (by decide) _
    | exact (by
        obtain ⟨e, l⟩ := tab_len x h0 (by omega) (by omega)
        rw [e]; unfold wrap64; omega)
/-- The table of the library's, as its text lays it. -/
def Tab (w : World) : Prop := ∀ j, j < 64 → w.cell? ⟨0, j, none⟩ = some (.int .u8 ((Lib.deBruijn64tab.getD j 0 : Nat) : Int))
theorem Tab.drew {w : World} (h : Tab w) (n : Nat) : Tab (w.drewN n) := h
end Go.Proofs.YtelfacchhclgnaaGreat
end
section
namespace Go.Proofs.YtelfacchhclgnaaGreat
open Go.RowKit

/-- The slice at A reads as the list xs, in cells below block B. -/
def Rd (w : World) (B : Nat) (A : Option Addr) (xs : List Int) : Prop :=
  xs ≠ [] → ∃ b off, A = some ⟨b, off, none⟩ ∧ b < B ∧ ∀ (k : Nat) (h : k < xs.length), w.cell? ⟨b, off + k, none⟩ = some (.int .i64 xs[k])
theorem Rd.below {w w' : World} {B B' : Nat} {A : Option Addr} {xs : List Int} (h : Rd w B A xs) (hb : Below B' w w') (hB : B ≤ B') : Rd w' B A xs := fun hne => by
  obtain ⟨b, off, rfl, hlt, hc⟩ := h hne
  exact ⟨b, off, rfl, hlt, fun k hk => (hb.cell (p := ⟨b, off + k, none⟩) (by show b < B'; omega)).trans (hc k hk)⟩
theorem Rd.more {w : World} {B B' : Nat} {A : Option Addr} {xs : List Int} (h : Rd w B A xs) (hB : B ≤ B') : Rd w B' A xs := fun hne => by
  obtain ⟨b, off, rfl, hlt, hc⟩ := h hne
  exact ⟨b, off, rfl, by omega, hc⟩
theorem Rd.drew {w : World} {B : Nat} {A : Option Addr} {xs : List Int} (h : Rd w B A xs) (n : Nat) : Rd (w.drewN n) B A xs := h
theorem Rd.at {w : World} {B : Nat} {A : Option Addr} {xs : List Int} (h : Rd w B A xs) {k : Nat} (hk : k < xs.length) : ∃ b off, A = some ⟨b, off, none⟩ ∧ w.cell? ⟨b, off + k, none⟩ = some (.int .i64 xs[k]) := by
  obtain ⟨b, off, rfl, _, hc⟩ := h (by intro e; subst e; simp at hk)
  exact ⟨b, off, rfl, hc k hk⟩
theorem add_off (g k : Nat) : (⟨g, 0, none⟩ : Addr).add k = ⟨g, k, none⟩ := by
  by_cases h : k = 0
  · subst h; rfl
  · simp [Addr.add, h]
theorem cell_one (w : World) (v : Value) (t : TypeId) (j : Nat) (u : Value) (h : [v][j]? = some u) : (w.alloc (.cells #[v] t)).cell? ((⟨w.heap.size, 0, none⟩ : Addr).add j) = some u := by
  match j, h with
  | 0, h =>
    rw [add_off]
    simp at h
    subst h
    simp
theorem one_int (k : IntKind) (n : Int) (u : Value) (h : u ∈ [Value.int k n]) : u.oneCell' = true := by
  simp at h; subst h; rfl
/-- No older block than n. -/
def Fr (n : Nat) (A : Option Addr) : Prop := ∀ ad, A = some ad → n ≤ ad.block
/-- A list that the call appended itself. -/
theorem Rd.of_own {w : World} {base : Nat} {v : Value} {xs : List Int} (h : w.ownsRow base 3 1 v xs.length (xs.map (Value.int .i64))) : ∃ A c, v = .slice A xs.length c ∧ Rd w w.heap.size A xs ∧ Fr base A := by
  rcases h.2 with ⟨rfl, hn⟩ | ⟨g, cap, cur, rfl, hb, hh, _⟩
  · have : xs = [] := by simpa using hn
    subst this
    exact ⟨none, 0, rfl, fun h => absurd rfl h, fun _ h => by cases h⟩
  · refine ⟨_, _, rfl, fun hne => ⟨g, 0, rfl, ?_, fun k hk => ?_⟩, fun _ e => by cases e; exact hb⟩
    · exact (h.lt g rfl).2
    · have := h.cells (g := g) rfl k (.int .i64 xs[k]) (by simp [hk])
      rw [add_off] at this
      rw [Nat.zero_add]
      exact this

theorem below_drewN {B : Nat} {a w : World} (h : Below B a w) (n : Nat) : Below B a (w.drewN n) := ⟨h.os, h.tape, h.output, h.size, h.block⟩
theorem Tab.below {w w' : World} {B : Nat} (h : Tab w) (hb : Below B w w') (hB : 0 < B) : Tab w' := fun j hj => (hb.cell (p := ⟨0, j, none⟩) hB).trans (h j hj)
theorem Tab.pos {w : World} (h : Tab w) : 0 < w.heap.size := by
  have := h 0 (by decide)
  unfold World.cell? at this
  rcases Nat.eq_zero_or_pos w.heap.size with h0 | h0
  · have e : w.heap = #[] := Array.eq_empty_of_size_eq_zero h0
    simp [e] at this
  · exact h0

theorem int_info : (Tryz.prog.info? 3).map (fun i => (i.zero, i.size, i.bytes)) = some (some (.int .i64 0), 1, 8) := by kernel_rfl

/-- The list of a word, as far as k bits. -/
def pz (x k : Nat) : List Int := ((List.range k).filter fun i => x.testBit i).map fun i : Nat => (i : Int)
end Go.Proofs.YtelfacchhclgnaaGreat
end
section
namespace Go.Proofs.YtelfacchhclgnaaGreat
open Go.RowKit

theorem drop_len (xs : List Int) (n : Int) : (M.drop xs n).length ≤ xs.length := List.length_filter_le _ _
/-- What Add has made of the first k, and whether the number is in it. -/
def addTo (n : Int) : List Int → List Int
  | [] => []
  | x :: xs => (if n ≤ x then n :: M.drop (x :: xs) n else x :: addTo n xs)
def addIn (n : Int) (l : List Int) : Bool := l.any fun x => decide (n ≤ x)
end Go.Proofs.YtelfacchhclgnaaGreat
end
section
namespace Go.Proofs.YtelfacchhclgnaaGreat.M

/-- How many of the first k lie from f on below t. -/
def cntm (f t : Int) (k : Nat) : Nat := ((List.range k).filter fun j : Nat => decide (f ≤ (j : Int) ∧ (j : Int) < t)).length
/-- A word's rest. -/
def rest (x : Nat) : Nat := 18446744073709551615 - x
def clamp (i : Int) : Nat := (max (min i 64) 0).toNat
def cb (x c : Nat) : Nat := ((List.range c).filter fun j => x.testBit j).length
end Go.Proofs.YtelfacchhclgnaaGreat.M
end
section
namespace Go.Proofs.YtelfacchhclgnaaGreat.M

def orAll (l : List Nat) : Nat := l.foldl (fun a b => a ||| b) 0
def andAll (l : List Nat) : Nat := l.foldl (fun a b => a &&& b) 18446744073709551615
theorem snoc_indN {p : List Nat → Prop} (h0 : p []) (hs : ∀ l a, p l → p (l ++ [a])) (l : List Nat) : p l := by
  have h : ∀ n, p (l.take n) := by
    intro n
    induction n with
    | zero => simpa using h0
    | succ n ih =>
      by_cases hn : n < l.length
      · rw [List.take_succ_eq_append_getElem hn]; exact hs _ _ ih
      · rw [List.take_of_length_le (by omega)]
        rwa [List.take_of_length_le (by omega)] at ih
  simpa using h l.length
/-- How many of the words have bit i. -/
def has (i : Nat) (l : List Nat) : Nat := (l.filter fun x => x.testBit i).length
end Go.Proofs.YtelfacchhclgnaaGreat.M
end
section
namespace Go.Proofs.YtelfacchhclgnaaGreat
open Go.RowKit

theorem block_of_add (a : Addr) (n : Nat) : (a.add n).block = a.block := by unfold Addr.add; split <;> rfl
theorem add_of_add (a : Addr) (i j : Nat) : (a.add i).add j = a.add (i + j) := by
  unfold Addr.add
  by_cases hi : i = 0 <;> by_cases hj : j = 0 <;> simp [hi, hj, Nat.add_assoc]

def Reads (w : World) (B size : Nat) (A : Option Addr) (n : Nat) (xs : List Value) : Prop :=
  xs.length = n * size ∧ (0 < n → ∃ ad, A = some ad ∧ ad.block < B ∧ ∀ j u, xs[j]? = some u → w.cell? (ad.add j) = some u)

section
variable {w w' : World} {B B' size n : Nat} {A : Option Addr} {xs : List Value}
theorem Reads.none_ : Reads w B size A 0 [] := ⟨by simp, fun h => absurd h (by omega)⟩
theorem Reads.at_ {k : Nat} (h : Reads w B 1 A n xs) (hk : k < n) : ∃ ad u, A = some ad ∧ ad.block < B ∧ xs[k]? = some u ∧ w.cell? (ad.add k) = some u := by
  obtain ⟨ad, e, hb, hc⟩ := h.2 (by omega)
  have hl : k < xs.length := by have := h.1; omega
  exact ⟨ad, xs[k], e, hb, List.getElem?_eq_getElem hl, hc k _ (List.getElem?_eq_getElem hl)⟩
theorem Reads.keep (h : Reads w B size A n xs) (hk : ∀ p : Addr, p.block < B → w'.cell? p = w.cell? p) : Reads w' B size A n xs :=
  ⟨h.1, fun hn => by
    obtain ⟨ad, e, hb, hc⟩ := h.2 hn
    exact ⟨ad, e, hb, fun j u hu => (hk _ (by rw [block_of_add]; exact hb)).trans (hc j u hu)⟩⟩
theorem Reads.more (h : Reads w B size A n xs) (hB : B ≤ B') : Reads w B' size A n xs :=
  ⟨h.1, fun hn => by
    obtain ⟨ad, e, hb, hc⟩ := h.2 hn
    exact ⟨ad, e, by omega, hc⟩⟩
theorem Reads.below (h : Reads w B size A n xs) (hb : Below B w w') : Reads w' B size A n xs := h.keep fun _ hp => hb.cell hp
theorem Reads.drew (h : Reads w B size A n xs) : Reads w.drew B size A n xs := h
theorem Reads.drewN (h : Reads w B size A n xs) (k : Nat) : Reads (w.drewN k) B size A n xs := h
theorem Reads.alloc (h : Reads w B size A n xs) (hB : B ≤ w.heap.size) (o : Obj) : Reads (w.alloc o) B size A n xs := h.keep fun p hp => World.cell?_alloc_lt w o p (by omega)
theorem Reads.setCell (h : Reads w B size A n xs) {p : Addr} (hB : B ≤ p.block) (u : Value) : Reads (w.setCell p u) B size A n xs :=
  h.keep fun q hq => World.cell?_setCell_other w p q u (fun e => by subst e; omega)
theorem Reads.grown (h : Reads w B size A n xs) {row : Option Nat} (hg : w.grownBy w' row) (hB : B ≤ w.heap.size) (hr : ∀ g, row = some g → B ≤ g) : Reads w' B size A n xs :=
  h.keep fun p hp => World.cell?_of_block (hg.block p.block (by omega) (fun e => by have := hr _ e.symm; omega))
theorem Reads.cut (h : Reads w B size A n xs) {k cap : Nat} (hk : k ≤ n) (hc : n ≤ cap) :
    Reads w B size (if cap = k then A else A.map (·.add (k * size))) (n - k) (xs.drop (k * size)) := by
  refine ⟨by rw [List.length_drop, h.1, Nat.sub_mul], fun hn => ?_⟩
  obtain ⟨ad, rfl, hb, hcell⟩ := h.2 (by omega)
  rw [if_neg (by omega)]
  refine ⟨ad.add (k * size), rfl, by rw [block_of_add]; exact hb, fun j u hu => ?_⟩
  rw [add_of_add]
  exact hcell _ u (by rw [← hu, List.getElem?_drop])
theorem Reads.of_own {base : Nat} {e : TypeId} {c : Nat} (h : w.ownsRow base e size (.slice A n c) n xs) : Reads w w.heap.size size A n xs := by
  refine ⟨h.1, fun hn => ?_⟩
  obtain ⟨g, cap, hv, _, hlt⟩ := h.form hn
  have hA : A = some ⟨g, 0, none⟩ := by injection hv
  subst hA
  exact ⟨_, rfl, hlt, h.cells (g := g) rfl⟩
end
section
variable {P : Program} (w : World)

theorem run_append_of_nil (base : Nat) (t ty e : TypeId) (i : TypeInfo) (size : Nat) (ht : P.underlying t = some (.slice e)) (hi : P.info? e = some i)
    (v : Value) (n : Nat) (xs : List Value) (hown : w.ownsRow base e size v n xs) (c : Nat) : (Builtin.append_ #[t, t] ty #[v, .slice none 0 c]).run P w = .ok v w := by
  rcases hown.2 with ⟨rfl, rfl⟩ | ⟨g, cap, cur, rfl, _, _, hnc, _⟩
  · simp [Builtin.append_, run_underlying ht, sizeOf, typeInfo, hi, Builtin.lenOf, Builtin.firstCells]
  · simp [Builtin.append_, run_underlying ht, sizeOf, typeInfo, hi, Builtin.lenOf, Builtin.firstCells, hnc, storeCells]

theorem run_append_any (base : Nat) (t ty e : TypeId) (i : TypeInfo) (z : Value) (size bytes : Nat) (ht : P.underlying t = some (.slice e)) (hi : P.info? e = some i) (hz : i.zero = some z)
    (hsize : i.size = size) (hby : i.bytes = bytes) (hzs : z.cells.size = size) (hsz : 0 < size)
    (v : Value) (n : Nat) (xs : List Value) (hown : w.ownsRow base e size v n xs)
    (B : Nat) (A : Option Addr) (m c : Nat) (news : List Value) (hr : Reads w B size A m news) (h1 : ∀ u ∈ news, u.oneCell' = true)
    (h63 : n + m ≤ maxLen) (hbytes : (n + m) * bytes ≤ 140737488355328) (hbase : base ≤ w.heap.size) :
    ∃ v' w', (Builtin.append_ #[t, t] ty #[v, .slice A m c]).run P w = .ok v' w' ∧ w'.ownsRow base e size v' (n + m) (xs ++ news) ∧ w.grownBy w' v.ownBlock ∧
      (v'.ownBlock = v.ownBlock ∨ v'.ownBlock = some w.heap.size) := by
  rcases A with _ | ad
  · have hm : m = 0 := by
      rcases Nat.eq_zero_or_pos m with h0 | h0
      · exact h0
      · obtain ⟨ad, h, _⟩ := hr.2 h0
        cases h
    subst hm
    have hn : news = [] := List.eq_nil_of_length_eq_zero (by simpa using hr.1)
    subst hn
    exact ⟨v, w, run_append_of_nil w base t ty e i size ht hi v n xs hown c, by simpa using hown, World.grownBy.refl w _, .inl rfl⟩
  · have hcells : ∀ j u, news[j]? = some u → w.cell? (ad.add j) = some u := by
      intro j u hu
      rcases Nat.eq_zero_or_pos m with h0 | h0
      · subst h0
        have hn : news = [] := List.eq_nil_of_length_eq_zero (by simpa using hr.1)
        subst hn
        simp at hu
      · obtain ⟨ad', h, _, hc⟩ := hr.2 h0
        injection h with h
        subst h
        exact hc j u hu
    obtain ⟨v', w', hrun, h2, h3, _, h5⟩ := run_append_own_at (P := P) w base t ty e i z size bytes ht hi hz hsize hby hzs hsz v n xs hown ad m c news hr.1 hcells h1 h63 hbytes hbase
    exact ⟨v', w', hrun, h2, h3, h5⟩

theorem wp_append_any {o : Oper} {a : Act} {K : Act → World → Prop} {Q : Exit → Act → World → Prop} (s x : Operand) (t : TypeId)
    (ho : o.op = .call { callee := .builtin .append, args := #[s, x], argTypes := #[t, t] })
    (base : Nat) (e : TypeId) (i : TypeInfo) (z : Value) (size bytes : Nat) (ht : P.underlying t = some (.slice e)) (hi : P.info? e = some i) (hz : i.zero = some z)
    (hsize : i.size = size) (hby : i.bytes = bytes) (hzs : z.cells.size = size) (hsz : 0 < size)
    (v : Value) (n : Nat) (xs : List Value) (hs : a.eval s = v) (hown : w.ownsRow base e size v n xs)
    (B : Nat) (A : Option Addr) (m c : Nat) (news : List Value) (hx : a.eval x = .slice A m c) (hr : Reads w B size A m news) (h1 : ∀ u ∈ news, u.oneCell' = true)
    (h63 : n + m ≤ maxLen) (hbytes : (n + m) * bytes ≤ 140737488355328) (hbase : base ≤ w.heap.size)
    (h : ∀ v' w', w'.ownsRow base e size v' (n + m) (xs ++ news) → w.grownBy w' v.ownBlock → (v'.ownBlock = v.ownBlock ∨ v'.ownBlock = some w.heap.size) → K (a.put o.dst v') w') : o.wp P a w K Q := by
  obtain ⟨v', w', hrun, h2, h3, h4⟩ := run_append_any (P := P) w base t o.type e i z size bytes ht hi hz hsize hby hzs hsz v n xs hown B A m c news hr h1 h63 hbytes hbase
  unfold Oper.wp execOp
  simp only [ho, resolve, invoke, builtin, Sem.run_bind, Sem.run_pure, Result.andThen_ok, List.map_toArray, List.map_cons, List.map_nil, hs, hx, hrun]
  exact h v' w' h2 h3 h4

theorem wpList_append_any {ops : Array Oper} {rest : List Oper} {o : Oper} {a : Act} {Q : Exit → Act → World → Prop} (hgd : o.guard = none) (s x : Operand) (t : TypeId)
    (ho : o.op = .call { callee := .builtin .append, args := #[s, x], argTypes := #[t, t] })
    (base : Nat) (e : TypeId) (i : TypeInfo) (z : Value) (size bytes : Nat) (ht : P.underlying t = some (.slice e)) (hi : P.info? e = some i) (hz : i.zero = some z)
    (hsize : i.size = size) (hby : i.bytes = bytes) (hzs : z.cells.size = size) (hsz : 0 < size)
    (v : Value) (n : Nat) (xs : List Value) (hs : a.eval s = v) (hown : w.ownsRow base e size v n xs)
    (B : Nat) (A : Option Addr) (m c : Nat) (news : List Value) (hx : a.eval x = .slice A m c) (hr : Reads w B size A m news) (h1 : ∀ u ∈ news, u.oneCell' = true)
    (h63 : n + m ≤ maxLen) (hbytes : (n + m) * bytes ≤ 140737488355328) (hbase : base ≤ w.heap.size)
    (h : ∀ v' w', w'.ownsRow base e size v' (n + m) (xs ++ news) → w.grownBy w' v.ownBlock → (v'.ownBlock = v.ownBlock ∨ v'.ownBlock = some w.heap.size) → wpList P ops Q rest (a.put o.dst v') w') : wpList P ops Q (o :: rest) a w :=
  wpList_plain hgd fun _ hK => wp_append_any w s x t ho base e i z size bytes ht hi hz hsize hby hzs hsz v n xs hs hown B A m c news hx hr h1 h63 hbytes hbase fun v' w' h2 h3 h4 => hK _ _ (h v' w' h2 h3 h4)

theorem step_append_any {ops : Array Oper} {o : Oper} {a : Act} {K : Act → World → Prop} {Q : Exit → Act → World → Prop} {E : Prop} (hgd : o.guard = none) (s x : Operand) (t : TypeId)
    (ho : o.op = .call { callee := .builtin .append, args := #[s, x], argTypes := #[t, t] })
    (base : Nat) (e : TypeId) (i : TypeInfo) (z : Value) (size bytes : Nat) (ht : P.underlying t = some (.slice e)) (hi : P.info? e = some i) (hz : i.zero = some z)
    (hsize : i.size = size) (hby : i.bytes = bytes) (hzs : z.cells.size = size) (hsz : 0 < size)
    (v : Value) (n : Nat) (xs : List Value) (hs : a.eval s = v) (hown : w.ownsRow base e size v n xs)
    (B : Nat) (A : Option Addr) (m c : Nat) (news : List Value) (hx : a.eval x = .slice A m c) (hr : Reads w B size A m news) (h1 : ∀ u ∈ news, u.oneCell' = true)
    (h63 : n + m ≤ maxLen) (hbytes : (n + m) * bytes ≤ 140737488355328) (hbase : base ≤ w.heap.size)
    (h : ∀ v' w', w'.ownsRow base e size v' (n + m) (xs ++ news) → w.grownBy w' v.ownBlock → (v'.ownBlock = v.ownBlock ∨ v'.ownBlock = some w.heap.size) → K (a.put o.dst v') w') :
    if Region.wanted o (yielded ops a.tmps) = true then Oper.wp P o a w K Q else E := by
  have hw : Region.wanted o (yielded ops a.tmps) = true := by simp [Region.wanted, hgd]
  rw [if_pos hw]
  exact wp_append_any w s x t ho base e i z size bytes ht hi hz hsize hby hzs hsz v n xs hs hown B A m c news hx hr h1 h63 hbytes hbase h
end

/-- The slice at A reads as these words, in cells below block B. -/
def Rw (w : World) (B : Nat) (A : Option Addr) (xs : List Nat) : Prop :=
  xs ≠ [] → ∃ b off, A = some ⟨b, off, none⟩ ∧ b < B ∧ ∀ (k : Nat) (h : k < xs.length), w.cell? ⟨b, off + k, none⟩ = some (.int .u64 (xs[k] : Nat))
theorem Rw.below {w w' : World} {B B' : Nat} {A : Option Addr} {xs : List Nat} (h : Rw w B A xs) (hb : Below B' w w') (hB : B ≤ B') : Rw w' B A xs := fun hne => by
  obtain ⟨b, off, rfl, hlt, hc⟩ := h hne
  exact ⟨b, off, rfl, hlt, fun k hk => (hb.cell (p := ⟨b, off + k, none⟩) (by show b < B'; omega)).trans (hc k hk)⟩
theorem Rw.more {w : World} {B B' : Nat} {A : Option Addr} {xs : List Nat} (h : Rw w B A xs) (hB : B ≤ B') : Rw w B' A xs := fun hne => by
  obtain ⟨b, off, rfl, hlt, hc⟩ := h hne
  exact ⟨b, off, rfl, by omega, hc⟩
theorem Rw.drew {w : World} {B : Nat} {A : Option Addr} {xs : List Nat} (h : Rw w B A xs) (n : Nat) : Rw (w.drewN n) B A xs := h
theorem Rw.at {w : World} {B : Nat} {A : Option Addr} {xs : List Nat} (h : Rw w B A xs) {k : Nat} (hk : k < xs.length) : ∃ b off, A = some ⟨b, off, none⟩ ∧ b < B ∧ w.cell? ⟨b, off + k, none⟩ = some (.int .u64 (xs[k] : Nat)) := by
  obtain ⟨b, off, rfl, hb, hc⟩ := h (by intro e; subst e; simp at hk)
  exact ⟨b, off, rfl, hb, hc k hk⟩
abbrev wv (xs : List Nat) : List Value := xs.map fun a : Nat => Value.int .u64 (a : Int)
theorem Rw.of_own {w : World} {base : Nat} {v : Value} {xs : List Nat} (h : w.ownsRow base 22 1 v xs.length (wv xs)) : ∃ A c, v = .slice A xs.length c ∧ Rw w w.heap.size A xs ∧ Fr base A := by
  rcases h.2 with ⟨rfl, hn⟩ | ⟨g, cap, cur, rfl, hb, hh, _⟩
  · have : xs = [] := by simpa using hn
    subst this
    exact ⟨none, 0, rfl, fun h => absurd rfl h, fun _ h => by cases h⟩
  · refine ⟨_, _, rfl, fun hne => ⟨g, 0, rfl, ?_, fun k hk => ?_⟩, fun _ e => by cases e; exact hb⟩
    · exact (h.lt g rfl).2
    · have := h.cells (g := g) rfl k (.int .u64 (xs[k] : Nat)) (by simp [hk])
      rw [add_off] at this
      rw [Nat.zero_add]
      exact this
theorem take_snocN {xs : List Nat} {k : Nat} (h : k < xs.length) : xs.take (k + 1) = xs.take k ++ [xs[k]] := by
  rw [List.take_succ_eq_append_getElem h]
theorem take_allN {xs : List Nat} {k : Nat} (h : ¬ k < xs.length) : xs.take k = xs := List.take_of_length_le (by omega)
theorem u64_info : (Tryz.prog.info? 22).map (fun i => (i.zero, i.size, i.bytes)) = some (some (.int .u64 0), 1, 8) := by kernel_rfl
theorem own_snocN {w w0 w1 : World} {xs : List Nat} {y : Nat} {v v' : Value} {t : TypeId} (hb : Below w.heap.size w w0) (hown : w0.ownsRow w.heap.size 22 1 v xs.length (wv xs))
    (hown' : w1.ownsRow w.heap.size 22 1 v' (xs.length + 1) (wv xs ++ [.int .u64 (y : Int)])) (hgrow : (w0.alloc (.cells #[.int .u64 (y : Int)] t)).grownBy w1 v.ownBlock) :
    w1.ownsRow w.heap.size 22 1 v' (xs ++ [y]).length (wv (xs ++ [y])) ∧ Below w.heap.size w w1 :=
  ⟨by rw [wv, List.map_append, List.length_append]; exact hown', (hb.alloc hb.size _).grown hgrow (by have := hb.size; simp; omega) (fun g hg => (hown.lt g hg).1)⟩
abbrev iv (xs : List Int) : List Value := xs.map (Value.int .i64)

end Go.Proofs.YtelfacchhclgnaaGreat
end
section
namespace Go.Proofs.YtelfacchhclgnaaGreat
open Go.RowKit
theorem same_noN {xs ys : List Nat} {k : Nat} (h : ∃ a b, xs[k]? = some a ∧ ys[k]? = some b ∧ a ≠ b) : decide (xs = ys) = false := by
  rw [decide_eq_false_iff_not]
  rintro rfl
  obtain ⟨a, b, h1, h2, h3⟩ := h
  rw [h1] at h2
  exact h3 (by simpa using h2)

set_option maxHeartbeats 1000000 in
theorem ref_samekeys (A A' : Option Addr) (c c' : Nat) (xs ys : List Nat) (w : World) (B B' : Nat) (hr : Rw w B A xs) (hr' : Rw w B' A' ys) (hl : xs.length ≤ 4611686018427387904) (_hl' : ys.length ≤ 4611686018427387904) :
    Calls Tryz.prog 19 #[.slice A xs.length c, .slice A' ys.length c'] w fun e w' => e = .returned (.bool (decide (xs = ys))) ∧ ∃ n, w' = w.drewN n := by
  by_cases hlen : xs.length = ys.length
  · generalize hL : ys.length = L at *
    have hLh := Lib.hid hL
    clear hL
    subst hlen
    go_enter Tryz.func19, Tryz.ntmps19
    go_wp2
    go_loopw [13] (fun i wr => ∃ k n : Nat, k ≤ xs.length ∧ i = .int .i64 k ∧ wr = w.drewN n ∧ Hid (xs.take k = ys.take k)) (fun i _ => xs.length - (intOf i).toNat)
    case atStart => exact ⟨0, 0, by omega, rfl, rfl, rfl⟩
    case round =>
      obtain ⟨k, n, hk, rfl, rfl, hH⟩ := hrel
      by_cases hlt : k < xs.length
      · have hlt' : k < ys.length := by rw [hLh.out]; exact hlt
        obtain ⟨b, off, rfl, _, hc⟩ := hr.at hlt
        obtain ⟨b', off', rfl, _, hc'⟩ := hr'.at hlt'
        have hx : xs[k]? = some xs[k] := List.getElem?_eq_getElem hlt
        have hy : ys[k]? = some ys[k] := List.getElem?_eq_getElem hlt'
        have hxH := Lib.hid hx
        have hyH := Lib.hid hy
        have hs := Lib.hid (take_snocN hlt)
        have hs' := Lib.hid (take_snocN hlt')
        clear hx hy
        generalize xs[k] = x at *
        generalize ys[k] = y at *
        by_cases he : x = y
        · have heb : ((x : Int) == (y : Int)) = true := by simp [he]
          have heb2 : ((x : Int) != (y : Int)) = false := by simp [he]
          have hres : Hid (xs.take (k + 1) = ys.take (k + 1)) := by
            show xs.take (k + 1) = ys.take (k + 1)
            rw [hs.out, hs'.out, hH.out, he]
          clear hs hs' hxH hyH hH he
          go_wp2
          go_quiet (fail)
          go_wp2
          go_roundw
          case rel => exact ⟨k + 1, _, by omega, by go_num, rfl, hres⟩
          case measure => simp [intOf]; omega
        · have heb : ((x : Int) == (y : Int)) = false := by simp; omega
          have heb2 : ((x : Int) != (y : Int)) = true := by simp; omega
          have hres := Lib.hid (same_noN (k := k) ⟨x, y, hxH.out, hyH.out, he⟩)
          clear hs hs' hxH hyH hH he
          go_wp2
          go_quiet (fail)
          go_wp2
          go_ret
          exact ⟨ret_bool hres.out.symm, _, World.drewN_drewN _ _ _⟩
      · have hres : Hid (decide (xs = ys) = true) := by
          have h1 := hH.out
          rw [take_allN hlt, take_allN (by rw [hLh.out]; exact hlt)] at h1
          show decide (xs = ys) = true
          simp [h1]
        go_wp2
        go_ret
        exact ⟨ret_bool hres.out.symm, _, rfl⟩
  · have hres := Lib.hid (show decide (xs = ys) = false by rw [decide_eq_false_iff_not]; rintro rfl; exact hlen rfl)
    have hne : ((xs.length : Int) == (ys.length : Int)) = false := by simp; omega
    go_enter Tryz.func19, Tryz.ntmps19
    go_wp2
    go_ret
    exact ⟨ret_bool hres.out.symm, 0, rfl⟩
end Go.Proofs.YtelfacchhclgnaaGreat
end
