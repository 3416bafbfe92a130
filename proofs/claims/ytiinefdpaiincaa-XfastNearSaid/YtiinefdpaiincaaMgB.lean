/- What the functions of package bit answer at every word: contracts of each, the program's text walked. What the document's own functions on lists answer: contracts of each, the text walked; and how a slice of ints in memory reads as a list. What the document's functions that make and compare lists answer, and what words made of bits are: contracts of each, the text walked. Plain facts for the laws of words: masks by counting, a word's rest, sets and clears undone. Plain facts on many words at once: what one has, what all have. What one word has of many, what all have; the first ones of a list: contracts of each, the text walked. Whether two slices of words are alike. -/
import Derived.Test.YtiinefdpaiincaaProg
import Derived.WalkKit
import Derived.Laws.BitsAllLaws
import Derived.Laws.Bits64b
import Derived.Deep.QuietTactic
import Derived.BigQuiet
import Derived.Lib.Hide
import Derived.LoopTactic
import Derived.Lib.Strings
import Derived.Lib.Slices
import Derived.Lib.Small
import Derived.Lib.Walk
import Derived.OwnWalk
import Derived.Laws.OwnMore
import Derived.Below
import Derived.Outline
import Derived.Maps.AppendAt
import Derived.Deep.AppendLies
import Derived.RegionTactic
import Derived.Test.YtiinefdpaiincaaMxMath
section
namespace Go.Proofs.Ytiinefdpaiincaa
open Go.RowKit

theorem wrap_u64_small {n : Int} (h0 : 0 ≤ n) (h : n < 18446744073709551616) : IntKind.u64.wrap n = n := by
  rw [IntKind.wrap_u64]; omega
theorem wrap_pow {i : Nat} (h : i < 64) : IntKind.u64.wrap ((2 : Int) ^ i) = ((2 ^ i : Nat) : Int) := by
  have h2 : 2 ^ i < 18446744073709551616 := Nat.pow_lt_pow_right (a := 2) (m := i) (n := 64) (by decide) h
  have e : ((2 : Int) ^ i) = ((2 ^ i : Nat) : Int) := by simp
  rw [e]
  generalize 2 ^ i = m at h2
  exact wrap_u64_small (by omega) (by omega)
theorem ret_int {k : IntKind} {a b : Int} (h : a = b) : Ending.returned (.int k a) = .returned (.int k b) := by rw [h]
theorem ret_bool {a b : Bool} (h : a = b) : Ending.returned (.bool a) = .returned (.bool b) := by rw [h]

theorem ofInt_i64 (a : Nat) (ha : a < 9223372036854775808) : (BitVec.ofInt 64 (a : Int)).toNat = a := by
  rw [BitVec.ofInt_natCast, BitVec.toNat_ofNat]; exact Nat.mod_eq_of_lt (by omega)
theorem i64_and_nat (a b : Nat) (ha : a < 9223372036854775808) (hb : b < 9223372036854775808) : bits .and .i64 (a : Int) (b : Int) = ((a &&& b : Nat) : Int) := by
  have hx : a &&& b < 2 ^ 63 := Nat.and_lt_two_pow _ (by omega)
  show IntKind.i64.wrap ((BitVec.ofInt 64 (a : Int) &&& BitVec.ofInt 64 (b : Int)).toNat : Int) = _
  rw [BitVec.toNat_and, ofInt_i64 a ha, ofInt_i64 b hb, IntKind.wrap_i64]
  omega

theorem pow_cast (i : Nat) : ((2 : Int) ^ i) = ((2 ^ i : Nat) : Int) := by simp
theorem mask_div : ∀ T, T ≤ 64 → 18446744073709551615 / 2 ^ (64 - T) = 2 ^ T - 1 := by decide +kernel
theorem tab_size : Lib.len8tab.size = 256 := by decide +kernel
theorem tab_all : ∀ n, n < 256 → ((Lib.len8tab[n]?).getD 0).toNat = Lib.bitLen n ∧ Lib.bitLen n ≤ 8 := by decide +kernel
theorem tab_len (b : Int) (h0 : 0 ≤ b) (h : b < 256) (hi : b.toNat < Lib.len8tab.size) : wrap64 ((Lib.len8tab[b.toNat]'hi).toNat : Int) = (Lib.bitLen b.toNat : Int) ∧ Lib.bitLen b.toNat ≤ 8 := by
  obtain ⟨h1, h2⟩ := tab_all b.toNat (by omega)
  rw [getElem?_pos Lib.len8tab b.toNat hi] at h1
  refine ⟨?_, h2⟩
  have e : ((Lib.len8tab[b.toNat]'hi).toNat : Int) = (Lib.bitLen b.toNat : Int) := by rw [← h1]; rfl
  rw [e]; unfold wrap64; omega
theorem len_fin (x b : Int) (k : Nat) (h0 : 0 ≤ x) (h1 : x ≤ 18446744073709551615) (hb0 : 0 ≤ b) (hb1 : b < 256) (hb : b.toNat = x.toNat / 2 ^ k) (hx : 2 ^ k ≤ x.toNat) (hk : k ≤ 56)
    (hi : b.toNat < Lib.len8tab.size) : wrap64 ((k : Int) + wrap64 ((Lib.len8tab[b.toNat]'hi).toNat : Int)) = (Lib.bitLen x.toNat : Int) := by
  obtain ⟨e, l⟩ := tab_len b hb0 hb1 hi
  have s := Lib.bitLen_shift k x.toNat hx (by omega)
  rw [e, s, ← hb]
  unfold wrap64
  omega
/-- The table of the library's, as its text lays it. -/
def Tab (w : World) : Prop := ∀ j, j < 64 → w.cell? ⟨0, j, none⟩ = some (.int .u8 ((Lib.deBruijn64tab.getD j 0 : Nat) : Int))
theorem tz64_key (x a : Nat) (hx : x < 18446744073709551616) (hx0 : x ≠ 0) (hlow : x &&& (18446744073709551616 - x) = a) :
    IntKind.u64.wrap (bits BinOp.and IntKind.u64 (x : Int) (IntKind.u64.wrap (-(x : Int))) * 285870213051353865) / 288230376151711744 = ((a * 285870213051353865 % 18446744073709551616 / 288230376151711744 : Nat) : Int) := by
  have e1 : IntKind.u64.wrap (-(x : Int)) = ((18446744073709551616 - x : Nat) : Int) := by rw [IntKind.wrap_u64]; omega
  rw [e1, u64_and_nat x _ hx (by omega), hlow, IntKind.wrap_u64]
  omega
theorem Tab.drew {w : World} (h : Tab w) (n : Nat) : Tab (w.drewN n) := h
end Go.Proofs.Ytiinefdpaiincaa
end
section
namespace Go.Proofs.Ytiinefdpaiincaa
open Go.RowKit

/-- The slice at A reads as the list xs, in cells below block B. -/
def Rd (w : World) (B : Nat) (A : Option Addr) (xs : List Int) : Prop :=
  xs ≠ [] → ∃ b off, A = some ⟨b, off, none⟩ ∧ b < B ∧ ∀ (k : Nat) (h : k < xs.length), w.cell? ⟨b, off + k, none⟩ = some (.int .i64 xs[k])
theorem Rd.below {w w' : World} {B B' : Nat} {A : Option Addr} {xs : List Int} (h : Rd w B A xs) (hb : Below B' w w') (hB : B ≤ B') : Rd w' B A xs := fun hne => by
  obtain ⟨b, off, rfl, hlt, hc⟩ := h hne
  exact ⟨b, off, rfl, hlt, fun k hk => (hb.cell (p := ⟨b, off + k, none⟩) (by show b < B'; omega)).trans (hc k hk)⟩
theorem Rd.more {w : World} {B B' : Nat} {A : Option Addr} {xs : List Int} (h : Rd w B A xs) (hB : B ≤ B') : Rd w B' A xs := fun hne => by
  obtain ⟨b, off, rfl, hlt, hc⟩ := h hne
  exact ⟨b, off, rfl, by omega, hc⟩
theorem Rd.drew {w : World} {B : Nat} {A : Option Addr} {xs : List Int} (h : Rd w B A xs) (n : Nat) : Rd (w.drewN n) B A xs := h
theorem Rd.at {w : World} {B : Nat} {A : Option Addr} {xs : List Int} (h : Rd w B A xs) {k : Nat} (hk : k < xs.length) : ∃ b off, A = some ⟨b, off, none⟩ ∧ w.cell? ⟨b, off + k, none⟩ = some (.int .i64 xs[k]) := by
  obtain ⟨b, off, rfl, _, hc⟩ := h (by intro e; subst e; simp at hk)
  exact ⟨b, off, rfl, hc k hk⟩
theorem add_off (g k : Nat) : (⟨g, 0, none⟩ : Addr).add k = ⟨g, k, none⟩ := by
  by_cases h : k = 0
  · subst h; rfl
  · simp [Addr.add, h]
theorem cell_one (w : World) (v : Value) (t : TypeId) (j : Nat) (u : Value) (h : [v][j]? = some u) : (w.alloc (.cells #[v] t)).cell? ((⟨w.heap.size, 0, none⟩ : Addr).add j) = some u := by
  match j, h with
  | 0, h =>
    rw [add_off]
    simp at h
    subst h
    simp
theorem one_int (k : IntKind) (n : Int) (u : Value) (h : u ∈ [Value.int k n]) : u.oneCell' = true := by
  simp at h; subst h; rfl
/-- No older block than n. -/
def Fr (n : Nat) (A : Option Addr) : Prop := ∀ ad, A = some ad → n ≤ ad.block
/-- A list that the call appended itself. -/
theorem Rd.of_own {w : World} {base : Nat} {v : Value} {xs : List Int} (h : w.ownsRow base 3 1 v xs.length (xs.map (Value.int .i64))) : ∃ A c, v = .slice A xs.length c ∧ Rd w w.heap.size A xs ∧ Fr base A := by
  rcases h.2 with ⟨rfl, hn⟩ | ⟨g, cap, cur, rfl, hb, hh, _⟩
  · have : xs = [] := by simpa using hn
    subst this
    exact ⟨none, 0, rfl, fun h => absurd rfl h, fun _ h => by cases h⟩
  · refine ⟨_, _, rfl, fun hne => ⟨g, 0, rfl, ?_, fun k hk => ?_⟩, fun _ e => by cases e; exact hb⟩
    · exact (h.lt g rfl).2
    · have := h.cells (g := g) rfl k (.int .i64 xs[k]) (by simp [hk])
      rw [add_off] at this
      rw [Nat.zero_add]
      exact this

theorem below_drewN {B : Nat} {a w : World} (h : Below B a w) (n : Nat) : Below B a (w.drewN n) := ⟨h.os, h.tape, h.output, h.size, h.block⟩
theorem Tab.below {w w' : World} {B : Nat} (h : Tab w) (hb : Below B w w') (hB : 0 < B) : Tab w' := fun j hj => (hb.cell (p := ⟨0, j, none⟩) hB).trans (h j hj)
theorem Tab.pos {w : World} (h : Tab w) : 0 < w.heap.size := by
  have := h 0 (by decide)
  unfold World.cell? at this
  rcases Nat.eq_zero_or_pos w.heap.size with h0 | h0
  · have e : w.heap = #[] := Array.eq_empty_of_size_eq_zero h0
    simp [e] at this
  · exact h0

theorem int_info : (Try.prog.info? 3).map (fun i => (i.zero, i.size, i.bytes)) = some (some (.int .i64 0), 1, 8) := by kernel_rfl

/-- The list of a word, as far as k bits. -/
def pz (x k : Nat) : List Int := ((List.range k).filter fun i => x.testBit i).map fun i : Nat => (i : Int)
theorem pz_succ (x k : Nat) : pz x (k + 1) = pz x k ++ if x.testBit k then [(k : Int)] else [] := by
  unfold pz
  rw [List.range_succ, List.filter_append, List.map_append]
  cases h : x.testBit k <;> simp [h]
theorem pz_yes {x k : Nat} (h : x / 2 ^ k % 2 = 1) : pz x (k + 1) = pz x k ++ [(k : Int)] := by
  rw [pz_succ, Nat.testBit_eq_decide_div_mod_eq, h]; rfl
theorem pz_no {x k : Nat} (h : ¬ x / 2 ^ k % 2 = 1) : pz x (k + 1) = pz x k := by
  rw [pz_succ, Nat.testBit_eq_decide_div_mod_eq]; simp [h]
theorem pz_len (x k : Nat) : (pz x k).length ≤ k := by
  unfold pz; rw [List.length_map]
  exact Nat.le_trans (List.length_filter_le _ _) (by simp)
theorem pz_all (x : Nat) : pz x 64 = M.bz x := rfl
theorem div_pow (x k : Nat) : x / 2 ^ k / 2 = x / 2 ^ (k + 1) := by rw [Nat.div_div_eq_div_mul, Nat.pow_succ]


theorem take_snoc {xs : List Int} {k : Nat} (h : k < xs.length) : xs.take (k + 1) = xs.take k ++ [xs[k]] := by
  rw [List.take_succ_eq_append_getElem h]
theorem take_all {xs : List Int} {k : Nat} (h : ¬ k < xs.length) : xs.take k = xs := List.take_of_length_le (by omega)

end Go.Proofs.Ytiinefdpaiincaa
end
section
namespace Go.Proofs.Ytiinefdpaiincaa
open Go.RowKit

theorem same_no {xs ys : List Int} {k : Nat} (h : ∃ a b, xs[k]? = some a ∧ ys[k]? = some b ∧ a ≠ b) : decide (xs = ys) = false := by
  rw [decide_eq_false_iff_not]
  rintro rfl
  obtain ⟨a, b, h1, h2, h3⟩ := h
  rw [h1] at h2
  exact h3 (by simpa using h2)

/-- An append of one number onto the call's own list, as the walks use it. -/
theorem own_snoc {w w0 w1 : World} {xs : List Int} {y : Int} {v v' : Value} {t : TypeId} (hb : Below w.heap.size w w0) (hown : w0.ownsRow w.heap.size 3 1 v xs.length (xs.map (Value.int .i64)))
    (hown' : w1.ownsRow w.heap.size 3 1 v' (xs.length + 1) (xs.map (Value.int .i64) ++ [.int .i64 y])) (hgrow : (w0.alloc (.cells #[.int .i64 y] t)).grownBy w1 v.ownBlock) :
    w1.ownsRow w.heap.size 3 1 v' (xs ++ [y]).length ((xs ++ [y]).map (Value.int .i64)) ∧ Below w.heap.size w w1 :=
  ⟨by rw [List.map_append, List.length_append]; exact hown', (hb.alloc hb.size _).grown hgrow (by have := hb.size; simp; omega) (fun g hg => (hown.lt g hg).1)⟩

theorem drop_len (xs : List Int) (n : Int) : (M.drop xs n).length ≤ xs.length := List.length_filter_le _ _
theorem drop_snoc (xs : List Int) (y n : Int) : M.drop (xs ++ [y]) n = M.drop xs n ++ if y ≠ n then [y] else [] := by
  unfold M.drop
  rw [List.filter_append]
  by_cases h : y = n <;> simp [h]

/-- What Add has made of the first k, and whether the number is in it. -/
def addTo (n : Int) : List Int → List Int
  | [] => []
  | x :: xs => (if n ≤ x then n :: M.drop (x :: xs) n else x :: addTo n xs)
def addIn (n : Int) (l : List Int) : Bool := l.any fun x => decide (n ≤ x)
theorem drop_cons_no {x n : Int} {l : List Int} (h : x ≠ n) : M.drop (x :: l) n = x :: M.drop l n := by simp [M.drop, h]
theorem addTo_snoc (n : Int) (l : List Int) (y : Int) : addTo n (l ++ [y]) = addTo n l ++ ((if !addIn n l && decide (n ≤ y) then [n] else []) ++ (if y ≠ n then [y] else [])) := by
  induction l with
  | nil =>
    simp only [List.nil_append, addTo, addIn, List.any_nil, Bool.not_false, Bool.true_and]
    by_cases h : n ≤ y
    · by_cases e : y = n <;> simp [h, M.drop, e]
    · have e : y ≠ n := by omega
      simp [h, e]
  | cons x l ih =>
    rw [List.cons_append, addTo, addTo]
    by_cases h : n ≤ x
    · rw [if_pos h, if_pos h, ← List.cons_append, drop_snoc]
      have : addIn n (x :: l) = true := by simp [addIn, h]
      simp [this]
    · rw [if_neg h, if_neg h, ih]
      have : addIn n (x :: l) = addIn n l := by simp [addIn, h]
      rw [this]; simp
theorem addIn_snoc (n : Int) (l : List Int) (y : Int) : addIn n (l ++ [y]) = (addIn n l || decide (n ≤ y)) := by simp [addIn]
theorem addTo_len (n : Int) (l : List Int) : (addTo n l).length ≤ l.length + 1 := by
  induction l with
  | nil => simp [addTo]
  | cons x l ih =>
    rw [addTo]
    split
    · have := drop_len (x :: l) n
      simp only [List.length_cons] at *
      omega
    · simp only [List.length_cons]; omega
theorem addTo_end (n : Int) (l : List Int) (hl : l.Pairwise (· < ·)) : addTo n l ++ (if addIn n l then [] else [n]) = M.add l n := by
  rw [← M.addGo_eq n l hl]
  clear hl
  induction l with
  | nil => rfl
  | cons x l ih =>
    rw [addTo, M.addGo]
    by_cases h : n ≤ x
    · have : addIn n (x :: l) = true := by simp [addIn, h]
      simp only [h, if_true, this, decide_true, Bool.not_false, Bool.true_and, Bool.or_true, M.addGo_true, List.append_nil]
      by_cases e : x = n <;> simp [M.drop, e]
    · have : addIn n (x :: l) = addIn n l := by simp [addIn, h]
      have e : x ≠ n := by omega
      simp only [h, if_false, this, decide_false, Bool.and_false, Bool.or_false]
      rw [← ih]
      simp [e]

end Go.Proofs.Ytiinefdpaiincaa
end
section
namespace Go.Proofs.Ytiinefdpaiincaa.M

theorem sel_zero (w : Nat) : rSel (bz w) 0 = low w := by
  unfold rSel low
  rw [if_neg (by omega), List.head?_eq_getElem?]
  rfl
theorem sel_last (w : Nat) : rSel (bz w) (((bz w).length : Int) - 1) = high w := by
  unfold rSel high
  by_cases h : bz w = []
  · simp [h]
  · have hpos : 0 < (bz w).length := List.length_pos_iff.2 h
    rw [if_neg (by omega), List.getLast?_eq_getElem?]
    congr 2
    omega
theorem bz_le (w : Nat) : (bz w).length ≤ 64 := by
  rw [bz_len]
  exact Nat.le_trans (List.length_filter_le _ _) (by simp)

theorem set_clear (x : Nat) (hx : x < 18446744073709551616) (i : Int) : (x ||| one i) &&& (18446744073709551615 - one i) = x &&& (18446744073709551615 - one i) := by
  apply Nat.eq_of_testBit_eq
  intro j
  by_cases hj : j < 64
  · rw [Nat.testBit_and, Nat.testBit_and, Nat.testBit_or, not_bit _ _ (one_lt i) hj]
    cases x.testBit j <;> cases (one i).testBit j <;> rfl
  · have h1 : x.testBit j = false := Nat.testBit_lt_two_pow (Nat.lt_of_lt_of_le hx (Nat.pow_le_pow_right (n := 2) (by decide) (Nat.le_of_not_lt hj)))
    have h2 : (one i).testBit j = false := Nat.testBit_lt_two_pow (Nat.lt_of_lt_of_le (one_lt i) (Nat.pow_le_pow_right (n := 2) (by decide) (Nat.le_of_not_lt hj)))
    rw [Nat.testBit_and, Nat.testBit_and, Nat.testBit_or, h1, h2]; rfl
theorem clear_set (x : Nat) (hx : x < 18446744073709551616) (i : Int) : (x &&& (18446744073709551615 - one i)) ||| one i = x ||| one i := by
  apply Nat.eq_of_testBit_eq
  intro j
  by_cases hj : j < 64
  · rw [Nat.testBit_or, Nat.testBit_and, Nat.testBit_or, not_bit _ _ (one_lt i) hj]
    cases x.testBit j <;> cases (one i).testBit j <;> rfl
  · have h1 : x.testBit j = false := Nat.testBit_lt_two_pow (Nat.lt_of_lt_of_le hx (Nat.pow_le_pow_right (n := 2) (by decide) (Nat.le_of_not_lt hj)))
    rw [Nat.testBit_or, Nat.testBit_and, Nat.testBit_or, h1]; rfl

/-- How many of the first k lie from f on below t. -/
def cntm (f t : Int) (k : Nat) : Nat := ((List.range k).filter fun j : Nat => decide (f ≤ (j : Int) ∧ (j : Int) < t)).length
theorem cntm_succ (f t : Int) (k : Nat) : cntm f t (k + 1) = cntm f t k + if f ≤ (k : Int) ∧ (k : Int) < t then 1 else 0 := by
  unfold cntm
  rw [List.range_succ, List.filter_append, List.length_append]
  by_cases h : f ≤ (k : Int) ∧ (k : Int) < t <;> simp [h]
theorem cntm_le (f t : Int) (k : Nat) : cntm f t k ≤ k := Nat.le_trans (List.length_filter_le _ _) (by simp)
theorem bl_mask (f t : Int) : bl (mask f t) = (List.range 64).filter fun j : Nat => decide (f ≤ (j : Int) ∧ (j : Int) < t) := by
  unfold bl
  refine List.filter_congr fun j hj => ?_
  have : j < 64 := by simpa using hj
  rw [mask_bit, decide_eq_decide]; simp [this]
theorem len_mask (f t : Int) : (bz (mask f t)).length = cntm f t 64 := by rw [bz_len, bl_mask]; rfl
theorem sel_mask (f t : Int) (k : Nat) (hk : k < 64) (h : f ≤ (k : Int) ∧ (k : Int) < t) : rSel (bz (mask f t)) (cntm f t k : Nat) = k := by
  unfold rSel
  rw [if_neg (by omega), Int.toNat_natCast, bz, bl_mask]
  obtain ⟨d, hd⟩ : ∃ d, 64 = k + (1 + d) := ⟨63 - k, by omega⟩
  rw [hd, List.range_add, List.filter_append, List.map_append, List.getElem?_append_right (by rw [List.length_map]; exact Nat.le_refl _), List.length_map]
  have e : cntm f t k - ((List.range k).filter fun j : Nat => decide (f ≤ (j : Int) ∧ (j : Int) < t)).length = 0 := Nat.sub_self _
  rw [e, List.range_add]
  simp [h]

/-- A word's rest. -/
def rest (x : Nat) : Nat := 18446744073709551615 - x
theorem rest_lt (x : Nat) : rest x < 18446744073709551616 := by unfold rest; omega
theorem rest_bit (x j : Nat) (hx : x < 18446744073709551616) (hj : j < 64) : (rest x).testBit j = !x.testBit j := not_bit x j hx hj
theorem xor_full (x : Nat) (hx : x < 18446744073709551616) : 18446744073709551615 ^^^ x = rest x := by
  apply Nat.eq_of_testBit_eq
  intro j
  have e : (18446744073709551615 : Nat) = 2 ^ 64 - 1 := rfl
  by_cases hj : j < 64
  · rw [rest_bit x j hx hj, Nat.testBit_xor, e, Nat.testBit_two_pow_sub_one]
    simp [hj]
  · have h1 : x.testBit j = false := Nat.testBit_lt_two_pow (Nat.lt_of_lt_of_le hx (Nat.pow_le_pow_right (n := 2) (by decide) (Nat.le_of_not_lt hj)))
    have h2 : (rest x).testBit j = false := Nat.testBit_lt_two_pow (Nat.lt_of_lt_of_le (rest_lt x) (Nat.pow_le_pow_right (n := 2) (by decide) (Nat.le_of_not_lt hj)))
    rw [h2, Nat.testBit_xor, e, Nat.testBit_two_pow_sub_one, h1]
    simp [hj]
theorem has_bit (x k : Nat) (hk : k < 64) : rHas (bz x) k = x.testBit k := by
  rw [Bool.eq_iff_iff, rHas, List.any_eq_true]
  constructor
  · rintro ⟨y, hy, he⟩
    obtain rfl : y = (k : Int) := by simpa using he
    simpa using (mem_bz.1 hy).2.2
  · intro h
    exact ⟨k, mem_bz.2 ⟨by omega, by omega, by simpa using h⟩, by simp⟩
def clamp (i : Int) : Nat := (max (min i 64) 0).toNat
def cb (x c : Nat) : Nat := ((List.range c).filter fun j => x.testBit j).length
theorem cb_succ (x c : Nat) : cb x (c + 1) = cb x c + if x.testBit c then 1 else 0 := by
  unfold cb
  rw [List.range_succ, List.filter_append, List.length_append]
  cases h : x.testBit c <;> simp [h]
theorem rank_cb (x : Nat) (i : Int) : rRank (bz x) i = cb x (clamp i) := by
  have hc : clamp i ≤ 64 := by unfold clamp; omega
  have : ∀ c, c ≤ 64 → ((List.range 64).filter fun j => x.testBit j && decide (j < c)).length = cb x c := by
    intro c hc
    obtain ⟨d, hd⟩ : ∃ d, 64 = c + d := ⟨64 - c, by omega⟩
    rw [hd, List.range_add, List.filter_append]
    have h2 : ((List.range d).map fun y => c + y).filter (fun j => x.testBit j && decide (j < c)) = [] := by
      rw [List.filter_eq_nil_iff]
      intro a ha
      simp only [List.mem_map, List.mem_range] at ha
      obtain ⟨y, _, rfl⟩ := ha
      simp
    rw [h2, List.append_nil]
    unfold cb
    congr 1
    refine List.filter_congr fun j hj => ?_
    have : j < c := by simpa using hj
    simp [this]
  rw [← this _ hc]
  unfold rRank bz bl
  rw [List.filter_map, List.length_map, List.filter_filter]
  congr 1
  refine List.filter_congr fun j hj => ?_
  have h64 : j < 64 := by simpa using hj
  simp only [Function.comp]
  rw [Bool.and_comm]
  congr 1
  rw [decide_eq_decide]; unfold clamp; omega
theorem cb_rest (x : Nat) (hx : x < 18446744073709551616) (c : Nat) (hc : c ≤ 64) : cb x c + cb (rest x) c = c := by
  induction c with
  | zero => rfl
  | succ c ih =>
    rw [cb_succ, cb_succ, rest_bit x c hx (by omega)]
    have := ih (by omega)
    cases x.testBit c <;> simp <;> omega
theorem rank_rest (x : Nat) (hx : x < 18446744073709551616) (i : Int) : rRank (bz x) i + rRank (bz (rest x)) i = clamp i := by
  rw [rank_cb, rank_cb]; exact cb_rest x hx _ (by unfold clamp; omega)
theorem len_rest (x : Nat) (hx : x < 18446744073709551616) : (bl x).length + (bl (rest x)).length = 64 := cb_rest x hx 64 (by decide)
theorem next_rest_at (x : Nat) (hx : x < 18446744073709551616) (i : Int) (k : Nat) (h0 : clamp i ≤ k) (hk : k < 64) (hset : ∀ j, clamp i ≤ j → j < k → x.testBit j = true) (hb : x.testBit k = false) :
    rNext (bz (rest x)) i = k := by
  have hi : i ≤ (k : Int) := by unfold clamp at h0; omega
  unfold rNext bz
  rw [List.find?_map]
  have : (bl (rest x)).find? (fun j : Nat => decide (i ≤ (j : Int))) = some k := by
    unfold bl
    rw [List.find?_filter, List.find?_range_eq_some]
    refine ⟨by rw [rest_bit x k hx hk, hb]; simp [hi], by simpa using hk, fun j hj => ?_⟩
    by_cases hc : clamp i ≤ j
    · rw [rest_bit x j hx (by omega), hset j hc hj]; simp
    · have : ¬ i ≤ (j : Int) := by unfold clamp at hc; omega
      simp [this]
  simp only [Function.comp_def, this]
  rfl
theorem next_rest_none (x : Nat) (hx : x < 18446744073709551616) (i : Int) (hset : ∀ j, clamp i ≤ j → j < 64 → x.testBit j = true) : rNext (bz (rest x)) i = -1 := by
  unfold rNext
  have : (bz (rest x)).find? (fun y => decide (i ≤ y)) = none := by
    rw [List.find?_eq_none]
    intro y hy
    obtain ⟨h1, h2, h3⟩ := mem_bz.1 hy
    rw [rest_bit x _ hx (by omega)] at h3
    intro hle
    have : i ≤ y := by simpa using hle
    have := hset y.toNat (by unfold clamp; omega) (by omega)
    rw [this] at h3; cases h3
  rw [this]; rfl
end Go.Proofs.Ytiinefdpaiincaa.M
end
section
namespace Go.Proofs.Ytiinefdpaiincaa.M

def orAll (l : List Nat) : Nat := l.foldl (fun a b => a ||| b) 0
def andAll (l : List Nat) : Nat := l.foldl (fun a b => a &&& b) 18446744073709551615
theorem orAll_snoc (l : List Nat) (x : Nat) : orAll (l ++ [x]) = orAll l ||| x := by simp [orAll]
theorem andAll_snoc (l : List Nat) (x : Nat) : andAll (l ++ [x]) = andAll l &&& x := by simp [andAll]
theorem snoc_indN {p : List Nat → Prop} (h0 : p []) (hs : ∀ l a, p l → p (l ++ [a])) (l : List Nat) : p l := by
  have h : ∀ n, p (l.take n) := by
    intro n
    induction n with
    | zero => simpa using h0
    | succ n ih =>
      by_cases hn : n < l.length
      · rw [List.take_succ_eq_append_getElem hn]; exact hs _ _ ih
      · rw [List.take_of_length_le (by omega)]
        rwa [List.take_of_length_le (by omega)] at ih
  simpa using h l.length
theorem orAll_lt {l : List Nat} (h : ∀ x ∈ l, x < 18446744073709551616) : orAll l < 18446744073709551616 := by
  induction l using snoc_indN with
  | h0 => decide
  | hs l a ih =>
    rw [orAll_snoc]
    exact or_lt (ih fun x hx => h x (by simp [hx])) (h a (by simp))
theorem andAll_lt (l : List Nat) : andAll l < 18446744073709551616 := by
  induction l using snoc_indN with
  | h0 => decide
  | hs l a ih => rw [andAll_snoc]; exact Nat.lt_of_le_of_lt Nat.and_le_left ih
/-- How many of the words have bit i. -/
def has (i : Nat) (l : List Nat) : Nat := (l.filter fun x => x.testBit i).length
theorem has_snoc (i : Nat) (l : List Nat) (x : Nat) : has i (l ++ [x]) = has i l + if x.testBit i then 1 else 0 := by
  unfold has
  rw [List.filter_append, List.length_append]
  cases h : x.testBit i <;> simp [h]
theorem has_le (i : Nat) (l : List Nat) : has i l ≤ l.length := List.length_filter_le _ _
theorem or_has (i : Nat) (l : List Nat) : (orAll l).testBit i = decide (0 < has i l) := by
  induction l using snoc_indN with
  | h0 => simp [orAll, has]
  | hs l a ih =>
    rw [orAll_snoc, has_snoc, Nat.testBit_or, ih]
    cases a.testBit i <;> simp
theorem and_has (i : Nat) (hi : i < 64) (l : List Nat) : (andAll l).testBit i = decide (has i l = l.length) := by
  induction l using snoc_indN with
  | h0 =>
    have e : (18446744073709551615 : Nat) = 2 ^ 64 - 1 := rfl
    simp only [andAll, has, List.foldl_nil, List.filter_nil, List.length_nil]
    rw [e, Nat.testBit_two_pow_sub_one]
    simp [hi]
  | hs l a ih =>
    have := has_le i l
    rw [andAll_snoc, has_snoc, Nat.testBit_and, ih, List.length_append, List.length_singleton]
    cases a.testBit i
    · simp; omega
    · simp
theorem mask_full : mask 0 64 = 18446744073709551615 := by decide +kernel
/-- The bits that there are, one by one. -/
theorem mk_in (l : List Int) (i : Int) (h0 : 0 ≤ i) (h : i < 64) : bz (mk (l ++ [i])) = add (bz (mk l)) i := by rw [mk_snoc]; exact bz_set _ i h0 h
theorem mk_out (l : List Int) (i : Int) (h : ¬ (0 ≤ i ∧ i < 64)) : mk (l ++ [i]) = mk l := by rw [mk_snoc, one_none i (by omega), Nat.or_zero]
end Go.Proofs.Ytiinefdpaiincaa.M
end
section
namespace Go.Proofs.Ytiinefdpaiincaa
open Go.RowKit

theorem block_of_add (a : Addr) (n : Nat) : (a.add n).block = a.block := by unfold Addr.add; split <;> rfl
theorem add_of_add (a : Addr) (i j : Nat) : (a.add i).add j = a.add (i + j) := by
  unfold Addr.add
  by_cases hi : i = 0 <;> by_cases hj : j = 0 <;> simp [hi, hj, Nat.add_assoc]

def Reads (w : World) (B size : Nat) (A : Option Addr) (n : Nat) (xs : List Value) : Prop :=
  xs.length = n * size ∧ (0 < n → ∃ ad, A = some ad ∧ ad.block < B ∧ ∀ j u, xs[j]? = some u → w.cell? (ad.add j) = some u)

section
variable {w w' : World} {B B' size n : Nat} {A : Option Addr} {xs : List Value}
theorem Reads.none_ : Reads w B size A 0 [] := ⟨by simp, fun h => absurd h (by omega)⟩
theorem Reads.at_ {k : Nat} (h : Reads w B 1 A n xs) (hk : k < n) : ∃ ad u, A = some ad ∧ ad.block < B ∧ xs[k]? = some u ∧ w.cell? (ad.add k) = some u := by
  obtain ⟨ad, e, hb, hc⟩ := h.2 (by omega)
  have hl : k < xs.length := by have := h.1; omega
  exact ⟨ad, xs[k], e, hb, List.getElem?_eq_getElem hl, hc k _ (List.getElem?_eq_getElem hl)⟩
theorem Reads.keep (h : Reads w B size A n xs) (hk : ∀ p : Addr, p.block < B → w'.cell? p = w.cell? p) : Reads w' B size A n xs :=
  ⟨h.1, fun hn => by
    obtain ⟨ad, e, hb, hc⟩ := h.2 hn
    exact ⟨ad, e, hb, fun j u hu => (hk _ (by rw [block_of_add]; exact hb)).trans (hc j u hu)⟩⟩
theorem Reads.more (h : Reads w B size A n xs) (hB : B ≤ B') : Reads w B' size A n xs :=
  ⟨h.1, fun hn => by
    obtain ⟨ad, e, hb, hc⟩ := h.2 hn
    exact ⟨ad, e, by omega, hc⟩⟩
theorem Reads.below (h : Reads w B size A n xs) (hb : Below B w w') : Reads w' B size A n xs := h.keep fun _ hp => hb.cell hp
theorem Reads.drew (h : Reads w B size A n xs) : Reads w.drew B size A n xs := h
theorem Reads.drewN (h : Reads w B size A n xs) (k : Nat) : Reads (w.drewN k) B size A n xs := h
theorem Reads.alloc (h : Reads w B size A n xs) (hB : B ≤ w.heap.size) (o : Obj) : Reads (w.alloc o) B size A n xs := h.keep fun p hp => World.cell?_alloc_lt w o p (by omega)
theorem Reads.setCell (h : Reads w B size A n xs) {p : Addr} (hB : B ≤ p.block) (u : Value) : Reads (w.setCell p u) B size A n xs :=
  h.keep fun q hq => World.cell?_setCell_other w p q u (fun e => by subst e; omega)
theorem Reads.grown (h : Reads w B size A n xs) {row : Option Nat} (hg : w.grownBy w' row) (hB : B ≤ w.heap.size) (hr : ∀ g, row = some g → B ≤ g) : Reads w' B size A n xs :=
  h.keep fun p hp => World.cell?_of_block (hg.block p.block (by omega) (fun e => by have := hr _ e.symm; omega))
theorem Reads.cut (h : Reads w B size A n xs) {k cap : Nat} (hk : k ≤ n) (hc : n ≤ cap) :
    Reads w B size (if cap = k then A else A.map (·.add (k * size))) (n - k) (xs.drop (k * size)) := by
  refine ⟨by rw [List.length_drop, h.1, Nat.sub_mul], fun hn => ?_⟩
  obtain ⟨ad, rfl, hb, hcell⟩ := h.2 (by omega)
  rw [if_neg (by omega)]
  refine ⟨ad.add (k * size), rfl, by rw [block_of_add]; exact hb, fun j u hu => ?_⟩
  rw [add_of_add]
  exact hcell _ u (by rw [← hu, List.getElem?_drop])
theorem Reads.of_own {base : Nat} {e : TypeId} {c : Nat} (h : w.ownsRow base e size (.slice A n c) n xs) : Reads w w.heap.size size A n xs := by
  refine ⟨h.1, fun hn => ?_⟩
  obtain ⟨g, cap, hv, _, hlt⟩ := h.form hn
  have hA : A = some ⟨g, 0, none⟩ := by injection hv
  subst hA
  exact ⟨_, rfl, hlt, h.cells (g := g) rfl⟩
end
section
variable {P : Program} (w : World)

theorem run_append_of_nil (base : Nat) (t ty e : TypeId) (i : TypeInfo) (size : Nat) (ht : P.underlying t = some (.slice e)) (hi : P.info? e = some i)
    (v : Value) (n : Nat) (xs : List Value) (hown : w.ownsRow base e size v n xs) (c : Nat) : (Builtin.append_ #[t, t] ty #[v, .slice none 0 c]).run P w = .ok v w := by
  rcases hown.2 with ⟨rfl, rfl⟩ | ⟨g, cap, cur, rfl, _, _, hnc, _⟩
  · simp [Builtin.append_, run_underlying ht, sizeOf, typeInfo, hi, Builtin.lenOf, Builtin.firstCells]
  · simp [Builtin.append_, run_underlying ht, sizeOf, typeInfo, hi, Builtin.lenOf, Builtin.firstCells, hnc, storeCells]

theorem run_append_any (base : Nat) (t ty e : TypeId) (i : TypeInfo) (z : Value) (size bytes : Nat) (ht : P.underlying t = some (.slice e)) (hi : P.info? e = some i) (hz : i.zero = some z)
    (hsize : i.size = size) (hby : i.bytes = bytes) (hzs : z.cells.size = size) (hsz : 0 < size)
    (v : Value) (n : Nat) (xs : List Value) (hown : w.ownsRow base e size v n xs)
    (B : Nat) (A : Option Addr) (m c : Nat) (news : List Value) (hr : Reads w B size A m news) (h1 : ∀ u ∈ news, u.oneCell' = true)
    (h63 : n + m ≤ maxLen) (hbytes : (n + m) * bytes ≤ 140737488355328) (hbase : base ≤ w.heap.size) :
    ∃ v' w', (Builtin.append_ #[t, t] ty #[v, .slice A m c]).run P w = .ok v' w' ∧ w'.ownsRow base e size v' (n + m) (xs ++ news) ∧ w.grownBy w' v.ownBlock ∧
      (v'.ownBlock = v.ownBlock ∨ v'.ownBlock = some w.heap.size) := by
  rcases A with _ | ad
  · have hm : m = 0 := by
      rcases Nat.eq_zero_or_pos m with h0 | h0
      · exact h0
      · obtain ⟨ad, h, _⟩ := hr.2 h0
        cases h
    subst hm
    have hn : news = [] := List.eq_nil_of_length_eq_zero (by simpa using hr.1)
    subst hn
    exact ⟨v, w, run_append_of_nil w base t ty e i size ht hi v n xs hown c, by simpa using hown, World.grownBy.refl w _, .inl rfl⟩
  · have hcells : ∀ j u, news[j]? = some u → w.cell? (ad.add j) = some u := by
      intro j u hu
      rcases Nat.eq_zero_or_pos m with h0 | h0
      · subst h0
        have hn : news = [] := List.eq_nil_of_length_eq_zero (by simpa using hr.1)
        subst hn
        simp at hu
      · obtain ⟨ad', h, _, hc⟩ := hr.2 h0
        injection h with h
        subst h
        exact hc j u hu
    obtain ⟨v', w', hrun, h2, h3, _, h5⟩ := run_append_own_at (P := P) w base t ty e i z size bytes ht hi hz hsize hby hzs hsz v n xs hown ad m c news hr.1 hcells h1 h63 hbytes hbase
    exact ⟨v', w', hrun, h2, h3, h5⟩

theorem wp_append_any {o : Oper} {a : Act} {K : Act → World → Prop} {Q : Exit → Act → World → Prop} (s x : Operand) (t : TypeId)
    (ho : o.op = .call { callee := .builtin .append, args := #[s, x], argTypes := #[t, t] })
    (base : Nat) (e : TypeId) (i : TypeInfo) (z : Value) (size bytes : Nat) (ht : P.underlying t = some (.slice e)) (hi : P.info? e = some i) (hz : i.zero = some z)
    (hsize : i.size = size) (hby : i.bytes = bytes) (hzs : z.cells.size = size) (hsz : 0 < size)
    (v : Value) (n : Nat) (xs : List Value) (hs : a.eval s = v) (hown : w.ownsRow base e size v n xs)
    (B : Nat) (A : Option Addr) (m c : Nat) (news : List Value) (hx : a.eval x = .slice A m c) (hr : Reads w B size A m news) (h1 : ∀ u ∈ news, u.oneCell' = true)
    (h63 : n + m ≤ maxLen) (hbytes : (n + m) * bytes ≤ 140737488355328) (hbase : base ≤ w.heap.size)
    (h : ∀ v' w', w'.ownsRow base e size v' (n + m) (xs ++ news) → w.grownBy w' v.ownBlock → (v'.ownBlock = v.ownBlock ∨ v'.ownBlock = some w.heap.size) → K (a.put o.dst v') w') : o.wp P a w K Q := by
  obtain ⟨v', w', hrun, h2, h3, h4⟩ := run_append_any (P := P) w base t o.type e i z size bytes ht hi hz hsize hby hzs hsz v n xs hown B A m c news hr h1 h63 hbytes hbase
  unfold Oper.wp execOp
  simp only [ho, resolve, invoke, builtin, Sem.run_bind, Sem.run_pure, Result.andThen_ok, List.map_toArray, List.map_cons, List.map_nil, hs, hx, hrun]
  exact h v' w' h2 h3 h4

theorem wpList_append_any {ops : Array Oper} {rest : List Oper} {o : Oper} {a : Act} {Q : Exit → Act → World → Prop} (hgd : o.guard = none) (s x : Operand) (t : TypeId)
    (ho : o.op = .call { callee := .builtin .append, args := #[s, x], argTypes := #[t, t] })
    (base : Nat) (e : TypeId) (i : TypeInfo) (z : Value) (size bytes : Nat) (ht : P.underlying t = some (.slice e)) (hi : P.info? e = some i) (hz : i.zero = some z)
    (hsize : i.size = size) (hby : i.bytes = bytes) (hzs : z.cells.size = size) (hsz : 0 < size)
    (v : Value) (n : Nat) (xs : List Value) (hs : a.eval s = v) (hown : w.ownsRow base e size v n xs)
    (B : Nat) (A : Option Addr) (m c : Nat) (news : List Value) (hx : a.eval x = .slice A m c) (hr : Reads w B size A m news) (h1 : ∀ u ∈ news, u.oneCell' = true)
    (h63 : n + m ≤ maxLen) (hbytes : (n + m) * bytes ≤ 140737488355328) (hbase : base ≤ w.heap.size)
    (h : ∀ v' w', w'.ownsRow base e size v' (n + m) (xs ++ news) → w.grownBy w' v.ownBlock → (v'.ownBlock = v.ownBlock ∨ v'.ownBlock = some w.heap.size) → wpList P ops Q rest (a.put o.dst v') w') : wpList P ops Q (o :: rest) a w :=
  wpList_plain hgd fun _ hK => wp_append_any w s x t ho base e i z size bytes ht hi hz hsize hby hzs hsz v n xs hs hown B A m c news hx hr h1 h63 hbytes hbase fun v' w' h2 h3 h4 => hK _ _ (h v' w' h2 h3 h4)

theorem step_append_any {ops : Array Oper} {o : Oper} {a : Act} {K : Act → World → Prop} {Q : Exit → Act → World → Prop} {E : Prop} (hgd : o.guard = none) (s x : Operand) (t : TypeId)
    (ho : o.op = .call { callee := .builtin .append, args := #[s, x], argTypes := #[t, t] })
    (base : Nat) (e : TypeId) (i : TypeInfo) (z : Value) (size bytes : Nat) (ht : P.underlying t = some (.slice e)) (hi : P.info? e = some i) (hz : i.zero = some z)
    (hsize : i.size = size) (hby : i.bytes = bytes) (hzs : z.cells.size = size) (hsz : 0 < size)
    (v : Value) (n : Nat) (xs : List Value) (hs : a.eval s = v) (hown : w.ownsRow base e size v n xs)
    (B : Nat) (A : Option Addr) (m c : Nat) (news : List Value) (hx : a.eval x = .slice A m c) (hr : Reads w B size A m news) (h1 : ∀ u ∈ news, u.oneCell' = true)
    (h63 : n + m ≤ maxLen) (hbytes : (n + m) * bytes ≤ 140737488355328) (hbase : base ≤ w.heap.size)
    (h : ∀ v' w', w'.ownsRow base e size v' (n + m) (xs ++ news) → w.grownBy w' v.ownBlock → (v'.ownBlock = v.ownBlock ∨ v'.ownBlock = some w.heap.size) → K (a.put o.dst v') w') :
    if Region.wanted o (yielded ops a.tmps) = true then Oper.wp P o a w K Q else E := by
  have hw : Region.wanted o (yielded ops a.tmps) = true := by simp [Region.wanted, hgd]
  rw [if_pos hw]
  exact wp_append_any w s x t ho base e i z size bytes ht hi hz hsize hby hzs hsz v n xs hs hown B A m c news hx hr h1 h63 hbytes hbase h
end

/-- The slice at A reads as these words, in cells below block B. -/
def Rw (w : World) (B : Nat) (A : Option Addr) (xs : List Nat) : Prop :=
  xs ≠ [] → ∃ b off, A = some ⟨b, off, none⟩ ∧ b < B ∧ ∀ (k : Nat) (h : k < xs.length), w.cell? ⟨b, off + k, none⟩ = some (.int .u64 (xs[k] : Nat))
theorem Rw.below {w w' : World} {B B' : Nat} {A : Option Addr} {xs : List Nat} (h : Rw w B A xs) (hb : Below B' w w') (hB : B ≤ B') : Rw w' B A xs := fun hne => by
  obtain ⟨b, off, rfl, hlt, hc⟩ := h hne
  exact ⟨b, off, rfl, hlt, fun k hk => (hb.cell (p := ⟨b, off + k, none⟩) (by show b < B'; omega)).trans (hc k hk)⟩
theorem Rw.more {w : World} {B B' : Nat} {A : Option Addr} {xs : List Nat} (h : Rw w B A xs) (hB : B ≤ B') : Rw w B' A xs := fun hne => by
  obtain ⟨b, off, rfl, hlt, hc⟩ := h hne
  exact ⟨b, off, rfl, by omega, hc⟩
theorem Rw.drew {w : World} {B : Nat} {A : Option Addr} {xs : List Nat} (h : Rw w B A xs) (n : Nat) : Rw (w.drewN n) B A xs := h
theorem Rw.at {w : World} {B : Nat} {A : Option Addr} {xs : List Nat} (h : Rw w B A xs) {k : Nat} (hk : k < xs.length) : ∃ b off, A = some ⟨b, off, none⟩ ∧ b < B ∧ w.cell? ⟨b, off + k, none⟩ = some (.int .u64 (xs[k] : Nat)) := by
  obtain ⟨b, off, rfl, hb, hc⟩ := h (by intro e; subst e; simp at hk)
  exact ⟨b, off, rfl, hb, hc k hk⟩
abbrev wv (xs : List Nat) : List Value := xs.map fun a : Nat => Value.int .u64 (a : Int)
theorem Rw.of_own {w : World} {base : Nat} {v : Value} {xs : List Nat} (h : w.ownsRow base 22 1 v xs.length (wv xs)) : ∃ A c, v = .slice A xs.length c ∧ Rw w w.heap.size A xs ∧ Fr base A := by
  rcases h.2 with ⟨rfl, hn⟩ | ⟨g, cap, cur, rfl, hb, hh, _⟩
  · have : xs = [] := by simpa using hn
    subst this
    exact ⟨none, 0, rfl, fun h => absurd rfl h, fun _ h => by cases h⟩
  · refine ⟨_, _, rfl, fun hne => ⟨g, 0, rfl, ?_, fun k hk => ?_⟩, fun _ e => by cases e; exact hb⟩
    · exact (h.lt g rfl).2
    · have := h.cells (g := g) rfl k (.int .u64 (xs[k] : Nat)) (by simp [hk])
      rw [add_off] at this
      rw [Nat.zero_add]
      exact this
theorem take_snocN {xs : List Nat} {k : Nat} (h : k < xs.length) : xs.take (k + 1) = xs.take k ++ [xs[k]] := by
  rw [List.take_succ_eq_append_getElem h]
theorem take_allN {xs : List Nat} {k : Nat} (h : ¬ k < xs.length) : xs.take k = xs := List.take_of_length_le (by omega)
theorem u64_info : (Try.prog.info? 22).map (fun i => (i.zero, i.size, i.bytes)) = some (some (.int .u64 0), 1, 8) := by kernel_rfl
theorem own_snocN {w w0 w1 : World} {xs : List Nat} {y : Nat} {v v' : Value} {t : TypeId} (hb : Below w.heap.size w w0) (hown : w0.ownsRow w.heap.size 22 1 v xs.length (wv xs))
    (hown' : w1.ownsRow w.heap.size 22 1 v' (xs.length + 1) (wv xs ++ [.int .u64 (y : Int)])) (hgrow : (w0.alloc (.cells #[.int .u64 (y : Int)] t)).grownBy w1 v.ownBlock) :
    w1.ownsRow w.heap.size 22 1 v' (xs ++ [y]).length (wv (xs ++ [y])) ∧ Below w.heap.size w w1 :=
  ⟨by rw [wv, List.map_append, List.length_append]; exact hown', (hb.alloc hb.size _).grown hgrow (by have := hb.size; simp; omega) (fun g hg => (hown.lt g hg).1)⟩
abbrev iv (xs : List Int) : List Value := xs.map (Value.int .i64)

set_option maxHeartbeats 1000000 in
theorem ref_words_own (A : Option Addr) (cp : Nat) (xs : List Nat) (n : Nat) (w : World) (hr : Rw w w.heap.size A xs) (hl : xs.length ≤ 9223372036854775807) (hn : n ≤ 1000000) :
    Calls Try.prog 20 #[.slice A xs.length cp, .int .i64 (n : Int)] w fun e w' => ∃ v, e = .returned v ∧ w'.ownsRow w.heap.size 22 1 v (xs.take n).length (wv (xs.take n)) ∧ Below w.heap.size w w' := by
  obtain ⟨i0, hi, hz0, hz1, hz2⟩ := info_parts u64_info
  go_enter Try.func20, Try.ntmps20
  go_wp2
  go_loopw [5, 10] (fun v i wr => ∃ k : Nat, k ≤ xs.length ∧ i = .int .i64 k ∧ wr.ownsRow w.heap.size 22 1 v (xs.take (min k n)).length (wv (xs.take (min k n))) ∧ Below w.heap.size w wr)
    (fun _ i _ => xs.length - (intOf i).toNat)
  case atStart => exact ⟨0, by omega, rfl, by simp [World.ownsRow_nil], Below.refl _ _⟩
  case round =>
    obtain ⟨k, hk, rfl, hown, hb⟩ := hrel
    by_cases hlt : k < xs.length
    · obtain ⟨b, off, rfl, _, hc⟩ := (hr.below hb (Nat.le_refl _)).at hlt
      by_cases hkn : k < n
      · have e1 : min k n = k := by omega
        have e2 : min (k + 1) n = k + 1 := by omega
        rw [e1] at hown
        have hs := Lib.hid (show xs.take (min (k + 1) n) = xs.take k ++ [xs[k]] by rw [e2, take_snocN hlt])
        have hlen : (xs.take k).length ≤ 1000000 := by rw [List.length_take]; omega
        clear e1 e2
        generalize xs.take k = ds at *
        generalize xs[k] = y at *
        go_wp2_with (at_builtin; refine wpList_append_own _ rfl _ _ 30 rfl w.heap.size 22 i0 (.int .u64 0) 1 8 Try.underlying30 hi hz0 hz1 hz2 rfl (by decide) _ _ _ rfl (hown.alloc _) ⟨wr.heap.size, 0, none⟩ 1 1 [.int .u64 (y : Int)] rfl rfl ?c1 ?c2 ?c3 ?c4 ?c5 ?_)
        case c1 => exact cell_one _ _ _
        case c2 => first | exact one_int _ _ | rfl
        case c3 => unfold maxLen; omega
        case c4 => omega
        case c5 => have := hb.size; simp; omega
        intro v' w1 hown' hgrow _
        obtain ⟨hown2, hb2⟩ := own_snocN hb hown hown' hgrow
        rw [← hs.out] at hown2
        clear hown' hgrow hown hb
        go_wp2
        go_roundw
        case rel => exact ⟨k + 1, by omega, by go_num, hown2, hb2⟩
        case measure => simp [intOf]; omega
      · have e1 : min k n = min (k + 1) n := by omega
        rw [e1] at hown
        clear e1
        go_wp2
        go_roundw
        case rel => exact ⟨k + 1, by omega, by go_num, hown, hb⟩
        case measure => simp [intOf]; omega
    · obtain rfl : k = xs.length := by omega
      have e1 : xs.take (min xs.length n) = xs.take n := by
        by_cases h : xs.length ≤ n
        · rw [Nat.min_eq_left h, List.take_of_length_le (Nat.le_refl _), List.take_of_length_le h]
        · rw [Nat.min_eq_right (by omega)]
      rw [e1] at hown
      clear e1
      go_wp2
      go_ret
      exact ⟨_, rfl, hown, hb⟩

theorem ref_words (A : Option Addr) (cp : Nat) (xs : List Nat) (n : Nat) (w : World) (hr : Rw w w.heap.size A xs) (hl : xs.length ≤ 9223372036854775807) (hn : n ≤ 1000000) :
    Calls Try.prog 20 #[.slice A xs.length cp, .int .i64 (n : Int)] w fun e w' => ∃ A' c', e = .returned (.slice A' (xs.take n).length c') ∧ Rw w' w'.heap.size A' (xs.take n) ∧ Fr w.heap.size A' ∧ Below w.heap.size w w' := by
  refine (ref_words_own A cp xs n w hr hl hn).mono ?_
  rintro e w' ⟨v, rfl, hown, hb⟩
  obtain ⟨A', c', rfl, hr', hF⟩ := Rw.of_own hown
  exact ⟨A', c', rfl, hr', hF, hb⟩

end Go.Proofs.Ytiinefdpaiincaa
end
section
namespace Go.Proofs.Ytiinefdpaiincaa
open Go.RowKit
theorem same_noN {xs ys : List Nat} {k : Nat} (h : ∃ a b, xs[k]? = some a ∧ ys[k]? = some b ∧ a ≠ b) : decide (xs = ys) = false := by
  rw [decide_eq_false_iff_not]
  rintro rfl
  obtain ⟨a, b, h1, h2, h3⟩ := h
  rw [h1] at h2
  exact h3 (by simpa using h2)

set_option maxHeartbeats 1000000 in
theorem ref_samekeys (A A' : Option Addr) (c c' : Nat) (xs ys : List Nat) (w : World) (B B' : Nat) (hr : Rw w B A xs) (hr' : Rw w B' A' ys) (hl : xs.length ≤ 4611686018427387904) (_hl' : ys.length ≤ 4611686018427387904) :
    Calls Try.prog 16 #[.slice A xs.length c, .slice A' ys.length c'] w fun e w' => e = .returned (.bool (decide (xs = ys))) ∧ ∃ n, w' = w.drewN n := by
  by_cases hlen : xs.length = ys.length
  · generalize hL : ys.length = L at *
    have hLh := Lib.hid hL
    clear hL
    subst hlen
    go_enter Try.func16, Try.ntmps16
    go_wp2
    go_loopw [13] (fun i wr => ∃ k n : Nat, k ≤ xs.length ∧ i = .int .i64 k ∧ wr = w.drewN n ∧ Hid (xs.take k = ys.take k)) (fun i _ => xs.length - (intOf i).toNat)
    case atStart => exact ⟨0, 0, by omega, rfl, rfl, rfl⟩
    case round =>
      obtain ⟨k, n, hk, rfl, rfl, hH⟩ := hrel
      by_cases hlt : k < xs.length
      · have hlt' : k < ys.length := by rw [hLh.out]; exact hlt
        obtain ⟨b, off, rfl, _, hc⟩ := hr.at hlt
        obtain ⟨b', off', rfl, _, hc'⟩ := hr'.at hlt'
        have hx : xs[k]? = some xs[k] := List.getElem?_eq_getElem hlt
        have hy : ys[k]? = some ys[k] := List.getElem?_eq_getElem hlt'
        have hxH := Lib.hid hx
        have hyH := Lib.hid hy
        have hs := Lib.hid (take_snocN hlt)
        have hs' := Lib.hid (take_snocN hlt')
        clear hx hy
        generalize xs[k] = x at *
        generalize ys[k] = y at *
        by_cases he : x = y
        · have heb : ((x : Int) == (y : Int)) = true := by simp [he]
          have heb2 : ((x : Int) != (y : Int)) = false := by simp [he]
          have hres : Hid (xs.take (k + 1) = ys.take (k + 1)) := by
            show xs.take (k + 1) = ys.take (k + 1)
            rw [hs.out, hs'.out, hH.out, he]
          clear hs hs' hxH hyH hH he
          go_wp2
          go_quiet (fail)
          go_wp2
          go_roundw
          case rel => exact ⟨k + 1, _, by omega, by go_num, rfl, hres⟩
          case measure => simp [intOf]; omega
        · have heb : ((x : Int) == (y : Int)) = false := by simp; omega
          have heb2 : ((x : Int) != (y : Int)) = true := by simp; omega
          have hres := Lib.hid (same_noN (k := k) ⟨x, y, hxH.out, hyH.out, he⟩)
          clear hs hs' hxH hyH hH he
          go_wp2
          go_quiet (fail)
          go_wp2
          go_ret
          exact ⟨ret_bool hres.out.symm, _, World.drewN_drewN _ _ _⟩
      · have hres : Hid (decide (xs = ys) = true) := by
          have h1 := hH.out
          rw [take_allN hlt, take_allN (by rw [hLh.out]; exact hlt)] at h1
          show decide (xs = ys) = true
          simp [h1]
        go_wp2
        go_ret
        exact ⟨ret_bool hres.out.symm, _, rfl⟩
  · have hres := Lib.hid (show decide (xs = ys) = false by rw [decide_eq_false_iff_not]; rintro rfl; exact hlen rfl)
    have hne : ((xs.length : Int) == (ys.length : Int)) = false := by simp; omega
    go_enter Try.func16, Try.ntmps16
    go_wp2
    go_ret
    exact ⟨ret_bool hres.out.symm, 0, rfl⟩
end Go.Proofs.Ytiinefdpaiincaa
end
