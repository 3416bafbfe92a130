/- The trie's small functions: digit, key, child; the texts walked. The trie in memory: what its nodes are, told by the keys; the way down to a key; found; the texts walked. slices.Insert and slices.Delete at ints: laid over the library's contracts. slices.Insert and slices.Delete over an own row of ints: whatever way the library goes, the row is the list's. -/
import Derived.Shelf.SlGeneric
import Derived.Shelf.SlicesE.Delete
import Derived.Shelf.Spec.SlicesInsertGrow
import Derived.Test.YtbiingpdchoppaaDoorProg
import Derived.Laws.AppendOwn
import Derived.Test.YtbiingpdchoppaaDoorMgI
import Derived.Test.YtbiingpdchoppaaDoorMgJ
section
namespace Go.Proofs.YtbiingpdchoppaaDoor
set_option maxRecDepth 40000
open Go.RowKit
namespace T
theorem pow64 (l : Nat) (hl : l ≤ 10) : 64 ^ (11 - (l + 1)) = 2 ^ (6 * (10 - l)) := by
  rw [show (64 : Nat) = 2 ^ 6 from rfl, ← Nat.pow_mul]
  congr 1
  omega
theorem dig_eq (l k : Nat) (hl : l ≤ 10) : dig l k = (k / 2 ^ (6 * (10 - l))) &&& 63 := by
  unfold dig pre
  rw [pow64 l hl]
  exact (Nat.and_two_pow_sub_one_eq_mod _ 6).symm
end T
set_option maxHeartbeats 1000000 in
theorem t_digit (w : World) (k l : Nat) (hk : k < 18446744073709551616) (hl : l ≤ 10) :
    Calls Tryd.prog 64 #[.int .u64 (k : Int), .int .i64 (l : Int)] w fun e w' => e = .returned (.int .i64 ((T.dig l k : Nat) : Int)) ∧ w = w' := by
  have hE := Lib.hid (T.dig_eq l k hl)
  have hlt := T.dig_lt l k
  have q1 : IntKind.i64.wrap (10 - (l : Int)) = ((10 - l : Nat) : Int) := by rw [IntWalk.i64_in _ (by omega)]; omega
  have q2 : IntKind.i64.wrap (6 * ((10 - l : Nat) : Int)) = ((6 * (10 - l) : Nat) : Int) := by rw [IntWalk.i64_in _ (by omega)]; omega
  have q3 : bits .and .u64 ((k : Int) / 2 ^ (6 * (10 - l))) 63 = ((T.dig l k : Nat) : Int) := by
    have e : ((k : Int) / 2 ^ (6 * (10 - l))) = ((k / 2 ^ (6 * (10 - l)) : Nat) : Int) := by simp
    have h2 : k / 2 ^ (6 * (10 - l)) < 18446744073709551616 := Nat.lt_of_le_of_lt (Nat.div_le_self _ _) hk
    rw [hE.out, e]
    exact u64_and_nat _ 63 h2 (by decide)
  generalize T.dig l k = d at *
  go_enter Tryd.func64, Tryd.ntmps64
  go_wp2
  go_ret
  exact ⟨rfl, rfl⟩
namespace T
theorem key_eq (le d : Nat) (h : le < 18446744073709551616) (hd : d < 64) : (le &&& (18446744073709551615 - 63)) ||| d = pre 10 le * 64 + d := by
  have e1 : le &&& (18446744073709551615 - 63) = 2 ^ 6 * (le / 2 ^ 6) := by
    refine Nat.eq_of_testBit_eq fun i => ?_
    rw [Nat.testBit_and, Nat.testBit_two_pow_mul, Nat.testBit_div_two_pow]
    have e2 : (18446744073709551615 - 63 : Nat) = 2 ^ 6 * (2 ^ 58 - 1) := by decide
    rw [e2, Nat.testBit_two_pow_mul, Nat.testBit_two_pow_sub_one]
    by_cases h6 : 6 ≤ i
    · rw [show i - 6 + 6 = i by omega]
      by_cases h58 : i - 6 < 58
      · simp [h6, h58]
      · have : le.testBit i = false := Nat.testBit_lt_two_pow (Nat.lt_of_lt_of_le h (by
          have : (18446744073709551616 : Nat) = 2 ^ 64 := by decide
          rw [this]
          exact Nat.pow_le_pow_right (by decide) (by omega)))
        simp [h6, h58, this]
    · simp [h6]
  rw [e1, ← Nat.two_pow_add_eq_or_of_lt (by simpa using hd)]
  unfold pre
  simp
  omega
end T
/-- A call that makes memory and answers a number. -/
def RetB (w : World) (v : Value) (e : Ending) (w' : World) : Prop := e = .returned v ∧ Below w.heap.size w w'
set_option maxHeartbeats 1000000 in
theorem t_key (w : World) (W : Nat) (A : Option Addr) (n c ks le gr d : Nat) (hle : le < 18446744073709551616) (hd : d < 64) :
    Calls Tryd.prog 59 #[ndv W A n c ks le gr, .int .i64 (d : Int)] w (RetB w (.int .u64 ((T.pre 10 le * 64 + d : Nat) : Int))) := by
  have hE := Lib.hid (T.key_eq le d hle hd)
  have q1 : bits .andNot .u64 (le : Int) 63 = ((le &&& (18446744073709551615 - 63) : Nat) : Int) := u64_andNot_nat le 63 hle (by decide)
  have h2 : (le &&& (18446744073709551615 - 63)) < 18446744073709551616 := Nat.lt_of_le_of_lt Nat.and_le_left hle
  have q2 : bits .or .u64 ((le &&& (18446744073709551615 - 63) : Nat) : Int) (d : Int) = ((T.pre 10 le * 64 + d : Nat) : Int) := by
    rw [u64_or_nat _ d h2 (by omega), hE.out]
  generalize (le &&& (18446744073709551615 - 63)) = b at *
  generalize T.pre 10 le * 64 + d = r at *
  go_enter Tryd.func59, Tryd.ntmps59
  go_wp2
  go_ret
  exact ⟨rfl, (Below.refl _ w).alloc (Nat.le_refl _) _⟩
set_option maxHeartbeats 1000000 in
theorem t_child (w : World) (W : Nat) (A : Option Addr) (ch : List Nat) (c ks le gr d : Nat) (hW : W < 18446744073709551616) (hd : d < 64) (hown : w.ownsRow 0 3 1 (.slice A ch.length c) ch.length (iw ch)) (hr : K.fi (M.bl W) d < ch.length) (hl : ch.length ≤ 64) :
    Calls Tryd.prog 69 #[ndv W A ch.length c ks le gr, .int .i64 (d : Int)] w (RetB w (.int .i64 ((ch[K.fi (M.bl W) d]'hr : Nat) : Int))) := by
  obtain ⟨g, rfl⟩ := own_some hown (by omega)
  have hb : Below w.heap.size w (w.alloc (ndo W (some ⟨g, 0, none⟩) ch.length c ks le gr)) := (Below.refl _ w).alloc (Nat.le_refl _) _
  have ho2 := (K.Chg.of_below (O := fun _ => False) hb).own hown (fun _ _ h => h)
  have hc := ho2.cellAt (K.fi (M.bl W) d) (by omega)
  have he : (iw ch)[K.fi (M.bl W) d]? = some (.int .i64 ((ch[K.fi (M.bl W) d]'hr : Nat) : Int)) := by simp [hr]
  rw [he] at hc
  have hrk := fun N => Lib.hid (bit_rank W hW (d : Int) ((w.alloc (ndo W (some ⟨g, 0, none⟩) ch.length c ks le gr)).drewN N))
  rw [T.rank_fi] at hrk
  have k1 : ((K.fi (M.bl W) d : Nat) : Int) < (ch.length : Int) := by omega
  clear ho2 he hown
  generalize ch[K.fi (M.bl W) d]'hr = z at *
  generalize K.fi (M.bl W) d = r at *
  generalize ch.length = n at *
  have HB := Lib.hid hb
  clear hb
  go_enter Tryd.func69, Tryd.ntmps69
  go_wp2
  go_quiet ((go_at_call 63; exact Calls.quiet_of (hrk _).out))
  go_wp2
  go_ret
  exact ⟨rfl, below_drewN HB.out _⟩
end Go.Proofs.YtbiingpdchoppaaDoor
end
section
namespace Go.Proofs.YtbiingpdchoppaaDoor
set_option maxRecDepth 40000
open Go.RowKit
/-- The node at a place that is taken. -/
def ndm (ns : List (Nd × Bool)) (i : Nat) : Option Nd := match ns[i]? with | some (n, true) => some n | _ => none
theorem ndm_some {ns : List (Nd × Bool)} {i : Nat} {n : Nd} (h : ndm ns i = some n) : ∃ hi : i < ns.length, ns[i] = (n, true) := by
  unfold ndm at h
  split at h
  · rename_i n' e
    obtain ⟨hi, e2⟩ := List.getElem?_eq_some_iff.1 e
    cases h
    exact ⟨hi, e2⟩
  · cases h
theorem ndm_of {ns : List (Nd × Bool)} {i : Nat} {n : Nd} (h : ns[i]? = some (n, true)) : ndm ns i = some n := by unfold ndm; rw [h]
namespace T
/-- At each level l the nodes are those of the keys X l. -/
structure Tr (X : Nat → List Nat) (pl : Nat → Nat → Nat) (nd : Nat → Option Nd) : Prop where
  ok : ∀ l p, l < 11 → prs (X l) l p → ∃ n, nd (pl l p) = some n ∧ NdOK (X l) pl l p n.W n.ks n.le n.gr n.ch
  inj : ∀ l p l' p', l < 11 → l' < 11 → prs (X l) l p → prs (X l') l' p' → pl l p = pl l' p' → l = l' ∧ p = p'
end T
/-- The int rows lie apart. -/
structure Kids (w : World) (ns : List (Nd × Bool)) (Af : Option Addr) : Prop where
  own : ∀ i (h : i < ns.length), w.ownsRow 0 3 1 (.slice ns[i].1.A ns[i].1.ch.length ns[i].1.c) ns[i].1.ch.length (iw ns[i].1.ch)
  kd : ∀ i j (hi : i < ns.length) (hj : j < ns.length), i ≠ j → ∀ g, ns[i].1.A.map (·.block) = some g → ns[j].1.A.map (·.block) ≠ some g
  kf : ∀ i (hi : i < ns.length) g, ns[i].1.A.map (·.block) = some g → Af.map (·.block) ≠ some g
/-- The trie whole. -/
structure TW (w : World) (P Q M lim tk : Nat) (An : Option Addr) (cn : Nat) (Af : Option Addr) (cf : Nat) (ns : List (Nd × Bool)) (fs : List Nat) (root : Nat) (pl : Nat → Nat → Nat) (xs : List Nat) : Prop where
  row : w.heap[P]? = some (.cells #[.pointer (some ⟨M, 0, none⟩), .pointer (some ⟨Q, 0, none⟩), .int .i64 (root : Int)] 43 (0, 0))
  mx : Mx w M tk
  po : Qo w Q M lim An cn Af cf ns fs
  kids : Kids w ns Af
  tr : T.Tr (fun _ => xs) pl (ndm ns)
  rt : xs ≠ [] → root = pl 0 0
  used : ns.length - fs.length = K.trie xs
  up : K.Up xs
  lt : ∀ x ∈ xs, x < 18446744073709551616
  rl : root < 1048576
/-- The cells of a way. -/
def scl (x : Nd × Nat) : List Value := [.int .u64 (x.1.W : Int), .slice x.1.A x.1.ch.length x.1.c, .int .i64 (x.1.ks : Int), .int .u64 (x.1.le : Int), .int .u64 (x.1.gr : Int), .int .i64 (x.2 : Int)]
def sv (ss : List (Nd × Nat)) : List Value := ss.flatMap scl
theorem sv_snoc (ss : List (Nd × Nat)) (x : Nd × Nat) : sv (ss ++ [x]) = sv ss ++ scl x := by simp [sv]
theorem sv_len (ss : List (Nd × Nat)) : (sv ss).length = ss.length * 6 := by
  induction ss with
  | nil => rfl
  | cons x ss ih =>
    have e : sv (x :: ss) = scl x ++ sv ss := rfl
    rw [e, List.length_append, ih, List.length_cons]
    have : (scl x).length = 6 := rfl
    omega
theorem sv_at : ∀ (ss : List (Nd × Nat)) (k : Nat) (h : k < ss.length) (j : Nat), j < 6 → (sv ss)[k * 6 + j]? = (scl ss[k])[j]?
  | x :: ss, 0, _, j, hj => by
    have e : sv (x :: ss) = scl x ++ sv ss := rfl
    have l6 : (scl x).length = 6 := rfl
    rw [e, List.getElem?_append_left (by omega)]
    simp
  | x :: ss, k + 1, h, j, hj => by
    have ih := sv_at ss k (by simpa using h) j hj
    have e : sv (x :: ss) = scl x ++ sv ss := rfl
    have l6 : (scl x).length = 6 := rfl
    rw [e, List.getElem?_append_right (by omega), l6, show (k + 1) * 6 + j - 6 = k * 6 + j by omega]
    exact ih
/-- A way in memory, in a block of its own that is no older than B. -/
abbrev Wy (w : World) (B : Nat) (v : Value) (ss : List (Nd × Nat)) : Prop := w.ownsRow B 99 6 v ss.length (sv ss)
theorem Wy.at {w : World} {B : Nat} {A : Option Addr} {c : Nat} {ss : List (Nd × Nat)} (h : Wy w B (.slice A ss.length c) ss) {k : Nat} (hk : k < ss.length) : ∃ g, A = some ⟨g, 0, none⟩ ∧ w.cell? ⟨g, k * 6, none⟩ = some (.int .u64 (ss[k].1.W : Int)) ∧ w.cell? ⟨g, k * 6 + 1, none⟩ = some (.slice ss[k].1.A ss[k].1.ch.length ss[k].1.c) ∧ w.cell? ⟨g, k * 6 + 2, none⟩ = some (.int .i64 (ss[k].1.ks : Int)) ∧ w.cell? ⟨g, k * 6 + 3, none⟩ = some (.int .u64 (ss[k].1.le : Int)) ∧ w.cell? ⟨g, k * 6 + 4, none⟩ = some (.int .u64 (ss[k].1.gr : Int)) ∧ w.cell? ⟨g, k * 6 + 5, none⟩ = some (.int .i64 (ss[k].2 : Int)) := by
  obtain ⟨g, rfl⟩ := own_some h (by omega)
  have e : ∀ j, j < 6 → w.cell? ⟨g, k * 6 + j, none⟩ = (scl ss[k])[j]? := fun j hj => (h.cellAt (k * 6 + j) (by omega)).trans (sv_at ss k hk j hj)
  exact ⟨g, rfl, e 0 (by decide), e 1 (by decide), e 2 (by decide), e 3 (by decide), e 4 (by decide), e 5 (by decide)⟩
/-- found: no. -/
theorem t_found_no (w : World) (B : Nat) (A : Option Addr) (c k : Nat) (ss : List (Nd × Nat)) (hl : ss.length < 11) :
    Calls Tryd.prog 48 #[.int .u64 (k : Int), .slice A ss.length c] w fun e w' => e = .returned (.bool false) ∧ ∃ n, w' = w.drewN n := by
  have d : decide (ss.length = 11) = false := decide_eq_false (by omega)
  have d2 : ((ss.length : Int) == 11) = false := by simp; omega
  generalize ss.length = n at *
  go_enter Tryd.func48, Tryd.ntmps48
  go_wp2
  go_quiet (fail)
  go_wp2
  go_ret
  exact ⟨rfl, _, rfl⟩
set_option maxHeartbeats 1000000 in
theorem t_found_at (w : World) (B : Nat) (A : Option Addr) (c k : Nat) (ss : List (Nd × Nat)) (hk : k < 18446744073709551616) (hl : ss.length = 11) (h : Wy w B (.slice A ss.length c) ss) (hW : (ss[10]'(by omega)).1.W < 18446744073709551616) :
    Calls Tryd.prog 48 #[.int .u64 (k : Int), .slice A ss.length c] w fun e w' => e = .returned (.bool (decide (T.dig 10 k ∈ M.bl (ss[10]'(by omega)).1.W))) ∧ ∃ n, w' = w.drewN n := by
  obtain ⟨g, rfl, h0, _⟩ := h.at (k := 10) (by omega)
  have hdl := T.dig_lt 10 k
  have hd := fun N => Lib.hid (t_digit (w.drewN N) k 10 hk (by omega))
  have hg := fun N => Lib.hid (bit_get _ hW ((T.dig 10 k : Nat) : Int) (w.drewN N))
  rw [T.has_bl _ _ hdl] at hg
  generalize (ss[10]'(by omega)).1.W = W at *
  clear h
  rw [hl]
  generalize decide (T.dig 10 k ∈ M.bl W) = b at *
  generalize T.dig 10 k = d at *
  have hd : ∀ N, Hid (Calls Tryd.prog 64 #[.int .u64 (k : Int), .int .i64 10] (w.drewN N) fun e w' => e = .returned (.int .i64 (d : Int)) ∧ w.drewN N = w') := hd
  simp at h0
  go_enter Tryd.func48, Tryd.ntmps48
  go_wp2
  go_quiet (first | (go_at_call 64; exact Calls.quiet_of_same ((hd _).out.mono fun e w' h => ⟨h.1, h.2.symm⟩)) | (go_at_call 68; exact Calls.quiet_of_same ((hg _).out.mono fun e w' h => ⟨h.1, h.2.symm⟩)))
  go_wp2
  go_ret
  exact ⟨rfl, _, rfl⟩
end Go.Proofs.YtbiingpdchoppaaDoor
end
section
namespace Go.Proofs
open Go.Shelf
def Tryd.insH_ren : Go.Shelf.Ren := ⟨fun | 21 => 89 | 27 => 98 | 28 => 99 | 35 => 101 | 39 => 102 | n => n, fun | 22 => 70 | 3 => 3 | 4 => 4 | 0 => 0 | n => n, fun | n => n⟩
theorem Tryd.insH : Go.Proofs.Lays2.n21 Tryd.prog Tryd.insH_ren := {
  mixed := by kernel_rfl
  f21 := Tryd.func89.trans (congrArg some (by kernel_rfl))
  f27 := Tryd.func98.trans (congrArg some (by kernel_rfl))
  f28 := Tryd.func99.trans (congrArg some (by kernel_rfl))
  f35 := Tryd.func101.trans (congrArg some (by kernel_rfl))
  f39 := Tryd.func102.trans (congrArg some (by kernel_rfl))
  t0 := Tryd.underlying0
  a0 := Tryd.isAgg0
  z0 := Tryd.sizeOf0
  v0 := Tryd.zeroValue0
  t3 := Tryd.underlying3
  a3 := Tryd.isAgg3
  z3 := Tryd.sizeOf3
  v3 := Tryd.zeroValue3
  t4 := Tryd.underlying4
  a4 := Tryd.isAgg4
  z4 := Tryd.sizeOf4
  v4 := Tryd.zeroValue4
  t22 := Tryd.underlying70
  a22 := Tryd.isAgg70
  z22 := Tryd.sizeOf70
  v22 := Tryd.zeroValue70
  i3 := by kernel_rfl }
def Tryd.delH_ren : Go.Shelf.Ren := ⟨fun | 45 => 92 | n => n, fun | 22 => 70 | 23 => 3 | 3 => 3 | 4 => 4 | 0 => 0 | n => n, fun | n => n⟩
theorem Tryd.delH : Go.Proofs.SlLaysE.n45 Tryd.prog Tryd.delH_ren := {
  mixed := by kernel_rfl
  f45 := ⟨Tryd.f92.name, by decide, Tryd.func92.trans (congrArg some (by kernel_rfl))⟩
  t0 := Tryd.underlying0
  a0 := Tryd.isAgg0
  z0 := Tryd.sizeOf0
  v0 := Tryd.zeroValue0
  t3 := Tryd.underlying3
  a3 := Tryd.isAgg3
  z3 := Tryd.sizeOf3
  v3 := Tryd.zeroValue3
  t4 := Tryd.underlying4
  a4 := Tryd.isAgg4
  z4 := Tryd.sizeOf4
  v4 := Tryd.zeroValue4
  t22 := Tryd.underlying70
  a22 := Tryd.isAgg70
  z22 := Tryd.sizeOf70
  v22 := Tryd.zeroValue70
  a23 := Tryd.isAgg3
  z23 := Tryd.sizeOf3 }
end Go.Proofs
end
section
namespace Go.Proofs.YtbiingpdchoppaaDoor
set_option maxRecDepth 40000
open Go.RowKit
theorem row_setCells (b : Nat) (T : TypeId) : ∀ (vs : List Value) (o : Nat) (w : World) (cur : Array Value), w.heap[b]? = some (.cells cur T (0, 0)) → o + vs.length ≤ cur.size →
    ∃ cur' : Array Value, (w.setCells b o vs).heap[b]? = some (.cells cur' T (0, 0)) ∧ cur'.size = cur.size ∧ (∀ j, j < o → cur'[j]? = cur[j]?) ∧ (∀ j, j < vs.length → cur'[o + j]? = vs[j]?) ∧ (∀ j, o + vs.length ≤ j → cur'[j]? = cur[j]?)
  | [], o, w, cur, h, _ => ⟨cur, h, rfl, fun _ _ => rfl, fun j hj => by simp at hj, fun _ _ => rfl⟩
  | v :: r, o, w, cur, h, hl => by
    have hl' : o + 1 + r.length ≤ cur.size := by simp at hl; omega
    obtain ⟨cur', h1, h2, h3, h4, h5⟩ := row_setCells b T r (o + 1) (w.setCell ⟨b, o, none⟩ v) (cur.setIfInBounds o v) (row_set h o v) (by rw [Array.size_setIfInBounds]; exact hl')
    refine ⟨cur', h1, by rw [h2, Array.size_setIfInBounds], fun j hj => ?_, fun j hj => ?_, fun j hj => ?_⟩
    · rw [h3 j (by omega), Array.getElem?_setIfInBounds_ne (by omega)]
    · cases j with
      | zero =>
        rw [Nat.add_zero, h3 o (by omega), Array.getElem?_setIfInBounds_self_of_lt (by omega)]
        rfl
      | succ j =>
        rw [show o + (j + 1) = o + 1 + j by omega, h4 j (by simpa using hj)]
        rfl
    · simp at hj
      rw [h5 j (by omega), Array.getElem?_setIfInBounds_ne (by omega)]
theorem chg_setCells (b : Nat) (O : Nat → Prop) (h : O b) : ∀ (vs : List Value) (o : Nat) (w : World), K.Chg w (w.setCells b o vs) O
  | [], _, w => chg_refl w O
  | v :: r, o, w => (chg_set w b o v O h).same (chg_setCells b O h r (o + 1) _)
theorem own_of_row {w : World} {b cap n : Nat} {cur : Array Value} {xs : List Value} (h : w.heap[b]? = some (.cells cur 3 (0, 0))) (hc : cur.size = cap) (hn : n ≤ cap) (hm : cap ≤ maxLen) (hl : xs.length = n) (hx : ∀ j, j < n → cur[j]? = xs[j]?) :
    w.ownsRow 0 3 1 (.slice (some ⟨b, 0, none⟩) n cap) n xs := by
  refine ⟨by omega, .inr ⟨b, cap, cur, rfl, Nat.zero_le _, h, hn, hm, by omega, ?_⟩⟩
  refine List.ext_getElem? fun j => ?_
  rw [List.getElem?_take]
  split
  · rw [Array.getElem?_toList]
    exact hx j (by omega)
  · rw [List.getElem?_eq_none (by omega)]
theorem chg_of_drew {w w' : World} {O : Nat → Prop} (h : K.Chg w.drew w' O) : K.Chg w w' O := ⟨h.os, h.tape, h.output, h.size, h.block⟩
/-- What an insertion leaves. -/
def InsP (w : World) (A : Option Addr) (zs : List Nat) (e : Ending) (w' : World) : Prop :=
  ∃ A' c', e = .returned (.slice A' zs.length c') ∧ w'.ownsRow 0 3 1 (.slice A' zs.length c') zs.length (iw zs) ∧ K.Chg w w' (fun j => A.map (·.block) = some j) ∧ ∀ j, A'.map (·.block) = some j → A.map (·.block) = some j ∨ w.heap.size ≤ j
theorem ins_at (ch : List Nat) (i x : Nat) (hi : i ≤ ch.length) (j : Nat) : (ch.take i ++ x :: ch.drop i)[j]? = if j < i then ch[j]? else if j = i then some x else ch[j - 1]? := by
  have hl : (ch.take i).length = i := by rw [List.length_take]; omega
  rcases Nat.lt_trichotomy j i with h | h | h
  · rw [if_pos h, List.getElem?_append_left (by omega), List.getElem?_take, if_pos h]
  · subst h
    rw [if_neg (by omega), if_pos rfl, List.getElem?_append_right (by omega), hl, Nat.sub_self]
    rfl
  · rw [if_neg (by omega), if_neg (by omega), List.getElem?_append_right (by omega), hl]
    obtain ⟨m, hm⟩ : ∃ m, j - i = m + 1 := ⟨j - i - 1, by omega⟩
    rw [hm, List.getElem?_cons_succ, List.getElem?_drop]
    congr 1
    omega
theorem iw_at (xs : List Nat) (j : Nat) : (iw xs)[j]? = (xs[j]?).map fun i : Nat => Value.int .i64 (i : Int) := by simp [iw]
theorem iw_one (xs : List Nat) : ∀ v ∈ iw xs, v.oneCell' = true := by
  intro v hv
  obtain ⟨x, _, rfl⟩ := List.mem_map.1 hv
  rfl
set_option maxHeartbeats 1000000 in
theorem ins_int (w : World) (A : Option Addr) (c : Nat) (ch : List Nat) (h : w.ownsRow 0 3 1 (.slice A ch.length c) ch.length (iw ch)) (i : Nat) (hi : i ≤ ch.length) (hl : ch.length ≤ 64) (x vb : Nat) (hv : w.heap[vb]? = some (.cells #[.int .i64 (x : Int)] 3 (0, 0))) (hne : A.map (·.block) ≠ some vb) :
    Calls Tryd.prog 89 #[.slice A ch.length c, .int .i64 (i : Int), .slice (some ⟨vb, 0, none⟩) 1 1] w (InsP w A (ch.take i ++ x :: ch.drop i)) := by
  have hzl : (ch.take i ++ x :: ch.drop i).length = ch.length + 1 := by simp; omega
  have hvs : ∀ j v, [Value.int .i64 (x : Int)][j]? = some v → w.cell? ⟨vb, 0 + j, none⟩ = some v := by
    intro j v hj
    match j, hj with
    | 0, hj => cases hj; exact cell_of_row w vb 0 _ _ (0, 0) hv
  have h1v : ∀ v ∈ [Value.int .i64 (x : Int)], v.oneCell' = true := by intro v hv; simp at hv; subst hv; rfl
  unfold InsP
  rw [hzl]
  rcases h.2 with ⟨he, h0⟩ | ⟨b, cap, cur, he, _, hrow, hnc, hcm, hcs, hct⟩
  · -- nil
    simp only [Value.slice.injEq] at he
    obtain ⟨rfl, _, rfl⟩ := he
    have hch : ch = [] := List.length_eq_zero_iff.1 h0
    subst hch
    obtain rfl : i = 0 := by simpa using hi
    refine (Any2.slices_Insert_int_end_grow Tryd.insH none 0 0 vb 0 1 1 [] [.int .i64 (x : Int)] w (by omega) (by omega) (by omega) (by omega) rfl rfl (fun _ => rfl) (fun a ha => by cases ha) hvs h1v).mono ?_
    rintro e w' ⟨rfl, rfl⟩
    have hg := grownCap_ge w (0 + 1) 0 3
    have hgl := grownCap_le_maxLen w (0 + 1) 0 3 (by unfold maxLen; omega)
    rw [show Tryd.insH_ren.t 3 = 3 from rfl]
    generalize grownCap w (0 + 1) 0 3 = G at *
    refine ⟨_, _, rfl, own_of_row (K.alloc_top w.drew _) ?_ hg hgl (by simp) (fun j hj => ?_), chg_of_drew (chg_alloc w.drew _ _), fun j hj => .inr ?_⟩
    · simp [size_zeroCells, Value.cells]
      omega
    · obtain rfl : j = 0 := by simpa using hj
      rw [Array.getElem?_append_left (by simp)]
      rfl
    · cases hj; exact Nat.le_refl _
  · cases he
    have hcl : cur.size = c := by omega
    have hce : ∀ j, j < ch.length → cur[j]? = (iw ch)[j]? := by
      intro j hj
      rw [← hct, List.getElem?_take, if_pos (by omega), Array.getElem?_toList]
    have hcell : ∀ j v, (iw ch)[j]? = some v → w.cell? ⟨b, 0 + j, none⟩ = some v := by
      intro j v hj
      have hjl := (List.getElem?_eq_some_iff.1 hj).1
      rw [Nat.zero_add, cell_of_row w b j _ _ (0, 0) hrow, hce j (by simpa using hjl)]
      exact hj
    have hfz : ∀ j, w.frozen? ⟨b, j, none⟩ = false := fun j => frozen_of_row w b j _ _ hrow
    have hvb : vb ≠ b := fun e => hne (by subst e; rfl)
    by_cases hroom : ch.length + 1 ≤ c
    · have hsome : ∀ j, j < c → (w.cell? ⟨b, j, none⟩).isSome = true := fun j hj => by
        rw [cell_of_row w b j _ _ (0, 0) hrow]
        simp; omega
      by_cases hin : i < ch.length
      · have hsa : w.shape? vb = some (3, 1) := by simp [World.shape?, hv]
        have hsb : w.shape? b = some (3, c) := by simp [World.shape?, hrow, hcl]
        refine (Any2.slices_Insert_int_shift Tryd.insH b 0 ch.length c i vb 0 1 1 (iw ch) [.int .i64 (x : Int)] w hin (by omega) hroom (by unfold maxLen at hcm; omega) hvb (by simp) rfl hcell
          (fun j hj => by rw [Nat.zero_add]; exact hsome j (by omega)) (fun j _ => hfz _) hvs (iw_one ch) h1v 3 3 1 c hsa hsb (by omega) (frozen_of_row w vb 0 _ _ hv) (frozen_of_row w vb 1 _ _ hv)).mono ?_
        rintro e w' ⟨rfl, rfl⟩
        obtain ⟨cur1, r1, s1, a1, b1, c1⟩ := row_setCells b 3 ((iw ch).drop i) (0 + (i + 1)) w.drew cur hrow (by simp; omega)
        obtain ⟨cur2, r2, s2, a2, b2, c2⟩ := row_setCells b 3 [.int .i64 (x : Int)] (0 + i) _ cur1 r1 (by simp; omega)
        refine ⟨_, _, rfl, own_of_row r2 (by omega) hroom hcm (by simpa using hzl) (fun j hj => ?_), chg_of_drew ((chg_setCells b (fun j => some b = some j) rfl _ _ w.drew).same (chg_setCells b (fun j => some b = some j) rfl _ _ _)), fun j hj => .inl hj⟩
        rw [iw_at, ins_at ch i x hi]
        rcases Nat.lt_trichotomy j i with h2 | h2 | h2
        · rw [a2 j (by omega), a1 j (by omega), hce j (by omega), if_pos h2, iw_at]
        · subst h2
          have := b2 0 (by simp)
          simp at this
          rw [if_neg (by omega), if_pos rfl, this]
          rfl
        · rw [c2 j (by simp; omega)]
          have hjj : j = 0 + (i + 1) + (j - i - 1) := by omega
          have := b1 (j - i - 1) (by simp; omega)
          rw [← hjj] at this
          rw [this, if_neg (by omega), if_neg (by omega), List.getElem?_drop, iw_at]
          congr 2
          omega
      · obtain rfl : i = ch.length := by omega
        refine (Any2.slices_Insert_int_end_room Tryd.insH b 0 ch.length c vb 0 1 1 [.int .i64 (x : Int)] w (by omega) hroom (by unfold maxLen at hcm; omega) rfl
          (fun j hj => by rw [Nat.zero_add]; exact hsome _ (by omega)) (fun j _ => hfz _) hvs h1v).mono ?_
        rintro e w' ⟨rfl, rfl⟩
        obtain ⟨cur2, r2, s2, a2, b2, c2⟩ := row_setCells b 3 [.int .i64 (x : Int)] (0 + ch.length) w cur hrow (by simp; omega)
        refine ⟨_, _, rfl, own_of_row r2 (by omega) hroom hcm (by simp) (fun j hj => ?_), chg_setCells b (fun j => some b = some j) rfl _ _ w, fun j hj => .inl hj⟩
        rw [iw_at, ins_at ch ch.length x hi]
        rcases Nat.lt_or_ge j ch.length with h2 | h2
        · rw [a2 j (by omega), hce j (by omega), if_pos h2, iw_at]
        · obtain rfl : j = ch.length := by omega
          have := b2 0 (by simp)
          simp at this
          rw [if_neg (by omega), if_pos rfl, this]
          rfl
    · have hg := grownCap_ge w (ch.length + 1) c 3
      have hgl := grownCap_le_maxLen w (ch.length + 1) c 3 (by unfold maxLen; omega)
      have ht3 : (Tryd.insH_ren.t 3) = 3 := rfl
      by_cases hin : i < ch.length
      · refine (Any2.slices_Insert_int_grow Tryd.insH b 0 ch.length c i vb 0 1 1 (iw ch) [.int .i64 (x : Int)] w hin (by omega) hnc (by omega) (by omega) (by simp) rfl hcell hvs (iw_one ch) h1v).mono ?_
        rintro e w' ⟨rfl, rfl⟩
        rw [ht3]
        obtain ⟨cur0, hc0⟩ : ∃ cur0, cur0 = ((iw ch).take i).toArray ++ Builtin.zeroCells (Value.int .i64 0).cells (ch.length + 1 - i) ++ Builtin.zeroCells (Value.int .i64 0).cells (grownCap w (ch.length + 1) c 3 - (ch.length + 1)) := ⟨_, rfl⟩
        rw [← hc0]
        have hs0 : cur0.size = grownCap w (ch.length + 1) c 3 := by
          rw [hc0]
          simp [size_zeroCells, Value.cells]
          omega
        have he0 : ∀ j, j < i → cur0[j]? = (iw ch)[j]? := by
          intro j hj
          rw [hc0, Array.append_assoc, Array.getElem?_append_left (by simp; omega)]
          rw [List.getElem?_toArray, List.getElem?_take, if_pos hj]
        have r0 : ((w.alloc (.cells cur0 3)).drew).heap[w.heap.size]? = some (.cells cur0 3 (0, 0)) := K.alloc_top w _
        obtain ⟨cur1, r1, s1, a1, b1, c1⟩ := row_setCells w.heap.size 3 [.int .i64 (x : Int)] i _ cur0 r0 (by simp; omega)
        obtain ⟨cur2, r2, s2, a2, b2, c2⟩ := row_setCells w.heap.size 3 ((iw ch).drop i) (i + 1) _ cur1 (show ((((w.alloc (.cells cur0 3)).drew).setCells w.heap.size i [.int .i64 (x : Int)]).drew).heap[w.heap.size]? = _ from r1) (by simp; omega)
        refine ⟨_, _, rfl, own_of_row r2 (by omega) hg hgl (by simpa using hzl) (fun j hj => ?_), ?_, fun j hj => .inr (by cases hj; exact Nat.le_refl _)⟩
        · rw [iw_at, ins_at ch i x hi]
          rcases Nat.lt_trichotomy j i with h2 | h2 | h2
          · rw [a2 j (by omega), a1 j (by omega), he0 j h2, if_pos h2, iw_at]
          · subst h2
            have := b1 0 (by simp)
            simp at this
            rw [a2 j (by omega), if_neg (by omega), if_pos rfl, this]
            rfl
          · have hjj : j = i + 1 + (j - i - 1) := by omega
            have := b2 (j - i - 1) (by simp; omega)
            rw [← hjj] at this
            rw [this, if_neg (by omega), if_neg (by omega), List.getElem?_drop, iw_at]
            congr 2
            omega
        · have k1 : K.Chg w ((w.alloc (.cells cur0 3)).drew) (fun j => some b = some j) := (chg_alloc w _ _).drewN 1
          have k2 := k1.trans (chg_setCells w.heap.size (· = w.heap.size) rfl [.int .i64 (x : Int)] i _) (fun j hj => .inr (by omega))
          exact (k2.drewN 1).trans (chg_setCells w.heap.size (· = w.heap.size) rfl ((iw ch).drop i) (i + 1) _) (fun j hj => .inr (by omega))
      · obtain rfl : i = ch.length := by omega
        refine (Any2.slices_Insert_int_end_grow Tryd.insH (some ⟨b, 0, none⟩) ch.length c vb 0 1 1 (iw ch) [.int .i64 (x : Int)] w (by omega) hnc (by omega) (by omega) (by simp) rfl (fun ha => by cases ha) (fun a ha j v hj => by
          cases ha
          rw [add_off]
          have := hcell j v hj
          rwa [Nat.zero_add] at this) hvs h1v).mono ?_
        rintro e w' ⟨rfl, rfl⟩
        rw [ht3]
        refine ⟨_, _, rfl, own_of_row (K.alloc_top w.drew _) ?_ hg hgl (by simp) (fun j hj => ?_), chg_of_drew (chg_alloc w.drew _ _), fun j hj => .inr (by cases hj; exact Nat.le_refl _)⟩
        · simp [size_zeroCells, Value.cells]
          omega
        · rw [iw_at, ins_at ch ch.length x hi, Array.getElem?_append_left (by simp; omega), List.getElem?_toArray]
          rcases Nat.lt_or_ge j ch.length with h2 | h2
          · rw [List.getElem?_append_left (by simpa using h2), if_pos h2, iw_at]
          · obtain rfl : j = ch.length := by omega
            rw [if_neg (by omega), if_pos rfl, List.getElem?_append_right (by simp)]
            simp
end Go.Proofs.YtbiingpdchoppaaDoor
end
