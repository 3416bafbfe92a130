
/- The trie in memory: what its nodes are, told by the keys; the way down to a key; found; the texts walked. -/
import Derived.Test.YtndielncleohlaaDoorQ4
import Derived.Test.YtndielncleohlaaDoorU1
namespace Go.Proofs.YtndielncleohlaaDoor
set_option maxRecDepth 40000
open Go.RowKit
/-- The node at a place that is taken. -/
def ndm (ns : List (Nd × Bool)) (i : Nat) : Option Nd := match ns[i]? with | some (n, true) => some n | _ => none
theorem ndm_some {ns : List (Nd × Bool)} {i : Nat} {n : Nd} (h : ndm ns i = some n) : ∃ hi : i < ns.length, ns[i] = (n, true) := by
  unfold ndm at h
  split at h
  · rename_i n' e
    obtain ⟨hi, e2⟩ := List.getElem?_eq_some_iff.1 e
    cases h
    exact ⟨hi, e2⟩
  · cases h
theorem ndm_of {ns : List (Nd × Bool)} {i : Nat} {n : Nd} (h : ns[i]? = some (n, true)) : ndm ns i = some n := by unfold ndm; rw [h]
namespace T
/-- At each level l the nodes are those of the keys X l. -/
structure Tr (X : Nat → List Nat) (pl : Nat → Nat → Nat) (nd : Nat → Option Nd) : Prop where
  ok : ∀ l p, l < 11 → prs (X l) l p → ∃ n, nd (pl l p) = some n ∧ NdOK (X l) pl l p n.W n.ks n.le n.gr n.ch
  inj : ∀ l p l' p', l < 11 → l' < 11 → prs (X l) l p → prs (X l') l' p' → pl l p = pl l' p' → l = l' ∧ p = p'
end T
/-- The int rows lie apart. -/
structure Kids (w : World) (ns : List (Nd × Bool)) (Af : Option Addr) : Prop where
  own : ∀ i (h : i < ns.length), w.ownsRow 0 3 1 (.slice ns[i].1.A ns[i].1.ch.length ns[i].1.c) ns[i].1.ch.length (iw ns[i].1.ch)
  kd : ∀ i j (hi : i < ns.length) (hj : j < ns.length), i ≠ j → ∀ g, ns[i].1.A.map (·.block) = some g → ns[j].1.A.map (·.block) ≠ some g
  kf : ∀ i (hi : i < ns.length) g, ns[i].1.A.map (·.block) = some g → Af.map (·.block) ≠ some g
/-- The trie whole. -/
structure TW (w : World) (P Q M lim tk : Nat) (An : Option Addr) (cn : Nat) (Af : Option Addr) (cf : Nat) (ns : List (Nd × Bool)) (fs : List Nat) (root : Nat) (pl : Nat → Nat → Nat) (xs : List Nat) : Prop where
  row : w.heap[P]? = some (.cells #[.pointer (some ⟨M, 0, none⟩), .pointer (some ⟨Q, 0, none⟩), .int .i64 (root : Int)] 43 (0, 0))
  mx : Mx w M tk
  po : Qo w Q M lim An cn Af cf ns fs
  kids : Kids w ns Af
  tr : T.Tr (fun _ => xs) pl (ndm ns)
  rt : xs ≠ [] → root = pl 0 0
  used : ns.length - fs.length = K.trie xs
  up : K.Up xs
  lt : ∀ x ∈ xs, x < 18446744073709551616
  rl : root < 1048576
/-- The cells of a way. -/
def scl (x : Nd × Nat) : List Value := [.int .u64 (x.1.W : Int), .slice x.1.A x.1.ch.length x.1.c, .int .i64 (x.1.ks : Int), .int .u64 (x.1.le : Int), .int .u64 (x.1.gr : Int), .int .i64 (x.2 : Int)]
def sv (ss : List (Nd × Nat)) : List Value := ss.flatMap scl
theorem sv_snoc (ss : List (Nd × Nat)) (x : Nd × Nat) : sv (ss ++ [x]) = sv ss ++ scl x := by simp [sv]
theorem sv_len (ss : List (Nd × Nat)) : (sv ss).length = ss.length * 6 := by
  induction ss with
  | nil => rfl
  | cons x ss ih =>
    have e : sv (x :: ss) = scl x ++ sv ss := rfl
    rw [e, List.length_append, ih, List.length_cons]
    have : (scl x).length = 6 := rfl
    omega
theorem sv_at : ∀ (ss : List (Nd × Nat)) (k : Nat) (h : k < ss.length) (j : Nat), j < 6 → (sv ss)[k * 6 + j]? = (scl ss[k])[j]?
  | x :: ss, 0, _, j, hj => by
    have e : sv (x :: ss) = scl x ++ sv ss := rfl
    have l6 : (scl x).length = 6 := rfl
    rw [e, List.getElem?_append_left (by omega)]
    simp
  | x :: ss, k + 1, h, j, hj => by
    have ih := sv_at ss k (by simpa using h) j hj
    have e : sv (x :: ss) = scl x ++ sv ss := rfl
    have l6 : (scl x).length = 6 := rfl
    rw [e, List.getElem?_append_right (by omega), l6, show (k + 1) * 6 + j - 6 = k * 6 + j by omega]
    exact ih
/-- A way in memory, in a block of its own that is no older than B. -/
abbrev Wy (w : World) (B : Nat) (v : Value) (ss : List (Nd × Nat)) : Prop := w.ownsRow B 99 6 v ss.length (sv ss)
theorem Wy.at {w : World} {B : Nat} {A : Option Addr} {c : Nat} {ss : List (Nd × Nat)} (h : Wy w B (.slice A ss.length c) ss) {k : Nat} (hk : k < ss.length) : ∃ g, A = some ⟨g, 0, none⟩ ∧ w.cell? ⟨g, k * 6, none⟩ = some (.int .u64 (ss[k].1.W : Int)) ∧ w.cell? ⟨g, k * 6 + 1, none⟩ = some (.slice ss[k].1.A ss[k].1.ch.length ss[k].1.c) ∧ w.cell? ⟨g, k * 6 + 2, none⟩ = some (.int .i64 (ss[k].1.ks : Int)) ∧ w.cell? ⟨g, k * 6 + 3, none⟩ = some (.int .u64 (ss[k].1.le : Int)) ∧ w.cell? ⟨g, k * 6 + 4, none⟩ = some (.int .u64 (ss[k].1.gr : Int)) ∧ w.cell? ⟨g, k * 6 + 5, none⟩ = some (.int .i64 (ss[k].2 : Int)) := by
  obtain ⟨g, rfl⟩ := own_some h (by omega)
  have e : ∀ j, j < 6 → w.cell? ⟨g, k * 6 + j, none⟩ = (scl ss[k])[j]? := fun j hj => (h.cellAt (k * 6 + j) (by omega)).trans (sv_at ss k hk j hj)
  exact ⟨g, rfl, e 0 (by decide), e 1 (by decide), e 2 (by decide), e 3 (by decide), e 4 (by decide), e 5 (by decide)⟩
/-- found: no. -/
theorem t_found_no (w : World) (B : Nat) (A : Option Addr) (c k : Nat) (ss : List (Nd × Nat)) (hl : ss.length < 11) :
    Calls Tryd.prog 48 #[.int .u64 (k : Int), .slice A ss.length c] w fun e w' => e = .returned (.bool false) ∧ ∃ n, w' = w.drewN n := by
  have d : decide (ss.length = 11) = false := decide_eq_false (by omega)
  have d2 : ((ss.length : Int) == 11) = false := by simp; omega
  generalize ss.length = n at *
  go_enter Tryd.func48, Tryd.ntmps48
  go_wp2
  go_quiet (fail)
  go_wp2
  go_ret
  exact ⟨rfl, _, rfl⟩
set_option maxHeartbeats 1000000 in
theorem t_found_at (w : World) (B : Nat) (A : Option Addr) (c k : Nat) (ss : List (Nd × Nat)) (hk : k < 18446744073709551616) (hl : ss.length = 11) (h : Wy w B (.slice A ss.length c) ss) (hW : (ss[10]'(by omega)).1.W < 18446744073709551616) :
    Calls Tryd.prog 48 #[.int .u64 (k : Int), .slice A ss.length c] w fun e w' => e = .returned (.bool (decide (T.dig 10 k ∈ M.bl (ss[10]'(by omega)).1.W))) ∧ ∃ n, w' = w.drewN n := by
  obtain ⟨g, rfl, h0, _⟩ := h.at (k := 10) (by omega)
  have hdl := T.dig_lt 10 k
  have hd := fun N => Lib.hid (t_digit (w.drewN N) k 10 hk (by omega))
  have hg := fun N => Lib.hid (bit_get _ hW ((T.dig 10 k : Nat) : Int) (w.drewN N))
  rw [T.has_bl _ _ hdl] at hg
  generalize (ss[10]'(by omega)).1.W = W at *
  clear h
  rw [hl]
  generalize decide (T.dig 10 k ∈ M.bl W) = b at *
  generalize T.dig 10 k = d at *
  have hd : ∀ N, Hid (Calls Tryd.prog 64 #[.int .u64 (k : Int), .int .i64 10] (w.drewN N) fun e w' => e = .returned (.int .i64 (d : Int)) ∧ w.drewN N = w') := hd
  simp at h0
  go_enter Tryd.func48, Tryd.ntmps48
  go_wp2
  go_quiet (first | (go_at_call 64; exact Calls.quiet_of_same ((hd _).out.mono fun e w' h => ⟨h.1, h.2.symm⟩)) | (go_at_call 68; exact Calls.quiet_of_same ((hg _).out.mono fun e w' h => ⟨h.1, h.2.symm⟩)))
  trace_state
  go_wp2
  go_ret
  exact ⟨rfl, _, rfl⟩
end Go.Proofs.YtndielncleohlaaDoor
