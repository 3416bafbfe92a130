
/- A pool in memory: its places and the freed ones, rows of its own. -/
import Derived.Test.YtihhkdcgnnfkkaaCMeter
import Derived.Test.YtihhkdcgnnfkkaaButC
import Derived.Lib.Hide
import Derived.OwnWalk
import Derived.Laws.OwnMore
import Derived.Below
import Derived.LoopTactic
import Derived.Outline
import Derived.RegionTactic
import Derived.Deep.QuietTactic
import Derived.BigQuiet
import Derived.Maps.AppendAt
import Derived.Deep.AppendLies
namespace Go.Proofs.Ytihhkdcgnnfkkaa.Pp
set_option maxRecDepth 4000
open Go.RowKit
theorem own_form {w : World} {base : Nat} {e : TypeId} {size n : Nat} {v : Value} {xs : List Value} (h : w.ownsRow base e size v n xs) : ∃ A c, v = .slice A n c := by
  rcases h.2 with ⟨rfl, rfl⟩ | ⟨g, cap, cur, rfl, _⟩
  · exact ⟨none, 0, rfl⟩
  · exact ⟨_, _, rfl⟩
/-- The cells of places: a value, and is it taken? -/
def nv (ns : List (Nat × Bool)) : List Value := ns.flatMap fun x => [Value.int .u64 (x.1 : Int), Value.bool x.2]
abbrev iv (fs : List Nat) : List Value := fs.map fun i : Nat => Value.int .i64 (i : Int)
theorem nv_cons (x : Nat × Bool) (ns : List (Nat × Bool)) : nv (x :: ns) = Value.int .u64 (x.1 : Int) :: Value.bool x.2 :: nv ns := rfl
theorem nv_snoc (ns : List (Nat × Bool)) (x : Nat × Bool) : nv (ns ++ [x]) = nv ns ++ [Value.int .u64 (x.1 : Int), Value.bool x.2] := by simp [nv]
theorem nv_len (ns : List (Nat × Bool)) : (nv ns).length = ns.length * 2 := by
  induction ns with
  | nil => rfl
  | cons x ns ih => rw [nv_cons, List.length_cons, List.length_cons, ih, List.length_cons]; omega
theorem nv_at : ∀ (ns : List (Nat × Bool)) (k : Nat) (h : k < ns.length), (nv ns)[k * 2]? = some (.int .u64 (ns[k].1 : Int)) ∧ (nv ns)[k * 2 + 1]? = some (.bool ns[k].2)
  | x :: ns, 0, _ => ⟨rfl, rfl⟩
  | x :: ns, k + 1, h => by
    have ih := nv_at ns k (by simpa using h)
    have e1 : (k + 1) * 2 = k * 2 + 1 + 1 := by omega
    have e2 : (k + 1) * 2 + 1 = k * 2 + 1 + 1 + 1 := by omega
    rw [e1, nv_cons, List.getElem?_cons_succ, List.getElem?_cons_succ]
    refine ⟨ih.1, ?_⟩
    rw [List.getElem?_cons_succ, List.getElem?_cons_succ]
    exact ih.2
theorem nv_set : ∀ (ns : List (Nat × Bool)) (k : Nat) (v : Nat) (b : Bool), k < ns.length → ((nv ns).set (k * 2) (.int .u64 (v : Int))).set (k * 2 + 1) (.bool b) = nv (ns.set k (v, b))
  | x :: ns, 0, v, b, _ => rfl
  | x :: ns, k + 1, v, b, h => by
    have ih := nv_set ns k v b (by simpa using h)
    have e1 : (k + 1) * 2 = k * 2 + 1 + 1 := by omega
    rw [e1, nv_cons, List.set_cons_succ, List.set_cons_succ, List.set_cons_succ, List.set_cons_succ, ih, List.set_cons_succ, nv_cons]
theorem nv_put : ∀ (ns : List (Nat × Bool)) (k : Nat) (v : Nat) (h : k < ns.length), (nv ns).set (k * 2) (.int .u64 (v : Int)) = nv (ns.set k (v, ns[k].2))
  | x :: ns, 0, v, _ => rfl
  | x :: ns, k + 1, v, h => by
    have ih := nv_put ns k v (by simpa using h)
    have e1 : (k + 1) * 2 = k * 2 + 1 + 1 := by omega
    rw [e1, nv_cons, List.set_cons_succ, List.set_cons_succ, ih, List.set_cons_succ, nv_cons]
    rfl
/-- The blocks of a pool: P its struct, the rows of its places and of the freed ones. -/
def PB (P : Nat) (An Af : Option Addr) (j : Nat) : Prop := j = P ∨ An.map (·.block) = some j ∨ Af.map (·.block) = some j
/-- Block P is a pool's struct: its meter, its limit, its places, the freed ones. -/
structure Po (w : World) (B P M lim : Nat) (An : Option Addr) (cn : Nat) (Af : Option Addr) (cf : Nat) (ns : List (Nat × Bool)) (fs : List Nat) : Prop where
  row : w.heap[P]? = some (.cells #[.pointer (some ⟨M, 0, none⟩), .int .i64 (lim : Int), .slice An ns.length cn, .slice Af fs.length cf] 76 (0, 0))
  nodes : w.ownsRow B 84 2 (.slice An ns.length cn) ns.length (nv ns)
  freed : w.ownsRow B 3 1 (.slice Af fs.length cf) fs.length (iv fs)
  base : B ≤ P
  n1 : ∀ a, An = some a → a.block ≠ P
  n2 : ∀ a, Af = some a → a.block ≠ P
  n3 : ∀ a b, An = some a → Af = some b → a.block ≠ b.block
  inr : ∀ i ∈ fs, i < ns.length
  lim_le : lim ≤ 1048576
  ns_le : ns.length ≤ 2097152
  fs_le : fs.length ≤ ns.length
section
variable {w w' : World} {B P M lim cn cf : Nat} {An Af : Option Addr} {ns : List (Nat × Bool)} {fs : List Nat}
theorem Po.c0 (h : Po w B P M lim An cn Af cf ns fs) : w.cell? ⟨P, 0, none⟩ = some (.pointer (some ⟨M, 0, none⟩)) := cell_of_row w P 0 _ _ (0, 0) h.row
theorem Po.c1 (h : Po w B P M lim An cn Af cf ns fs) : w.cell? ⟨P, 1, none⟩ = some (.int .i64 (lim : Int)) := cell_of_row w P 1 _ _ (0, 0) h.row
theorem Po.c2 (h : Po w B P M lim An cn Af cf ns fs) : w.cell? ⟨P, 2, none⟩ = some (.slice An ns.length cn) := cell_of_row w P 2 _ _ (0, 0) h.row
theorem Po.c3 (h : Po w B P M lim An cn Af cf ns fs) : w.cell? ⟨P, 3, none⟩ = some (.slice Af fs.length cf) := cell_of_row w P 3 _ _ (0, 0) h.row
theorem Po.fr (h : Po w B P M lim An cn Af cf ns fs) (k : Nat) : w.frozen? ⟨P, k, none⟩ = false := by
  have := h.row
  simp [World.frozen?, this]
theorem Po.lt (h : Po w B P M lim An cn Af cf ns fs) : P < w.heap.size := (Array.getElem?_eq_some_iff.1 h.row).1
theorem Po.pb (h : Po w B P M lim An cn Af cf ns fs) {j : Nat} (hj : PB P An Af j) : B ≤ j ∧ j < w.heap.size := by
  rcases hj with rfl | hj | hj
  · exact ⟨h.base, h.lt⟩
  · refine h.nodes.lt j ?_
    cases An with
    | none => simp at hj
    | some a => simp at hj; simp [Value.ownBlock, hj]
  · refine h.freed.lt j ?_
    cases Af with
    | none => simp at hj
    | some a => simp at hj; simp [Value.ownBlock, hj]
theorem Po.drew (h : Po w B P M lim An cn Af cf ns fs) (n : Nat) : Po (w.drewN n) B P M lim An cn Af cf ns fs :=
  ⟨h.row, h.nodes, h.freed, h.base, h.n1, h.n2, h.n3, h.inr, h.lim_le, h.ns_le, h.fs_le⟩
theorem Po.but {S : Nat → Prop} (h : Po w B P M lim An cn Af cf ns fs) (b : ButS w w' S) (hS : ∀ j, PB P An Af j → ¬ S j) : Po w' B P M lim An cn Af cf ns fs :=
  ⟨(b.block P h.lt (hS P (.inl rfl))).trans h.row,
   b.own h.nodes (fun k hk => hS k (.inr (.inl (by cases An with | none => simp [Value.ownBlock] at hk | some a => simpa [Value.ownBlock] using hk)))),
   b.own h.freed (fun k hk => hS k (.inr (.inr (by cases Af with | none => simp [Value.ownBlock] at hk | some a => simpa [Value.ownBlock] using hk)))),
   h.base, h.n1, h.n2, h.n3, h.inr, h.lim_le, h.ns_le, h.fs_le⟩
/-- Place i, where it lies. -/
theorem Po.at (h : Po w B P M lim An cn Af cf ns fs) {i : Nat} (hi : i < ns.length) : ∃ g, An = some ⟨g, 0, none⟩ ∧ g ≠ P ∧ w.cell? ⟨g, i * 2, none⟩ = some (.int .u64 (ns[i].1 : Int)) ∧ w.cell? ⟨g, i * 2 + 1, none⟩ = some (.bool ns[i].2) ∧ ∀ k, w.frozen? ⟨g, k, none⟩ = false := by
  obtain ⟨g, rfl⟩ := own_some h.nodes (by omega)
  have h1 := nv_at ns i hi
  exact ⟨g, rfl, h.n1 _ rfl, (h.nodes.cellAt (i * 2) (by omega)).trans h1.1, (h.nodes.cellAt (i * 2 + 1) (by omega)).trans h1.2, fun k => h.nodes.frozenAt k⟩
end
end Go.Proofs.Ytihhkdcgnnfkkaa.Pp
