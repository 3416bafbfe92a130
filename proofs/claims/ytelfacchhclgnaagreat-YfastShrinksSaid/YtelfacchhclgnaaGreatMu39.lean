/- An iterator over an iterator that also writes blocks of its own: what the inner range keeps. A region that draws its order and only reads, within a round of a range over a function: walked as outside one. A region that draws its order, in a round of a range over a function: walked as outside one, with a state that holds behind each operation. The trie's mathematics: the next key above, the last one below, told by the way. Buckets in a list: plain. -/
import Derived.Sort.QuietIn
import Derived.OwnWalkIn
import Derived.Shelf.RegionOpen
import Derived.Deep.RegionHeld
import Derived.TacticsIn
import Derived.Test.YtelfacchhclgnaaGreatMu04
import Derived.Test.YtelfacchhclgnaaGreatMu08
section
namespace Go.Proofs.YtelfacchhclgnaaGreat
open Go.RowKit Go.Shelf
/-- A state of blocks Rt, and of Z. -/
def YFr (Z : Nat → Prop) (Y : (Nat → Prop) → World → Prop) : Prop := ∀ Rt W W' R, Y Rt W → ButS W W' R → (∀ j, j < W.heap.size → R j → ¬ Z j ∧ ¬ Rt j) → Y Rt W'
/-- What the inner loop keeps: Rt are the blocks that the outer iterator writes. -/
def IKY {β : Type} (Z S : Nat → Prop) (Wq : World) (Y : (Nat → Prop) → World → Prop) (J : List β → (Nat → Prop) → World → Prop) (ys : List β) (O : Nat → Prop) (W : World) : Prop :=
  ∃ Rt : Nat → Prop, (∀ j, O j → ¬ Z j ∧ ¬ S j ∧ j < W.heap.size) ∧ (∀ j, Rt j → O j) ∧ ButS Wq W (fun j => ¬ (Z j ∨ S j)) ∧ Y Rt W ∧ J ys (fun j => j < W.heap.size ∧ ¬ Z j ∧ (¬ O j ∨ Rt j)) W
section
variable {β : Type} {Z S : Nat → Prop} {Wq : World} {Y : (Nat → Prop) → World → Prop} {J : List β → (Nat → Prop) → World → Prop}
theorem IKY.abides {α : Type} (f : List α → List β) (hJ : Steps J) (hY : YFr Z Y) (hZ : ∀ j, Z j → j < Wq.heap.size) : Abides Wq.heap.size (fun pre => IKY Z S Wq Y J (f pre)) := by
  intro s O W W' R ⟨Rt, h1, hr, h2, hy, h3⟩ hw hR
  refine ⟨Rt, fun j hj => ⟨(h1 j hj).1, (h1 j hj).2.1, Nat.lt_of_lt_of_le (h1 j hj).2.2 hw.size⟩, hr, h2.then hw (fun j hj => .inr (hR j hj).2), hY _ _ _ _ hy hw (fun j _ hj => ⟨fun hz => by have := hZ j hz; have := (hR j hj).2; omega, fun h => (hR j hj).1 (hr j h)⟩), ?_⟩
  refine hJ _ _ _ _ _ h3 (hw.mono fun j hlt hj => ⟨hlt, fun hz => by have := hZ j hz; have := (hR j hj).2; omega, .inl (hR j hj).1⟩) (fun j hj => ⟨?_, hj.1⟩)
  by_cases hlt : j < W.heap.size
  · exact .inl ⟨hlt, hj.2.1, hj.2.2⟩
  · exact .inr (by omega)
/-- The outer iterator has written its own blocks, and laid others. -/
theorem IKY.wrote {ys : List β} {O Rt : Nat → Prop} {W W1 : World} (h1 : ∀ j, O j → ¬ Z j ∧ ¬ S j ∧ j < W.heap.size) (hr : ∀ j, Rt j → O j) (h2 : ButS Wq W (fun j => ¬ (Z j ∨ S j))) (h3 : J ys (fun j => j < W.heap.size ∧ ¬ Z j ∧ (¬ O j ∨ Rt j)) W) (hJ : Steps J) (hZ : ∀ j, Z j → j < Wq.heap.size) (hS : ∀ j, S j → j < Wq.heap.size)
    (b : ButS W W1 Rt) (hy2 : Y (fun j => Rt j ∨ (W.heap.size ≤ j ∧ j < W1.heap.size)) W1) :
    ∃ O', OwnStep O O' W W1 ∧ IKY Z S Wq Y J ys O' W1 := by
  have hsz := b.size
  have hs2 := h2.size
  refine ⟨fun j => O j ∨ (W.heap.size ≤ j ∧ j < W1.heap.size), ⟨b.mono fun j _ hj => hr j hj, fun j hj => ?_⟩, fun j => Rt j ∨ (W.heap.size ≤ j ∧ j < W1.heap.size), fun j hj => ?_, fun j hj => ?_, h2.then b (fun j hj => .inl (fun hz => ?_)), hy2, hJ _ _ _ _ _ h3 (b.mono fun j hlt hj => ⟨hlt, (h1 j (hr j hj)).1, .inr hj⟩) (fun j hj => ⟨?_, hj.1⟩)⟩
  · rcases hj with hj | hj
    · exact ⟨.inl hj, by have := (h1 j hj).2.2; omega⟩
    · exact ⟨.inr hj.1, hj.2⟩
  · rcases hj with hj | hj
    · exact ⟨(h1 j hj).1, (h1 j hj).2.1, by have := (h1 j hj).2.2; omega⟩
    · exact ⟨fun hz => by have := hZ j hz; omega, fun hz => by have := hS j hz; omega, hj.2⟩
  · rcases hj with hj | hj
    · exact .inl (hr j hj)
    · exact .inr hj
  · rcases hz with hz | hz
    · exact (h1 j (hr j hj)).1 hz
    · exact (h1 j (hr j hj)).2.1 hz
  · obtain ⟨q1, q2, q3⟩ := hj
    by_cases hlt : j < W.heap.size
    · refine .inl ⟨hlt, q2, ?_⟩
      rcases q3 with q3 | q3 | q3
      · exact .inl (fun h => q3 (.inl h))
      · exact .inr q3
      · omega
    · exact .inr (by omega)
/-- The body has written: a key more is told. -/
theorem IKY.next {ys' : List β} {O : Nat → Prop} {W1 W' : World} {J' : List β → (Nat → Prop) → World → Prop} {Rt : Nat → Prop} (h1 : ∀ j, O j → ¬ Z j ∧ ¬ S j ∧ j < W1.heap.size) (hr : ∀ j, Rt j → O j) (h2 : ButS Wq W1 (fun j => ¬ (Z j ∨ S j))) (hy : Y Rt W1) (hJ : Steps J') (hY : YFr Z Y) (hSl : ∀ j, S j → j < Wq.heap.size ∧ ¬ Z j)
    (hj : J' ys' (fun j => j < W1.heap.size ∧ ¬ Z j ∧ (¬ O j ∨ Rt j)) W') (b : ButS W1 W' (fun j => ¬ (Z j ∨ (j < W1.heap.size ∧ ¬ Z j ∧ (¬ O j ∨ Rt j))))) : ∃ O', OwnStep O O' W1 W' ∧ IKY Z S Wq Y J' ys' O' W' := by
  have hs := b.size
  have hs2 := h2.size
  refine ⟨fun j => j < W'.heap.size ∧ ¬ Z j ∧ ¬ (j < W1.heap.size ∧ ¬ Z j ∧ ¬ O j), ⟨b.mono (fun j hlt hj => ?_), fun j hj => ⟨?_, hj.1⟩⟩, Rt, fun j hj => ⟨hj.2.1, fun hS => ?_, hj.1⟩, fun j hj => ?_, h2.then b (fun j hj => ?_), hY _ _ _ _ hy b (fun j hlt hj => ⟨fun hz => hj (.inl hz), fun ht => hj (.inr ⟨hlt, (h1 j (hr j ht)).1, .inr ht⟩)⟩), hJ _ _ _ _ _ hj (ButS.refl _ _) (fun j hj => ⟨?_, hj.1⟩)⟩
  · exact Classical.byContradiction fun ho => hj (Classical.byContradiction fun hn => hn (.inr ⟨hlt, fun hz => hn (.inl hz), .inl ho⟩))
  · by_cases hlt : j < W1.heap.size
    · exact .inl (Classical.byContradiction fun ho => hj.2.2 ⟨hlt, hj.2.1, ho⟩)
    · exact .inr (by omega)
  · exact hj.2.2 ⟨by have := (hSl j hS).1; omega, hj.2.1, fun ho => (h1 j ho).2.1 hS⟩
  · have := h1 j (hr j hj)
    exact ⟨by omega, this.1, fun h => h.2.2 (hr j hj)⟩
  · by_cases hlt : j < Wq.heap.size
    · refine .inl (fun h => hj ?_)
      rcases h with h | h
      · exact .inl h
      · exact .inr ⟨by omega, (hSl j h).2, .inl (fun ho => (h1 j ho).2.1 h)⟩
    · exact .inr (by omega)
  · obtain ⟨q1, q2, q3⟩ := hj
    refine .inl ?_
    rcases q3 with q3 | q3
    · have : j < W1.heap.size ∧ ¬ Z j ∧ ¬ O j := Classical.byContradiction fun h => q3 ⟨q1, q2, h⟩
      exact ⟨this.1, this.2.1, .inl this.2.2⟩
    · exact ⟨(h1 j (hr j q3)).2.2, q2, .inr q3⟩
end
end Go.Proofs.YtelfacchhclgnaaGreat
end
section
namespace Go.Proofs.YtelfacchhclgnaaGreat
open Go.RowKit
section
variable {F : Fence} {n : Nat} {P : Program}
def noDefer (ops : Array Oper) : Bool := ops.toList.all fun o => match o.op with | .defer _ => false | _ => true
theorem noDefer_at {ops : Array Oper} (h : noDefer ops = true) {i : Nat} {o : Oper} (ho : ops[i]? = some o) (c : Call) : o.op ≠ .defer c := by
  intro e
  have := List.all_eq_true.1 h o (by
    obtain ⟨hi, hio⟩ := Array.getElem?_eq_some_iff.1 ho
    rw [← hio]; exact Array.getElem_mem_toList hi)
  rw [e] at this
  simp at this
theorem upon_round (l : Nat) (o : Oper) (a : Act) (K : Act → World → Prop) (Q : Exit → Act → World → Prop) (r : Result Next) (h : o.uponIn F n P a K Q r) : o.uponIn (F.inRound l) n P a K Q r := h
theorem wpOpIn_round {ops : Array Oper} {Q : Exit → Act → World → Prop} (l : Nat) (hd : noDefer ops = true) {i : Nat} {K : Act → World → Prop} {a : Act} {w : World} (h : wpOpIn F n P ops Q i K a w) : wpOpIn (F.inRound l) n P ops Q i K a w := by
  unfold wpOpIn at h ⊢
  cases ho : ops[i]? with
  | none => simp only [ho] at h ⊢; exact h
  | some o =>
    simp only [ho] at h ⊢
    by_cases hw : Region.wanted o (yielded ops a.tmps) = true
    · rw [if_pos hw] at h ⊢
      unfold Oper.wpIn at h ⊢
      rw [Oper.semAt_plain F _ _ (noDefer_at hd ho)] at h
      rw [Oper.semAt_plain (F.inRound l) _ _ (noDefer_at hd ho)]
      exact ⟨h.1, upon_round l o a K Q _ h.2⟩
    · rw [if_neg hw] at h ⊢
      exact h
theorem wpAnyIn_round {ops : Array Oper} {md : Region.Mode} {Q : Exit → Act → World → Prop} (l : Nat) (hd : noDefer ops = true) : ∀ (fuel : Nat) (listed : Array Bool) (a : Act) (w : World), wpAnyIn F n P md ops Q fuel listed a w → wpAnyIn (F.inRound l) n P md ops Q fuel listed a w
  | 0, _, _, _, h => h
  | fuel + 1, _, _, _, h => ⟨h.1, fun i hi => wpOpIn_round l hd (wpOpIn_mono (fun _ _ h => wpAnyIn_round l hd fuel _ _ _ h) (h.2 i hi))⟩
end
end Go.Proofs.YtelfacchhclgnaaGreat
end
section
namespace Go.Proofs.YtelfacchhclgnaaGreat
open Go.RowKit
section
variable {n : Nat} {P : Program}
theorem rowsIn_of_rows {row : String} {args : Array Value} {w : World} {R : Value → World → Prop} (h : Rows P row args w R) : RowsIn Fence.wide n P row args w R :=
  fun c cs _ => let ⟨v, w', r, s⟩ := h c cs; ⟨v, w', r, stepsIn_wide.2 s⟩
theorem uponIn_of_upon {o : Oper} {a : Act} {K : Act → World → Prop} {Q : Exit → Act → World → Prop} : ∀ {r : Result Next}, o.upon P a K Q r → o.uponIn Fence.wide n P a K Q r
  | .ok (.value _) _, h => h
  | .ok .skip _, h => h
  | .ok (.defer _) _, h => h
  | .ok (.enter _ _) _, h => ⟨(fun e => by cases e), callsIn_wide.2 h⟩
  | .ok (.row _ _) _, h => ⟨(fun e => by cases e), rowsIn_of_rows h⟩
  | .halt (.panic _) _, h => h
theorem wpOpIn_of {ops : Array Oper} {Q : Exit → Act → World → Prop} (hlo : ¬ LetsOut Q) {i : Nat} {K : Act → World → Prop} {a : Act} {w : World} (h : wpOp P ops Q i K a w) : wpOpIn Fence.wide n P ops Q i K a w := by
  unfold wpOp at h
  unfold wpOpIn
  cases ho : ops[i]? with
  | none => simp only [ho] at h ⊢; exact h
  | some o =>
    simp only [ho] at h ⊢
    by_cases hw : Region.wanted o (yielded ops a.tmps) = true
    · rw [if_pos hw] at h ⊢
      rcases h with h | ⟨_, h⟩
      · exact ⟨fun _ _ => trivial, uponIn_of_upon h⟩
      · exact absurd h hlo
    · rw [if_neg hw] at h ⊢
      exact ⟨fun _ _ => trivial, h⟩
theorem wpAnyIn_of {ops : Array Oper} {md : Region.Mode} {Q : Exit → Act → World → Prop} (hlo : ¬ LetsOut Q) : ∀ (fuel : Nat) (listed : Array Bool) (a : Act) (w : World), wpAny P md ops Q fuel listed a w → wpAnyIn Fence.wide n P md ops Q fuel listed a w
  | 0, _, _, _, h => h
  | fuel + 1, _, _, _, h => ⟨h.1, fun i hi => wpOpIn_of hlo (wpOp_mono (fun _ _ h => wpAnyIn_of hlo fuel _ _ _ h) (h.2 i hi))⟩
/-- The region in a round, with S. -/
theorem wpIn_region_held_round {id : Nat} {Q : Exit → Act → World → Prop} {a : Act} {w : World} {ops : Array Oper} {l : Nat} (S : World → Prop) (hm : P.follows .mixedOrders = true) (hd : noDefer ops = true) (hlo : ¬ LetsOut Q) (hS : S w.drew)
    (h : S w.drew → wpAnyH P .any ops Q S ops.size (Array.replicate ops.size false) a w.drew) : (Code.region id ops true).wpIn (Fence.wide.inRound l) n P Q a w :=
  wpIn_region_any hm (wpAnyIn_round l hd _ _ _ _ (wpAnyIn_of hlo _ _ _ _ (wpAny_of_held _ _ _ _ (h hS))))
end
end Go.Proofs.YtelfacchhclgnaaGreat
end
section
namespace Go.Proofs.YtelfacchhclgnaaGreat
set_option maxRecDepth 20000
namespace T
/-- What the document's lists say of the next and of the last. -/
theorem nx_yes {xs : List Nat} (h : K.Up xs) {k : Nat} (hk : k ∈ xs) : K.nx xs k = k ∧ K.nxb xs k = true := by
  obtain ⟨h1, h2⟩ := K.fo_lt ((K.fo_mem h k).2 hk)
  unfold K.nx K.nxb
  rw [List.getElem?_eq_getElem h1, h2]
  exact ⟨rfl, decide_eq_true h1⟩
theorem nx_above {xs : List Nat} (h : K.Up xs) {k y : Nat} (hk : k ∉ xs) (hy : y ∈ xs) (hlt : k < y) (hm : ∀ x ∈ xs, k < x → y ≤ x) : K.nx xs k = y ∧ K.nxb xs k = true := by
  obtain ⟨j, hj, rfl⟩ := List.getElem_of_mem hy
  have h1 : K.fi xs k ≤ j := by
    rcases Nat.lt_or_ge j (K.fi xs k) with h2 | h2
    · have := (K.fi_lt h2).2; omega
    · exact h2
  have h2 := K.fi_at (xs := xs) (k := k) (by omega)
  have h3 : xs[K.fi xs k]'(by omega) ≠ k := fun e => hk (e ▸ List.getElem_mem _)
  have h4 := hm (xs[K.fi xs k]'(by omega)) (List.getElem_mem _) (by omega)
  have h5 : K.fi xs k = j := by
    rcases Nat.lt_or_ge (K.fi xs k) j with h6 | h6
    · have := K.up_lt h h6 hj; omega
    · omega
  unfold K.nx K.nxb
  rw [h5, List.getElem?_eq_getElem hj]
  exact ⟨rfl, decide_eq_true hj⟩
theorem nx_none {xs : List Nat} {k : Nat} (hk : k ∉ xs) (hm : ∀ x ∈ xs, x ≤ k) : K.nx xs k = 0 ∧ K.nxb xs k = false := by
  have h1 : ¬ K.fi xs k < xs.length := fun h => by
    have h2 := K.fi_at h
    have h3 := hm _ (List.getElem_mem h)
    have h4 : xs[K.fi xs k] = k := by omega
    exact hk (h4 ▸ List.getElem_mem h)
  unfold K.nx K.nxb
  rw [List.getElem?_eq_none (by omega)]
  exact ⟨rfl, decide_eq_false h1⟩
theorem pv_yes {xs : List Nat} (h : K.Up xs) {k : Nat} (hk : k ∈ xs) : K.pv xs k = k ∧ K.pvb xs k = true := by
  have hf := (K.fo_mem h k).2 hk
  unfold K.pv K.pvb
  rw [if_pos hf, hf]
  exact ⟨rfl, rfl⟩
theorem pv_below {xs : List Nat} (h : K.Up xs) {k y : Nat} (hk : k ∉ xs) (hy : y ∈ xs) (hlt : y < k) (hm : ∀ x ∈ xs, x < k → x ≤ y) : K.pv xs k = y ∧ K.pvb xs k = true := by
  obtain ⟨j, hj, rfl⟩ := List.getElem_of_mem hy
  have hf : ¬ K.fo xs k = true := fun h2 => hk ((K.fo_mem h k).1 h2)
  have h1 : j < K.fi xs k := by
    rcases Nat.lt_or_ge j (K.fi xs k) with h2 | h2
    · exact h2
    · have h3 := K.fi_at (xs := xs) (k := k) (by omega)
      rcases Nat.eq_or_lt_of_le h2 with h4 | h4
      · have : xs[K.fi xs k]'(by omega) = xs[j] := by congr 1
        omega
      · have := K.up_lt h h4 hj; omega
  have h5 : K.fi xs k - 1 = j := by
    have h6 := K.fi_le xs k
    rcases Nat.lt_or_ge j (K.fi xs k - 1) with h7 | h7
    · have h8 := (K.fi_lt (xs := xs) (k := k) (j := K.fi xs k - 1) (by omega)).2
      have h9 := hm _ (List.getElem_mem (l := xs) (n := K.fi xs k - 1) (by omega)) h8
      have h10 := K.up_lt h h7 (by omega)
      omega
    · omega
  unfold K.pv K.pvb
  rw [if_neg hf, if_neg (by omega), h5, List.getElem?_eq_getElem hj]
  refine ⟨rfl, ?_⟩
  have : decide (K.fi xs k = 0) = false := decide_eq_false (by omega)
  rw [this]
  simp
theorem pv_none {xs : List Nat} (h : K.Up xs) {k : Nat} (hk : k ∉ xs) (hm : ∀ x ∈ xs, k ≤ x) : K.pv xs k = 0 ∧ K.pvb xs k = false := by
  have hf : ¬ K.fo xs k = true := fun h2 => hk ((K.fo_mem h k).1 h2)
  have h1 : K.fi xs k = 0 := by
    rcases Nat.eq_zero_or_pos (K.fi xs k) with h2 | h2
    · exact h2
    · obtain ⟨h3, h4⟩ := K.fi_lt h2
      have := hm _ (List.getElem_mem h3)
      omega
  unfold K.pv K.pvb
  rw [if_neg hf, if_pos h1]
  have : K.fo xs k = false := by simpa using hf
  rw [this, decide_eq_true h1]
  exact ⟨rfl, rfl⟩
end T
end Go.Proofs.YtelfacchhclgnaaGreat
end
section
namespace Go.Proofs.YtelfacchhclgnaaGreat
set_option maxRecDepth 20000
open Go.RowKit
namespace Bk
/-- Representatives, each with its bucket's keys. -/
abbrev BL := List (Nat × List Nat)
def keys (l : BL) : List Nat := l.flatMap (·.2)
def reps (l : BL) : List Nat := l.map (·.1)
/-- A bucket by itself. -/
def Good (b : Nat × List Nat) : Prop := b.2 ≠ [] ∧ b.2.length ≤ 128 ∧ K.Up b.2 ∧ ∀ x ∈ b.2, b.1 ≤ x ∧ x < 18446744073709551616
/-- One bucket ahead of another one. -/
def Ahead (b c : Nat × List Nat) : Prop := b.1 < c.1 ∧ ∀ x ∈ b.2, x < c.1
structure Ok (l : BL) : Prop where
  pw : l.Pairwise Ahead
  good : ∀ b ∈ l, Good b
  fst : ∀ b l', l = b :: l' → b.1 = 0
theorem keys_app (a b : BL) : keys (a ++ b) = keys a ++ keys b := by simp [keys]
theorem keys_cons (b : Nat × List Nat) (l : BL) : keys (b :: l) = b.2 ++ keys l := by simp [keys]
theorem mem_keys {l : BL} {x : Nat} : x ∈ keys l ↔ ∃ b ∈ l, x ∈ b.2 := by simp [keys, List.mem_flatMap]
theorem Ok.kup {l : BL} (h : Ok l) : K.Up (keys l) := by
  unfold keys K.Up
  rw [List.pairwise_flatMap]
  refine ⟨fun b hb => (h.good b hb).2.2.1, ?_⟩
  refine List.Pairwise.imp_of_mem ?_ h.pw
  intro b c hb hc hbc x hx y hy
  exact Nat.lt_of_lt_of_le (hbc.2 x hx) ((h.good c hc).2.2.2 y hy).1
theorem Ok.rup {l : BL} (h : Ok l) : K.Up (reps l) := by
  unfold reps K.Up
  rw [List.pairwise_map]
  exact h.pw.imp fun hb => hb.1
theorem Ok.rbnd {l : BL} (h : Ok l) {b : Nat × List Nat} (hb : b ∈ l) : b.1 < 18446744073709551616 := by
  obtain ⟨h1, _, _, h4⟩ := h.good b hb
  obtain ⟨x, hx⟩ := List.exists_mem_of_ne_nil _ h1
  have := h4 x hx
  omega
/-- The bucket of a key. -/
theorem split_at : ∀ (l : BL) (b : Nat × List Nat), (b :: l).Pairwise Ahead → ∀ k, b.1 ≤ k → ∃ L1 c L2, b :: l = L1 ++ c :: L2 ∧ c.1 ≤ k ∧ ∀ d ∈ L2, k < d.1
  | [], b, _, k, hk => ⟨[], b, [], rfl, hk, fun d hd => by cases hd⟩
  | e :: l, b, h, k, hk => by
    rw [List.pairwise_cons] at h
    by_cases he : e.1 ≤ k
    · obtain ⟨L1, c, L2, h1, h2, h3⟩ := split_at l e h.2 k he
      exact ⟨b :: L1, c, L2, by rw [h1]; rfl, h2, h3⟩
    · refine ⟨[], b, e :: l, rfl, hk, fun d hd => ?_⟩
      rcases List.mem_cons.1 hd with rfl | hd
      · omega
      · have := ((List.pairwise_cons.1 h.2).1 d hd).1
        omega
theorem Ok.at {l : BL} (h : Ok l) (hl : l ≠ []) (k : Nat) : ∃ L1 c L2, l = L1 ++ c :: L2 ∧ c.1 ≤ k ∧ ∀ d ∈ L2, k < d.1 := by
  cases l with
  | nil => exact absurd rfl hl
  | cons b l => exact split_at l b h.pw k (by rw [h.fst b l rfl]; exact Nat.zero_le _)
section
variable {L1 L2 : BL} {c : Nat × List Nat} {k : Nat}
theorem Ok.pv (h : Ok (L1 ++ c :: L2)) (h1 : c.1 ≤ k) (h2 : ∀ d ∈ L2, k < d.1) : K.pvb (reps (L1 ++ c :: L2)) k = true ∧ K.pv (reps (L1 ++ c :: L2)) k = c.1 := by
  have hm : c.1 ∈ reps (L1 ++ c :: L2) := by simp [reps]
  by_cases e : k = c.1
  · subst e
    have := T.pv_yes h.rup hm
    exact ⟨this.2, this.1⟩
  · have hlt : ∀ x ∈ reps (L1 ++ c :: L2), x ≤ k → x ≤ c.1 := fun x hx hk => by
      unfold reps at hx
      rw [List.mem_map] at hx
      obtain ⟨d, hd, rfl⟩ := hx
      rcases List.mem_append.1 hd with hd | hd
      · exact Nat.le_of_lt ((List.pairwise_append.1 h.pw).2.2 d hd c (by simp)).1
      · rcases List.mem_cons.1 hd with rfl | hd
        · exact Nat.le_refl _
        · have := h2 d hd
          omega
    have hk : k ∉ reps (L1 ++ c :: L2) := fun hk => by have := hlt k hk (Nat.le_refl _); omega
    have := T.pv_below h.rup hk hm (by omega) (fun x hx hxk => hlt x hx (by omega))
    exact ⟨this.2, this.1⟩
theorem Ok.before (h : Ok (L1 ++ c :: L2)) : ∀ x ∈ keys L1, x < c.1 := fun x hx => by
  obtain ⟨b, hb, hx⟩ := mem_keys.1 hx
  exact ((List.pairwise_append.1 h.pw).2.2 b hb c (by simp)).2 x hx
theorem Ok.behind (h : Ok (L1 ++ c :: L2)) : ∀ d ∈ L2, c.1 < d.1 ∧ (∀ x ∈ c.2, x < d.1) ∧ ∀ x ∈ d.2, d.1 ≤ x := fun d hd => by
  have h1 := (List.pairwise_cons.1 (List.pairwise_append.1 h.pw).2.1).1 d hd
  exact ⟨h1.1, h1.2, fun x hx => ((h.good d (by simp [hd])).2.2.2 x hx).1⟩
/-- A key is in its bucket, or nowhere. -/
theorem Ok.has (h : Ok (L1 ++ c :: L2)) (h1 : c.1 ≤ k) (h2 : ∀ d ∈ L2, k < d.1) : k ∈ keys (L1 ++ c :: L2) ↔ k ∈ c.2 := by
  rw [keys_app, keys_cons, List.mem_append, List.mem_append]
  refine ⟨fun hk => ?_, fun hk => .inr (.inl hk)⟩
  rcases hk with hk | hk | hk
  · have := h.before k hk
    omega
  · exact hk
  · obtain ⟨d, hd, hk⟩ := mem_keys.1 hk
    have := h2 d hd
    have := (h.behind d hd).2.2 k hk
    omega
theorem Ok.fo (h : Ok (L1 ++ c :: L2)) (h1 : c.1 ≤ k) (h2 : ∀ d ∈ L2, k < d.1) : K.fo (keys (L1 ++ c :: L2)) k = K.fo c.2 k := by
  rw [Bool.eq_iff_iff, K.fo_mem h.kup, K.fo_mem (h.good c (by simp)).2.2.1]
  exact h.has h1 h2
theorem Ok.cup (h : Ok (L1 ++ c :: L2)) : Good c := h.good c (by simp)
/-- A bucket in another one's place. -/
theorem Ok.swap (h : Ok (L1 ++ c :: L2)) (ys : List Nat) (hg : Good (c.1, ys)) (hb : ∀ d ∈ L2, ∀ x ∈ ys, x < d.1) : Ok (L1 ++ (c.1, ys) :: L2) := by
  obtain ⟨p1, p2, p3⟩ := List.pairwise_append.1 h.pw
  obtain ⟨p4, p5⟩ := List.pairwise_cons.1 p2
  refine ⟨List.pairwise_append.2 ⟨p1, List.pairwise_cons.2 ⟨fun d hd => ⟨(p4 d hd).1, hb d hd⟩, p5⟩, fun b hb' d hd => ?_⟩, fun b hb' => ?_, fun b l' e => ?_⟩
  · rcases List.mem_cons.1 hd with rfl | hd
    · exact p3 b hb' c (by simp)
    · exact p3 b hb' d (by simp [hd])
  · rcases List.mem_append.1 hb' with hb' | hb'
    · exact h.good b (by simp [hb'])
    · rcases List.mem_cons.1 hb' with rfl | hb'
      · exact hg
      · exact h.good b (by simp [hb'])
  · cases L1 with
    | nil =>
      injection e with e _
      rw [← e]
      exact h.fst c L2 rfl
    | cons a L1 =>
      injection e with e _
      rw [← e]
      exact h.fst a _ rfl
theorem good_add (h : Good c) (hk : k < 18446744073709551616) (h1 : c.1 ≤ k) (hl : (K.add c.2 k).length ≤ 128) : Good (c.1, K.add c.2 k) := by
  obtain ⟨g1, g2, g3, g4⟩ := h
  refine ⟨fun e => ?_, hl, K.add_up g3 k, fun x hx => ?_⟩
  · have := (K.add_mem g3 k k).2 (.inl rfl)
    rw [show K.add c.2 k = [] from e] at this
    cases this
  · rcases (K.add_mem g3 k x).1 hx with rfl | hx
    · exact ⟨h1, hk⟩
    · exact g4 x hx
/-- A key more in a bucket. -/
theorem Ok.more (h : Ok (L1 ++ c :: L2)) (hk : k < 18446744073709551616) (h1 : c.1 ≤ k) (h2 : ∀ d ∈ L2, k < d.1) (hl : (K.add c.2 k).length ≤ 128) : Ok (L1 ++ (c.1, K.add c.2 k) :: L2) := by
  refine h.swap _ (good_add h.cup hk h1 hl) (fun d hd x hx => ?_)
  rcases (K.add_mem h.cup.2.2.1 k x).1 hx with rfl | hx
  · exact h2 d hd
  · exact (h.behind d hd).2.1 x hx
/-- A bucket is parted. -/
theorem Ok.part (h : Ok (L1 ++ c :: L2)) (xs : List Nat) (y : Nat) (ys : List Nat) (hu : K.Up (xs ++ y :: ys)) (hm : ∀ x ∈ xs ++ y :: ys, c.1 ≤ x ∧ x < 18446744073709551616) (hb : ∀ d ∈ L2, ∀ x ∈ xs ++ y :: ys, x < d.1) (hx : xs ≠ []) (l1 : xs.length ≤ 128) (l2 : (y :: ys).length ≤ 128) : Ok (L1 ++ (c.1, xs) :: (y, y :: ys) :: L2) := by
  obtain ⟨u1, u2, u3⟩ := List.pairwise_append.1 hu
  have hxm : ∀ x ∈ xs, x ∈ xs ++ y :: ys := fun x h => List.mem_append_left _ h
  have hym : ∀ x ∈ y :: ys, x ∈ xs ++ y :: ys := fun x h => List.mem_append_right _ h
  have h0 := h.swap xs ⟨hx, l1, u1, fun x h => hm x (hxm x h)⟩ (fun d hd x h => hb d hd x (hxm x h))
  obtain ⟨p1, p2, p3⟩ := List.pairwise_append.1 h0.pw
  obtain ⟨p4, p5⟩ := List.pairwise_cons.1 p2
  have hy : c.1 < y := by
    obtain ⟨x, hx'⟩ := List.exists_mem_of_ne_nil _ hx
    have := (hm x (hxm x hx')).1
    have := u3 x hx' y (by simp)
    omega
  refine ⟨List.pairwise_append.2 ⟨p1, List.pairwise_cons.2 ⟨fun d hd => ?_, List.pairwise_cons.2 ⟨fun d hd => ⟨?_, fun x h => hb d hd x (hym x h)⟩, p5⟩⟩, fun b hb' d hd => ?_⟩, fun b hb' => ?_, fun b l' e => ?_⟩
  · rcases List.mem_cons.1 hd with rfl | hd
    · exact ⟨hy, fun x h => u3 x h y (by simp)⟩
    · exact p4 d hd
  · exact hb d hd y (hym y (by simp))
  · rcases List.mem_cons.1 hd with rfl | hd
    · exact p3 b hb' _ (by simp)
    · rcases List.mem_cons.1 hd with rfl | hd
      · have := p3 b hb' (c.1, xs) (by simp)
        exact ⟨Nat.lt_trans this.1 hy, fun x h => Nat.lt_trans (this.2 x h) hy⟩
      · exact p3 b hb' d (by simp [hd])
  · rcases List.mem_append.1 hb' with hb' | hb'
    · exact h0.good b (by simp [hb'])
    · rcases List.mem_cons.1 hb' with rfl | hb'
      · exact h0.good _ (by simp)
      · rcases List.mem_cons.1 hb' with rfl | hb'
        · refine ⟨by simp, l2, u2, fun x h => ⟨?_, (hm x (hym x h)).2⟩⟩
          rcases List.mem_cons.1 h with rfl | h
          · exact Nat.le_refl _
          · exact Nat.le_of_lt ((List.pairwise_cons.1 u2).1 x h)
        · exact h0.good b (by simp [hb'])
  · cases L1 with
    | nil =>
      injection e with e _
      rw [← e]
      exact h0.fst _ _ rfl
    | cons a L1 =>
      injection e with e _
      rw [← e]
      exact h.fst a _ rfl
end
theorem Ok.nil : Ok [] := ⟨List.Pairwise.nil, (fun b hb => by cases hb), (fun b l' e => by cases e)⟩
theorem Ok.one {k : Nat} (hk : k < 18446744073709551616) : Ok [(0, [k])] := by
  refine ⟨List.pairwise_singleton _ _, fun b hb => ?_, fun b l' e => ?_⟩
  · obtain rfl := List.mem_singleton.1 hb
    refine ⟨by simp, by simp, List.pairwise_singleton _ _, fun x hx => ?_⟩
    obtain rfl := List.mem_singleton.1 hx
    exact ⟨Nat.zero_le _, hk⟩
  · injection e with e _
    rw [← e]
/-- All its keys, behind a change in one bucket. -/
theorem keys_swap (L1 L2 : BL) (r : Nat) (ys : List Nat) : keys (L1 ++ (r, ys) :: L2) = keys L1 ++ ys ++ keys L2 := by
  rw [keys_app, keys_cons, List.append_assoc]
theorem keys_part (L1 L2 : BL) (r y : Nat) (xs ys : List Nat) : keys (L1 ++ (r, xs) :: (y, ys) :: L2) = keys L1 ++ (xs ++ ys) ++ keys L2 := by
  rw [keys_app, keys_cons, keys_cons, List.append_assoc, List.append_assoc]
theorem nx_is {xs : List Nat} (h : K.Up xs) {k y : Nat} (hy : y ∈ xs) (hk : k ≤ y) (hm : ∀ x ∈ xs, k ≤ x → y ≤ x) : K.nx xs k = y ∧ K.nxb xs k = true := by
  by_cases e : k ∈ xs
  · have h1 := hm k e (Nat.le_refl _)
    obtain rfl : k = y := by omega
    exact T.nx_yes h e
  · refine T.nx_above h e hy ?_ (fun x hx hkx => hm x hx (by omega))
    rcases Nat.lt_or_ge k y with h1 | h1
    · exact h1
    · obtain rfl : k = y := by omega
      exact absurd hy e
theorem nx_not {xs : List Nat} {k : Nat} (hm : ∀ x ∈ xs, x < k) : K.nx xs k = 0 ∧ K.nxb xs k = false :=
  T.nx_none (fun h => by have := hm k h; omega) (fun x hx => Nat.le_of_lt (hm x hx))
theorem nx_char {xs : List Nat} (h : K.Up xs) (k : Nat) : (K.nxb xs k = true ∧ K.nx xs k ∈ xs ∧ k ≤ K.nx xs k ∧ ∀ x ∈ xs, k ≤ x → K.nx xs k ≤ x) ∨ (K.nxb xs k = false ∧ K.nx xs k = 0 ∧ ∀ x ∈ xs, x < k) := by
  by_cases hl : K.fi xs k < xs.length
  · have ha := K.fi_at hl
    have hy : xs[K.fi xs k] ∈ xs := List.getElem_mem hl
    have hm : ∀ x ∈ xs, k ≤ x → xs[K.fi xs k] ≤ x := fun x hx hkx => by
      obtain ⟨j, hj, rfl⟩ := List.getElem_of_mem hx
      rcases Nat.lt_or_ge j (K.fi xs k) with hlt | hge
      · obtain ⟨_, h2⟩ := K.fi_lt hlt
        omega
      · rcases Nat.lt_or_ge (K.fi xs k) j with h3 | h3
        · exact Nat.le_of_lt (List.pairwise_iff_getElem.1 h _ _ hl hj h3)
        · obtain rfl : j = K.fi xs k := by omega
          exact Nat.le_refl _
    obtain ⟨e1, e2⟩ := nx_is h hy ha hm
    rw [e1]
    exact .inl ⟨e2, hy, ha, hm⟩
  · have hm : ∀ x ∈ xs, x < k := fun x hx => by
      obtain ⟨j, hj, rfl⟩ := List.getElem_of_mem hx
      obtain ⟨_, h2⟩ := K.fi_lt (xs := xs) (k := k) (j := j) (by omega)
      exact h2
    obtain ⟨e1, e2⟩ := nx_not hm
    exact .inr ⟨e2, e1, hm⟩
theorem pv_is {xs : List Nat} (h : K.Up xs) {k y : Nat} (hy : y ∈ xs) (hk : y ≤ k) (hm : ∀ x ∈ xs, x ≤ k → x ≤ y) : K.pv xs k = y ∧ K.pvb xs k = true := by
  by_cases e : k ∈ xs
  · have h1 := hm k e (Nat.le_refl _)
    obtain rfl : k = y := by omega
    exact T.pv_yes h e
  · refine T.pv_below h e hy ?_ (fun x hx hkx => hm x hx (by omega))
    rcases Nat.lt_or_ge y k with h1 | h1
    · exact h1
    · obtain rfl : k = y := by omega
      exact absurd hy e
theorem pv_not {xs : List Nat} (h : K.Up xs) {k : Nat} (hm : ∀ x ∈ xs, k < x) : K.pv xs k = 0 ∧ K.pvb xs k = false :=
  T.pv_none h (fun h => by have := hm k h; omega) (fun x hx => Nat.le_of_lt (hm x hx))
theorem pv_char {xs : List Nat} (h : K.Up xs) (k : Nat) : (K.pvb xs k = true ∧ K.pv xs k ∈ xs ∧ K.pv xs k ≤ k ∧ ∀ x ∈ xs, x ≤ k → x ≤ K.pv xs k) ∨ (K.pvb xs k = false ∧ K.pv xs k = 0 ∧ ∀ x ∈ xs, k < x) := by
  by_cases hex : ∃ y ∈ xs, y ≤ k ∧ ∀ x ∈ xs, x ≤ k → x ≤ y
  · obtain ⟨y, hy, hk, hm⟩ := hex
    obtain ⟨e1, e2⟩ := pv_is h hy hk hm
    rw [e1]
    exact .inl ⟨e2, hy, hk, hm⟩
  · have hm : ∀ x ∈ xs, k < x := fun x hx => by
      apply Classical.byContradiction
      intro hn
      apply hex
      clear hex
      induction xs with
      | nil => cases hx
      | cons a xs ih =>
        obtain ⟨h1, h2⟩ := List.pairwise_cons.1 h
        by_cases hq : ∃ z ∈ xs, z ≤ k
        · obtain ⟨z, hz, hzk⟩ := hq
          obtain ⟨y, hy, hyk, hym⟩ := (Classical.em (z ∈ xs)).elim (fun hz => (show ∃ y ∈ xs, y ≤ k ∧ ∀ x ∈ xs, x ≤ k → x ≤ y from by
            clear ih hx hn
            induction xs generalizing z a with
            | nil => cases hz
            | cons b xs ih2 =>
              obtain ⟨g1, g2⟩ := List.pairwise_cons.1 h2
              by_cases hq2 : ∃ z ∈ xs, z ≤ k
              · obtain ⟨z2, hz2, hzk2⟩ := hq2
                obtain ⟨y, hy, hyk, hym⟩ := ih2 b h2 g1 g2 z2 hz2 hzk2 hz2
                exact ⟨y, by simp [hy], hyk, fun x hx hxk => by
                  rcases List.mem_cons.1 hx with rfl | hx
                  · exact Nat.le_of_lt (g1 y hy)
                  · exact hym x hx hxk⟩
              · rcases List.mem_cons.1 hz with rfl | hz
                · exact ⟨z, by simp, hzk, fun x hx hxk => by
                    rcases List.mem_cons.1 hx with rfl | hx
                    · exact Nat.le_refl _
                    · exact absurd ⟨x, hx, hxk⟩ hq2⟩
                · exact absurd ⟨z, hz, hzk⟩ hq2)) (fun hn => absurd hz hn)
          exact ⟨y, by simp [hy], hyk, fun x hx hxk => by
            rcases List.mem_cons.1 hx with rfl | hx
            · exact Nat.le_of_lt (h1 y hy)
            · exact hym x hx hxk⟩
        · rcases List.mem_cons.1 hx with rfl | hx
          · exact ⟨x, by simp, by omega, fun z hz hzk => by
              rcases List.mem_cons.1 hz with rfl | hz
              · exact Nat.le_refl _
              · exact absurd ⟨z, hz, hzk⟩ hq⟩
          · exact absurd ⟨x, hx, by omega⟩ hq
    obtain ⟨e1, e2⟩ := pv_not h hm
    exact .inr ⟨e2, e1, hm⟩
section
variable {L1 L2 : BL} {c : Nat × List Nat} {k : Nat}
theorem mem3 {x : Nat} : x ∈ keys (L1 ++ c :: L2) ↔ x ∈ keys L1 ∨ x ∈ c.2 ∨ x ∈ keys L2 := by
  rw [keys_app, keys_cons, List.mem_append, List.mem_append]
theorem Ok.after (h : Ok (L1 ++ c :: L2)) : ∀ d ∈ L2, ∀ x ∈ c.2, x < d.1 := fun d hd => (h.behind d hd).2.1
theorem Ok.next (h : Ok (L1 ++ c :: L2)) (h1 : c.1 ≤ k) (h2 : ∀ d ∈ L2, k < d.1) :
    (K.nxb c.2 k = true ∧ K.nx (keys (L1 ++ c :: L2)) k = K.nx c.2 k ∧ K.nxb (keys (L1 ++ c :: L2)) k = true) ∨
    (K.nxb c.2 k = false ∧ ((L2 = [] ∧ K.nx (keys (L1 ++ c :: L2)) k = 0 ∧ K.nxb (keys (L1 ++ c :: L2)) k = false) ∨ ∃ d L3, L2 = d :: L3 ∧ K.nx (keys (L1 ++ c :: L2)) k = K.nx d.2 k ∧ K.nxb (keys (L1 ++ c :: L2)) k = K.nxb d.2 k)) := by
  have hL1 : ∀ x ∈ keys L1, x < k := fun x hx => Nat.lt_of_lt_of_le (h.before x hx) h1
  rcases nx_char h.cup.2.2.1 k with ⟨e, m1, m2, m3⟩ | ⟨e, _, hlt⟩
  · refine .inl ⟨e, ?_⟩
    refine nx_is h.kup (mem3.2 (.inr (.inl m1))) m2 (fun x hx hkx => ?_)
    rcases mem3.1 hx with hx | hx | hx
    · have := hL1 x hx
      omega
    · exact m3 x hx hkx
    · obtain ⟨d, hd, hx⟩ := mem_keys.1 hx
      have q1 := h.after d hd _ m1
      have q2 := (h.behind d hd).2.2 x hx
      omega
  · refine .inr ⟨e, ?_⟩
    cases L2 with
    | nil =>
      refine .inl ⟨rfl, nx_not (fun x hx => ?_)⟩
      rcases mem3.1 hx with hx | hx | hx
      · exact hL1 x hx
      · exact hlt x hx
      · cases hx
    | cons d L3 =>
      refine .inr ⟨d, L3, rfl, ?_⟩
      have hdk := h2 d (by simp)
      have hg := h.good d (by simp)
      rcases nx_char hg.2.2.1 k with ⟨e2, m1, m2, m3⟩ | ⟨_, _, hlt2⟩
      · rw [e2]
        refine nx_is h.kup (mem3.2 (.inr (.inr ?_))) m2 (fun x hx hkx => ?_)
        · rw [keys_cons]
          exact List.mem_append_left _ m1
        · rcases mem3.1 hx with hx | hx | hx
          · have := hL1 x hx
            omega
          · have := hlt x hx
            omega
          · rw [keys_cons] at hx
            rcases List.mem_append.1 hx with hx | hx
            · exact m3 x hx hkx
            · obtain ⟨d2, hd2, hx⟩ := mem_keys.1 hx
              have hh : Ok ((L1 ++ [c]) ++ d :: L3) := by simpa using h
              have q1 := hh.after d2 hd2 _ m1
              have q2 := (hh.behind d2 hd2).2.2 x hx
              omega
      · obtain ⟨x, hx⟩ := List.exists_mem_of_ne_nil _ hg.1
        have := hlt2 x hx
        have := (hg.2.2.2 x hx).1
        omega
theorem Ok.prev (h : Ok (L1 ++ c :: L2)) (h1 : c.1 ≤ k) (h2 : ∀ d ∈ L2, k < d.1) :
    (K.pvb c.2 k = true ∧ K.pv (keys (L1 ++ c :: L2)) k = K.pv c.2 k ∧ K.pvb (keys (L1 ++ c :: L2)) k = true) ∨
    (K.pvb c.2 k = false ∧ ((L1 = [] ∧ K.pv (keys (L1 ++ c :: L2)) k = 0 ∧ K.pvb (keys (L1 ++ c :: L2)) k = false) ∨ ∃ L0 d, L1 = L0 ++ [d] ∧ K.pv (keys (L1 ++ c :: L2)) k = K.pv d.2 k ∧ K.pvb (keys (L1 ++ c :: L2)) k = K.pvb d.2 k)) := by
  have hL2 : ∀ x ∈ keys L2, k < x := fun x hx => by
    obtain ⟨d, hd, hx⟩ := mem_keys.1 hx
    exact Nat.lt_of_lt_of_le (h2 d hd) ((h.behind d hd).2.2 x hx)
  rcases pv_char h.cup.2.2.1 k with ⟨e, m1, m2, m3⟩ | ⟨e, _, hlt⟩
  · refine .inl ⟨e, ?_⟩
    refine pv_is h.kup (mem3.2 (.inr (.inl m1))) m2 (fun x hx hkx => ?_)
    rcases mem3.1 hx with hx | hx | hx
    · have q1 := h.before x hx
      have q2 := (h.cup.2.2.2 _ m1).1
      omega
    · exact m3 x hx hkx
    · have := hL2 x hx
      omega
  · refine .inr ⟨e, ?_⟩
    rcases List.eq_nil_or_concat L1 with rfl | ⟨L0, d, rfl⟩
    · refine .inl ⟨rfl, pv_not h.kup (fun x hx => ?_)⟩
      rcases mem3.1 hx with hx | hx | hx
      · cases hx
      · exact hlt x hx
      · exact hL2 x hx
    · refine .inr ⟨L0, d, by simp, ?_⟩
      have hh : Ok (L0 ++ d :: (c :: L2)) := by simpa using h
      have hg := hh.cup
      have hdc := (hh.behind c (by simp)).2.1
      have hmm : ∀ x, x ∈ keys (L0.concat d ++ c :: L2) ↔ x ∈ keys L0 ∨ x ∈ d.2 ∨ x ∈ c.2 ∨ x ∈ keys L2 := fun x => by
        rw [List.concat_eq_append, List.append_assoc, List.singleton_append, mem3, keys_cons, List.mem_append]
      rcases pv_char hg.2.2.1 k with ⟨e2, m1, m2, m3⟩ | ⟨_, _, hlt2⟩
      · rw [e2]
        refine pv_is h.kup ((hmm _).2 (.inr (.inl m1))) m2 (fun x hx hkx => ?_)
        rcases (hmm x).1 hx with hx | hx | hx | hx
        · have q1 := hh.before x hx
          have q2 := (hg.2.2.2 _ m1).1
          omega
        · exact m3 x hx hkx
        · have := hlt x hx
          omega
        · have := hL2 x hx
          omega
      · obtain ⟨x, hx⟩ := List.exists_mem_of_ne_nil _ hg.1
        have := hlt2 x hx
        have := hdc x hx
        omega
theorem keys_add (h : Ok (L1 ++ c :: L2)) (hn : Ok (L1 ++ (c.1, K.add c.2 k) :: L2)) : keys (L1 ++ (c.1, K.add c.2 k) :: L2) = K.add (keys (L1 ++ c :: L2)) k := by
  refine T.up_ext hn.kup (K.add_up h.kup k) fun x => ?_
  rw [K.add_mem h.kup, mem3, mem3]
  have := K.add_mem h.cup.2.2.1 k x
  dsimp only
  rw [this]
  constructor
  · rintro (h | (h | h) | h)
    · exact .inr (.inl h)
    · exact .inl h
    · exact .inr (.inr (.inl h))
    · exact .inr (.inr (.inr h))
  · rintro (h | h | h | h)
    · exact .inr (.inl (.inl h))
    · exact .inl h
    · exact .inr (.inl (.inr h))
    · exact .inr (.inr h)
end
end Bk
end Go.Proofs.YtelfacchhclgnaaGreat
end
