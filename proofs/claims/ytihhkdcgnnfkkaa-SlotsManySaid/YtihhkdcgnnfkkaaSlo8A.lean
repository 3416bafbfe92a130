
/- A slice of acts, as it reads; rising pairs, put and dropped. -/
import Derived.Test.YtihhkdcgnnfkkaaSlo6
import Derived.Test.YtihhkdcgnnfkkaaK10
namespace Go.Proofs.Ytihhkdcgnnfkkaa
set_option maxRecDepth 20000
open Go.RowKit
def Ra3 (w : World) (B : Nat) (A : Option Addr) (xs : List (Nat × Nat × Nat)) : Prop :=
  (∀ x ∈ xs, x.1 < 256 ∧ x.2.1 < 18446744073709551616) ∧ (xs ≠ [] → ∃ b off, A = some ⟨b, off, none⟩ ∧ b < B ∧ ∀ (k : Nat) (h : k < xs.length),
    w.cell? ⟨b, off + k * 3, none⟩ = some (.int .u8 (xs[k].1 : Nat)) ∧ w.cell? ⟨b, off + k * 3 + 1, none⟩ = some (.int .u64 (xs[k].2.1 : Nat)) ∧ w.cell? ⟨b, off + k * 3 + 2, none⟩ = some (.int .u64 (xs[k].2.2 : Nat)))
theorem Ra3.at {w w' : World} {B : Nat} {A : Option Addr} {xs : List (Nat × Nat × Nat)} (h : Ra3 w B A xs) (hb : Below B w w') {k : Nat} (hk : k < xs.length) : ∃ b off, A = some ⟨b, off, none⟩ ∧ xs[k].1 < 256 ∧ xs[k].2.1 < 18446744073709551616 ∧
    w'.cell? ⟨b, off + k * 3, none⟩ = some (.int .u8 (xs[k].1 : Nat)) ∧ w'.cell? ⟨b, off + k * 3 + 1, none⟩ = some (.int .u64 (xs[k].2.1 : Nat)) ∧ w'.cell? ⟨b, off + k * 3 + 2, none⟩ = some (.int .u64 (xs[k].2.2 : Nat)) := by
  obtain ⟨b, off, rfl, hlt, hc⟩ := h.2 (fun e => by subst e; simp at hk)
  obtain ⟨c0, c1, c2⟩ := hc k hk
  have h1 := h.1 _ (List.getElem_mem hk)
  exact ⟨b, off, rfl, h1.1, h1.2, (hb.cell (p := ⟨b, _, none⟩) hlt).trans c0, (hb.cell (p := ⟨b, _, none⟩) hlt).trans c1, (hb.cell (p := ⟨b, _, none⟩) hlt).trans c2⟩
namespace Pr
/-- Pairs that rise. -/
def Up (l : L) : Prop := K.Up (l.map (·.1))
theorem map_take_drop (l : L) (i j : Nat) : (l.take i ++ l.drop j).map (·.1) = (l.map (·.1)).take i ++ (l.map (·.1)).drop j := by simp
theorem fo_mem {l : L} (h : Up l) (k : Nat) : fo l k = true ↔ ∃ v, (k, v) ∈ l := by
  unfold fo
  rw [K.fo_mem h k]
  constructor
  · intro hm
    obtain ⟨x, hx, rfl⟩ := List.mem_map.1 hm
    exact ⟨x.2, hx⟩
  · rintro ⟨v, hv⟩
    exact List.mem_map.2 ⟨_, hv, rfl⟩
theorem no_of {l : L} (h : Up l) {k : Nat} (hf : fo l k = false) : ∀ x ∈ l, x.1 ≠ k := fun x hx e => by
  have : fo l k = true := (fo_mem h k).2 ⟨x.2, by rw [← e]; exact hx⟩
  rw [this] at hf
  cases hf
/-- Where a key stands, the list is parted. -/
theorem parted {l : L} {k : Nat} (hf : fo l k = true) : ∃ (h : fi l k < l.length), l[fi l k].1 = k ∧ l = l.take (fi l k) ++ l[fi l k] :: l.drop (fi l k + 1) := by
  obtain ⟨h, e⟩ := fo_lt hf
  refine ⟨h, e, ?_⟩
  rw [← List.drop_eq_getElem_cons h, List.take_append_drop]
theorem drop_perm {l : L} {k : Nat} (hf : fo l k = true) : ∃ (h : fi l k < l.length), l[fi l k].1 = k ∧ l.Perm ((k, l[fi l k].2) :: drop l k) := by
  obtain ⟨h, e, hp⟩ := parted hf
  refine ⟨h, e, ?_⟩
  unfold drop
  rw [if_pos hf]
  have e2 : l[fi l k] = (k, l[fi l k].2) := Prod.ext e rfl
  rw [← e2]
  conv => lhs; rw [hp]
  exact List.perm_middle
theorem put_perm {l : L} {k v : Nat} (hf : fo l k = true) : (put l k v).Perm ((k, v) :: drop l k) := by
  unfold put drop
  rw [if_pos hf, if_pos hf]
  exact List.perm_middle
theorem put_new {l : L} {k v : Nat} (hf : fo l k = false) : (put l k v).Perm ((k, v) :: l) := by
  unfold put
  rw [hf]
  simp only [Bool.false_eq_true, if_false]
  refine List.perm_middle.trans ?_
  rw [List.take_append_drop]
theorem drop_no {l : L} {k : Nat} (hf : fo l k = false) : drop l k = l := by unfold drop; rw [hf]; rfl
theorem drop_up {l : L} (h : Up l) (k : Nat) : Up (drop l k) := by
  have e : (drop l k).map (·.1) = K.drop (l.map (·.1)) k := by
    unfold drop K.drop fo fi
    by_cases hf : K.fo (l.map (·.1)) k = true
    · rw [if_pos hf, if_pos hf, map_take_drop]
    · rw [if_neg hf, if_neg hf]
  unfold Up
  rw [e]
  exact K.drop_up h k
theorem put_up {l : L} (h : Up l) (k v : Nat) : Up (put l k v) := by
  have e : (put l k v).map (·.1) = K.add (l.map (·.1)) k := by
    unfold put K.add
    by_cases hf : fo l k = true
    · obtain ⟨h1, h2, h3⟩ := parted hf
      have hf' : K.fo (l.map (·.1)) k = true := hf
      rw [if_pos hf, if_pos hf']
      have h4 := congrArg (List.map (·.1)) h3
      refine Eq.trans ?_ h4.symm
      simp only [List.map_append, List.map_cons, h2]
    · have hf' : ¬ K.fo (l.map (·.1)) k = true := hf
      rw [if_neg hf, if_neg hf']
      simp [fi]
  unfold Up
  rw [e]
  exact K.add_up h k
theorem put_len {l : L} {k v : Nat} (hf : fo l k = true) : (put l k v).length = l.length := by
  obtain ⟨_, _, h⟩ := drop_perm hf
  rw [(put_perm (v := v) hf).length_eq, h.length_eq]
  simp
theorem put_len_new {l : L} {k v : Nat} (hf : fo l k = false) : (put l k v).length = l.length + 1 := by
  rw [(put_new (v := v) hf).length_eq]
  simp
theorem drop_le {l : L} (k : Nat) : (drop l k).length ≤ l.length := by
  by_cases hf : fo l k = true
  · obtain ⟨_, _, h⟩ := drop_perm hf
    rw [h.length_eq]
    simp
  · rw [drop_no (by simpa using hf)]
    exact Nat.le_refl _
theorem up_nil : Up [] := List.Pairwise.nil
end Pr
/-- The law's list of pairs lies apart from the slots. -/
abbrev RP (v : Value) (l : Pr.L) : World → (Nat → Prop) → Prop := fun W O => PX W v l ∧ ∀ g, v.ownBlock = some g → ¬ O g
/-- So does a block. -/
abbrev RX (X : Nat) (o : Obj) : World → (Nat → Prop) → Prop := fun W O => W.heap[X]? = some o ∧ ¬ O X
abbrev Rn (R R' : World → (Nat → Prop) → Prop) : World → (Nat → Prop) → Prop := fun W O => R W O ∧ R' W O
theorem apartP (v : Value) (l : Pr.L) : Apart (RP v l) := fun W W' O O' h b hO => by
  refine ⟨h.1.chg b h.2, fun g hg ho => ?_⟩
  rcases hO g ho with h2 | h2
  · exact h.2 g hg h2
  · have := (K.own_lt h.1 hg).1; omega
theorem apartX (X : Nat) (o : Obj) : Apart (RX X o) := fun W W' O O' h b hO => by
  have hlt := row_lt h.1
  exact ⟨(b.block X hlt h.2).trans h.1, fun ho => by rcases hO X ho with h2 | h2; exact h.2 h2; omega⟩
theorem apartN {R R' : World → (Nat → Prop) → Prop} (h : Apart R) (h' : Apart R') : Apart (Rn R R') := fun W W' O O' hr b hO => ⟨h W W' O O' hr.1 b hO, h' W W' O O' hr.2 b hO⟩
section
variable {R R' : World → (Nat → Prop) → Prop} {w W W' : World} {S lim : Nat} {l2 : Tr}
theorem SG.fst (h : SG (Rn R R') w W S lim l2) : SG R w W S lim l2 := by
  obtain ⟨O, hx, hO, hb, hr⟩ := h
  exact ⟨O, hx, hO, hb, hr.1⟩
theorem SG.px {v : Value} {l : Pr.L} (h : SG (RP v l) w W S lim l2) : PX W v l := by
  obtain ⟨O, hx, hO, hb, hr⟩ := h
  exact hr.1
theorem SG.row {X : Nat} {o : Obj} (h : SG (Rn R (RX X o)) w W S lim l2) : W.heap[X]? = some o := by
  obtain ⟨O, hx, hO, hb, hr⟩ := h
  exact hr.2.1
/-- A new block. -/
theorem SG.new (hR : Apart R) (h : SG R w W S lim l2) (o : Obj) : SG (Rn R (RX W.heap.size o)) w (W.alloc o) S lim l2 := by
  have hlt : ∀ O, SX W S lim l2 O → ¬ O W.heap.size := fun O hx ho => by have := hx.lt _ ho; omega
  obtain ⟨O, hx, hO, hb, hr⟩ := h
  have hc : K.Chg W (W.alloc o) (fun _ => False) := chg_alloc W o _
  have hc2 : K.Chg W (W.alloc o) O := chg_alloc W o _
  exact ⟨O, hx.chg hc (fun _ _ h => h), hO, hb.alloc hb.size o, hR W _ O O hr hc2 (fun j h => .inl h), K.alloc_top W o, hlt O hx⟩
/-- Another list of the law's. -/
theorem SG.list {v v' : Value} {l l' : Pr.L} (hR : Apart R') (h : SG (Rn (RP v l) R') w W S lim l2) (hb2 : Below W.heap.size W W') (hk : PX W' v' l') (hf : v' = v ∨ ∀ g, v'.ownBlock = some g → W.heap.size ≤ g) : SG (RP v' l') w W' S lim l2 := by
  have hs : ∀ O, SX W S lim l2 O → ∀ j, O j → j < W.heap.size := fun O hx => hx.lt
  obtain ⟨O, hx, hO, hb, hr, _⟩ := h
  have hc : ∀ O, K.Chg W W' O := fun O => K.Chg.of_below hb2
  refine ⟨O, hx.chg (hc (fun _ => False)) (fun _ _ h => h), hO, hb.trans (hb2.mono hb.size), hk, fun g hg ho => ?_⟩
  rcases hf with rfl | hf
  · exact hr.2 g hg ho
  · have := hf g hg; have := hs O hx g ho; omega
theorem SG.nolist {v : Value} {l : Pr.L} (h : SG (Rn (RP v l) R') w W S lim l2) : SG (RP (.slice none 0 0) []) w W S lim l2 := by
  obtain ⟨O, hx, hO, hb, hr, _⟩ := h
  exact ⟨O, hx, hO, hb, PX.nil W, fun g hg => by simp [Value.ownBlock] at hg⟩
end
theorem kx_rwS {w : World} {v : Value} {xs : List Nat} (h : KX w v xs) : ∃ A c, v = .slice A xs.length c ∧ Rw w w.heap.size A xs := by
  obtain ⟨A, c, h1, h2, _⟩ := Rw.of_own (h : w.ownsRow 0 22 1 v xs.length (wv xs))
  exact ⟨A, c, h1, h2⟩
end Go.Proofs.Ytihhkdcgnnfkkaa
