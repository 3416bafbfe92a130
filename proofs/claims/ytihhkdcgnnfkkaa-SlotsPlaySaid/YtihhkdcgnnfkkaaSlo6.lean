
/- What a law of slots keeps: the slots, and what lies apart from them; keys in a row. -/
import Derived.Test.YtihhkdcgnnfkkaaSlo5
namespace Go.Proofs.Ytihhkdcgnnfkkaa
set_option maxRecDepth 20000
open Go.RowKit
namespace Sv
/-- The i-th key of a row of keys, with its value. -/
def px (f i : Nat) : Nat := (f + i) % 18446744073709551616
def gx (f i : Nat) : Nat × Nat := (px f i, 7 * i)
theorem px_lt (f i : Nat) : px f i < 18446744073709551616 := Nat.mod_lt _ (by decide)
theorem px_inj {f i j : Nat} (hi : i < 1000000) (hj : j < 1000000) (e : px f i = px f j) : i = j := by
  unfold px at e
  omega
/-- Those of the numbers below k that D has. -/
def kept (k : Nat) (D : Nat → Bool) (g : Nat → Nat × Nat) : List (Nat × Nat) := ((List.range k).filter D).map g
theorem kept_len (k : Nat) (D : Nat → Bool) (g : Nat → Nat × Nat) : (kept k D g).length ≤ k := by
  unfold kept; rw [List.length_map]; exact Nat.le_trans (List.length_filter_le _ _) (by simp)
theorem kept_all (k : Nat) (g : Nat → Nat × Nat) : (kept k (fun _ => true) g).length = k := by
  unfold kept; rw [List.length_map, List.filter_eq_self.2 (fun _ _ => rfl), List.length_range]
theorem kept_succ (k : Nat) (D : Nat → Bool) (g : Nat → Nat × Nat) (h : D k = true) : (g k :: kept k D g).Perm (kept (k + 1) D g) := by
  unfold kept
  rw [List.range_succ, List.filter_append, List.map_append]
  simp [h]
  exact (List.perm_append_comm (l₁ := [g k]))
theorem kept_mem {k : Nat} {D : Nat → Bool} {g : Nat → Nat × Nat} {x : Nat × Nat} : x ∈ kept k D g ↔ ∃ i, i < k ∧ D i = true ∧ g i = x := by
  unfold kept; simp [List.mem_map, List.mem_filter, and_assoc]
theorem kept_drop (k : Nat) (D D' : Nat → Bool) (g : Nat → Nat × Nat) (a : Nat) (ha : a < k) (h : D a = true) (h' : D' a = false) (ho : ∀ i, i ≠ a → D' i = D i) : (kept k D g).Perm (g a :: kept k D' g) := by
  unfold kept
  have h1 : ((List.range k).filter D).Perm (a :: (List.range k).filter D') := by
    have n1 : ((List.range k).filter D).Nodup := List.Pairwise.filter _ List.nodup_range
    have n2 : (a :: (List.range k).filter D').Nodup := by
      rw [List.nodup_cons]
      exact ⟨by simp [h'], List.Pairwise.filter _ List.nodup_range⟩
    rw [List.perm_ext_iff_of_nodup n1 n2]
    intro x
    by_cases e : x = a
    · subst e; simp [ha, h]
    · simp [e, ho x e]
  exact h1.map g
theorem kept_congr (k : Nat) (D D' : Nat → Bool) (g : Nat → Nat × Nat) (h : ∀ i, i < k → D i = D' i) : kept k D g = kept k D' g := by
  unfold kept
  rw [List.filter_congr (fun x hx => h x (by simpa using hx))]
/-- A key of the row is none of those that are kept. -/
theorem kept_no {k f a : Nat} {D : Nat → Bool} (hk : k ≤ 1000) (ha : a ≤ 1000) (h : D a = false ∨ k ≤ a) : ∀ x ∈ kept k D (gx f), x.1 ≠ px f a := by
  intro x hx e
  obtain ⟨i, hi, hd, rfl⟩ := kept_mem.1 hx
  have : i = a := px_inj (f := f) (by omega) (by omega) e
  subst this
  rcases h with h | h
  · rw [h] at hd; cases hd
  · omega
end Sv
/-- What lies apart from the slots' blocks stays. -/
def Apart (R : World → (Nat → Prop) → Prop) : Prop := ∀ W W' O O', R W O → K.Chg W W' O → (∀ j, O' j → O j ∨ W.heap.size ≤ j) → R W' O'
/-- What a law keeps: the slots, younger than the law's beginning, and R apart. -/
def SG (R : World → (Nat → Prop) → Prop) (w W : World) (S lim : Nat) (l : Tr) : Prop :=
  ∃ O, SX W S lim l O ∧ (∀ j, O j → w.heap.size ≤ j) ∧ Below w.heap.size w W ∧ R W O
section
variable {R : World → (Nat → Prop) → Prop} {w W W' : World} {S lim : Nat} {l l' : Tr} {f : Nat} {args : Array Value} {r : Value}
theorem SG.low (h : SG R w W S lim l) : Below w.heap.size w W := by
  obtain ⟨_, _, _, hb, _⟩ := h
  exact hb
theorem SG.sr (hR : Apart R) {O : Nat → Prop} (hO : ∀ j, O j → w.heap.size ≤ j) (hb : Below w.heap.size w W) (hr : R W O) (h : SR W O S lim l' W') : SG R w W' S lim l' := by
  obtain ⟨O', h1, h2, h3⟩ := h
  refine ⟨O', h1, fun j hj => ?_, hb.trans (h2.below hb.size hO), hR W W' O O' hr h2 h3⟩
  rcases h3 j hj with h | h
  · exact hO j h
  · exact Nat.le_trans hb.size h
theorem SG.op (hR : Apart R) (h : SG R w W S lim l) (hc : ∀ O, SX W S lim l O → Calls Try.prog f args W fun e w' => e = .returned r ∧ SR W O S lim l' w') :
    Calls Try.prog f args W fun e w' => e = .returned r ∧ SG R w w' S lim l' := by
  obtain ⟨O, hx, hO, hb, hr⟩ := h
  exact (hc O hx).mono fun e w' ⟨h1, h2⟩ => ⟨h1, SG.sr hR hO hb hr h2⟩
theorem SG.below (hR : Apart R) (h : SG R w W S lim l) (hb2 : Below W.heap.size W W') : SG R w W' S lim l := by
  obtain ⟨O, hx, hO, hb, hr⟩ := h
  have hc : ∀ O, K.Chg W W' O := fun O => K.Chg.of_below hb2
  exact ⟨O, hx.chg (hc (fun _ => False)) (fun _ _ h => h), hO, hb.trans (hb2.mono hb.size), hR W W' O O hr (hc O) (fun j h => .inl h)⟩
theorem SG.ask (hR : Apart R) (h : SG R w W S lim l) (hc : ∀ O, SX W S lim l O → Calls Try.prog f args W fun e w' => e = .returned r ∧ ∃ N, w' = W.drewN N) :
    Calls Try.prog f args W fun e w' => e = .returned r ∧ SG R w w' S lim l := by
  obtain ⟨O, hx, hO, hb, hr⟩ := h
  refine (hc O hx).mono fun e w' ⟨h1, N, h2⟩ => ⟨h1, ?_⟩
  subst h2
  exact SG.below hR ⟨O, hx, hO, hb, hr⟩ ⟨rfl, rfl, rfl, Nat.le_refl _, fun _ _ => rfl⟩
theorem SG.perm (h : SG R w W S lim l) (hp : l.Perm l') : SG R w W S lim l' := by
  obtain ⟨O, hx, hO, hb, hr⟩ := h
  exact ⟨O, hx.perm hp, hO, hb, hr⟩
theorem SG.ky (h : SG R w W S lim l) : (l.map (·.1)).Nodup := by
  obtain ⟨O, hx, hO, hb, hr⟩ := h
  exact hx.ky
end
/-- Nothing else. -/
abbrev R0 : World → (Nat → Prop) → Prop := fun _ _ => True
theorem apart0 : Apart R0 := fun _ _ _ _ _ _ _ => trivial
/-- A row of bools. -/
def BB (w : World) (b : Nat) (bs : List Bool) : Prop := w.heap[b]? = some (.cells (bs.map Value.bool).toArray 4 (0, 0))
theorem BB.cell {w : World} {b : Nat} {bs : List Bool} (h : BB w b bs) (k : Nat) (hk : k < bs.length) : w.cell? ⟨b, k, none⟩ = some (.bool bs[k]) := by
  rw [cell_of_row w b k _ _ (0, 0) h]
  simp [hk]
theorem BB.fr {w : World} {b : Nat} {bs : List Bool} (h : BB w b bs) (k : Nat) : w.frozen? ⟨b, k, none⟩ = false := by
  unfold BB at h; simp [World.frozen?, h]
theorem BB.set {w : World} {b : Nat} {bs : List Bool} (h : BB w b bs) (k : Nat) (v : Bool) : BB (w.setCell ⟨b, k, none⟩ (.bool v)) b (bs.set k v) := by
  have := row_set h k (.bool v)
  unfold BB
  rw [List.map_set]
  simpa using this
theorem mk_bools (n : Nat) (hn : n ≤ 1000000) (w : World) : (Instr.makeSlice 52 (.int .i64 (n : Int)) (.int .i64 (n : Int))).run Try.prog w = .ok (.slice (some ⟨w.heap.size, 0, none⟩) n n) (w.alloc (.cells ((List.replicate n false).map Value.bool).toArray 4)) := by
  obtain ⟨ti, hi, hb, hz, hsz⟩ : ∃ ti, Try.prog.info? 4 = some ti ∧ ti.bytes = 1 ∧ ti.zero = some (.bool false) ∧ ti.size = 1 := ⟨_, rfl, rfl, rfl, rfl⟩
  have := run_make (P := Try.prog) w 52 4 ti _ (by kernel_rfl) hi hz .i64 .i64 (n : Int) (n : Int) (by omega) (by omega) (by rw [hb]; omega) (by omega)
  have e : madeCells #[.bool false] n = ((List.replicate n false).map Value.bool).toArray := by
    apply Array.ext
    · simp [madeCells]
    · intro i h1 h2
      simp [madeCells, Nat.mod_one]
  rw [← e]
  simpa [hsz, Value.cells] using this
abbrev RB (D : Nat) (dr : List Bool) : World → (Nat → Prop) → Prop := fun W O => BB W D dr ∧ ¬ O D
theorem apartB (D : Nat) (dr : List Bool) : Apart (RB D dr) := fun W W' O O' h b hO => by
  have hlt := row_lt h.1
  exact ⟨(b.block D hlt h.2).trans h.1, fun ho => by rcases hO D ho with h2 | h2; exact h.2 h2; omega⟩
theorem SG.bools {w W : World} {S lim : Nat} {l : Tr} {n : Nat} (h : SG R0 w W S lim l) : SG (RB W.heap.size (List.replicate n false)) w (W.alloc (.cells (Array.replicate n (Value.bool false)) 4)) S lim l := by
  obtain ⟨O, hx, hO, hb, _⟩ := h
  refine ⟨O, hx.chg (chg_alloc W _ (fun _ => False)) (fun _ _ h => h), hO, hb.alloc hb.size _, ?_, fun ho => ?_⟩
  · have := K.alloc_top W (.cells (Array.replicate n (Value.bool false)) 4)
    unfold BB
    rw [this]
    simp
  · have := hx.lt _ ho; omega
theorem SG.mark {w W : World} {S lim D : Nat} {l : Tr} {dr : List Bool} (h : SG (RB D dr) w W S lim l) (hD : w.heap.size ≤ D) (a : Nat) (b : Bool) : SG (RB D (dr.set a b)) w (W.setCell ⟨D, a, none⟩ (.bool b)) S lim l := by
  obtain ⟨O, hx, hO, hb, hr, hn⟩ := h
  have hc := chg_set W D a (.bool b) (· = D) rfl
  refine ⟨O, hx.chg hc (fun j ho e => hn (by have e2 : j = D := e; subst e2; exact ho)), hO, hb.trans (hc.below (B := w.heap.size) hb.size (fun j e => by have e2 : j = D := e; omega)), hr.set a b, hn⟩
theorem SG.bb {w W : World} {S lim D : Nat} {l : Tr} {dr : List Bool} (h : SG (RB D dr) w W S lim l) : BB W D dr := by
  obtain ⟨O, _, _, _, hr, _⟩ := h
  exact hr
end Go.Proofs.Ytihhkdcgnnfkkaa
