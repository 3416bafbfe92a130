
/- Cuts of lists of 16-bit numbers; Add, Drop, Part; the text walked. -/
import Derived.Test.YtlinoambdlkfjaaGreatArr6
import Derived.Deep.RegionHeld3
import Derived.Laws.Slices
namespace Go.Proofs.YtlinoambdlkfjaaGreat.A
set_option maxRecDepth 40000
open Go.RowKit
def cutA (A : Option Addr) (l c : Nat) : Option Addr := if c = l then A else A.map (·.add (l * 1))
theorem cutA_rh {w : World} {B n c l h : Nat} {A : Option Addr} {xs : List Int} (hr : Rh w B A xs) (hn : n = xs.length) (hl : l ≤ h) (hh : h ≤ n) (hc : n ≤ c) : Rh w B (cutA A l c) ((xs.take h).drop l) := by
  intro hne
  have hlen : ((xs.take h).drop l).length = h - l := by rw [List.length_drop, List.length_take]; omega
  have hlt : l < h := by
    rcases Nat.lt_or_ge l h with e | e
    · exact e
    · exact absurd (List.eq_nil_of_length_eq_zero (by omega)) hne
  obtain ⟨b, off, rfl, hb, hcl⟩ := hr (by intro e; subst e; simp at hn; omega)
  refine ⟨b, off + l, ?_, hb, fun k hk => ?_⟩
  · unfold cutA
    rw [if_neg (by omega)]
    show some _ = some _
    unfold Addr.add
    by_cases h0 : l = 0 <;> simp [h0]
  · have h2 : l + k < xs.length := by omega
    have := hcl (l + k) h2
    rw [show off + l + k = off + (l + k) by omega, this]
    simp
theorem cut_lh (A : Option Addr) (n c l h : Nat) (L H : Int) (hL : L = (l : Int)) (hH : H = (h : Int)) (hl : l ≤ h) (hh : h ≤ n) (hc : n ≤ c) : (∀ w, (Instr.sliceAt 84 (.slice A n c) (some (.int .i64 L)) (some (.int .i64 H)) none).run Tryz.prog w = .ok (.slice (cutA A l c) (h - l) (c - l)) w) ∧
    (∀ w, (Instr.slice 84 (.slice A n c) (some (.int .i64 L)) (some (.int .i64 H)) none).run Tryz.prog w = .ok (.slice (cutA A l c) (h - l) (c - l)) w) := by
  subst hL hH
  have hu : Tryz.prog.underlying 84 = some (.slice (Tryz.prog.elem 84)) := by kernel_rfl
  have hz : ∀ w, (Go.sizeOf (Tryz.prog.elem 84)).run Tryz.prog w = .ok 1 w := fun w => Tryz.sizeOf50 w
  have h2 : ∀ w, (Instr.slice 84 (.slice A n c) (some (.int .i64 (l : Int))) (some (.int .i64 (h : Int))) none).run Tryz.prog w = .ok (sliced A l h c 1) w := fun w => by
    have h := run_slice_lh (P := Tryz.prog) (w := w) (t := 84) (a := A) (len := n) (cap := c) (ht := hu) (kl := .i64) (l := (l : Int)) (kh := .i64) (h := (h : Int)) (h0 := by omega) (h1 := by omega) (h2 := by omega)
    rw [h, hz]
    simp [Result.andThen]
  exact ⟨fun w => (run_sliceAt_slice (w := w) (h := hu) ..).trans (h2 w), h2⟩
theorem cut_l (A : Option Addr) (n c l : Nat) (L : Int) (hL : L = (l : Int)) (hl : l ≤ n) : (∀ w, (Instr.sliceAt 84 (.slice A n c) (some (.int .i64 L)) none none).run Tryz.prog w = .ok (.slice (cutA A l c) (n - l) (c - l)) w) ∧
    (∀ w, (Instr.slice 84 (.slice A n c) (some (.int .i64 L)) none none).run Tryz.prog w = .ok (.slice (cutA A l c) (n - l) (c - l)) w) := by
  subst hL
  have hu : Tryz.prog.underlying 84 = some (.slice (Tryz.prog.elem 84)) := by kernel_rfl
  have hz : ∀ w, (Go.sizeOf (Tryz.prog.elem 84)).run Tryz.prog w = .ok 1 w := fun w => Tryz.sizeOf50 w
  have h2 : ∀ w, (Instr.slice 84 (.slice A n c) (some (.int .i64 (l : Int))) none none).run Tryz.prog w = .ok (sliced A l n c 1) w := fun w => by
    have h := run_slice_l (P := Tryz.prog) (w := w) (t := 84) (a := A) (len := n) (cap := c) (ht := hu) (kl := .i64) (l := (l : Int)) (h0 := by omega) (h1 := by omega)
    rw [h, hz]
    simp [Result.andThen]
  exact ⟨fun w => (run_sliceAt_slice (w := w) (h := hu) ..).trans (h2 w), h2⟩
theorem cut_h (A : Option Addr) (n c l : Nat) (L : Int) (hL : L = (l : Int)) (hl : l ≤ n) (hc : n ≤ c) : (∀ w, (Instr.sliceAt 84 (.slice A n c) none (some (.int .i64 L)) none).run Tryz.prog w = .ok (.slice A l c) w) ∧
    (∀ w, (Instr.slice 84 (.slice A n c) none (some (.int .i64 L)) none).run Tryz.prog w = .ok (.slice A l c) w) := by
  subst hL
  have hu : Tryz.prog.underlying 84 = some (.slice (Tryz.prog.elem 84)) := by kernel_rfl
  have hz : ∀ w, (Go.sizeOf (Tryz.prog.elem 84)).run Tryz.prog w = .ok 1 w := fun w => Tryz.sizeOf50 w
  have h2 : ∀ w, (Instr.slice 84 (.slice A n c) none (some (.int .i64 (l : Int))) none).run Tryz.prog w = .ok (.slice A l c) w := fun w => by
    have h := run_slice_h (P := Tryz.prog) (w := w) (t := 84) (a := A) (len := n) (cap := c) (ht := hu) (kh := .i64) (h := (l : Int)) (h0 := by omega) (h2 := by omega)
    rw [h, hz]
    simp [Result.andThen]
    cases A <;> simp [sliced, Addr.add]
  exact ⟨fun w => (run_sliceAt_slice (w := w) (h := hu) ..).trans (h2 w), h2⟩
theorem rh_take {w : World} {B l : Nat} {A : Option Addr} {xs : List Int} (hr : Rh w B A xs) : Rh w B A (xs.take l) := by
  intro hne
  obtain ⟨b, off, rfl, hb, hcl⟩ := hr (by intro e; subst e; simp at hne)
  refine ⟨b, off, rfl, hb, fun k hk => ?_⟩
  have h2 : k < xs.length := by rw [List.length_take] at hk; omega
  rw [hcl k h2]
  simp
theorem take_lt {xs : List Int} {v : Int} {r : Nat} (h : Half xs v r r) {x : Int} (hx : x ∈ xs.take r) : x < v := by
  obtain ⟨k, hk, rfl⟩ := List.getElem_of_mem hx
  rw [List.getElem_take]
  rw [List.length_take] at hk
  exact h.1 k (by omega) (by omega)
theorem drop_ge {xs : List Int} {v : Int} {r : Nat} (h : Half xs v r r) {x : Int} (hx : x ∈ xs.drop r) : v ≤ x := by
  obtain ⟨k, hk, rfl⟩ := List.getElem_of_mem hx
  rw [List.getElem_drop]
  rw [List.length_drop] at hk
  exact h.2 (r + k) (by omega) (by omega)
theorem sort_add {xs : List Int} {v : Int} {r : Nat} (hs : xs.Pairwise (· < ·)) (h : Half xs v r r) (hn : ¬ v ∈ xs) : (xs.take r ++ ([v] ++ xs.drop r)).Pairwise (· < ·) :=
  List.pairwise_append.2 ⟨hs.sublist (List.take_sublist _ _), List.pairwise_append.2 ⟨List.pairwise_singleton _ _, hs.sublist (List.drop_sublist _ _), fun x hx y hy => by
    rw [List.mem_singleton] at hx
    subst hx
    have h1 := drop_ge h hy
    have h2 : x ≠ y := fun e => hn (e ▸ List.mem_of_mem_drop hy)
    omega⟩, fun x hx y hy => by
    have h1 := take_lt h hx
    rcases List.mem_append.1 hy with h2 | h2
    · rw [List.mem_singleton] at h2; omega
    · have := drop_ge h h2; omega⟩
theorem mem_add {xs : List Int} {v : Int} {r : Nat} (x : Int) : x ∈ xs.take r ++ ([v] ++ xs.drop r) ↔ x ∈ xs ∨ x = v := by
  have h : x ∈ xs ↔ x ∈ xs.take r ∨ x ∈ xs.drop r := by rw [← List.mem_append, List.take_append_drop]
  rw [h, List.mem_append, List.mem_append, List.mem_singleton]
  constructor
  · rintro (h | h | h)
    · exact .inl (.inl h)
    · exact .inr h
    · exact .inl (.inr h)
  · rintro ((h | h) | h)
    · exact .inl h
    · exact .inr (.inr h)
    · exact .inr (.inl h)
theorem sort_drop {xs : List Int} {r : Nat} (hs : xs.Pairwise (· < ·)) : (xs.take r ++ xs.drop (r + 1)).Pairwise (· < ·) := by
  have h : (xs.take r ++ xs.drop (r + 1)).Sublist (xs.take r ++ xs.drop r) := List.Sublist.append (List.Sublist.refl _) (by rw [← List.drop_drop]; exact List.drop_sublist _ _)
  rw [List.take_append_drop] at h
  exact hs.sublist h
theorem mem_drop {xs : List Int} {v : Int} {r : Nat} (hs : xs.Pairwise (· < ·)) (hr : r < xs.length) (he : xs[r] = v) (x : Int) : x ∈ xs.take r ++ xs.drop (r + 1) ↔ x ∈ xs ∧ x ≠ v := by
  have h : x ∈ xs ↔ x ∈ xs.take r ∨ x = v ∨ x ∈ xs.drop (r + 1) := by
    conv => lhs; rw [← List.take_append_drop r xs, List.mem_append, List.drop_eq_getElem_cons hr, List.mem_cons, he]
  have h1 : x ∈ xs.take r → x ≠ v := fun hx => by
    obtain ⟨k, hk, rfl⟩ := List.getElem_of_mem hx
    rw [List.getElem_take, ← he]
    rw [List.length_take] at hk
    exact Int.ne_of_lt (List.pairwise_iff_getElem.1 hs k r (by omega) hr (by omega))
  have h2 : x ∈ xs.drop (r + 1) → x ≠ v := fun hx => by
    obtain ⟨k, hk, rfl⟩ := List.getElem_of_mem hx
    rw [List.getElem_drop, ← he]
    rw [List.length_drop] at hk
    exact (Int.ne_of_lt (List.pairwise_iff_getElem.1 hs r (r + 1 + k) hr (by omega) (by omega))).symm
  rw [h, List.mem_append]
  constructor
  · rintro (h | h)
    · exact ⟨.inl h, h1 h⟩
    · exact ⟨.inr (.inr h), h2 h⟩
  · rintro ⟨h | h | h, hne⟩
    · exact .inl h
    · exact absurd h hne
    · exact .inr h
theorem sort_part {xs : List Int} {r u : Nat} (hs : xs.Pairwise (· < ·)) : ((xs.take u).drop r).Pairwise (· < ·) := hs.sublist ((List.drop_sublist _ _).trans (List.take_sublist _ _))
theorem mem_part {xs : List Int} (hs : xs.Pairwise (· < ·)) (f t x : Int) : x ∈ (xs.take (upv xs t)).drop (M.rRank xs f) ↔ x ∈ xs ∧ f ≤ x ∧ x ≤ t := by
  obtain ⟨a1, a2⟩ := rank_half hs f
  obtain ⟨b1, b2⟩ := up_half hs t
  constructor
  · intro hx
    obtain ⟨k, hk, rfl⟩ := List.getElem_of_mem hx
    rw [List.length_drop, List.length_take] at hk
    have hl : M.rRank xs f + k < xs.length := by omega
    have e : ((xs.take (upv xs t)).drop (M.rRank xs f))[k]'(by rw [List.length_drop, List.length_take]; exact hk) = xs[M.rRank xs f + k] := by rw [List.getElem_drop, List.getElem_take]
    rw [e]
    exact ⟨List.getElem_mem _, a2 _ hl (by omega), b1 _ hl (by omega)⟩
  · rintro ⟨hx, h1, h2⟩
    obtain ⟨k, hk, rfl⟩ := List.getElem_of_mem hx
    have c1 : M.rRank xs f ≤ k := by
      rcases Nat.lt_or_ge k (M.rRank xs f) with e | e
      · have := a1 k hk e; omega
      · exact e
    have c2 : k < upv xs t := by
      rcases Nat.lt_or_ge k (upv xs t) with e | e
      · exact e
      · have := b2 k hk e; omega
    have hl : k - M.rRank xs f < ((xs.take (upv xs t)).drop (M.rRank xs f)).length := by rw [List.length_drop, List.length_take]; omega
    have e : ((xs.take (upv xs t)).drop (M.rRank xs f))[k - M.rRank xs f] = xs[k] := by
      rw [List.getElem_drop, List.getElem_take]
      congr 1
      omega
    rw [← e]
    exact List.getElem_mem _
theorem rank_up {xs : List Int} (hs : xs.Pairwise (· < ·)) {f t : Int} (h : f ≤ t) : M.rRank xs f ≤ upv xs t := by
  obtain ⟨a1, a2⟩ := rank_half hs f
  obtain ⟨b1, b2⟩ := up_half hs t
  rcases Nat.lt_or_ge (upv xs t) (M.rRank xs f) with e | e
  · have hl : upv xs t < xs.length := Nat.lt_of_lt_of_le e (rank_le xs f)
    have h1 := a1 _ hl e
    have h2 := b2 _ hl (Nat.le_refl _)
    omega
  · exact e
end Go.Proofs.YtlinoambdlkfjaaGreat.A
