
/- Runs of numbers: plain lists of pairs. -/
import Derived.Test.YtejboemifncjoaaBMath
namespace Go.Proofs.Ytejboemifncjoaa
namespace Rn
/-- Some run has x. -/
def V (rs : List (Int × Int)) (x : Int) : Prop := ∃ r, r ∈ rs ∧ r.1 ≤ x ∧ x ≤ r.2
def Good (r : Int × Int) : Prop := 0 ≤ r.1 ∧ r.1 ≤ r.2 ∧ r.2 ≤ 65535
/-- Runs: each begins at least two above the end of those ahead. -/
def Ok (rs : List (Int × Int)) : Prop := (∀ r, r ∈ rs → Good r) ∧ rs.Pairwise fun a b => a.2 + 2 ≤ b.1
theorem V_nil (x : Int) : ¬ V [] x := fun ⟨_, h, _⟩ => absurd h (by simp)
theorem V_cons {r : Int × Int} {rs : List (Int × Int)} {x : Int} : V (r :: rs) x ↔ (r.1 ≤ x ∧ x ≤ r.2) ∨ V rs x := by
  constructor
  · rintro ⟨q, h, h2⟩
    rcases List.mem_cons.1 h with rfl | h
    · exact .inl h2
    · exact .inr ⟨q, h, h2⟩
  · rintro (h | ⟨q, h, h2⟩)
    · exact ⟨r, List.mem_cons_self, h⟩
    · exact ⟨q, List.mem_cons_of_mem _ h, h2⟩
theorem V_append {rs qs : List (Int × Int)} {x : Int} : V (rs ++ qs) x ↔ V rs x ∨ V qs x := by
  constructor
  · rintro ⟨q, h, h2⟩
    rcases List.mem_append.1 h with h | h
    · exact .inl ⟨q, h, h2⟩
    · exact .inr ⟨q, h, h2⟩
  · rintro (⟨q, h, h2⟩ | ⟨q, h, h2⟩)
    · exact ⟨q, List.mem_append_left _ h, h2⟩
    · exact ⟨q, List.mem_append_right _ h, h2⟩
theorem V_one {r : Int × Int} {x : Int} : V [r] x ↔ r.1 ≤ x ∧ x ≤ r.2 := by
  rw [V_cons]
  exact ⟨fun h => h.elim id (fun h => absurd h (V_nil x)), .inl⟩
theorem Ok.nil : Ok [] := ⟨fun _ h => absurd h (by simp), List.Pairwise.nil⟩
theorem Ok.tail {r : Int × Int} {rs : List (Int × Int)} (h : Ok (r :: rs)) : Ok rs := ⟨fun q hq => h.1 q (List.mem_cons_of_mem _ hq), (List.pairwise_cons.1 h.2).2⟩
theorem Ok.sub {rs qs : List (Int × Int)} (h : Ok rs) (hs : qs.Sublist rs) : Ok qs := ⟨fun q hq => h.1 q (hs.subset hq), h.2.sublist hs⟩
theorem Ok.above {r : Int × Int} {rs : List (Int × Int)} (h : Ok (r :: rs)) {x : Int} (hx : V rs x) : r.2 + 2 ≤ x := by
  obtain ⟨q, hq, h1, h2⟩ := hx
  have := (List.pairwise_cons.1 h.2).1 q hq
  omega
theorem V_range {rs : List (Int × Int)} (h : Ok rs) {x : Int} (hx : V rs x) : 0 ≤ x ∧ x ≤ 65535 := by
  obtain ⟨q, hq, h1, h2⟩ := hx
  have := h.1 q hq
  unfold Good at this
  omega
theorem ok_ext : ∀ {rs qs : List (Int × Int)}, Ok rs → Ok qs → (∀ x, V rs x ↔ V qs x) → rs = qs := by
  intro rs
  induction rs with
  | nil =>
    intro qs _ hq h
    cases qs with
    | nil => rfl
    | cons q qs =>
      have g := hq.1 q List.mem_cons_self
      exact absurd ((h q.1).2 (V_cons.2 (.inl ⟨Int.le_refl _, g.2.1⟩))) (V_nil _)
  | cons r rs ih =>
    intro qs hr hq h
    cases qs with
    | nil =>
      have g := hr.1 r List.mem_cons_self
      exact absurd ((h r.1).1 (V_cons.2 (.inl ⟨Int.le_refl _, g.2.1⟩))) (V_nil _)
    | cons q qs =>
      have g := hr.1 r List.mem_cons_self
      have g' := hq.1 q List.mem_cons_self
      unfold Good at g g'
      have a1 : q.1 ≤ r.1 := by
        rcases V_cons.1 ((h r.1).1 (V_cons.2 (.inl ⟨Int.le_refl _, g.2.1⟩))) with e | e
        · exact e.1
        · have := hq.above e; omega
      have a2 : r.1 ≤ q.1 := by
        rcases V_cons.1 ((h q.1).2 (V_cons.2 (.inl ⟨Int.le_refl _, g'.2.1⟩))) with e | e
        · exact e.1
        · have := hr.above e; omega
      have b1 : r.2 ≤ q.2 := by
        rcases Int.lt_or_le q.2 r.2 with e | e
        · rcases V_cons.1 ((h (q.2 + 1)).1 (V_cons.2 (.inl ⟨by omega, by omega⟩))) with e2 | e2
          · omega
          · have := hq.above e2; omega
        · exact e
      have b2 : q.2 ≤ r.2 := by
        rcases Int.lt_or_le r.2 q.2 with e | e
        · rcases V_cons.1 ((h (r.2 + 1)).2 (V_cons.2 (.inl ⟨by omega, by omega⟩))) with e2 | e2
          · omega
          · have := hr.above e2; omega
        · exact e
      obtain rfl : r = q := Prod.ext (by omega) (by omega)
      rw [ih hr.tail hq.tail fun x => ?_]
      constructor
      · intro hx
        have h1 := hr.above hx
        rcases V_cons.1 ((h x).1 (V_cons.2 (.inr hx))) with e | e
        · omega
        · exact e
      · intro hx
        have h1 := hq.above hx
        rcases V_cons.1 ((h x).2 (V_cons.2 (.inr hx))) with e | e
        · omega
        · exact e
/-- All numbers of a run. -/
def nums (r : Int × Int) : List Int := (List.range (r.2 - r.1 + 1).toNat).map fun (k : Nat) => r.1 + (k : Int)
def flat (rs : List (Int × Int)) : List Int := rs.flatMap nums
theorem mem_nums {r : Int × Int} {x : Int} : x ∈ nums r ↔ r.1 ≤ x ∧ x ≤ r.2 := by
  unfold nums
  rw [List.mem_map]
  constructor
  · rintro ⟨k, hk, rfl⟩
    rw [List.mem_range] at hk
    omega
  · intro h
    exact ⟨(x - r.1).toNat, by rw [List.mem_range]; omega, by omega⟩
theorem nums_up (r : Int × Int) : (nums r).Pairwise (· < ·) := by
  unfold nums
  rw [List.pairwise_map]
  exact List.Pairwise.imp (fun {a b} h => by omega) List.pairwise_lt_range
theorem nums_len (r : Int × Int) : (nums r).length = (r.2 - r.1 + 1).toNat := by
  unfold nums
  rw [List.length_map, List.length_range]
theorem mem_flat {rs : List (Int × Int)} {x : Int} : x ∈ flat rs ↔ V rs x := by
  unfold flat
  rw [List.mem_flatMap]
  constructor
  · rintro ⟨r, h, h2⟩
    exact ⟨r, h, mem_nums.1 h2⟩
  · rintro ⟨r, h, h2⟩
    exact ⟨r, h, mem_nums.2 h2⟩
theorem flat_up : ∀ {rs : List (Int × Int)}, Ok rs → (flat rs).Pairwise (· < ·) := by
  intro rs
  induction rs with
  | nil => intro _; exact List.Pairwise.nil
  | cons r rs ih =>
    intro h
    show (nums r ++ flat rs).Pairwise (· < ·)
    refine List.pairwise_append.2 ⟨nums_up r, ih h.tail, fun x hx y hy => ?_⟩
    have h1 := mem_nums.1 hx
    have h2 := h.above (mem_flat.1 hy)
    omega
theorem flat_take {rs : List (Int × Int)} {k : Nat} (h : k < rs.length) : flat (rs.take (k + 1)) = flat (rs.take k) ++ nums rs[k] := by
  rw [List.take_succ_eq_append_getElem h]
  unfold flat
  rw [List.flatMap_append]
  simp
theorem flat_len_take {rs : List (Int × Int)} {k : Nat} (h : k < rs.length) : (flat (rs.take (k + 1))).length = (flat (rs.take k)).length + (rs[k].2 - rs[k].1 + 1).toNat := by
  rw [flat_take h, List.length_append, nums_len]
/-- Where runs of numbers begin. -/
def starts (l : List Int) : List Int := l.filter fun x => !decide ((x - 1) ∈ l)
theorem firsts_up {rs : List (Int × Int)} (h : Ok rs) : (rs.map (·.1)).Pairwise (· < ·) := by
  rw [List.pairwise_map]
  refine (List.Pairwise.imp_of_mem (fun {a b} ha _ hab => ?_) h.2)
  have := h.1 a ha
  unfold Good at this
  omega
theorem first_in {rs : List (Int × Int)} (h : Ok rs) (x : Int) : x ∈ rs.map (·.1) ↔ V rs x ∧ ¬ V rs (x - 1) := by
  induction rs with
  | nil => exact ⟨fun h => absurd h (by simp), fun h => absurd h.1 (V_nil x)⟩
  | cons r rs ih =>
    have g := h.1 r List.mem_cons_self
    unfold Good at g
    rw [List.map_cons, List.mem_cons, ih h.tail, V_cons, V_cons]
    constructor
    · rintro (e | ⟨h1, h2⟩)
      · subst e
        refine ⟨.inl ⟨Int.le_refl _, g.2.1⟩, ?_⟩
        rintro (e | e)
        · omega
        · have := h.above e; omega
      · have h3 := h.above h1
        refine ⟨.inr h1, ?_⟩
        rintro (e | e)
        · omega
        · exact h2 e
    · rintro ⟨h1 | h1, h2⟩
      · left
        rcases Int.lt_or_le r.1 x with e | e
        · exact absurd (.inl ⟨by omega, by omega⟩) h2
        · omega
      · exact .inr ⟨h1, fun e => h2 (.inr e)⟩
theorem starts_len {rs : List (Int × Int)} {l : List Int} (h : Ok rs) (hl : l.Pairwise (· < ·)) (hv : ∀ x, x ∈ l ↔ V rs x) : (starts l).length = rs.length := by
  have e : starts l = rs.map (·.1) := M.sorted_ext (hl.filter _) (firsts_up h) fun x => by
    rw [first_in h x]
    unfold starts
    rw [List.mem_filter, hv x]
    simp [hv]
  rw [e, List.length_map]
end Rn
end Go.Proofs.Ytejboemifncjoaa
