/- Runs of numbers: plain lists of pairs. Runs of numbers: what is joined, filled, wiped, and what is left between. append to a row of one's own, whatever is handed on, and where the row lies then. Rows of runs; how many numbers, and whether two meet; the texts walked. Len of runs; the text walked. The closures of parts, and the search over each; the texts walked. -/
import Derived.OwnWalk
import Derived.Laws.OwnMore
import Derived.Below
import Derived.Maps.AppendAt
import Derived.Deep.AppendLies
import Derived.RegionTactic
import Derived.WalkKit
import Derived.BigQuiet
import Derived.Deep.QuietTactic
import Derived.Deep.RegionHeld3
import Derived.StillTailTactics
import Derived.Test.YtkehehfphccpbaaGreatDoorMgMa
import Derived.Test.YtkehehfphccpbaaGreatDoorMgBr
import Derived.Test.YtkehehfphccpbaaGreatDoorMgBu
section
namespace Go.Proofs.YtkehehfphccpbaaGreatDoor.R
namespace Rn
/-- Some run has x. -/
def V (rs : List (Int × Int)) (x : Int) : Prop := ∃ r, r ∈ rs ∧ r.1 ≤ x ∧ x ≤ r.2
def Good (r : Int × Int) : Prop := 0 ≤ r.1 ∧ r.1 ≤ r.2 ∧ r.2 ≤ 65535
/-- Runs: each begins at least two above the end of those ahead. -/
def Ok (rs : List (Int × Int)) : Prop := (∀ r, r ∈ rs → Good r) ∧ rs.Pairwise fun a b => a.2 + 2 ≤ b.1
theorem V_nil (x : Int) : ¬ V [] x := fun ⟨_, h, _⟩ => absurd h (by simp)
theorem V_cons {r : Int × Int} {rs : List (Int × Int)} {x : Int} : V (r :: rs) x ↔ (r.1 ≤ x ∧ x ≤ r.2) ∨ V rs x := by
  constructor
  · rintro ⟨q, h, h2⟩
    rcases List.mem_cons.1 h with rfl | h
    · exact .inl h2
    · exact .inr ⟨q, h, h2⟩
  · rintro (h | ⟨q, h, h2⟩)
    · exact ⟨r, List.mem_cons_self, h⟩
    · exact ⟨q, List.mem_cons_of_mem _ h, h2⟩
theorem V_append {rs qs : List (Int × Int)} {x : Int} : V (rs ++ qs) x ↔ V rs x ∨ V qs x := by
  constructor
  · rintro ⟨q, h, h2⟩
    rcases List.mem_append.1 h with h | h
    · exact .inl ⟨q, h, h2⟩
    · exact .inr ⟨q, h, h2⟩
  · rintro (⟨q, h, h2⟩ | ⟨q, h, h2⟩)
    · exact ⟨q, List.mem_append_left _ h, h2⟩
    · exact ⟨q, List.mem_append_right _ h, h2⟩
theorem V_one {r : Int × Int} {x : Int} : V [r] x ↔ r.1 ≤ x ∧ x ≤ r.2 := by
  rw [V_cons]
  exact ⟨fun h => h.elim id (fun h => absurd h (V_nil x)), .inl⟩
theorem Ok.nil : Ok [] := ⟨fun _ h => absurd h (by simp), List.Pairwise.nil⟩
theorem Ok.tail {r : Int × Int} {rs : List (Int × Int)} (h : Ok (r :: rs)) : Ok rs := ⟨fun q hq => h.1 q (List.mem_cons_of_mem _ hq), (List.pairwise_cons.1 h.2).2⟩
theorem Ok.sub {rs qs : List (Int × Int)} (h : Ok rs) (hs : qs.Sublist rs) : Ok qs := ⟨fun q hq => h.1 q (hs.subset hq), h.2.sublist hs⟩
theorem Ok.above {r : Int × Int} {rs : List (Int × Int)} (h : Ok (r :: rs)) {x : Int} (hx : V rs x) : r.2 + 2 ≤ x := by
  obtain ⟨q, hq, h1, h2⟩ := hx
  have := (List.pairwise_cons.1 h.2).1 q hq
  omega
theorem V_range {rs : List (Int × Int)} (h : Ok rs) {x : Int} (hx : V rs x) : 0 ≤ x ∧ x ≤ 65535 := by
  obtain ⟨q, hq, h1, h2⟩ := hx
  have := h.1 q hq
  unfold Good at this
  omega
theorem ok_ext : ∀ {rs qs : List (Int × Int)}, Ok rs → Ok qs → (∀ x, V rs x ↔ V qs x) → rs = qs := by
  intro rs
  induction rs with
  | nil =>
    intro qs _ hq h
    cases qs with
    | nil => rfl
    | cons q qs =>
      have g := hq.1 q List.mem_cons_self
      exact absurd ((h q.1).2 (V_cons.2 (.inl ⟨Int.le_refl _, g.2.1⟩))) (V_nil _)
  | cons r rs ih =>
    intro qs hr hq h
    cases qs with
    | nil =>
      have g := hr.1 r List.mem_cons_self
      exact absurd ((h r.1).1 (V_cons.2 (.inl ⟨Int.le_refl _, g.2.1⟩))) (V_nil _)
    | cons q qs =>
      have g := hr.1 r List.mem_cons_self
      have g' := hq.1 q List.mem_cons_self
      unfold Good at g g'
      have a1 : q.1 ≤ r.1 := by
        rcases V_cons.1 ((h r.1).1 (V_cons.2 (.inl ⟨Int.le_refl _, g.2.1⟩))) with e | e
        · exact e.1
        · have := hq.above e; omega
      have a2 : r.1 ≤ q.1 := by
        rcases V_cons.1 ((h q.1).2 (V_cons.2 (.inl ⟨Int.le_refl _, g'.2.1⟩))) with e | e
        · exact e.1
        · have := hr.above e; omega
      have b1 : r.2 ≤ q.2 := by
        rcases Int.lt_or_le q.2 r.2 with e | e
        · rcases V_cons.1 ((h (q.2 + 1)).1 (V_cons.2 (.inl ⟨by omega, by omega⟩))) with e2 | e2
          · omega
          · have := hq.above e2; omega
        · exact e
      have b2 : q.2 ≤ r.2 := by
        rcases Int.lt_or_le r.2 q.2 with e | e
        · rcases V_cons.1 ((h (r.2 + 1)).2 (V_cons.2 (.inl ⟨by omega, by omega⟩))) with e2 | e2
          · omega
          · have := hr.above e2; omega
        · exact e
      obtain rfl : r = q := Prod.ext (by omega) (by omega)
      rw [ih hr.tail hq.tail fun x => ?_]
      constructor
      · intro hx
        have h1 := hr.above hx
        rcases V_cons.1 ((h x).1 (V_cons.2 (.inr hx))) with e | e
        · omega
        · exact e
      · intro hx
        have h1 := hq.above hx
        rcases V_cons.1 ((h x).2 (V_cons.2 (.inr hx))) with e | e
        · omega
        · exact e
/-- All numbers of a run. -/
def nums (r : Int × Int) : List Int := (List.range (r.2 - r.1 + 1).toNat).map fun (k : Nat) => r.1 + (k : Int)
def flat (rs : List (Int × Int)) : List Int := rs.flatMap nums
theorem mem_nums {r : Int × Int} {x : Int} : x ∈ nums r ↔ r.1 ≤ x ∧ x ≤ r.2 := by
  unfold nums
  rw [List.mem_map]
  constructor
  · rintro ⟨k, hk, rfl⟩
    rw [List.mem_range] at hk
    omega
  · intro h
    exact ⟨(x - r.1).toNat, by rw [List.mem_range]; omega, by omega⟩
theorem nums_up (r : Int × Int) : (nums r).Pairwise (· < ·) := by
  unfold nums
  rw [List.pairwise_map]
  exact List.Pairwise.imp (fun {a b} h => by omega) List.pairwise_lt_range
theorem nums_len (r : Int × Int) : (nums r).length = (r.2 - r.1 + 1).toNat := by
  unfold nums
  rw [List.length_map, List.length_range]
theorem mem_flat {rs : List (Int × Int)} {x : Int} : x ∈ flat rs ↔ V rs x := by
  unfold flat
  rw [List.mem_flatMap]
  constructor
  · rintro ⟨r, h, h2⟩
    exact ⟨r, h, mem_nums.1 h2⟩
  · rintro ⟨r, h, h2⟩
    exact ⟨r, h, mem_nums.2 h2⟩
theorem flat_up : ∀ {rs : List (Int × Int)}, Ok rs → (flat rs).Pairwise (· < ·) := by
  intro rs
  induction rs with
  | nil => intro _; exact List.Pairwise.nil
  | cons r rs ih =>
    intro h
    show (nums r ++ flat rs).Pairwise (· < ·)
    refine List.pairwise_append.2 ⟨nums_up r, ih h.tail, fun x hx y hy => ?_⟩
    have h1 := mem_nums.1 hx
    have h2 := h.above (mem_flat.1 hy)
    omega
theorem flat_take {rs : List (Int × Int)} {k : Nat} (h : k < rs.length) : flat (rs.take (k + 1)) = flat (rs.take k) ++ nums rs[k] := by
  rw [List.take_succ_eq_append_getElem h]
  unfold flat
  rw [List.flatMap_append]
  simp
theorem flat_len_take {rs : List (Int × Int)} {k : Nat} (h : k < rs.length) : (flat (rs.take (k + 1))).length = (flat (rs.take k)).length + (rs[k].2 - rs[k].1 + 1).toNat := by
  rw [flat_take h, List.length_append, nums_len]
/-- Where runs of numbers begin. -/
def starts (l : List Int) : List Int := l.filter fun x => !decide ((x - 1) ∈ l)
theorem firsts_up {rs : List (Int × Int)} (h : Ok rs) : (rs.map (·.1)).Pairwise (· < ·) := by
  rw [List.pairwise_map]
  refine (List.Pairwise.imp_of_mem (fun {a b} ha _ hab => ?_) h.2)
  have := h.1 a ha
  unfold Good at this
  omega
theorem first_in {rs : List (Int × Int)} (h : Ok rs) (x : Int) : x ∈ rs.map (·.1) ↔ V rs x ∧ ¬ V rs (x - 1) := by
  induction rs with
  | nil => exact ⟨fun h => absurd h (by simp), fun h => absurd h.1 (V_nil x)⟩
  | cons r rs ih =>
    have g := h.1 r List.mem_cons_self
    unfold Good at g
    rw [List.map_cons, List.mem_cons, ih h.tail, V_cons, V_cons]
    constructor
    · rintro (e | ⟨h1, h2⟩)
      · subst e
        refine ⟨.inl ⟨Int.le_refl _, g.2.1⟩, ?_⟩
        rintro (e | e)
        · omega
        · have := h.above e; omega
      · have h3 := h.above h1
        refine ⟨.inr h1, ?_⟩
        rintro (e | e)
        · omega
        · exact h2 e
    · rintro ⟨h1 | h1, h2⟩
      · left
        rcases Int.lt_or_le r.1 x with e | e
        · exact absurd (.inl ⟨by omega, by omega⟩) h2
        · omega
      · exact .inr ⟨h1, fun e => h2 (.inr e)⟩
theorem starts_len {rs : List (Int × Int)} {l : List Int} (h : Ok rs) (hl : l.Pairwise (· < ·)) (hv : ∀ x, x ∈ l ↔ V rs x) : (starts l).length = rs.length := by
  have e : starts l = rs.map (·.1) := M.sorted_ext (hl.filter _) (firsts_up h) fun x => by
    rw [first_in h x]
    unfold starts
    rw [List.mem_filter, hv x]
    simp [hv]
  rw [e, List.length_map]
end Rn
end Go.Proofs.YtkehehfphccpbaaGreatDoor.R
end
section
namespace Go.Proofs.YtkehehfphccpbaaGreatDoor.R
namespace Rn
theorem Ok.append {rs qs : List (Int × Int)} (h : Ok rs) (k : Ok qs) (hq : ∀ a, a ∈ rs → ∀ b, b ∈ qs → a.2 + 2 ≤ b.1) : Ok (rs ++ qs) :=
  ⟨fun r hr => (List.mem_append.1 hr).elim (h.1 r) (k.1 r), List.pairwise_append.2 ⟨h.2, k.2, hq⟩⟩
theorem Ok.one {r : Int × Int} (h : Good r) : Ok [r] := ⟨fun q hq => by rw [List.mem_singleton] at hq; exact hq ▸ h, List.pairwise_singleton _ _⟩
theorem Ok.last {rs : List (Int × Int)} {l : Int × Int} (h : Ok (rs ++ [l])) : ∀ a, a ∈ rs → a.2 + 2 ≤ l.1 := fun a ha => (List.pairwise_append.1 h.2).2.2 a ha l (by simp)
/-- One more is joined: it may touch the last one. -/
theorem join_touch {rs : List (Int × Int)} {l x : Int × Int} (h : Ok (rs ++ [l])) (hx : Good x) (hl : l.1 ≤ x.1) (ht : x.1 ≤ l.2 + 1) (m : Int) (hm : m = if l.2 < x.2 then x.2 else l.2) :
    Ok (rs ++ [(l.1, m)]) ∧ (∀ z, V (rs ++ [(l.1, m)]) z ↔ V (rs ++ [l]) z ∨ (x.1 ≤ z ∧ z ≤ x.2)) := by
  have hm2 : l.2 ≤ m ∧ x.2 ≤ m ∧ (m = l.2 ∨ m = x.2) := by rw [hm]; split <;> omega
  clear hm
  have g := h.1 l (by simp)
  unfold Good at g hx
  refine ⟨(h.sub (List.sublist_append_left rs [l])).append (Ok.one ⟨g.1, by show l.1 ≤ m; omega, by show m ≤ 65535; omega⟩) fun a ha b hb => ?_, fun z => ?_⟩
  · rw [List.mem_singleton] at hb
    subst hb
    exact h.last a ha
  · rw [V_append, V_append, V_one, V_one]
    constructor
    · rintro (e | ⟨e1, e2⟩)
      · exact .inl (.inl e)
      · have e2' : z ≤ m := e2
        have e1' : l.1 ≤ z := e1
        rcases Int.lt_or_le l.2 z with e | e
        · exact .inr ⟨by omega, by omega⟩
        · exact .inl (.inr ⟨e1, e⟩)
    · rintro ((e | ⟨e1, e2⟩) | ⟨e1, e2⟩)
      · exact .inl e
      · exact .inr ⟨e1, by show z ≤ m; omega⟩
      · exact .inr ⟨by show l.1 ≤ z; omega, by show z ≤ m; omega⟩
theorem join_apart {rs : List (Int × Int)} {x : Int × Int} (h : Ok rs) (hx : Good x) (hl : ∀ l, rs.getLast? = some l → l.2 + 1 < x.1) :
    Ok (rs ++ [x]) ∧ (∀ z, V (rs ++ [x]) z ↔ V rs z ∨ (x.1 ≤ z ∧ z ≤ x.2)) := by
  refine ⟨h.append (Ok.one hx) fun a ha b hb => ?_, fun z => by rw [V_append, V_one]⟩
  rw [List.mem_singleton] at hb
  subst hb
  rcases List.eq_nil_or_concat rs with e | ⟨rs', l, e⟩
  · rw [e] at ha; exact absurd ha (by simp)
  · rw [List.concat_eq_append] at e
    subst e
    have h1 := hl l (by simp)
    rcases List.mem_append.1 ha with h2 | h2
    · have := h.last a h2
      have g := h.1 l (by simp)
      unfold Good at g
      omega
    · rw [List.mem_singleton] at h2
      subst h2
      omega
/-- What fits between others: runs ahead, one, runs behind. -/
theorem fill_ok {aa ws bs : List (Int × Int)} {f t f' t' : Int} (h : Ok (aa ++ ws ++ bs)) (hf : 0 ≤ f) (hft : f ≤ t) (ht : t ≤ 65535) (ha : ∀ a, a ∈ aa → a.2 < f - 1) (hb : ∀ b, b ∈ bs → t + 1 < b.1)
    (hw : ∀ r, r ∈ ws → f - 1 ≤ r.2 ∧ r.1 ≤ t + 1) (h1 : f' ≤ f ∧ (∀ r, r ∈ ws → f' ≤ r.1) ∧ (f' = f ∨ ∃ r, r ∈ ws ∧ f' = r.1)) (h2 : t ≤ t' ∧ (∀ r, r ∈ ws → r.2 ≤ t') ∧ (t' = t ∨ ∃ r, r ∈ ws ∧ t' = r.2)) :
    Ok (aa ++ [(f', t')] ++ bs) ∧ ∀ x, V (aa ++ [(f', t')] ++ bs) x ↔ V (aa ++ ws ++ bs) x ∨ (f ≤ x ∧ x ≤ t) := by
  have hp := List.pairwise_append.1 h.2
  have hp2 := List.pairwise_append.1 hp.1
  have oa : Ok aa := h.sub ((List.sublist_append_left aa ws).trans (List.sublist_append_left _ bs))
  have ob : Ok bs := h.sub (List.sublist_append_right _ bs)
  have g1 : ∀ r, r ∈ ws → Good r := fun r hr => h.1 r (by simp [hr])
  have e1 : 0 ≤ f' := by
    rcases h1.2.2 with e | ⟨r, hr, e⟩
    · omega
    · have := g1 r hr; unfold Good at this; omega
  have e2 : t' ≤ 65535 := by
    rcases h2.2.2 with e | ⟨r, hr, e⟩
    · omega
    · have := g1 r hr; unfold Good at this; omega
  have k1 : ∀ a, a ∈ aa → a.2 + 2 ≤ f' := fun a hA => by
    rcases h1.2.2 with e | ⟨r, hr, e⟩
    · have := ha a hA; omega
    · have := hp2.2.2 a hA r hr; omega
  have k2 : ∀ b, b ∈ bs → t' + 2 ≤ b.1 := fun b hB => by
    rcases h2.2.2 with e | ⟨r, hr, e⟩
    · have := hb b hB; omega
    · have := hp.2.2 r (by simp [hr]) b hB; omega
  refine ⟨(oa.append (Ok.one ⟨e1, by show f' ≤ t'; omega, e2⟩) fun a hA b hB => ?_).append ob fun a hA b hB => ?_, fun x => ?_⟩
  · rw [List.mem_singleton] at hB
    subst hB
    exact k1 a hA
  · rcases List.mem_append.1 hA with h3 | h3
    · have := k1 a h3
      have := k2 b hB
      omega
    · rw [List.mem_singleton] at h3
      subst h3
      exact k2 b hB
  · rw [V_append, V_append, V_append, V_append, V_one]
    constructor
    · rintro ((e | ⟨e, e'⟩) | e)
      · exact .inl (.inl (.inl e))
      · have e' : x ≤ t' := e'
        have e : f' ≤ x := e
        rcases Int.lt_or_le x f with c | c
        · rcases h1.2.2 with d | ⟨r, hr, d⟩
          · omega
          · exact .inl (.inl (.inr ⟨r, hr, by omega, by have := (hw r hr).1; omega⟩))
        · rcases Int.lt_or_le t x with c' | c'
          · rcases h2.2.2 with d | ⟨r, hr, d⟩
            · omega
            · exact .inl (.inl (.inr ⟨r, hr, by have := (hw r hr).2; omega, by omega⟩))
          · exact .inr ⟨c, c'⟩
      · exact .inl (.inr e)
    · rintro (((e | ⟨r, hr, e, e'⟩) | e) | ⟨e, e'⟩)
      · exact .inl (.inl e)
      · exact .inl (.inr ⟨by have := h1.2.1 r hr; show f' ≤ x; omega, by have := h2.2.1 r hr; show x ≤ t'; omega⟩)
      · exact .inr e
      · exact .inl (.inr ⟨by show f' ≤ x; omega, by show x ≤ t'; omega⟩)
/-- What of one run lies outside of a range. -/
def cut (f t : Int) (r : Int × Int) : List (Int × Int) := (if r.1 < f then [(r.1, f - 1)] else []) ++ if t < r.2 then [(t + 1, r.2)] else []
def cuts (f t : Int) (ws : List (Int × Int)) : List (Int × Int) := ws.flatMap (cut f t)
theorem mem_cut {f t : Int} {r q : Int × Int} (h : q ∈ cut f t r) : (r.1 < f ∧ q = (r.1, f - 1)) ∨ (t < r.2 ∧ q = (t + 1, r.2)) := by
  unfold cut at h
  rcases List.mem_append.1 h with h | h
  · split at h
    · rw [List.mem_singleton] at h; exact .inl ⟨by assumption, h⟩
    · exact absurd h (by simp)
  · split at h
    · rw [List.mem_singleton] at h; exact .inr ⟨by assumption, h⟩
    · exact absurd h (by simp)
theorem cut_ok {f t : Int} {r : Int × Int} (hft : f ≤ t) (h : Good r) (h1 : f ≤ r.2) (h2 : r.1 ≤ t) : Ok (cut f t r) ∧ (∀ q, q ∈ cut f t r → r.1 ≤ q.1 ∧ q.2 ≤ r.2) ∧ ∀ x, V (cut f t r) x ↔ (r.1 ≤ x ∧ x ≤ r.2) ∧ ¬ (f ≤ x ∧ x ≤ t) := by
  unfold Good at h
  refine ⟨?_, fun q hq => ?_, fun x => ?_⟩
  · unfold cut
    by_cases a : r.1 < f
    · by_cases b : t < r.2
      · rw [if_pos a, if_pos b]
        refine (Ok.one ⟨by show 0 ≤ r.1; omega, by show r.1 ≤ f - 1; omega, by show f - 1 ≤ 65535; omega⟩).append (Ok.one ⟨by show 0 ≤ t + 1; omega, by show t + 1 ≤ r.2; omega, by show r.2 ≤ 65535; omega⟩) fun a ha b hb => ?_
        rw [List.mem_singleton] at ha hb
        subst ha hb
        show f - 1 + 2 ≤ t + 1
        omega
      · rw [if_pos a, if_neg b, List.append_nil]
        exact Ok.one ⟨by show 0 ≤ r.1; omega, by show r.1 ≤ f - 1; omega, by show f - 1 ≤ 65535; omega⟩
    · by_cases b : t < r.2
      · rw [if_neg a, if_pos b, List.nil_append]
        exact Ok.one ⟨by show 0 ≤ t + 1; omega, by show t + 1 ≤ r.2; omega, by show r.2 ≤ 65535; omega⟩
      · rw [if_neg a, if_neg b]
        exact Ok.nil
  · rcases mem_cut hq with ⟨a, e⟩ | ⟨a, e⟩
    · rw [e]; exact ⟨Int.le_refl _, by show f - 1 ≤ r.2; omega⟩
    · rw [e]; exact ⟨by show r.1 ≤ t + 1; omega, Int.le_refl _⟩
  · unfold cut
    rw [V_append]
    constructor
    · rintro (e | e)
      · split at e
        · rw [V_one] at e
          have e1 : r.1 ≤ x := e.1
          have e2 : x ≤ f - 1 := e.2
          exact ⟨⟨e1, by omega⟩, by omega⟩
        · exact absurd e (V_nil x)
      · split at e
        · rw [V_one] at e
          have e1 : t + 1 ≤ x := e.1
          have e2 : x ≤ r.2 := e.2
          exact ⟨⟨by omega, e2⟩, by omega⟩
        · exact absurd e (V_nil x)
    · rintro ⟨⟨a, b⟩, c⟩
      rcases Int.lt_or_le x f with d | d
      · left
        rw [if_pos (by omega), V_one]
        exact ⟨a, by show x ≤ f - 1; omega⟩
      · right
        rw [if_pos (by omega), V_one]
        exact ⟨by show t + 1 ≤ x; omega, b⟩
theorem cuts_ok {f t : Int} (hft : f ≤ t) : ∀ {ws : List (Int × Int)}, Ok ws → (∀ r, r ∈ ws → f ≤ r.2 ∧ r.1 ≤ t) → Ok (cuts f t ws) ∧ (∀ q, q ∈ cuts f t ws → ∃ r, r ∈ ws ∧ r.1 ≤ q.1 ∧ q.2 ≤ r.2) ∧ ∀ x, V (cuts f t ws) x ↔ V ws x ∧ ¬ (f ≤ x ∧ x ≤ t) := by
  intro ws
  induction ws with
  | nil => intro _ _; exact ⟨Ok.nil, fun q h => absurd h (by simp [cuts]), fun x => ⟨fun h => absurd h (V_nil x), fun h => absurd h.1 (V_nil x)⟩⟩
  | cons r ws ih =>
    intro h hw
    obtain ⟨i1, i2, i3⟩ := ih h.tail fun q hq => hw q (List.mem_cons_of_mem _ hq)
    obtain ⟨c1, c2, c3⟩ := cut_ok hft (h.1 r List.mem_cons_self) (hw r List.mem_cons_self).1 (hw r List.mem_cons_self).2
    have e : cuts f t (r :: ws) = cut f t r ++ cuts f t ws := rfl
    rw [e]
    refine ⟨c1.append i1 fun a ha b hb => ?_, fun q hq => ?_, fun x => ?_⟩
    · obtain ⟨q, hq, h1, _⟩ := i2 b hb
      have h2 := (c2 a ha).2
      have h3 := (List.pairwise_cons.1 h.2).1 q hq
      omega
    · rcases List.mem_append.1 hq with h1 | h1
      · exact ⟨r, List.mem_cons_self, c2 q h1⟩
      · obtain ⟨p, hp, h2⟩ := i2 q h1
        exact ⟨p, List.mem_cons_of_mem _ hp, h2⟩
    · rw [V_append, V_cons, c3, i3]
      constructor
      · rintro (⟨a, b⟩ | ⟨a, b⟩)
        · exact ⟨.inl a, b⟩
        · exact ⟨.inr a, b⟩
      · rintro ⟨a | a, b⟩
        · exact .inl ⟨a, b⟩
        · exact .inr ⟨a, b⟩
theorem wipe_ok {aa ws bs : List (Int × Int)} {f t : Int} (h : Ok (aa ++ ws ++ bs)) (hft : f ≤ t) (ha : ∀ a, a ∈ aa → a.2 < f) (hb : ∀ b, b ∈ bs → t < b.1) (hw : ∀ r, r ∈ ws → f ≤ r.2 ∧ r.1 ≤ t) :
    Ok (aa ++ cuts f t ws ++ bs) ∧ ∀ x, V (aa ++ cuts f t ws ++ bs) x ↔ V (aa ++ ws ++ bs) x ∧ ¬ (f ≤ x ∧ x ≤ t) := by
  have hp := List.pairwise_append.1 h.2
  have hp2 := List.pairwise_append.1 hp.1
  have oa : Ok aa := h.sub ((List.sublist_append_left aa ws).trans (List.sublist_append_left _ bs))
  have ow : Ok ws := h.sub ((List.sublist_append_right aa ws).trans (List.sublist_append_left _ bs))
  have ob : Ok bs := h.sub (List.sublist_append_right _ bs)
  obtain ⟨c1, c2, c3⟩ := cuts_ok hft ow hw
  refine ⟨(oa.append c1 fun a hA b hB => ?_).append ob fun a hA b hB => ?_, fun x => ?_⟩
  · obtain ⟨r, hr, h1, _⟩ := c2 b hB
    have := hp2.2.2 a hA r hr
    omega
  · rcases List.mem_append.1 hA with h3 | h3
    · exact hp.2.2 a (by simp [h3]) b hB
    · obtain ⟨r, hr, _, h1⟩ := c2 a h3
      have := hp.2.2 r (by simp [hr]) b hB
      omega
  · rw [V_append, V_append, V_append, V_append, c3]
    constructor
    · rintro ((⟨r, hr, e, e'⟩ | e) | ⟨r, hr, e, e'⟩)
      · exact ⟨.inl (.inl ⟨r, hr, e, e'⟩), by have := ha r hr; omega⟩
      · exact ⟨.inl (.inr e.1), e.2⟩
      · exact ⟨.inr ⟨r, hr, e, e'⟩, by have := hb r hr; omega⟩
    · rintro ⟨(e | e) | e, d⟩
      · exact .inl (.inl e)
      · exact .inl (.inr ⟨e, d⟩)
      · exact .inr e
/-- What is left between the first k runs, below fr. -/
structure Gaps (rs gs : List (Int × Int)) (k : Nat) (fr : Int) : Prop where
  ok : Ok gs
  low : 0 ≤ fr
  top : fr ≤ 65536
  last : ∀ q, q ∈ gs → q.2 + 2 ≤ fr
  below : ∀ r, r ∈ rs.take k → r.2 < fr
  above : ∀ r, r ∈ rs.drop k → fr ≤ r.1
  val : ∀ x, V gs x ↔ 0 ≤ x ∧ x < fr ∧ ¬ V (rs.take k) x
theorem Gaps.start {rs : List (Int × Int)} (h : Ok rs) : Gaps rs [] 0 0 :=
  ⟨Ok.nil, Int.le_refl _, by omega, fun q h => absurd h (by simp), fun r h => absurd h (by simp), fun r hr => (h.1 r (by simpa using hr)).1, fun x => ⟨fun h => absurd h (V_nil x), fun h => by omega⟩⟩
theorem Gaps.step {rs gs : List (Int × Int)} {k : Nat} {fr : Int} (g : Gaps rs gs k fr) (h : Ok rs) (hk : k < rs.length) : Gaps rs (if fr < rs[k].1 then gs ++ [(fr, rs[k].1 - 1)] else gs) (k + 1) (rs[k].2 + 1) := by
  have hd : rs.drop k = rs[k] :: rs.drop (k + 1) := List.drop_eq_getElem_cons hk
  have ht : rs.take (k + 1) = rs.take k ++ [rs[k]] := List.take_succ_eq_append_getElem hk
  have o2 : Ok (rs[k] :: rs.drop (k + 1)) := by rw [← hd]; exact h.sub (List.drop_sublist _ _)
  have gx := h.1 rs[k] (List.getElem_mem hk)
  have hx := g.above rs[k] (by rw [hd]; exact List.mem_cons_self)
  generalize rs[k] = x at *
  unfold Good at gx
  have h1 := g.low
  have hP : ∀ q, q ∈ (if fr < x.1 then gs ++ [(fr, x.1 - 1)] else gs) → q ∈ gs ∨ (fr < x.1 ∧ q = (fr, x.1 - 1)) := fun q hq => by
    split at hq
    · rcases List.mem_append.1 hq with e | e
      · exact .inl e
      · rw [List.mem_singleton] at e; exact .inr ⟨by assumption, e⟩
    · exact .inl hq
  refine ⟨?_, by omega, by omega, fun q hq => ?_, fun r hr => ?_, fun r hr => ?_, fun z => ?_⟩
  · split
    · refine g.ok.append (Ok.one ⟨h1, by show fr ≤ x.1 - 1; omega, by show x.1 - 1 ≤ 65535; omega⟩) fun a ha b hb => ?_
      rw [List.mem_singleton] at hb
      subst hb
      exact g.last a ha
    · exact g.ok
  · rcases hP q hq with e | ⟨_, e⟩
    · have := g.last q e; omega
    · rw [e]; show x.1 - 1 + 2 ≤ x.2 + 1; omega
  · rw [ht] at hr
    rcases List.mem_append.1 hr with e | e
    · have := g.below r e; omega
    · rw [List.mem_singleton] at e; rw [e]; omega
  · have := (List.pairwise_cons.1 o2.2).1 r hr; omega
  · rw [ht, V_append, V_one]
    have e1 : V (if fr < x.1 then gs ++ [(fr, x.1 - 1)] else gs) z ↔ V gs z ∨ (fr ≤ z ∧ z < x.1) := by
      split
      · rw [V_append, V_one]
        exact ⟨fun e => e.imp id fun e => ⟨e.1, by have : z ≤ x.1 - 1 := e.2; omega⟩, fun e => e.imp id fun e => ⟨e.1, by show z ≤ x.1 - 1; omega⟩⟩
      · exact ⟨.inl, fun e => e.elim id fun e => by omega⟩
    rw [e1, g.val z]
    have hb : V (rs.take k) z → z < fr := fun ⟨r, hr, a, b⟩ => by have := g.below r hr; omega
    constructor
    · rintro (⟨a, b, c⟩ | ⟨a, b⟩)
      · refine ⟨a, by omega, ?_⟩
        rintro (d | d)
        · exact c d
        · omega
      · refine ⟨by omega, by omega, ?_⟩
        rintro (d | d)
        · have := hb d; omega
        · omega
    · rintro ⟨a, b, c⟩
      rcases Int.lt_or_le z fr with d | d
      · exact .inl ⟨a, d, fun e => c (.inl e)⟩
      · exact .inr ⟨d, by
          rcases Int.lt_or_le z x.1 with e | e
          · exact e
          · exact absurd (.inr ⟨e, by omega⟩) c⟩
theorem Gaps.stop {rs gs : List (Int × Int)} {k : Nat} {fr : Int} (g : Gaps rs gs k fr) (hk : rs.length ≤ k) : Ok (if fr ≤ 65535 then gs ++ [(fr, 65535)] else gs) ∧ ∀ x, V (if fr ≤ 65535 then gs ++ [(fr, 65535)] else gs) x ↔ 0 ≤ x ∧ x ≤ 65535 ∧ ¬ V rs x := by
  have h1 := g.low
  have ht : rs.take k = rs := List.take_of_length_le hk
  have hv := g.val
  have hb := g.below
  rw [ht] at hb
  have h2 := g.top
  refine ⟨?_, fun z => ?_⟩
  · split
    · refine g.ok.append (Ok.one ⟨h1, by show fr ≤ 65535; omega, by show (65535 : Int) ≤ 65535; omega⟩) fun a ha b hb => ?_
      rw [List.mem_singleton] at hb
      subst hb
      exact g.last a ha
    · exact g.ok
  · have h4 : V rs z → z < fr := fun ⟨r, hr, a, b⟩ => by have := hb r hr; omega
    have h5 := hv z
    rw [ht] at h5
    split
    · rw [V_append, V_one, h5]
      constructor
      · rintro (⟨a, b, c⟩ | ⟨a, b⟩)
        · exact ⟨a, by omega, c⟩
        · have a : fr ≤ z := a
          have b : z ≤ 65535 := b
          exact ⟨by omega, b, fun e => by have := h4 e; omega⟩
      · rintro ⟨a, b, c⟩
        rcases Int.lt_or_le z fr with d | d
        · exact .inl ⟨a, d, c⟩
        · exact .inr ⟨d, b⟩
    · rw [h5]
      exact ⟨fun ⟨a, b, c⟩ => ⟨a, by omega, c⟩, fun ⟨a, b, c⟩ => ⟨a, by omega, c⟩⟩
end Rn
end Go.Proofs.YtkehehfphccpbaaGreatDoor.R
end
section
namespace Go.Proofs.YtkehehfphccpbaaGreatDoor.R
open Go.RowKit
theorem block_of_add (a : Addr) (n : Nat) : (a.add n).block = a.block := by unfold Addr.add; split <;> rfl
theorem add_of_add (a : Addr) (i j : Nat) : (a.add i).add j = a.add (i + j) := by
  unfold Addr.add
  by_cases hi : i = 0 <;> by_cases hj : j = 0 <;> simp [hi, hj, Nat.add_assoc]

def Reads (w : World) (B size : Nat) (A : Option Addr) (n : Nat) (xs : List Value) : Prop :=
  xs.length = n * size ∧ (0 < n → ∃ ad, A = some ad ∧ ad.block < B ∧ ∀ j u, xs[j]? = some u → w.cell? (ad.add j) = some u)

section
variable {w w' : World} {B B' size n : Nat} {A : Option Addr} {xs : List Value}
theorem Reads.none_ : Reads w B size A 0 [] := ⟨by simp, fun h => absurd h (by omega)⟩
theorem Reads.at_ {k : Nat} (h : Reads w B 1 A n xs) (hk : k < n) : ∃ ad u, A = some ad ∧ ad.block < B ∧ xs[k]? = some u ∧ w.cell? (ad.add k) = some u := by
  obtain ⟨ad, e, hb, hc⟩ := h.2 (by omega)
  have hl : k < xs.length := by have := h.1; omega
  exact ⟨ad, xs[k], e, hb, List.getElem?_eq_getElem hl, hc k _ (List.getElem?_eq_getElem hl)⟩
theorem Reads.keep (h : Reads w B size A n xs) (hk : ∀ p : Addr, p.block < B → w'.cell? p = w.cell? p) : Reads w' B size A n xs :=
  ⟨h.1, fun hn => by
    obtain ⟨ad, e, hb, hc⟩ := h.2 hn
    exact ⟨ad, e, hb, fun j u hu => (hk _ (by rw [block_of_add]; exact hb)).trans (hc j u hu)⟩⟩
theorem Reads.more (h : Reads w B size A n xs) (hB : B ≤ B') : Reads w B' size A n xs :=
  ⟨h.1, fun hn => by
    obtain ⟨ad, e, hb, hc⟩ := h.2 hn
    exact ⟨ad, e, by omega, hc⟩⟩
theorem Reads.below (h : Reads w B size A n xs) (hb : Below B w w') : Reads w' B size A n xs := h.keep fun _ hp => hb.cell hp
theorem Reads.drew (h : Reads w B size A n xs) : Reads w.drew B size A n xs := h
theorem Reads.drewN (h : Reads w B size A n xs) (k : Nat) : Reads (w.drewN k) B size A n xs := h
theorem Reads.alloc (h : Reads w B size A n xs) (hB : B ≤ w.heap.size) (o : Obj) : Reads (w.alloc o) B size A n xs := h.keep fun p hp => World.cell?_alloc_lt w o p (by omega)
theorem Reads.setCell (h : Reads w B size A n xs) {p : Addr} (hB : B ≤ p.block) (u : Value) : Reads (w.setCell p u) B size A n xs :=
  h.keep fun q hq => World.cell?_setCell_other w p q u (fun e => by subst e; omega)
theorem Reads.grown (h : Reads w B size A n xs) {row : Option Nat} (hg : w.grownBy w' row) (hB : B ≤ w.heap.size) (hr : ∀ g, row = some g → B ≤ g) : Reads w' B size A n xs :=
  h.keep fun p hp => World.cell?_of_block (hg.block p.block (by omega) (fun e => by have := hr _ e.symm; omega))
theorem Reads.cut (h : Reads w B size A n xs) {k cap : Nat} (hk : k ≤ n) (hc : n ≤ cap) :
    Reads w B size (if cap = k then A else A.map (·.add (k * size))) (n - k) (xs.drop (k * size)) := by
  refine ⟨by rw [List.length_drop, h.1, Nat.sub_mul], fun hn => ?_⟩
  obtain ⟨ad, rfl, hb, hcell⟩ := h.2 (by omega)
  rw [if_neg (by omega)]
  refine ⟨ad.add (k * size), rfl, by rw [block_of_add]; exact hb, fun j u hu => ?_⟩
  rw [add_of_add]
  exact hcell _ u (by rw [← hu, List.getElem?_drop])
theorem Reads.of_own {base : Nat} {e : TypeId} {c : Nat} (h : w.ownsRow base e size (.slice A n c) n xs) : Reads w w.heap.size size A n xs := by
  refine ⟨h.1, fun hn => ?_⟩
  obtain ⟨g, cap, hv, _, hlt⟩ := h.form hn
  have hA : A = some ⟨g, 0, none⟩ := by injection hv
  subst hA
  exact ⟨_, rfl, hlt, h.cells (g := g) rfl⟩
end
section
variable {P : Program} (w : World)

theorem run_append_of_nil (base : Nat) (t ty e : TypeId) (i : TypeInfo) (size : Nat) (ht : P.underlying t = some (.slice e)) (hi : P.info? e = some i)
    (v : Value) (n : Nat) (xs : List Value) (hown : w.ownsRow base e size v n xs) (c : Nat) : (Builtin.append_ #[t, t] ty #[v, .slice none 0 c]).run P w = .ok v w := by
  rcases hown.2 with ⟨rfl, rfl⟩ | ⟨g, cap, cur, rfl, _, _, hnc, _⟩
  · simp [Builtin.append_, run_underlying ht, sizeOf, typeInfo, hi, Builtin.lenOf, Builtin.firstCells]
  · simp [Builtin.append_, run_underlying ht, sizeOf, typeInfo, hi, Builtin.lenOf, Builtin.firstCells, hnc, storeCells]

theorem run_append_any (base : Nat) (t ty e : TypeId) (i : TypeInfo) (z : Value) (size bytes : Nat) (ht : P.underlying t = some (.slice e)) (hi : P.info? e = some i) (hz : i.zero = some z)
    (hsize : i.size = size) (hby : i.bytes = bytes) (hzs : z.cells.size = size) (hsz : 0 < size)
    (v : Value) (n : Nat) (xs : List Value) (hown : w.ownsRow base e size v n xs)
    (B : Nat) (A : Option Addr) (m c : Nat) (news : List Value) (hr : Reads w B size A m news) (h1 : ∀ u ∈ news, u.oneCell' = true)
    (h63 : n + m ≤ maxLen) (hbytes : (n + m) * bytes ≤ 140737488355328) (hbase : base ≤ w.heap.size) :
    ∃ v' w', (Builtin.append_ #[t, t] ty #[v, .slice A m c]).run P w = .ok v' w' ∧ w'.ownsRow base e size v' (n + m) (xs ++ news) ∧ w.grownBy w' v.ownBlock ∧
      (v'.ownBlock = v.ownBlock ∨ v'.ownBlock = some w.heap.size) := by
  rcases A with _ | ad
  · have hm : m = 0 := by
      rcases Nat.eq_zero_or_pos m with h0 | h0
      · exact h0
      · obtain ⟨ad, h, _⟩ := hr.2 h0
        cases h
    subst hm
    have hn : news = [] := List.eq_nil_of_length_eq_zero (by simpa using hr.1)
    subst hn
    exact ⟨v, w, run_append_of_nil w base t ty e i size ht hi v n xs hown c, by simpa using hown, World.grownBy.refl w _, .inl rfl⟩
  · have hcells : ∀ j u, news[j]? = some u → w.cell? (ad.add j) = some u := by
      intro j u hu
      rcases Nat.eq_zero_or_pos m with h0 | h0
      · subst h0
        have hn : news = [] := List.eq_nil_of_length_eq_zero (by simpa using hr.1)
        subst hn
        simp at hu
      · obtain ⟨ad', h, _, hc⟩ := hr.2 h0
        injection h with h
        subst h
        exact hc j u hu
    obtain ⟨v', w', hrun, h2, h3, _, h5⟩ := run_append_own_at (P := P) w base t ty e i z size bytes ht hi hz hsize hby hzs hsz v n xs hown ad m c news hr.1 hcells h1 h63 hbytes hbase
    exact ⟨v', w', hrun, h2, h3, h5⟩

theorem wp_append_any {o : Oper} {a : Act} {K : Act → World → Prop} {Q : Exit → Act → World → Prop} (s x : Operand) (t : TypeId)
    (ho : o.op = .call { callee := .builtin .append, args := #[s, x], argTypes := #[t, t] })
    (base : Nat) (e : TypeId) (i : TypeInfo) (z : Value) (size bytes : Nat) (ht : P.underlying t = some (.slice e)) (hi : P.info? e = some i) (hz : i.zero = some z)
    (hsize : i.size = size) (hby : i.bytes = bytes) (hzs : z.cells.size = size) (hsz : 0 < size)
    (v : Value) (n : Nat) (xs : List Value) (hs : a.eval s = v) (hown : w.ownsRow base e size v n xs)
    (B : Nat) (A : Option Addr) (m c : Nat) (news : List Value) (hx : a.eval x = .slice A m c) (hr : Reads w B size A m news) (h1 : ∀ u ∈ news, u.oneCell' = true)
    (h63 : n + m ≤ maxLen) (hbytes : (n + m) * bytes ≤ 140737488355328) (hbase : base ≤ w.heap.size)
    (h : ∀ v' w', w'.ownsRow base e size v' (n + m) (xs ++ news) → w.grownBy w' v.ownBlock → (v'.ownBlock = v.ownBlock ∨ v'.ownBlock = some w.heap.size) → K (a.put o.dst v') w') : o.wp P a w K Q := by
  obtain ⟨v', w', hrun, h2, h3, h4⟩ := run_append_any (P := P) w base t o.type e i z size bytes ht hi hz hsize hby hzs hsz v n xs hown B A m c news hr h1 h63 hbytes hbase
  unfold Oper.wp execOp
  simp only [ho, resolve, invoke, builtin, Sem.run_bind, Sem.run_pure, Result.andThen_ok, List.map_toArray, List.map_cons, List.map_nil, hs, hx, hrun]
  exact h v' w' h2 h3 h4

theorem wpList_append_any {ops : Array Oper} {rest : List Oper} {o : Oper} {a : Act} {Q : Exit → Act → World → Prop} (hgd : o.guard = none) (s x : Operand) (t : TypeId)
    (ho : o.op = .call { callee := .builtin .append, args := #[s, x], argTypes := #[t, t] })
    (base : Nat) (e : TypeId) (i : TypeInfo) (z : Value) (size bytes : Nat) (ht : P.underlying t = some (.slice e)) (hi : P.info? e = some i) (hz : i.zero = some z)
    (hsize : i.size = size) (hby : i.bytes = bytes) (hzs : z.cells.size = size) (hsz : 0 < size)
    (v : Value) (n : Nat) (xs : List Value) (hs : a.eval s = v) (hown : w.ownsRow base e size v n xs)
    (B : Nat) (A : Option Addr) (m c : Nat) (news : List Value) (hx : a.eval x = .slice A m c) (hr : Reads w B size A m news) (h1 : ∀ u ∈ news, u.oneCell' = true)
    (h63 : n + m ≤ maxLen) (hbytes : (n + m) * bytes ≤ 140737488355328) (hbase : base ≤ w.heap.size)
    (h : ∀ v' w', w'.ownsRow base e size v' (n + m) (xs ++ news) → w.grownBy w' v.ownBlock → (v'.ownBlock = v.ownBlock ∨ v'.ownBlock = some w.heap.size) → wpList P ops Q rest (a.put o.dst v') w') : wpList P ops Q (o :: rest) a w :=
  wpList_plain hgd fun _ hK => wp_append_any w s x t ho base e i z size bytes ht hi hz hsize hby hzs hsz v n xs hs hown B A m c news hx hr h1 h63 hbytes hbase fun v' w' h2 h3 h4 => hK _ _ (h v' w' h2 h3 h4)

theorem step_append_any {ops : Array Oper} {o : Oper} {a : Act} {K : Act → World → Prop} {Q : Exit → Act → World → Prop} {E : Prop} (hgd : o.guard = none) (s x : Operand) (t : TypeId)
    (ho : o.op = .call { callee := .builtin .append, args := #[s, x], argTypes := #[t, t] })
    (base : Nat) (e : TypeId) (i : TypeInfo) (z : Value) (size bytes : Nat) (ht : P.underlying t = some (.slice e)) (hi : P.info? e = some i) (hz : i.zero = some z)
    (hsize : i.size = size) (hby : i.bytes = bytes) (hzs : z.cells.size = size) (hsz : 0 < size)
    (v : Value) (n : Nat) (xs : List Value) (hs : a.eval s = v) (hown : w.ownsRow base e size v n xs)
    (B : Nat) (A : Option Addr) (m c : Nat) (news : List Value) (hx : a.eval x = .slice A m c) (hr : Reads w B size A m news) (h1 : ∀ u ∈ news, u.oneCell' = true)
    (h63 : n + m ≤ maxLen) (hbytes : (n + m) * bytes ≤ 140737488355328) (hbase : base ≤ w.heap.size)
    (h : ∀ v' w', w'.ownsRow base e size v' (n + m) (xs ++ news) → w.grownBy w' v.ownBlock → (v'.ownBlock = v.ownBlock ∨ v'.ownBlock = some w.heap.size) → K (a.put o.dst v') w') :
    if Region.wanted o (yielded ops a.tmps) = true then Oper.wp P o a w K Q else E := by
  have hw : Region.wanted o (yielded ops a.tmps) = true := by simp [Region.wanted, hgd]
  rw [if_pos hw]
  exact wp_append_any w s x t ho base e i z size bytes ht hi hz hsize hby hzs hsz v n xs hs hown B A m c news hx hr h1 h63 hbytes hbase h
end
end Go.Proofs.YtkehehfphccpbaaGreatDoor.R
end
section
namespace Go.Proofs.YtkehehfphccpbaaGreatDoor.R
set_option maxRecDepth 40000
open Go.RowKit
abbrev rv (rs : List (Int × Int)) : List Value := rs.flatMap fun r => [.int .u16 r.1, .int .u16 r.2]
theorem rv_len (rs : List (Int × Int)) : (rv rs).length = rs.length * 2 := by
  induction rs with
  | nil => rfl
  | cons r rs ih =>
    have hc : rv (r :: rs) = Value.int .u16 r.1 :: Value.int .u16 r.2 :: rv rs := rfl
    rw [hc]; simp only [List.length_cons, ih]; omega
theorem rv_at : ∀ (rs : List (Int × Int)) (k : Nat) (h : k < rs.length), (rv rs)[k * 2]? = some (.int .u16 rs[k].1) ∧ (rv rs)[k * 2 + 1]? = some (.int .u16 rs[k].2)
  | r :: rs, 0, _ => by simp [rv]
  | r :: rs, k + 1, h => by
    have hc : rv (r :: rs) = Value.int .u16 r.1 :: Value.int .u16 r.2 :: rv rs := rfl
    have ih := rv_at rs k (by simpa using h)
    have e0 : (k + 1) * 2 = k * 2 + 2 := by omega
    rw [hc, e0]
    exact ih
theorem rv_append (rs qs : List (Int × Int)) : rv (rs ++ qs) = rv rs ++ rv qs := List.flatMap_append
theorem rv_one (rs : List (Int × Int)) : ∀ u ∈ rv rs, u.oneCell' = true := by
  intro u hu
  obtain ⟨r, _, hr⟩ := List.mem_flatMap.1 hu
  simp at hr
  rcases hr with rfl | rfl <;> rfl
/-- The slice at A has these runs, in blocks below B. -/
def Rq (w : World) (B : Nat) (A : Option Addr) (rs : List (Int × Int)) : Prop :=
  rs ≠ [] → ∃ b off, A = some ⟨b, off, none⟩ ∧ b < B ∧ ∀ (k : Nat) (h : k < rs.length), w.cell? ⟨b, off + k * 2, none⟩ = some (.int .u16 rs[k].1) ∧ w.cell? ⟨b, off + k * 2 + 1, none⟩ = some (.int .u16 rs[k].2)
theorem Rq.nil (w : World) (B : Nat) (A : Option Addr) : Rq w B A [] := fun h => absurd rfl h
theorem Rq.below {w w' : World} {B B' : Nat} {A : Option Addr} {rs : List (Int × Int)} (h : Rq w B A rs) (hb : Below B' w w') (hB : B ≤ B') : Rq w' B A rs := fun hne => by
  obtain ⟨b, off, h1, h2, h3⟩ := h hne
  exact ⟨b, off, h1, h2, fun k hk => ⟨(hb.cell (p := ⟨b, off + k * 2, none⟩) (by show b < B'; omega)).trans (h3 k hk).1, (hb.cell (p := ⟨b, off + k * 2 + 1, none⟩) (by show b < B'; omega)).trans (h3 k hk).2⟩⟩
theorem Rq.more {w : World} {B B' : Nat} {A : Option Addr} {rs : List (Int × Int)} (h : Rq w B A rs) (hB : B ≤ B') : Rq w B' A rs := fun hne => by
  obtain ⟨b, off, h1, h2, h3⟩ := h hne
  exact ⟨b, off, h1, by omega, h3⟩
theorem Rq.drew {w : World} {B : Nat} {A : Option Addr} {rs : List (Int × Int)} (h : Rq w B A rs) (n : Nat) : Rq (w.drewN n) B A rs := h
theorem Rq.at {w : World} {B : Nat} {A : Option Addr} {rs : List (Int × Int)} (h : Rq w B A rs) {k : Nat} (hk : k < rs.length) : ∃ b off, A = some ⟨b, off, none⟩ ∧ b < B ∧ w.cell? ⟨b, off + k * 2, none⟩ = some (.int .u16 rs[k].1) ∧ w.cell? ⟨b, off + k * 2 + 1, none⟩ = some (.int .u16 rs[k].2) := by
  obtain ⟨b, off, h1, h2, h3⟩ := h (by intro e; subst e; simp at hk)
  exact ⟨b, off, h1, h2, h3 k hk⟩
theorem Rq.of_own {w : World} {base : Nat} {v : Value} {rs : List (Int × Int)} (h : w.ownsRow base 112 2 v rs.length (rv rs)) : ∃ A c, v = .slice A rs.length c ∧ Rq w w.heap.size A rs ∧ rs.length ≤ c := by
  rcases h.2 with ⟨rfl, hn⟩ | ⟨g, cap, cur, rfl, hb, hg, hnc, _⟩
  · exact ⟨none, 0, by rw [hn], by rw [List.eq_nil_of_length_eq_zero hn]; exact Rq.nil _ _ _, by omega⟩
  · refine ⟨some ⟨g, 0, none⟩, cap, rfl, fun hne => ⟨g, 0, rfl, (Array.getElem?_eq_some_iff.1 hg).1, fun k hk => ?_⟩, hnc⟩
    obtain ⟨h0, h1⟩ := rv_at rs k hk
    have f := h.cells (g := g) rfl
    have f0 := f _ _ h0
    have f1 := f _ _ h1
    simp only [add_offB] at f0 f1
    rw [Nat.zero_add]
    exact ⟨f0, f1⟩
theorem r_size (w : World) (f t : Int) (hf : 0 ≤ f ∧ f ≤ 65535) (ht : 0 ≤ t ∧ t ≤ 65535) :
    Calls Tryz.prog 189 #[.agg #[.int .u16 f, .int .u16 t]] w fun e w' => e = .returned (.int .i64 (t - f + 1)) ∧ w' = w.alloc (.cells #[.int .u16 f, .int .u16 t] 112) := by
  have w1 : IntKind.i64.wrap t = t := IntWalk.i64_in _ (by omega)
  have w2 : IntKind.i64.wrap f = f := IntWalk.i64_in _ (by omega)
  have w3 : IntKind.i64.wrap (t - f) = t - f := IntWalk.i64_in _ (by omega)
  have w4 : IntKind.i64.wrap (t - f + 1) = t - f + 1 := IntWalk.i64_in _ (by omega)
  go_enter Tryz.func189, Tryz.ntmps189
  go_wp2
  go_ret
  exact ⟨rfl, rfl⟩
theorem r_meet (w : World) (f t f' t' : Int) (ht : 0 ≤ t ∧ t ≤ 65535) (hf' : 0 ≤ f' ∧ f' ≤ 65535) :
    Calls Tryz.prog 99 #[.agg #[.int .u16 f, .int .u16 t], .agg #[.int .u16 f', .int .u16 t']] w fun e w' => e = .returned (.bool (decide (f' ≤ t + 1))) ∧ w' = (w.alloc (.cells #[.int .u16 f, .int .u16 t] 112)).alloc (.cells #[.int .u16 f', .int .u16 t'] 112) := by
  have w1 : IntKind.i64.wrap t = t := IntWalk.i64_in _ (by omega)
  have w2 : IntKind.i64.wrap f' = f' := IntWalk.i64_in _ (by omega)
  have w3 : IntKind.i64.wrap (t + 1) = t + 1 := IntWalk.i64_in _ (by omega)
  go_enter Tryz.func99, Tryz.ntmps99
  go_wp2
  go_ret
  exact ⟨rfl, rfl⟩
end Go.Proofs.YtkehehfphccpbaaGreatDoor.R
end
section
namespace Go.Proofs.YtkehehfphccpbaaGreatDoor.R
set_option maxRecDepth 40000
open Go.RowKit
theorem flat_le {rs : List (Int × Int)} {k : Nat} : (Rn.flat (rs.take k)).length ≤ (Rn.flat rs).length := by
  conv => rhs; rw [← List.take_append_drop k rs]
  unfold Rn.flat; rw [List.flatMap_append, List.length_append]; omega
set_option maxHeartbeats 4000000 in
set_option maxRecDepth 100000 in
theorem r_len (w : World) (B n c : Nat) (A : Option Addr) (rs : List (Int × Int)) (hn : n = rs.length) (hr : Rq w B A rs) (hB : B ≤ w.heap.size) (hg : ∀ r, r ∈ rs → Rn.Good r) (few : (Rn.flat rs).length ≤ 1000000) (few2 : n ≤ 1000000) :
    Calls Tryz.prog 186 #[.slice A n c] w fun e w' => e = .returned (.int .i64 ((Rn.flat rs).length : Nat)) ∧ Below w.heap.size w w' := by
  have HR := Lib.hid hr
  have HN := Lib.hid hn
  have HG := Lib.hid hg
  have HF := Lib.hid few
  clear hr hn hg few
  go_enter Tryz.func186, Tryz.ntmps186
  go_wp2
  go_loopw [3, 8] (fun vn vi wr => ∃ k : Nat, k ≤ n ∧ vi = .int .i64 k ∧ vn = .int .i64 ((Rn.flat (rs.take k)).length : Nat) ∧ Hid (Below w.heap.size w wr)) (fun _ vi _ => n - (intOf vi).toNat)
  case atStart => exact ⟨0, Nat.zero_le _, rfl, rfl, Lib.hid (Below.refl _ _)⟩
  case round =>
    obtain ⟨k, hk, rfl, rfl, HW⟩ := hrel
    by_cases hlt : k < n
    · have hkz : k < rs.length := by rw [← HN.out]; exact hlt
      obtain ⟨b, off, rfl, _, hc1, hc2⟩ := (HR.out.below HW.out hB).at hkz
      have g := HG.out _ (List.getElem_mem hkz)
      unfold Rn.Good at g
      have HS := Lib.hid (Rn.flat_len_take hkz)
      have hle := flat_le (rs := rs) (k := k + 1)
      have HLE := Lib.hid (Nat.le_trans hle HF.out)
      clear hle
      generalize rs[k] = r at *
      obtain ⟨f, t⟩ := r
      simp only at hc1 hc2 g HS
      obtain ⟨q1, hq1⟩ : ∃ q1, (Rn.flat (rs.take (k + 1))).length = q1 := ⟨_, rfl⟩
      obtain ⟨q, hq⟩ : ∃ q, (Rn.flat (rs.take k)).length = q := ⟨_, rfl⟩
      rw [hq1] at HLE HS
      rw [hq] at HS
      rw [hq]
      have HQ := Lib.hid hq1
      have hs := HS.out
      have hl := HLE.out
      have w1 : IntKind.i64.wrap ((q : Int) + (t - f + 1)) = (q1 : Int) := by rw [IntWalk.i64_in _ (by omega)]; omega
      clear hq hq1 hs hl
      go_wp2
      go_roundw
      case rel => exact ⟨k + 1, by omega, by go_num, by rw [HQ.out], Lib.hid ((HW.out.alloc HW.out.size _).alloc (by have := HW.out.size; simp; omega) _)⟩
      case measure => simp [intOf]; omega
    · have hkn : rs.take k = rs := List.take_of_length_le (by rw [← HN.out]; omega)
      rw [hkn]
      clear hkn
      go_wp2
      go_ret
      exact ⟨rfl, HW.out⟩
end Go.Proofs.YtkehehfphccpbaaGreatDoor.R
end
section
namespace Go.Proofs.YtkehehfphccpbaaGreatDoor.R
set_option maxRecDepth 40000
open Go.RowKit
theorem clos1 (w : World) (gl gv b off i n c : Nat) (f t F : Int) (hi : i < n) (hg : w.cell? ⟨gl, 0, none⟩ = some (.slice (some ⟨b, off, none⟩) n c)) (hv : w.cell? ⟨gv, 0, none⟩ = some (.int .i64 F)) (_h1 : w.cell? ⟨b, off + i * 2, none⟩ = some (.int .u16 f)) (h2 : w.cell? ⟨b, off + i * 2 + 1, none⟩ = some (.int .u16 t)) (hf : 0 ≤ f ∧ f ≤ 65535) (ht : 0 ≤ t ∧ t ≤ 65535) :
    Calls Tryz.prog 191 #[.int .i64 (i : Int), .pointer (some ⟨gl, 0, none⟩), .pointer (some ⟨gv, 0, none⟩)] w fun e w' => e = .returned (.bool (decide (F ≤ t))) ∧ ∃ q, w' = w.drewN q := by
  have w1 : IntKind.i64.wrap t = t := IntWalk.i64_in _ (by omega)
  have w2 : IntKind.i64.wrap f = f := IntWalk.i64_in _ (by omega)
  have hin : (i : Int) < (n : Int) := by omega
  go_enter Tryz.func191, Tryz.ntmps191
  go_wp2
  go_quiet (fail)
  go_wp2
  go_ret
  exact ⟨rfl, _, rfl⟩
theorem clos2 (w : World) (gl gv b off i n c : Nat) (f t F : Int) (hi : i < n) (hg : w.cell? ⟨gl, 0, none⟩ = some (.slice (some ⟨b, off, none⟩) n c)) (hv : w.cell? ⟨gv, 0, none⟩ = some (.int .i64 F)) (h1 : w.cell? ⟨b, off + i * 2, none⟩ = some (.int .u16 f)) (_h2 : w.cell? ⟨b, off + i * 2 + 1, none⟩ = some (.int .u16 t)) (hf : 0 ≤ f ∧ f ≤ 65535) (ht : 0 ≤ t ∧ t ≤ 65535) :
    Calls Tryz.prog 192 #[.int .i64 (i : Int), .pointer (some ⟨gl, 0, none⟩), .pointer (some ⟨gv, 0, none⟩)] w fun e w' => e = .returned (.bool (decide (F < f))) ∧ ∃ q, w' = w.drewN q := by
  have w1 : IntKind.i64.wrap t = t := IntWalk.i64_in _ (by omega)
  have w2 : IntKind.i64.wrap f = f := IntWalk.i64_in _ (by omega)
  have hin : (i : Int) < (n : Int) := by omega
  go_enter Tryz.func192, Tryz.ntmps192
  go_wp2
  go_quiet (fail)
  go_wp2
  go_ret
  exact ⟨rfl, _, rfl⟩
set_option maxHeartbeats 4000000 in
set_option maxRecDepth 100000 in
theorem search1 (w : World) (n : Nat) (gl gv : Nat) (p : Nat → Bool) (few : n ≤ 1000000) (hm : ∀ a b, a ≤ b → b < n → p a = true → p b = true)
    (hc : ∀ q i, i < n → Calls Tryz.prog 191 #[.int .i64 (i : Int), .pointer (some ⟨gl, 0, none⟩), .pointer (some ⟨gv, 0, none⟩)] (w.drewN q) fun e w' => e = .returned (.bool (p i)) ∧ ∃ q', w' = w.drewN q') :
    Calls Tryz.prog 190 #[.int .i64 (n : Int), .func (.func 191) #[] #[.pointer (some ⟨gl, 0, none⟩), .pointer (some ⟨gv, 0, none⟩)]] w fun e w' => ∃ r : Nat, e = .returned (.int .i64 (r : Int)) ∧ r ≤ n ∧ (∀ k, k < r → p k = false) ∧ (∀ k, r ≤ k → k < n → p k = true) ∧ ∃ q, w' = w.drewN q := by
  have HC := Lib.hid hc
  have HM := Lib.hid hm
  clear hc hm
  go_enter Tryz.func190, Tryz.ntmps190
  go_wp2_with (fail)
  go_loopw [5, 6] (fun vi vj wr => ∃ i j : Nat, vi = .int .i64 i ∧ vj = .int .i64 j ∧ i ≤ j ∧ j ≤ n ∧ Hid (∀ k, k < i → p k = false) ∧ Hid (∀ k, j ≤ k → k < n → p k = true) ∧ Hid (∃ q, wr = w.drewN q)) (fun vi vj _ => (intOf vj - intOf vi).toNat)
  case atStart => exact ⟨0, n, rfl, rfl, Nat.zero_le _, Nat.le_refl _, Lib.hid (fun k h => by omega), Lib.hid (fun k h h' => by omega), Lib.hid ⟨0, rfl⟩⟩
  case round =>
    obtain ⟨i, j, rfl, rfl, hij, hjn, hL, hR, hQ⟩ := hrel
    obtain ⟨q, hq⟩ := hQ.out
    subst hq
    by_cases hlt : i < j
    · obtain ⟨h, hh⟩ : ∃ h, h = (i + j) / 2 := ⟨_, rfl⟩
      have eh : ((i : Int) + (j : Int)) / 2 = (h : Int) := by omega
      have hhi : i ≤ h := by omega
      have hhj : h < j := by omega
      clear hh
      have hhn : h < n := by omega
      have HCH := Lib.hid (HC.out q h hhn)
      have hs0 : 0 ≤ (i : Int) + (j : Int) := by omega
      have hs1 : (i : Int) + (j : Int) ≤ 2000000 := by omega
      obtain ⟨b, hb⟩ : ∃ b, p h = b := ⟨_, rfl⟩
      rw [hb] at HCH
      have HB := Lib.hid hb
      clear hb
      cases b
      · go_wp2_with (go_at_call 191; (with_reducible refine HCH.out.mono ?_); rintro e w' ⟨rfl, q', rfl⟩)
        go_roundw
        case rel => exact ⟨h + 1, j, by go_num, rfl, by omega, hjn, Lib.hid (fun k hk => by
          cases e : p k
          · rfl
          · have := HM.out k h (by omega) hhn e
            rw [HB.out] at this
            cases this), hR, Lib.hid ⟨_, rfl⟩⟩
        case measure => simp [intOf]; omega
      · go_wp2_with (go_at_call 191; (with_reducible refine HCH.out.mono ?_); rintro e w' ⟨rfl, q', rfl⟩)
        go_roundw
        case rel => exact ⟨i, h, rfl, rfl, hhi, by omega, hL, Lib.hid (fun k hk hkn => HM.out h k hk hkn HB.out), Lib.hid ⟨_, rfl⟩⟩
        case measure => simp [intOf]; omega
    · have hji : j = i := by omega
      subst hji
      go_wp2
      go_ret
      exact ⟨j, rfl, hjn, hL.out, hR.out, _, rfl⟩
set_option maxHeartbeats 4000000 in
set_option maxRecDepth 100000 in
theorem search2 (w : World) (n : Nat) (gl gv : Nat) (p : Nat → Bool) (few : n ≤ 1000000) (hm : ∀ a b, a ≤ b → b < n → p a = true → p b = true)
    (hc : ∀ q i, i < n → Calls Tryz.prog 192 #[.int .i64 (i : Int), .pointer (some ⟨gl, 0, none⟩), .pointer (some ⟨gv, 0, none⟩)] (w.drewN q) fun e w' => e = .returned (.bool (p i)) ∧ ∃ q', w' = w.drewN q') :
    Calls Tryz.prog 190 #[.int .i64 (n : Int), .func (.func 192) #[] #[.pointer (some ⟨gl, 0, none⟩), .pointer (some ⟨gv, 0, none⟩)]] w fun e w' => ∃ r : Nat, e = .returned (.int .i64 (r : Int)) ∧ r ≤ n ∧ (∀ k, k < r → p k = false) ∧ (∀ k, r ≤ k → k < n → p k = true) ∧ ∃ q, w' = w.drewN q := by
  have HC := Lib.hid hc
  have HM := Lib.hid hm
  clear hc hm
  go_enter Tryz.func190, Tryz.ntmps190
  go_wp2_with (fail)
  go_loopw [5, 6] (fun vi vj wr => ∃ i j : Nat, vi = .int .i64 i ∧ vj = .int .i64 j ∧ i ≤ j ∧ j ≤ n ∧ Hid (∀ k, k < i → p k = false) ∧ Hid (∀ k, j ≤ k → k < n → p k = true) ∧ Hid (∃ q, wr = w.drewN q)) (fun vi vj _ => (intOf vj - intOf vi).toNat)
  case atStart => exact ⟨0, n, rfl, rfl, Nat.zero_le _, Nat.le_refl _, Lib.hid (fun k h => by omega), Lib.hid (fun k h h' => by omega), Lib.hid ⟨0, rfl⟩⟩
  case round =>
    obtain ⟨i, j, rfl, rfl, hij, hjn, hL, hR, hQ⟩ := hrel
    obtain ⟨q, hq⟩ := hQ.out
    subst hq
    by_cases hlt : i < j
    · obtain ⟨h, hh⟩ : ∃ h, h = (i + j) / 2 := ⟨_, rfl⟩
      have eh : ((i : Int) + (j : Int)) / 2 = (h : Int) := by omega
      have hhi : i ≤ h := by omega
      have hhj : h < j := by omega
      clear hh
      have hhn : h < n := by omega
      have HCH := Lib.hid (HC.out q h hhn)
      have hs0 : 0 ≤ (i : Int) + (j : Int) := by omega
      have hs1 : (i : Int) + (j : Int) ≤ 2000000 := by omega
      obtain ⟨b, hb⟩ : ∃ b, p h = b := ⟨_, rfl⟩
      rw [hb] at HCH
      have HB := Lib.hid hb
      clear hb
      cases b
      · go_wp2_with (go_at_call 192; (with_reducible refine HCH.out.mono ?_); rintro e w' ⟨rfl, q', rfl⟩)
        go_roundw
        case rel => exact ⟨h + 1, j, by go_num, rfl, by omega, hjn, Lib.hid (fun k hk => by
          cases e : p k
          · rfl
          · have := HM.out k h (by omega) hhn e
            rw [HB.out] at this
            cases this), hR, Lib.hid ⟨_, rfl⟩⟩
        case measure => simp [intOf]; omega
      · go_wp2_with (go_at_call 192; (with_reducible refine HCH.out.mono ?_); rintro e w' ⟨rfl, q', rfl⟩)
        go_roundw
        case rel => exact ⟨i, h, rfl, rfl, hhi, by omega, hL, Lib.hid (fun k hk hkn => HM.out h k hk hkn HB.out), Lib.hid ⟨_, rfl⟩⟩
        case measure => simp [intOf]; omega
    · have hji : j = i := by omega
      subst hji
      go_wp2
      go_ret
      exact ⟨j, rfl, hjn, hL.out, hR.out, _, rfl⟩
end Go.Proofs.YtkehehfphccpbaaGreatDoor.R
end
