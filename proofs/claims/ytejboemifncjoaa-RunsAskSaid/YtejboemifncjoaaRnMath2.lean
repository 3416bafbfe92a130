
/- Runs of numbers: what is joined, filled, wiped, and what is left between. -/
import Derived.Test.YtejboemifncjoaaRnMath
namespace Go.Proofs.Ytejboemifncjoaa
namespace Rn
theorem Ok.append {rs qs : List (Int × Int)} (h : Ok rs) (k : Ok qs) (hq : ∀ a, a ∈ rs → ∀ b, b ∈ qs → a.2 + 2 ≤ b.1) : Ok (rs ++ qs) :=
  ⟨fun r hr => (List.mem_append.1 hr).elim (h.1 r) (k.1 r), List.pairwise_append.2 ⟨h.2, k.2, hq⟩⟩
theorem Ok.one {r : Int × Int} (h : Good r) : Ok [r] := ⟨fun q hq => by rw [List.mem_singleton] at hq; exact hq ▸ h, List.pairwise_singleton _ _⟩
theorem Ok.last {rs : List (Int × Int)} {l : Int × Int} (h : Ok (rs ++ [l])) : ∀ a, a ∈ rs → a.2 + 2 ≤ l.1 := fun a ha => (List.pairwise_append.1 h.2).2.2 a ha l (by simp)
/-- One more is joined: it may touch the last one. -/
theorem join_touch {rs : List (Int × Int)} {l x : Int × Int} (h : Ok (rs ++ [l])) (hx : Good x) (hl : l.1 ≤ x.1) (ht : x.1 ≤ l.2 + 1) (m : Int) (hm : m = if l.2 < x.2 then x.2 else l.2) :
    Ok (rs ++ [(l.1, m)]) ∧ (∀ z, V (rs ++ [(l.1, m)]) z ↔ V (rs ++ [l]) z ∨ (x.1 ≤ z ∧ z ≤ x.2)) := by
  have hm2 : l.2 ≤ m ∧ x.2 ≤ m ∧ (m = l.2 ∨ m = x.2) := by rw [hm]; split <;> omega
  clear hm
  have g := h.1 l (by simp)
  unfold Good at g hx
  refine ⟨(h.sub (List.sublist_append_left rs [l])).append (Ok.one ⟨g.1, by show l.1 ≤ m; omega, by show m ≤ 65535; omega⟩) fun a ha b hb => ?_, fun z => ?_⟩
  · rw [List.mem_singleton] at hb
    subst hb
    exact h.last a ha
  · rw [V_append, V_append, V_one, V_one]
    constructor
    · rintro (e | ⟨e1, e2⟩)
      · exact .inl (.inl e)
      · have e2' : z ≤ m := e2
        have e1' : l.1 ≤ z := e1
        rcases Int.lt_or_le l.2 z with e | e
        · exact .inr ⟨by omega, by omega⟩
        · exact .inl (.inr ⟨e1, e⟩)
    · rintro ((e | ⟨e1, e2⟩) | ⟨e1, e2⟩)
      · exact .inl e
      · exact .inr ⟨e1, by show z ≤ m; omega⟩
      · exact .inr ⟨by show l.1 ≤ z; omega, by show z ≤ m; omega⟩
theorem join_apart {rs : List (Int × Int)} {x : Int × Int} (h : Ok rs) (hx : Good x) (hl : ∀ l, rs.getLast? = some l → l.2 + 1 < x.1) :
    Ok (rs ++ [x]) ∧ (∀ z, V (rs ++ [x]) z ↔ V rs z ∨ (x.1 ≤ z ∧ z ≤ x.2)) := by
  refine ⟨h.append (Ok.one hx) fun a ha b hb => ?_, fun z => by rw [V_append, V_one]⟩
  rw [List.mem_singleton] at hb
  subst hb
  rcases List.eq_nil_or_concat rs with e | ⟨rs', l, e⟩
  · rw [e] at ha; exact absurd ha (by simp)
  · rw [List.concat_eq_append] at e
    subst e
    have h1 := hl l (by simp)
    rcases List.mem_append.1 ha with h2 | h2
    · have := h.last a h2
      have g := h.1 l (by simp)
      unfold Good at g
      omega
    · rw [List.mem_singleton] at h2
      subst h2
      omega
/-- What fits between others: runs ahead, one, runs behind. -/
theorem fill_ok {aa ws bs : List (Int × Int)} {f t f' t' : Int} (h : Ok (aa ++ ws ++ bs)) (hf : 0 ≤ f) (hft : f ≤ t) (ht : t ≤ 65535) (ha : ∀ a, a ∈ aa → a.2 < f - 1) (hb : ∀ b, b ∈ bs → t + 1 < b.1)
    (hw : ∀ r, r ∈ ws → f - 1 ≤ r.2 ∧ r.1 ≤ t + 1) (h1 : f' ≤ f ∧ (∀ r, r ∈ ws → f' ≤ r.1) ∧ (f' = f ∨ ∃ r, r ∈ ws ∧ f' = r.1)) (h2 : t ≤ t' ∧ (∀ r, r ∈ ws → r.2 ≤ t') ∧ (t' = t ∨ ∃ r, r ∈ ws ∧ t' = r.2)) :
    Ok (aa ++ [(f', t')] ++ bs) ∧ ∀ x, V (aa ++ [(f', t')] ++ bs) x ↔ V (aa ++ ws ++ bs) x ∨ (f ≤ x ∧ x ≤ t) := by
  have hp := List.pairwise_append.1 h.2
  have hp2 := List.pairwise_append.1 hp.1
  have oa : Ok aa := h.sub ((List.sublist_append_left aa ws).trans (List.sublist_append_left _ bs))
  have ob : Ok bs := h.sub (List.sublist_append_right _ bs)
  have g1 : ∀ r, r ∈ ws → Good r := fun r hr => h.1 r (by simp [hr])
  have e1 : 0 ≤ f' := by
    rcases h1.2.2 with e | ⟨r, hr, e⟩
    · omega
    · have := g1 r hr; unfold Good at this; omega
  have e2 : t' ≤ 65535 := by
    rcases h2.2.2 with e | ⟨r, hr, e⟩
    · omega
    · have := g1 r hr; unfold Good at this; omega
  have k1 : ∀ a, a ∈ aa → a.2 + 2 ≤ f' := fun a hA => by
    rcases h1.2.2 with e | ⟨r, hr, e⟩
    · have := ha a hA; omega
    · have := hp2.2.2 a hA r hr; omega
  have k2 : ∀ b, b ∈ bs → t' + 2 ≤ b.1 := fun b hB => by
    rcases h2.2.2 with e | ⟨r, hr, e⟩
    · have := hb b hB; omega
    · have := hp.2.2 r (by simp [hr]) b hB; omega
  refine ⟨(oa.append (Ok.one ⟨e1, by show f' ≤ t'; omega, e2⟩) fun a hA b hB => ?_).append ob fun a hA b hB => ?_, fun x => ?_⟩
  · rw [List.mem_singleton] at hB
    subst hB
    exact k1 a hA
  · rcases List.mem_append.1 hA with h3 | h3
    · have := k1 a h3
      have := k2 b hB
      omega
    · rw [List.mem_singleton] at h3
      subst h3
      exact k2 b hB
  · rw [V_append, V_append, V_append, V_append, V_one]
    constructor
    · rintro ((e | ⟨e, e'⟩) | e)
      · exact .inl (.inl (.inl e))
      · have e' : x ≤ t' := e'
        have e : f' ≤ x := e
        rcases Int.lt_or_le x f with c | c
        · rcases h1.2.2 with d | ⟨r, hr, d⟩
          · omega
          · exact .inl (.inl (.inr ⟨r, hr, by omega, by have := (hw r hr).1; omega⟩))
        · rcases Int.lt_or_le t x with c' | c'
          · rcases h2.2.2 with d | ⟨r, hr, d⟩
            · omega
            · exact .inl (.inl (.inr ⟨r, hr, by have := (hw r hr).2; omega, by omega⟩))
          · exact .inr ⟨c, c'⟩
      · exact .inl (.inr e)
    · rintro (((e | ⟨r, hr, e, e'⟩) | e) | ⟨e, e'⟩)
      · exact .inl (.inl e)
      · exact .inl (.inr ⟨by have := h1.2.1 r hr; show f' ≤ x; omega, by have := h2.2.1 r hr; show x ≤ t'; omega⟩)
      · exact .inr e
      · exact .inl (.inr ⟨by show f' ≤ x; omega, by show x ≤ t'; omega⟩)
/-- What of one run lies outside of a range. -/
def cut (f t : Int) (r : Int × Int) : List (Int × Int) := (if r.1 < f then [(r.1, f - 1)] else []) ++ if t < r.2 then [(t + 1, r.2)] else []
def cuts (f t : Int) (ws : List (Int × Int)) : List (Int × Int) := ws.flatMap (cut f t)
theorem mem_cut {f t : Int} {r q : Int × Int} (h : q ∈ cut f t r) : (r.1 < f ∧ q = (r.1, f - 1)) ∨ (t < r.2 ∧ q = (t + 1, r.2)) := by
  unfold cut at h
  rcases List.mem_append.1 h with h | h
  · split at h
    · rw [List.mem_singleton] at h; exact .inl ⟨by assumption, h⟩
    · exact absurd h (by simp)
  · split at h
    · rw [List.mem_singleton] at h; exact .inr ⟨by assumption, h⟩
    · exact absurd h (by simp)
theorem cut_ok {f t : Int} {r : Int × Int} (hft : f ≤ t) (h : Good r) (h1 : f ≤ r.2) (h2 : r.1 ≤ t) : Ok (cut f t r) ∧ (∀ q, q ∈ cut f t r → r.1 ≤ q.1 ∧ q.2 ≤ r.2) ∧ ∀ x, V (cut f t r) x ↔ (r.1 ≤ x ∧ x ≤ r.2) ∧ ¬ (f ≤ x ∧ x ≤ t) := by
  unfold Good at h
  refine ⟨?_, fun q hq => ?_, fun x => ?_⟩
  · unfold cut
    by_cases a : r.1 < f
    · by_cases b : t < r.2
      · rw [if_pos a, if_pos b]
        refine (Ok.one ⟨by show 0 ≤ r.1; omega, by show r.1 ≤ f - 1; omega, by show f - 1 ≤ 65535; omega⟩).append (Ok.one ⟨by show 0 ≤ t + 1; omega, by show t + 1 ≤ r.2; omega, by show r.2 ≤ 65535; omega⟩) fun a ha b hb => ?_
        rw [List.mem_singleton] at ha hb
        subst ha hb
        show f - 1 + 2 ≤ t + 1
        omega
      · rw [if_pos a, if_neg b, List.append_nil]
        exact Ok.one ⟨by show 0 ≤ r.1; omega, by show r.1 ≤ f - 1; omega, by show f - 1 ≤ 65535; omega⟩
    · by_cases b : t < r.2
      · rw [if_neg a, if_pos b, List.nil_append]
        exact Ok.one ⟨by show 0 ≤ t + 1; omega, by show t + 1 ≤ r.2; omega, by show r.2 ≤ 65535; omega⟩
      · rw [if_neg a, if_neg b]
        exact Ok.nil
  · rcases mem_cut hq with ⟨a, e⟩ | ⟨a, e⟩
    · rw [e]; exact ⟨Int.le_refl _, by show f - 1 ≤ r.2; omega⟩
    · rw [e]; exact ⟨by show r.1 ≤ t + 1; omega, Int.le_refl _⟩
  · unfold cut
    rw [V_append]
    constructor
    · rintro (e | e)
      · split at e
        · rw [V_one] at e
          have e1 : r.1 ≤ x := e.1
          have e2 : x ≤ f - 1 := e.2
          exact ⟨⟨e1, by omega⟩, by omega⟩
        · exact absurd e (V_nil x)
      · split at e
        · rw [V_one] at e
          have e1 : t + 1 ≤ x := e.1
          have e2 : x ≤ r.2 := e.2
          exact ⟨⟨by omega, e2⟩, by omega⟩
        · exact absurd e (V_nil x)
    · rintro ⟨⟨a, b⟩, c⟩
      rcases Int.lt_or_le x f with d | d
      · left
        rw [if_pos (by omega), V_one]
        exact ⟨a, by show x ≤ f - 1; omega⟩
      · right
        rw [if_pos (by omega), V_one]
        exact ⟨by show t + 1 ≤ x; omega, b⟩
theorem cuts_ok {f t : Int} (hft : f ≤ t) : ∀ {ws : List (Int × Int)}, Ok ws → (∀ r, r ∈ ws → f ≤ r.2 ∧ r.1 ≤ t) → Ok (cuts f t ws) ∧ (∀ q, q ∈ cuts f t ws → ∃ r, r ∈ ws ∧ r.1 ≤ q.1 ∧ q.2 ≤ r.2) ∧ ∀ x, V (cuts f t ws) x ↔ V ws x ∧ ¬ (f ≤ x ∧ x ≤ t) := by
  intro ws
  induction ws with
  | nil => intro _ _; exact ⟨Ok.nil, fun q h => absurd h (by simp [cuts]), fun x => ⟨fun h => absurd h (V_nil x), fun h => absurd h.1 (V_nil x)⟩⟩
  | cons r ws ih =>
    intro h hw
    obtain ⟨i1, i2, i3⟩ := ih h.tail fun q hq => hw q (List.mem_cons_of_mem _ hq)
    obtain ⟨c1, c2, c3⟩ := cut_ok hft (h.1 r List.mem_cons_self) (hw r List.mem_cons_self).1 (hw r List.mem_cons_self).2
    have e : cuts f t (r :: ws) = cut f t r ++ cuts f t ws := rfl
    rw [e]
    refine ⟨c1.append i1 fun a ha b hb => ?_, fun q hq => ?_, fun x => ?_⟩
    · obtain ⟨q, hq, h1, _⟩ := i2 b hb
      have h2 := (c2 a ha).2
      have h3 := (List.pairwise_cons.1 h.2).1 q hq
      omega
    · rcases List.mem_append.1 hq with h1 | h1
      · exact ⟨r, List.mem_cons_self, c2 q h1⟩
      · obtain ⟨p, hp, h2⟩ := i2 q h1
        exact ⟨p, List.mem_cons_of_mem _ hp, h2⟩
    · rw [V_append, V_cons, c3, i3]
      constructor
      · rintro (⟨a, b⟩ | ⟨a, b⟩)
        · exact ⟨.inl a, b⟩
        · exact ⟨.inr a, b⟩
      · rintro ⟨a | a, b⟩
        · exact .inl ⟨a, b⟩
        · exact .inr ⟨a, b⟩
theorem wipe_ok {aa ws bs : List (Int × Int)} {f t : Int} (h : Ok (aa ++ ws ++ bs)) (hft : f ≤ t) (ha : ∀ a, a ∈ aa → a.2 < f) (hb : ∀ b, b ∈ bs → t < b.1) (hw : ∀ r, r ∈ ws → f ≤ r.2 ∧ r.1 ≤ t) :
    Ok (aa ++ cuts f t ws ++ bs) ∧ ∀ x, V (aa ++ cuts f t ws ++ bs) x ↔ V (aa ++ ws ++ bs) x ∧ ¬ (f ≤ x ∧ x ≤ t) := by
  have hp := List.pairwise_append.1 h.2
  have hp2 := List.pairwise_append.1 hp.1
  have oa : Ok aa := h.sub ((List.sublist_append_left aa ws).trans (List.sublist_append_left _ bs))
  have ow : Ok ws := h.sub ((List.sublist_append_right aa ws).trans (List.sublist_append_left _ bs))
  have ob : Ok bs := h.sub (List.sublist_append_right _ bs)
  obtain ⟨c1, c2, c3⟩ := cuts_ok hft ow hw
  refine ⟨(oa.append c1 fun a hA b hB => ?_).append ob fun a hA b hB => ?_, fun x => ?_⟩
  · obtain ⟨r, hr, h1, _⟩ := c2 b hB
    have := hp2.2.2 a hA r hr
    omega
  · rcases List.mem_append.1 hA with h3 | h3
    · exact hp.2.2 a (by simp [h3]) b hB
    · obtain ⟨r, hr, _, h1⟩ := c2 a h3
      have := hp.2.2 r (by simp [hr]) b hB
      omega
  · rw [V_append, V_append, V_append, V_append, c3]
    constructor
    · rintro ((⟨r, hr, e, e'⟩ | e) | ⟨r, hr, e, e'⟩)
      · exact ⟨.inl (.inl ⟨r, hr, e, e'⟩), by have := ha r hr; omega⟩
      · exact ⟨.inl (.inr e.1), e.2⟩
      · exact ⟨.inr ⟨r, hr, e, e'⟩, by have := hb r hr; omega⟩
    · rintro ⟨(e | e) | e, d⟩
      · exact .inl (.inl e)
      · exact .inl (.inr ⟨e, d⟩)
      · exact .inr e
/-- What is left between the first k runs, below fr. -/
structure Gaps (rs gs : List (Int × Int)) (k : Nat) (fr : Int) : Prop where
  ok : Ok gs
  low : 0 ≤ fr
  top : fr ≤ 65536
  last : ∀ q, q ∈ gs → q.2 + 2 ≤ fr
  below : ∀ r, r ∈ rs.take k → r.2 < fr
  above : ∀ r, r ∈ rs.drop k → fr ≤ r.1
  val : ∀ x, V gs x ↔ 0 ≤ x ∧ x < fr ∧ ¬ V (rs.take k) x
theorem Gaps.start {rs : List (Int × Int)} (h : Ok rs) : Gaps rs [] 0 0 :=
  ⟨Ok.nil, Int.le_refl _, by omega, fun q h => absurd h (by simp), fun r h => absurd h (by simp), fun r hr => (h.1 r (by simpa using hr)).1, fun x => ⟨fun h => absurd h (V_nil x), fun h => by omega⟩⟩
theorem Gaps.step {rs gs : List (Int × Int)} {k : Nat} {fr : Int} (g : Gaps rs gs k fr) (h : Ok rs) (hk : k < rs.length) : Gaps rs (if fr < rs[k].1 then gs ++ [(fr, rs[k].1 - 1)] else gs) (k + 1) (rs[k].2 + 1) := by
  have hd : rs.drop k = rs[k] :: rs.drop (k + 1) := List.drop_eq_getElem_cons hk
  have ht : rs.take (k + 1) = rs.take k ++ [rs[k]] := List.take_succ_eq_append_getElem hk
  have o2 : Ok (rs[k] :: rs.drop (k + 1)) := by rw [← hd]; exact h.sub (List.drop_sublist _ _)
  have gx := h.1 rs[k] (List.getElem_mem hk)
  have hx := g.above rs[k] (by rw [hd]; exact List.mem_cons_self)
  generalize rs[k] = x at *
  unfold Good at gx
  have h1 := g.low
  have hP : ∀ q, q ∈ (if fr < x.1 then gs ++ [(fr, x.1 - 1)] else gs) → q ∈ gs ∨ (fr < x.1 ∧ q = (fr, x.1 - 1)) := fun q hq => by
    split at hq
    · rcases List.mem_append.1 hq with e | e
      · exact .inl e
      · rw [List.mem_singleton] at e; exact .inr ⟨by assumption, e⟩
    · exact .inl hq
  refine ⟨?_, by omega, by omega, fun q hq => ?_, fun r hr => ?_, fun r hr => ?_, fun z => ?_⟩
  · split
    · refine g.ok.append (Ok.one ⟨h1, by show fr ≤ x.1 - 1; omega, by show x.1 - 1 ≤ 65535; omega⟩) fun a ha b hb => ?_
      rw [List.mem_singleton] at hb
      subst hb
      exact g.last a ha
    · exact g.ok
  · rcases hP q hq with e | ⟨_, e⟩
    · have := g.last q e; omega
    · rw [e]; show x.1 - 1 + 2 ≤ x.2 + 1; omega
  · rw [ht] at hr
    rcases List.mem_append.1 hr with e | e
    · have := g.below r e; omega
    · rw [List.mem_singleton] at e; rw [e]; omega
  · have := (List.pairwise_cons.1 o2.2).1 r hr; omega
  · rw [ht, V_append, V_one]
    have e1 : V (if fr < x.1 then gs ++ [(fr, x.1 - 1)] else gs) z ↔ V gs z ∨ (fr ≤ z ∧ z < x.1) := by
      split
      · rw [V_append, V_one]
        exact ⟨fun e => e.imp id fun e => ⟨e.1, by have : z ≤ x.1 - 1 := e.2; omega⟩, fun e => e.imp id fun e => ⟨e.1, by show z ≤ x.1 - 1; omega⟩⟩
      · exact ⟨.inl, fun e => e.elim id fun e => by omega⟩
    rw [e1, g.val z]
    have hb : V (rs.take k) z → z < fr := fun ⟨r, hr, a, b⟩ => by have := g.below r hr; omega
    constructor
    · rintro (⟨a, b, c⟩ | ⟨a, b⟩)
      · refine ⟨a, by omega, ?_⟩
        rintro (d | d)
        · exact c d
        · omega
      · refine ⟨by omega, by omega, ?_⟩
        rintro (d | d)
        · have := hb d; omega
        · omega
    · rintro ⟨a, b, c⟩
      rcases Int.lt_or_le z fr with d | d
      · exact .inl ⟨a, d, fun e => c (.inl e)⟩
      · exact .inr ⟨d, by
          rcases Int.lt_or_le z x.1 with e | e
          · exact e
          · exact absurd (.inr ⟨e, by omega⟩) c⟩
theorem Gaps.stop {rs gs : List (Int × Int)} {k : Nat} {fr : Int} (g : Gaps rs gs k fr) (hk : rs.length ≤ k) : Ok (if fr ≤ 65535 then gs ++ [(fr, 65535)] else gs) ∧ ∀ x, V (if fr ≤ 65535 then gs ++ [(fr, 65535)] else gs) x ↔ 0 ≤ x ∧ x ≤ 65535 ∧ ¬ V rs x := by
  have h1 := g.low
  have ht : rs.take k = rs := List.take_of_length_le hk
  have hv := g.val
  have hb := g.below
  rw [ht] at hb
  have h2 := g.top
  refine ⟨?_, fun z => ?_⟩
  · split
    · refine g.ok.append (Ok.one ⟨h1, by show fr ≤ 65535; omega, by show (65535 : Int) ≤ 65535; omega⟩) fun a ha b hb => ?_
      rw [List.mem_singleton] at hb
      subst hb
      exact g.last a ha
    · exact g.ok
  · have h4 : V rs z → z < fr := fun ⟨r, hr, a, b⟩ => by have := hb r hr; omega
    have h5 := hv z
    rw [ht] at h5
    split
    · rw [V_append, V_one, h5]
      constructor
      · rintro (⟨a, b, c⟩ | ⟨a, b⟩)
        · exact ⟨a, by omega, c⟩
        · have a : fr ≤ z := a
          have b : z ≤ 65535 := b
          exact ⟨by omega, b, fun e => by have := h4 e; omega⟩
      · rintro ⟨a, b, c⟩
        rcases Int.lt_or_le z fr with d | d
        · exact .inl ⟨a, d, c⟩
        · exact .inr ⟨d, b⟩
    · rw [h5]
      exact ⟨fun ⟨a, b, c⟩ => ⟨a, by omega, c⟩, fun ⟨a, b, c⟩ => ⟨a, by omega, c⟩⟩
end Rn
end Go.Proofs.Ytejboemifncjoaa
