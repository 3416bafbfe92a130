
/- Rows of pairs; keys and values behind some: plain facts. -/
import Derived.Test.YtclaejaicjmohaaD14
namespace Go.Proofs.Ytclaejaicjmohaa
set_option maxRecDepth 20000
open Go.RowKit
namespace E
abbrev pv (rs : List (Nat × Nat)) : List Value := rs.flatMap fun r => [.int .u64 (r.1 : Nat), .int .u64 (r.2 : Nat)]
theorem pv_len (rs : List (Nat × Nat)) : (pv rs).length = rs.length * 2 := by
  induction rs with
  | nil => rfl
  | cons r rs ih =>
    have hc : pv (r :: rs) = Value.int .u64 (r.1 : Nat) :: Value.int .u64 (r.2 : Nat) :: pv rs := rfl
    rw [hc]; simp only [List.length_cons, ih]; omega
theorem pv_at : ∀ (rs : List (Nat × Nat)) (k : Nat) (h : k < rs.length), (pv rs)[k * 2]? = some (.int .u64 (rs[k].1 : Nat)) ∧ (pv rs)[k * 2 + 1]? = some (.int .u64 (rs[k].2 : Nat))
  | r :: rs, 0, _ => by simp [pv]
  | r :: rs, k + 1, h => by
    have hc : pv (r :: rs) = Value.int .u64 (r.1 : Nat) :: Value.int .u64 (r.2 : Nat) :: pv rs := rfl
    have ih := pv_at rs k (by simpa using h)
    have e0 : (k + 1) * 2 = k * 2 + 2 := by omega
    rw [hc, e0]
    exact ih
theorem pv_append (rs qs : List (Nat × Nat)) : pv (rs ++ qs) = pv rs ++ pv qs := List.flatMap_append
theorem pv_one (rs : List (Nat × Nat)) : ∀ u ∈ pv rs, u.oneCell' = true := by
  intro u hu
  obtain ⟨r, _, hr⟩ := List.mem_flatMap.1 hu
  simp at hr
  rcases hr with rfl | rfl <;> rfl
/-- The slice at A has these pairs, in blocks below B. -/
def Pq (w : World) (B : Nat) (A : Option Addr) (rs : List (Nat × Nat)) : Prop :=
  rs ≠ [] → ∃ b off, A = some ⟨b, off, none⟩ ∧ b < B ∧ ∀ (k : Nat) (h : k < rs.length), w.cell? ⟨b, off + k * 2, none⟩ = some (.int .u64 (rs[k].1 : Nat)) ∧ w.cell? ⟨b, off + k * 2 + 1, none⟩ = some (.int .u64 (rs[k].2 : Nat))
theorem Pq.nil (w : World) (B : Nat) (A : Option Addr) : Pq w B A [] := fun h => absurd rfl h
theorem Pq.below {w w' : World} {B B' : Nat} {A : Option Addr} {rs : List (Nat × Nat)} (h : Pq w B A rs) (hb : Below B' w w') (hB : B ≤ B') : Pq w' B A rs := fun hne => by
  obtain ⟨b, off, h1, h2, h3⟩ := h hne
  exact ⟨b, off, h1, h2, fun k hk => ⟨(hb.cell (p := ⟨b, off + k * 2, none⟩) (by show b < B'; omega)).trans (h3 k hk).1, (hb.cell (p := ⟨b, off + k * 2 + 1, none⟩) (by show b < B'; omega)).trans (h3 k hk).2⟩⟩
theorem Pq.more {w : World} {B B' : Nat} {A : Option Addr} {rs : List (Nat × Nat)} (h : Pq w B A rs) (hB : B ≤ B') : Pq w B' A rs := fun hne => by
  obtain ⟨b, off, h1, h2, h3⟩ := h hne
  exact ⟨b, off, h1, by omega, h3⟩
theorem Pq.drew {w : World} {B : Nat} {A : Option Addr} {rs : List (Nat × Nat)} (h : Pq w B A rs) (n : Nat) : Pq (w.drewN n) B A rs := h
theorem Pq.at {w : World} {B : Nat} {A : Option Addr} {rs : List (Nat × Nat)} (h : Pq w B A rs) {k : Nat} (hk : k < rs.length) : ∃ b off, A = some ⟨b, off, none⟩ ∧ b < B ∧ w.cell? ⟨b, off + k * 2, none⟩ = some (.int .u64 (rs[k].1 : Nat)) ∧ w.cell? ⟨b, off + k * 2 + 1, none⟩ = some (.int .u64 (rs[k].2 : Nat)) := by
  obtain ⟨b, off, h1, h2, h3⟩ := h (by intro e; subst e; simp at hk)
  exact ⟨b, off, h1, h2, h3 k hk⟩
theorem Pq.of_own {w : World} {base : Nat} {v : Value} {rs : List (Nat × Nat)} (h : w.ownsRow base 39 2 v rs.length (pv rs)) : ∃ A c, v = .slice A rs.length c ∧ Pq w w.heap.size A rs ∧ rs.length ≤ c := by
  rcases h.2 with ⟨rfl, hn⟩ | ⟨g, cap, cur, rfl, hb, hg, hnc, _⟩
  · exact ⟨none, 0, by rw [hn], by rw [List.eq_nil_of_length_eq_zero hn]; exact Pq.nil _ _ _, by omega⟩
  · refine ⟨some ⟨g, 0, none⟩, cap, rfl, fun hne => ⟨g, 0, rfl, (Array.getElem?_eq_some_iff.1 hg).1, fun k hk => ?_⟩, hnc⟩
    obtain ⟨h0, h1⟩ := pv_at rs k hk
    have f := h.cells (g := g) rfl
    have f0 := f _ _ h0
    have f1 := f _ _ h1
    simp only [add_off] at f0 f1
    rw [Nat.zero_add]
    exact ⟨f0, f1⟩

theorem pv_len2 (l : List (Nat × Nat)) : (pv l).length = 2 * l.length := by rw [pv_len]; omega
/-- The least key that may stand behind some. -/
def nxt : Nat → List (Nat × Nat) → Nat
  | a, [] => a
  | _, x :: t => nxt (x.1 + 1) t
theorem nxt_snoc : ∀ (l : List (Nat × Nat)) (a : Nat) (x : Nat × Nat), nxt a (l ++ [x]) = x.1 + 1
  | [], _, _ => rfl
  | y :: t, _, x => nxt_snoc t (y.1 + 1) x
theorem body_app (two : Bool) : ∀ (l m : List (Nat × Nat)) (a : Nat), body two a (l ++ m) = body two a l ++ body two (nxt a l) m
  | [], _, _ => rfl
  | x :: t, m, a => by
    show enc (x.1 - a) ++ ((if two then enc x.2 else []) ++ body two (x.1 + 1) (t ++ m)) = (enc (x.1 - a) ++ ((if two then enc x.2 else []) ++ body two (x.1 + 1) t)) ++ body two (nxt (x.1 + 1) t) m
    rw [body_app two t m (x.1 + 1)]
    simp
theorem rs_app : ∀ (l m : List (Nat × Nat)) (a : Nat), Rs a (l ++ m) ↔ Rs a l ∧ Rs (nxt a l) m
  | [], _, _ => by simp [Rs, nxt]
  | x :: t, m, a => by
    show (a ≤ x.1 ∧ x.1 < 2 ^ 64 ∧ x.2 < 2 ^ 64 ∧ Rs (x.1 + 1) (t ++ m)) ↔ (a ≤ x.1 ∧ x.1 < 2 ^ 64 ∧ x.2 < 2 ^ 64 ∧ Rs (x.1 + 1) t) ∧ Rs (nxt (x.1 + 1) t) m
    rw [rs_app t m (x.1 + 1)]
    constructor
    · rintro ⟨h1, h2, h3, h4, h5⟩
      exact ⟨⟨h1, h2, h3, h4⟩, h5⟩
    · rintro ⟨⟨h1, h2, h3, h4⟩, h5⟩
      exact ⟨h1, h2, h3, h4, h5⟩
theorem vd_app {two : Bool} {l m : List (Nat × Nat)} : Vd two (l ++ m) ↔ Vd two l ∧ Vd two m := by
  unfold Vd
  constructor
  · exact fun h => ⟨fun e x hx => h e x (List.mem_append.2 (.inl hx)), fun e x hx => h e x (List.mem_append.2 (.inr hx))⟩
  · rintro ⟨h1, h2⟩ e x hx
    rcases List.mem_append.1 hx with hx | hx
    · exact h1 e x hx
    · exact h2 e x hx
/-- There are no keys and values, so many, of which these are the bytes. -/
def Nope (two : Bool) (bs : List Nat) (n : Nat) : Prop := ∀ (l : List (Nat × Nat)) (r : List Nat), Rs 0 l → Vd two l → l.length = n → bs ≠ body two 0 l ++ r
/-- What the next one would have to be. -/
theorem must {two : Bool} {bs rest r : List Nat} {n : Nat} {items l : List (Nat × Nat)} (hb : bs = body two 0 items ++ rest) (hi : Rs 0 items) (hv : Vd two items) (hlt : items.length < n) (h1 : Rs 0 l) (h2 : Vd two l) (h3 : l.length = n) (h : bs = body two 0 l ++ r) :
    ∃ (x : Nat × Nat) (r' : List Nat), nxt 0 items ≤ x.1 ∧ x.1 < 2 ^ 64 ∧ x.2 < 2 ^ 64 ∧ rest = enc (x.1 - nxt 0 items) ++ ((if two then enc x.2 else []) ++ r') := by
  have e1 : l = l.take items.length ++ l.drop items.length := (List.take_append_drop _ _).symm
  rw [e1, rs_app] at h1
  rw [e1, vd_app] at h2
  rw [e1, body_app, List.append_assoc, hb] at h
  have hl : (l.take items.length).length = items.length := by rw [List.length_take]; omega
  obtain ⟨e2, e3⟩ := body_one two items (l.take items.length) 0 rest _ hi h1.1 hv h2.1 hl.symm h
  rw [← e2] at e3 h1
  obtain ⟨x, t, e4⟩ : ∃ x t, l.drop items.length = x :: t := by
    cases h5 : l.drop items.length with
    | nil =>
      have := congrArg List.length h5
      rw [List.length_drop] at this
      simp at this
      omega
    | cons x t => exact ⟨x, t, rfl⟩
  rw [e4] at e3 h1
  obtain ⟨h6, h7, h8, _⟩ := h1.2
  refine ⟨x, body two (x.1 + 1) t ++ r, h6, h7, h8, ?_⟩
  rw [e3]
  show (enc (x.1 - nxt 0 items) ++ ((if two then enc x.2 else []) ++ body two (x.1 + 1) t)) ++ r = _
  simp
/-- One more. -/
theorem more {two : Bool} {bs rest r : List Nat} {items : List (Nat × Nat)} {x : Nat × Nat} (hb : bs = body two 0 items ++ rest) (hi : Rs 0 items) (hv : Vd two items) (h1 : nxt 0 items ≤ x.1) (h2 : x.1 < 2 ^ 64) (h3 : x.2 < 2 ^ 64) (h4 : two = false → x.2 = 0) (h : rest = enc (x.1 - nxt 0 items) ++ ((if two then enc x.2 else []) ++ r)) :
    bs = body two 0 (items ++ [x]) ++ r ∧ Rs 0 (items ++ [x]) ∧ Vd two (items ++ [x]) := by
  refine ⟨?_, (rs_app _ _ _).2 ⟨hi, h1, h2, h3, trivial⟩, vd_app.2 ⟨hv, fun e y hy => by rcases List.mem_singleton.1 hy with rfl; exact h4 e⟩⟩
  rw [hb, body_app, h]
  simp [body]
end E
end Go.Proofs.Ytclaejaicjmohaa
