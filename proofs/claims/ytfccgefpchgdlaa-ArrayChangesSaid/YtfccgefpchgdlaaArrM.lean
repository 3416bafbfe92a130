
/- Plain facts: two rising lists are gone through side by side. -/
namespace Go.Proofs.Ytfccgefpchgdlaa.M
/-- What is wanted: of what the first alone, the second alone, both have. -/
def Wt (p0 p1 p2 : Bool) (xs ys : List Int) (x : Int) : Prop := x ∈ xs ∧ x ∉ ys ∧ p0 = true ∨ x ∉ xs ∧ x ∈ ys ∧ p1 = true ∨ x ∈ xs ∧ x ∈ ys ∧ p2 = true
/-- a and b are left of xs and ys; zs is what was wanted of the rest. -/
structure Jn (p0 p1 p2 : Bool) (xs ys a b zs : List Int) : Prop where
  sa : a.Pairwise (· < ·)
  sb : b.Pairwise (· < ·)
  suba : ∀ x ∈ a, x ∈ xs
  subb : ∀ x ∈ b, x ∈ ys
  old : ∀ x y, x ∈ xs ∧ x ∉ a ∨ x ∈ ys ∧ x ∉ b → y ∈ a ∨ y ∈ b → x < y
  rise : zs.Pairwise (· < ·)
  mem : ∀ x, x ∈ zs ↔ Wt p0 p1 p2 xs ys x ∧ x ∉ a ∧ x ∉ b
section
variable {p0 p1 p2 : Bool} {xs ys a b zs : List Int}
theorem Jn.start (hx : xs.Pairwise (· < ·)) (hy : ys.Pairwise (· < ·)) : Jn p0 p1 p2 xs ys xs ys [] :=
  ⟨hx, hy, fun _ h => h, fun _ h => h, fun x y h => by rcases h with ⟨h1, h2⟩ | ⟨h1, h2⟩ <;> exact absurd h1 h2, List.Pairwise.nil, fun x => by
    constructor
    · intro h; cases h
    · rintro ⟨h | h | h, h2, h3⟩
      · exact absurd h.1 h2
      · exact absurd h.2.1 h3
      · exact absurd h.1 h2⟩
theorem Jn.wt_sub (x : Int) (h : Wt p0 p1 p2 xs ys x) : x ∈ xs ∨ x ∈ ys := by
  rcases h with h | h | h
  · exact .inl h.1
  · exact .inr h.2.1
  · exact .inl h.1
theorem Jn.step (h : Jn p0 p1 p2 xs ys a b zs) {v : Int} {a' b' : List Int} {q : Bool} (hv : v ∈ a ∨ v ∈ b) (ha : ∀ x, x ∈ a → x = v ∨ x ∈ a') (ha' : ∀ x ∈ a', x ∈ a) (hb : ∀ x, x ∈ b → x = v ∨ x ∈ b') (hb' : ∀ x ∈ b', x ∈ b)
    (hsa : a'.Pairwise (· < ·)) (hsb : b'.Pairwise (· < ·)) (hl : ∀ y, y ∈ a' ∨ y ∈ b' → v < y) (hq : q = true ↔ Wt p0 p1 p2 xs ys v) : Jn p0 p1 p2 xs ys a' b' (if q then zs ++ [v] else zs) := by
  have hz : ∀ x ∈ zs, x < v := fun x hx => by
    obtain ⟨h1, h2, h3⟩ := (h.mem x).1 hx
    rcases Jn.wt_sub x h1 with h4 | h4
    · exact h.old x v (.inl ⟨h4, h2⟩) hv
    · exact h.old x v (.inr ⟨h4, h3⟩) hv
  have hva : v ∉ a' := fun e => by have := hl v (.inl e); omega
  have hvb : v ∉ b' := fun e => by have := hl v (.inr e); omega
  refine ⟨hsa, hsb, fun x hx => h.suba x (ha' x hx), fun x hx => h.subb x (hb' x hx), fun x y hx hy => ?_, ?_, fun x => ?_⟩
  · have hvy := hl y hy
    have hy' : y ∈ a ∨ y ∈ b := hy.imp (ha' y) (hb' y)
    rcases hx with ⟨h1, h2⟩ | ⟨h1, h2⟩
    · by_cases hxa : x ∈ a
      · rcases ha x hxa with rfl | h3
        · exact hvy
        · exact absurd h3 h2
      · exact h.old x y (.inl ⟨h1, hxa⟩) hy'
    · by_cases hxb : x ∈ b
      · rcases hb x hxb with rfl | h3
        · exact hvy
        · exact absurd h3 h2
      · exact h.old x y (.inr ⟨h1, hxb⟩) hy'
  · cases q
    · exact h.rise
    · rw [if_pos rfl, List.pairwise_append]
      exact ⟨h.rise, by simp, fun x hx y hy => by rw [List.mem_singleton.1 hy]; exact hz x hx⟩
  · by_cases hxv : x = v
    · subst hxv
      have hnz : x ∉ zs := fun e => by have := hz x e; omega
      cases q
      · simp only [Bool.false_eq_true, if_false]
        exact ⟨fun e => absurd e hnz, fun e => absurd (hq.2 e.1) (by simp)⟩
      · rw [if_pos rfl]
        exact ⟨fun _ => ⟨hq.1 rfl, hva, hvb⟩, fun _ => by simp⟩
    · have e1 : x ∈ a ↔ x ∈ a' := ⟨fun e => (ha x e).resolve_left hxv, ha' x⟩
      have e2 : x ∈ b ↔ x ∈ b' := ⟨fun e => (hb x e).resolve_left hxv, hb' x⟩
      have e3 : x ∈ (if q then zs ++ [v] else zs) ↔ x ∈ zs := by
        cases q
        · simp
        · rw [if_pos rfl, List.mem_append, List.mem_singleton]; exact ⟨fun e => e.resolve_right hxv, .inl⟩
      rw [e3, h.mem x, e1, e2]
/-- The first's least is less than the second's, or the second has none. -/
theorem Jn.one {v : Int} (h : Jn p0 p1 p2 xs ys (v :: a) b zs) (hb : ∀ y, b.head? = some y → v < y) : Jn p0 p1 p2 xs ys a b (if p0 then zs ++ [v] else zs) := by
  have sa := List.pairwise_cons.1 h.sa
  have hlb : ∀ y ∈ b, v < y := by
    intro y hy
    cases b with
    | nil => cases hy
    | cons y0 b =>
      have q1 := hb y0 rfl
      rcases List.mem_cons.1 hy with rfl | hy
      · exact q1
      · have := (List.pairwise_cons.1 h.sb).1 y hy; omega
  have hvy : v ∉ ys := fun hv => by
    have hvb : v ∉ b := fun e => by have := hlb v e; omega
    have := h.old v v (.inr ⟨hv, hvb⟩) (.inl (by simp)); omega
  refine h.step (.inl (by simp)) (fun x hx => List.mem_cons.1 hx) (fun x hx => List.mem_cons_of_mem _ hx) (fun x hx => .inr hx) (fun x hx => hx) sa.2 h.sb (fun y hy => hy.elim (sa.1 y) (hlb y)) ?_
  have hvx : v ∈ xs := h.suba v (by simp)
  unfold Wt
  constructor
  · intro e; exact .inl ⟨hvx, hvy, e⟩
  · rintro (e | e | e)
    · exact e.2.2
    · exact absurd hvx e.1
    · exact absurd e.2.1 hvy
theorem Jn.two {v : Int} (h : Jn p0 p1 p2 xs ys a (v :: b) zs) (ha : ∀ y, a.head? = some y → v < y) : Jn p0 p1 p2 xs ys a b (if p1 then zs ++ [v] else zs) := by
  have sb := List.pairwise_cons.1 h.sb
  have hla : ∀ y ∈ a, v < y := by
    intro y hy
    cases a with
    | nil => cases hy
    | cons y0 a =>
      have q1 := ha y0 rfl
      rcases List.mem_cons.1 hy with rfl | hy
      · exact q1
      · have := (List.pairwise_cons.1 h.sa).1 y hy; omega
  have hvx : v ∉ xs := fun hv => by
    have hva : v ∉ a := fun e => by have := hla v e; omega
    have := h.old v v (.inl ⟨hv, hva⟩) (.inr (by simp)); omega
  refine h.step (.inr (by simp)) (fun x hx => .inr hx) (fun x hx => hx) (fun x hx => List.mem_cons.1 hx) (fun x hx => List.mem_cons_of_mem _ hx) h.sa sb.2 (fun y hy => hy.elim (hla y) (sb.1 y)) ?_
  have hvy : v ∈ ys := h.subb v (by simp)
  unfold Wt
  constructor
  · intro e; exact .inr (.inl ⟨hvx, hvy, e⟩)
  · rintro (e | e | e)
    · exact absurd e.1 hvx
    · exact e.2.2
    · exact absurd e.1 hvx
theorem Jn.both {v : Int} (h : Jn p0 p1 p2 xs ys (v :: a) (v :: b) zs) : Jn p0 p1 p2 xs ys a b (if p2 then zs ++ [v] else zs) := by
  have sa := List.pairwise_cons.1 h.sa
  have sb := List.pairwise_cons.1 h.sb
  refine h.step (.inl (by simp)) (fun x hx => List.mem_cons.1 hx) (fun x hx => List.mem_cons_of_mem _ hx) (fun x hx => List.mem_cons.1 hx) (fun x hx => List.mem_cons_of_mem _ hx) sa.2 sb.2 (fun y hy => hy.elim (sa.1 y) (sb.1 y)) ?_
  have hvx : v ∈ xs := h.suba v (by simp)
  have hvy : v ∈ ys := h.subb v (by simp)
  unfold Wt
  constructor
  · intro e; exact .inr (.inr ⟨hvx, hvy, e⟩)
  · rintro (e | e | e)
    · exact absurd hvy e.2.1
    · exact absurd hvx e.1
    · exact e.2.2
theorem Jn.done (h : Jn p0 p1 p2 xs ys [] [] zs) : zs.Pairwise (· < ·) ∧ ∀ x, x ∈ zs ↔ Wt p0 p1 p2 xs ys x := ⟨h.rise, fun x => by rw [h.mem x]; simp⟩
end
end Go.Proofs.Ytfccgefpchgdlaa.M
