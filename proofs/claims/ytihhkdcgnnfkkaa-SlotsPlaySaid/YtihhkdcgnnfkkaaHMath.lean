
/- Plain facts on a table's places: ways around, an entry found, one put, a gap closed. -/
import Derived.Test.YtihhkdcgnnfkkaaProg
namespace Go.Proofs.Ytihhkdcgnnfkkaa.Hs.H
set_option maxRecDepth 4000

abbrev Key := Nat × Nat
structure En where
  l : Nat
  p : Nat
  v : Nat
  t : Bool
abbrev En.k (e : En) : Key := (e.l, e.p)
def z : En := ⟨0, 0, 0, false⟩
def ge (ps : List En) (j : Nat) : En := (ps[j]?).getD z
/-- How far b is behind a. -/
def wy (n a b : Nat) : Nat := if a ≤ b then b - a else b + n - a
def nx (n i : Nat) : Nat := if i + 1 = n then 0 else i + 1
section
variable {n a b c g h i j m d x : Nat}
theorem wy_cases (n a b : Nat) : (a ≤ b ∧ wy n a b = b - a) ∨ (b < a ∧ wy n a b = b + n - a) := by unfold wy; split <;> omega
theorem nx_cases (n i : Nat) : (i + 1 = n ∧ nx n i = 0) ∨ (i + 1 ≠ n ∧ nx n i = i + 1) := by unfold nx; split <;> omega
theorem wy_self : wy n a a = 0 := by rcases wy_cases n a a with h | h <;> omega
theorem wy_lt (ha : a < n) (hb : b < n) : wy n a b < n := by rcases wy_cases n a b with h | h <;> omega
theorem wy_inj (ha : a < n) (hb : b < n) (hc : c < n) (e : wy n a b = wy n a c) : b = c := by
  rcases wy_cases n a b with h | h <;> rcases wy_cases n a c with k | k <;> omega
theorem wy_pos (ha : a < n) (e : a ≠ b) : 0 < wy n a b := by
  rcases wy_cases n a b with h | h <;> omega
theorem wy_add (hh : h < n) (hg : g < n) (hj : j < n) (e : wy n h g ≤ wy n h j) : wy n h g + wy n g j = wy n h j := by
  rcases wy_cases n h g with p | p <;> rcases wy_cases n h j with q | q <;> rcases wy_cases n g j with r | r <;> omega
theorem wy_add2 (hh : h < n) (hg : g < n) (e : wy n g j ≤ wy n h j) : wy n h g + wy n g j = wy n h j := by
  rcases wy_cases n h g with p | p <;> rcases wy_cases n h j with q | q <;> rcases wy_cases n g j with r | r <;> omega
theorem wy_add3 (hh : h < n) (hg : g < n) (hj : j < n) (e : wy n h g + wy n g j < n) : wy n h g + wy n g j = wy n h j := by
  have _ := hj
  rcases wy_cases n h g with p | p <;> rcases wy_cases n h j with q | q <;> rcases wy_cases n g j with r | r <;> omega
theorem wy_over (hh : h < n) (hg : g < n) (hj : j < n) (e : n ≤ wy n h g + wy n g j) : wy n h j + n = wy n h g + wy n g j := by
  have _ := hj
  rcases wy_cases n h g with p | p <;> rcases wy_cases n h j with q | q <;> rcases wy_cases n g j with r | r <;> omega
theorem nx_lt (hi : i < n) : nx n i < n := by rcases nx_cases n i with h | h <;> omega
theorem wy_nx (ha : a < n) (e : wy n a i + 1 < n) : wy n a (nx n i) = wy n a i + 1 := by
  rcases nx_cases n i with p | p <;> rcases wy_cases n a i with q | q <;> rcases wy_cases n a (nx n i) with r | r <;> omega
theorem wy_nx0 (h2 : 2 ≤ n) : wy n i (nx n i) = 1 := by
  rcases nx_cases n i with p | p <;> rcases wy_cases n i (nx n i) with r | r <;> omega
theorem wy_nx' (ha : a < n) (e : nx n i ≠ a) : wy n a (nx n i) = wy n a i + 1 := by
  rcases nx_cases n i with p | p <;> rcases wy_cases n a i with q | q <;> rcases wy_cases n a (nx n i) with r | r <;> omega
end
section
variable {ps : List En} {i j : Nat} {e : En}
theorem ge_get (h : i < ps.length) : ge ps i = ps[i] := by simp [ge, h]
theorem ge_out (h : ps.length ≤ i) : ge ps i = z := by simp [ge, h]
theorem ge_set (h : i < ps.length) : ge (ps.set i e) i = e := by simp [ge, h]
theorem ge_set_ne (h : i ≠ j) : ge (ps.set i e) j = ge ps j := by simp [ge, List.getElem?_set_ne h]
end

/-- The entries. -/
def ents (ps : List En) : List (Key × Nat) := ps.filterMap fun e => if e.t = true then some (e.k, e.v) else none
theorem ents_nil : ents [] = [] := rfl
theorem ents_cons (e : En) (ps : List En) : ents (e :: ps) = (if e.t = true then [(e.k, e.v)] else []) ++ ents ps := by
  unfold ents
  rw [List.filterMap_cons]
  by_cases h : e.t = true <;> simp [h]
theorem ents_append (a b : List En) : ents (a ++ b) = ents a ++ ents b := by simp [ents, List.filterMap_append]
theorem ents_len (ps : List En) : (ents ps).length ≤ ps.length := List.length_filterMap_le _ _
theorem ents_rep (n : Nat) : ents (List.replicate n z) = [] := by
  induction n with
  | zero => rfl
  | succ n ih => rw [List.replicate_succ, ents_cons, ih]; rfl
theorem split_at {ps : List En} {i : Nat} (h : i < ps.length) : ps = ps.take i ++ ps[i] :: ps.drop (i + 1) := by
  rw [List.getElem_cons_drop, List.take_append_drop]
theorem set_at {ps : List En} {i : Nat} (e : En) (h : i < ps.length) : ps.set i e = ps.take i ++ e :: ps.drop (i + 1) := by
  rw [List.set_eq_take_append_cons_drop, if_pos h]
/-- One place laid anew. -/
theorem ents_set {ps : List En} {i : Nat} (e : En) (h : i < ps.length) :
    ((if ps[i].t = true then [(ps[i].k, ps[i].v)] else []) ++ ents (ps.set i e)).Perm ((if e.t = true then [(e.k, e.v)] else []) ++ ents ps) := by
  have h1 : ents ps = ents (ps.take i) ++ ((if ps[i].t = true then [(ps[i].k, ps[i].v)] else []) ++ ents (ps.drop (i + 1))) := by
    conv => lhs; rw [split_at h]
    rw [ents_append, ents_cons]
  have h2 : ents (ps.set i e) = ents (ps.take i) ++ ((if e.t = true then [(e.k, e.v)] else []) ++ ents (ps.drop (i + 1))) := by
    rw [set_at e h, ents_append, ents_cons]
  rw [h1, h2]
  generalize ents (ps.take i) = A
  generalize ents (ps.drop (i + 1)) = B
  generalize (if ps[i].t = true then [(ps[i].k, ps[i].v)] else []) = X
  generalize (if e.t = true then [(e.k, e.v)] else []) = Y
  have p1 : (X ++ (A ++ (Y ++ B))).Perm (A ++ (X ++ (Y ++ B))) := by
    have := (List.perm_append_comm (l₁ := X) (l₂ := A)).append_right (Y ++ B); simpa only [List.append_assoc] using this
  have p2 : (Y ++ (A ++ (X ++ B))).Perm (A ++ (Y ++ (X ++ B))) := by
    have := (List.perm_append_comm (l₁ := Y) (l₂ := A)).append_right (X ++ B); simpa only [List.append_assoc] using this
  have p3 : (X ++ (Y ++ B)).Perm (Y ++ (X ++ B)) := by
    have := (List.perm_append_comm (l₁ := X) (l₂ := Y)).append_right B; simpa only [List.append_assoc] using this
  exact p1.trans ((p3.append_left A).trans p2.symm)
theorem ents_put {ps : List En} {i : Nat} (e : En) (h : i < ps.length) (hf : (ge ps i).t = false) (ht : e.t = true) : (ents (ps.set i e)).Perm ((e.k, e.v) :: ents ps) := by
  have := ents_set e h
  rw [ge_get h] at hf
  simpa [hf, ht] using this
theorem ents_over {ps : List En} {i : Nat} (e : En) (h : i < ps.length) (hf : (ge ps i).t = true) (ht : e.t = true) : (((ge ps i).k, (ge ps i).v) :: ents (ps.set i e)).Perm ((e.k, e.v) :: ents ps) := by
  have := ents_set e h
  rw [ge_get h] at hf ⊢
  simpa [hf, ht] using this
theorem ents_wipe {ps : List En} {i : Nat} (e : En) (h : i < ps.length) (hf : (ge ps i).t = true) (ht : e.t = false) : (((ge ps i).k, (ge ps i).v) :: ents (ps.set i e)).Perm (ents ps) := by
  have := ents_set e h
  rw [ge_get h] at hf ⊢
  simpa [hf, ht] using this
theorem ents_mem {ps : List En} {x : Key × Nat} : x ∈ ents ps ↔ ∃ j, j < ps.length ∧ (ge ps j).t = true ∧ ((ge ps j).k, (ge ps j).v) = x := by
  unfold ents
  rw [List.mem_filterMap]
  constructor
  · rintro ⟨e, he, h⟩
    obtain ⟨j, hj, rfl⟩ := List.mem_iff_getElem.1 he
    by_cases ht : ps[j].t = true
    · simp [ht] at h
      exact ⟨j, hj, by rw [ge_get hj]; exact ht, by rw [ge_get hj]; exact h⟩
    · simp [ht] at h
  · rintro ⟨j, hj, ht, h⟩
    rw [ge_get hj] at ht h
    exact ⟨ps[j], List.getElem_mem hj, by simp [ht]; exact h⟩
theorem free_of {ps : List En} (h : (ents ps).length < ps.length) : ∃ f, f < ps.length ∧ (ge ps f).t = false := by
  induction ps with
  | nil => simp at h
  | cons e ps ih =>
    by_cases ht : e.t = true
    · rw [ents_cons] at h
      simp [ht] at h
      obtain ⟨f, hf, h2⟩ := ih (by omega)
      exact ⟨f + 1, by simp; omega, by simpa [ge] using h2⟩
    · exact ⟨0, by simp, by simp [ge]; simpa using ht⟩

/-- Each entry is found from its home on; no key is there twice. -/
structure Inv (n : Nat) (hm : Key → Nat) (ps : List En) : Prop where
  len : ps.length = n
  path : ∀ j, j < n → (ge ps j).t = true → ∀ x, x < n → wy n (hm (ge ps j).k) x ≤ wy n (hm (ge ps j).k) j → (ge ps x).t = true
  key : ∀ i j, i < n → j < n → (ge ps i).t = true → (ge ps j).t = true → (ge ps i).k = (ge ps j).k → i = j
def Absent (ps : List En) (k : Key) : Prop := ∀ j, j < ps.length → (ge ps j).t = true → (ge ps j).k ≠ k
theorem absent_iff {ps : List En} {k : Key} : Absent ps k ↔ ∀ x ∈ ents ps, x.1 ≠ k := by
  constructor
  · intro h x hx
    obtain ⟨j, hj, ht, rfl⟩ := ents_mem.1 hx
    exact h j hj ht
  · intro h j hj ht
    exact h _ (ents_mem.2 ⟨j, hj, ht, rfl⟩)
theorem inv_rep (n : Nat) (hm : Key → Nat) : Inv n hm (List.replicate n z) := by
  have h : ∀ j, (ge (List.replicate n z) j).t = false := by
    intro j
    by_cases hj : j < n
    · rw [ge_get (by simpa using hj)]; simp [z]
    · rw [ge_out (by simpa using hj)]; rfl
  exact ⟨by simp, fun j _ ht => absurd ht (by rw [h]; simp), fun i j _ _ ht => absurd ht (by rw [h]; simp)⟩
/-- A way from k's home to i, where it may stand. -/
structure Scan (n h : Nat) (ps : List En) (i d : Nat) : Prop where
  lt : i < n
  way : wy n h i = d
  full : ∀ x, x < n → wy n h x < d → (ge ps x).t = true
section
variable {n h : Nat} {ps : List En} {i d : Nat}
theorem scan_start (hh : h < n) : Scan n h ps h 0 := ⟨hh, wy_self, fun x _ hx => by omega⟩
theorem scan_more (hh : h < n) (s : Scan n h ps i d) (ht : (ge ps i).t = true) (hf : ∃ f, f < n ∧ (ge ps f).t = false) : d + 1 < n := by
  obtain ⟨f, hfl, hff⟩ := hf
  have h1 := wy_lt hh hfl
  have h2 := s.full f hfl
  have h3 := wy_lt hh s.lt
  have h4 := s.way
  rcases Nat.lt_or_ge (wy n h f) d with hlt | hge
  · rw [h2 hlt] at hff; cases hff
  · by_cases e : wy n h f = d
    · have := wy_inj hh hfl s.lt (e.trans h4.symm)
      rw [this, ht] at hff; cases hff
    · omega
theorem scan_step (hh : h < n) (s : Scan n h ps i d) (ht : (ge ps i).t = true) (hd : d + 1 < n) : Scan n h ps (nx n i) (d + 1) := by
  refine ⟨nx_lt s.lt, by rw [wy_nx hh (by rw [s.way]; exact hd), s.way], fun x hx hl => ?_⟩
  by_cases e : wy n h x = d
  · rw [wy_inj hh hx s.lt (e.trans s.way.symm)]; exact ht
  · exact s.full x hx (by omega)
end
/-- The same, none of them k's. -/
structure Seek (n : Nat) (hm : Key → Nat) (ps : List En) (k : Key) (i d : Nat) : Prop where
  scan : Scan n (hm k) ps i d
  other : ∀ x, x < n → wy n (hm k) x < d → (ge ps x).k ≠ k
section
variable {n : Nat} {hm : Key → Nat} {ps : List En} {k : Key} {i d : Nat}
theorem seek_start (hh : hm k < n) : Seek n hm ps k (hm k) 0 := ⟨scan_start hh, fun x _ hx => by omega⟩
theorem seek_step (hh : hm k < n) (s : Seek n hm ps k i d) (ht : (ge ps i).t = true) (hk : (ge ps i).k ≠ k) (hd : d + 1 < n) : Seek n hm ps k (nx n i) (d + 1) := by
  refine ⟨scan_step hh s.scan ht hd, fun x hx hl => ?_⟩
  by_cases e : wy n (hm k) x = d
  · rw [wy_inj hh hx s.scan.lt (e.trans s.scan.way.symm)]; exact hk
  · exact s.other x hx (by omega)
/-- What is not found isn't there. -/
theorem seek_absent (I : Inv n hm ps) (s : Seek n hm ps k i d) (ht : (ge ps i).t = false) : Absent ps k := by
  intro j hj hjt hk
  rw [I.len] at hj
  rcases Nat.lt_or_ge (wy n (hm k) j) d with hlt | hge
  · exact s.other j hj hlt hk
  · have := I.path j hj hjt i s.scan.lt (by rw [hk, s.scan.way]; exact hge)
    rw [ht] at this; cases this
/-- One entry more. -/
theorem inv_put (I : Inv n hm ps) (hh : hm k < n) (s : Scan n (hm k) ps i d) (ha : Absent ps k) (v : Nat) : Inv n hm (ps.set i ⟨k.1, k.2, v, true⟩) := by
  have hil : i < ps.length := by rw [I.len]; exact s.lt
  have hmono : ∀ x, (ge ps x).t = true → (ge (ps.set i ⟨k.1, k.2, v, true⟩) x).t = true := by
    intro x hx
    by_cases e : i = x
    · subst e; rw [ge_set hil]
    · rw [ge_set_ne e]; exact hx
  refine ⟨by rw [List.length_set]; exact I.len, fun j hj hjt x hx hw => ?_, fun a b hal hbl hat hbt hab => ?_⟩
  · by_cases e : i = j
    · subst e
      rw [ge_set hil] at hw
      have hw' : wy n (hm k) x ≤ wy n (hm k) i := hw
      rw [s.way] at hw'
      by_cases e2 : wy n (hm k) x = d
      · rw [wy_inj hh hx s.lt (e2.trans s.way.symm), ge_set hil]
      · exact hmono x (s.full x hx (by omega))
    · rw [ge_set_ne e] at hjt hw
      exact hmono x (I.path j hj hjt x hx hw)
  · by_cases ea : i = a
    · subst ea
      by_cases eb : i = b
      · exact eb
      · rw [ge_set hil, ge_set_ne eb] at hab
        rw [ge_set_ne eb] at hbt
        exact absurd hab.symm (ha b (by rw [I.len]; exact hbl) hbt)
    · by_cases eb : i = b
      · subst eb
        rw [ge_set hil, ge_set_ne ea] at hab
        rw [ge_set_ne ea] at hat
        exact absurd hab (ha a (by rw [I.len]; exact hal) hat)
      · rw [ge_set_ne ea, ge_set_ne eb] at hab
        rw [ge_set_ne ea] at hat
        rw [ge_set_ne eb] at hbt
        exact I.key a b hal hbl hat hbt hab
/-- Another value. -/
theorem inv_over (I : Inv n hm ps) (hi : i < n) (ht : (ge ps i).t = true) (hk : (ge ps i).k = k) (v : Nat) : Inv n hm (ps.set i ⟨k.1, k.2, v, true⟩) := by
  have hil : i < ps.length := by rw [I.len]; exact hi
  have ht' : ∀ x, (ge (ps.set i ⟨k.1, k.2, v, true⟩) x).t = (ge ps x).t := by
    intro x
    by_cases e : i = x
    · subst e; rw [ge_set hil, ht]
    · rw [ge_set_ne e]
  have hk' : ∀ x, (ge (ps.set i ⟨k.1, k.2, v, true⟩) x).k = (ge ps x).k := by
    intro x
    by_cases e : i = x
    · subst e; rw [ge_set hil, hk]
    · rw [ge_set_ne e]
  exact ⟨by rw [List.length_set]; exact I.len, fun j hj hjt x hx hw => by rw [ht'] at *; rw [hk'] at hw; exact I.path j hj hjt x hx hw,
    fun a b ha hb hat hbt hab => by rw [ht'] at hat hbt; rw [hk', hk'] at hab; exact I.key a b ha hb hat hbt hab⟩
end
/-- A gap at g, freed; from i on it may lie on an entry's way. -/
structure Gap (n : Nat) (hm : Key → Nat) (ps : List En) (s : Nat) (qs : List En) (g i m : Nat) : Prop where
  len : qs.length = n
  ilt : i < n
  glt : g < n
  way : wy n s i = m
  gway : wy n s g < m
  was : ∀ x, x < n → wy n s x < m → (ge ps x).t = true
  same : ∀ x, x < n → m ≤ wy n s x → ge qs x = ge ps x
  free : (ge qs g).t = false
  path : ∀ j, j < n → (ge qs j).t = true → ∀ x, x < n → wy n (hm (ge qs j).k) x ≤ wy n (hm (ge qs j).k) j → (ge qs x).t = true ∨ (x = g ∧ wy n g i ≤ wy n g j)
  key : ∀ i j, i < n → j < n → (ge qs i).t = true → (ge qs j).t = true → (ge qs i).k = (ge qs j).k → i = j
section
variable {n : Nat} {hm : Key → Nat} {ps qs : List En} {s g i m : Nat}
theorem gap_start (I : Inv n hm ps) (h2 : 2 ≤ n) (hs : s < n) (ht : (ge ps s).t = true) : Gap n hm ps s (ps.set s z) s (nx n s) 1 := by
  have hsl : s < ps.length := by rw [I.len]; exact hs
  have hz : (ge (ps.set s z) s).t = false := by rw [ge_set hsl]; rfl
  refine ⟨by rw [List.length_set]; exact I.len, nx_lt hs, hs, wy_nx0 h2, by rw [wy_self]; omega, fun x hx h => ?_, fun x hx h => ?_, hz, fun j hj hjt x hx hw => ?_, fun a b ha hb hat hbt hab => ?_⟩
  · rw [← wy_inj hs hs hx (by rw [wy_self]; omega)]; exact ht
  · refine ge_set_ne fun e => ?_
    subst e; rw [wy_self] at h; omega
  · have ej : s ≠ j := by rintro rfl; rw [hz] at hjt; cases hjt
    rw [ge_set_ne ej] at hjt hw
    have := I.path j hj hjt x hx hw
    by_cases ex : s = x
    · right
      exact ⟨ex.symm, by rw [wy_nx0 h2]; exact wy_pos hs ej⟩
    · left; rw [ge_set_ne ex]; exact this
  · have ea : s ≠ a := by rintro rfl; rw [hz] at hat; cases hat
    have eb : s ≠ b := by rintro rfl; rw [hz] at hbt; cases hbt
    rw [ge_set_ne ea] at hat hab
    rw [ge_set_ne eb] at hbt hab
    exact I.key a b ha hb hat hbt hab
theorem Gap.ne (a : Gap n hm ps s qs g i m) : g ≠ i := by
  rintro rfl
  have := a.way; have := a.gway; omega
theorem Gap.more (a : Gap n hm ps s qs g i m) (hs : s < n) (ht : (ge qs i).t = true) (hf : ∃ f, f < n ∧ (ge ps f).t = false) : m + 1 < n := by
  have hi : (ge ps i).t = true := by rw [← a.same i a.ilt (by rw [a.way]; exact Nat.le_refl _)]; exact ht
  exact scan_more hs ⟨a.ilt, a.way, a.was⟩ hi hf
theorem Gap.nx_was (a : Gap n hm ps s qs g i m) (hs : s < n) (ht : (ge qs i).t = true) : ∀ x, x < n → wy n s x < m + 1 → (ge ps x).t = true := by
  intro x hx h
  by_cases e : wy n s x = m
  · rw [wy_inj hs hx a.ilt (e.trans a.way.symm), ← a.same i a.ilt (by rw [a.way]; exact Nat.le_refl _)]; exact ht
  · exact a.was x hx (by omega)
/-- It stays: the gap isn't on its way. -/
theorem Gap.stay (a : Gap n hm ps s qs g i m) (hs : s < n) (hh : ∀ k, hm k < n) (ht : (ge qs i).t = true) (hm1 : m + 1 < n) (hw : ¬ wy n g i ≤ wy n (hm (ge qs i).k) i) : Gap n hm ps s qs g (nx n i) (m + 1) := by
  have hwn : wy n s (nx n i) = m + 1 := by rw [wy_nx hs (by rw [a.way]; exact hm1), a.way]
  refine ⟨a.len, nx_lt a.ilt, a.glt, hwn, by have := a.gway; omega, a.nx_was hs ht, fun x hx h => a.same x hx (by omega), a.free, fun j hj hjt x hx hwx => ?_, a.key⟩
  rcases a.path j hj hjt x hx hwx with h | ⟨rfl, h⟩
  · exact .inl h
  · right
    refine ⟨rfl, ?_⟩
    have hne : nx n i ≠ x := by
      intro e
      have := a.gway
      rw [e] at hwn; omega
    rw [wy_nx' hx hne]
    have hij : j ≠ i := by
      rintro rfl
      have := wy_add (hh _) hx hj hwx
      omega
    have : wy n x i ≠ wy n x j := fun e => hij (wy_inj hx a.ilt hj e).symm
    omega
/-- It moves into the gap. -/
theorem Gap.move (a : Gap n hm ps s qs g i m) (hs : s < n) (hh : ∀ k, hm k < n) (ht : (ge qs i).t = true) (hm1 : m + 1 < n) (hw : wy n g i ≤ wy n (hm (ge qs i).k) i) : Gap n hm ps s ((qs.set g (ge qs i)).set i z) i (nx n i) (m + 1) := by
  have hwn : wy n s (nx n i) = m + 1 := by rw [wy_nx hs (by rw [a.way]; exact hm1), a.way]
  have hne := a.ne
  have hgl : g < qs.length := by rw [a.len]; exact a.glt
  have hil : i < (qs.set g (ge qs i)).length := by rw [List.length_set, a.len]; exact a.ilt
  have gi : ge ((qs.set g (ge qs i)).set i z) i = z := ge_set hil
  have gg : ge ((qs.set g (ge qs i)).set i z) g = ge qs i := by rw [ge_set_ne (Ne.symm hne), ge_set hgl]
  have go : ∀ x, x ≠ g → x ≠ i → ge ((qs.set g (ge qs i)).set i z) x = ge qs x := fun x h1 h2 => by rw [ge_set_ne (Ne.symm h2), ge_set_ne (Ne.symm h1)]
  have ti : (ge ((qs.set g (ge qs i)).set i z) i).t = false := by rw [gi]; rfl
  refine ⟨by rw [List.length_set, List.length_set]; exact a.len, nx_lt a.ilt, a.ilt, hwn, by rw [a.way]; omega, a.nx_was hs ht, fun x hx h => ?_, ti, fun j hj hjt x hx hwx => ?_, fun b c hb hc hbt hct hbc => ?_⟩
  · have e1 : x ≠ g := by rintro rfl; have := a.gway; omega
    have e2 : x ≠ i := by rintro rfl; have := a.way; omega
    rw [go x e1 e2]; exact a.same x hx (by omega)
  · have eji : j ≠ i := by rintro rfl; rw [ti] at hjt; cases hjt
    have hx1 : (ge qs x).t = true → x ≠ i → (ge ((qs.set g (ge qs i)).set i z) x).t = true := by
      intro h1 h2
      by_cases e : x = g
      · subst e; rw [gg]; exact ht
      · rw [go x e h2]; exact h1
    by_cases ejg : j = g
    · subst ejg
      rw [gg] at hwx
      have hadd := wy_add2 (hh _) hj hw
      have hp := wy_pos a.glt hne
      left
      have hxi : x ≠ i := by rintro rfl; omega
      rcases a.path i a.ilt ht x hx (by omega) with h | ⟨rfl, _⟩
      · exact hx1 h hxi
      · rw [gg]; exact ht
    · rw [go j ejg eji] at hjt hwx
      rcases a.path j hj hjt x hx hwx with h | ⟨rfl, _⟩
      · by_cases e : x = i
        · right
          refine ⟨e, ?_⟩
          rw [wy_nx0 (by have := a.ilt; have := a.glt; have := hne; omega)]
          exact wy_pos a.ilt (Ne.symm eji)
        · left; exact hx1 h e
      · left; rw [gg]; exact ht
  · have ebi : b ≠ i := by rintro rfl; rw [ti] at hbt; cases hbt
    have eci : c ≠ i := by rintro rfl; rw [ti] at hct; cases hct
    by_cases eb : b = g
    · by_cases ec : c = g
      · rw [eb, ec]
      · subst eb
        rw [gg, go c ec eci] at hbc
        rw [go c ec eci] at hct
        exact absurd (a.key i c a.ilt hc ht hct hbc).symm eci
    · by_cases ec : c = g
      · subst ec
        rw [gg, go b eb ebi] at hbc
        rw [go b eb ebi] at hbt
        exact absurd (a.key b i hb a.ilt hbt ht hbc) ebi
      · rw [go b eb ebi, go c ec eci] at hbc
        rw [go b eb ebi] at hbt
        rw [go c ec eci] at hct
        exact a.key b c hb hc hbt hct hbc
/-- What stands behind is free: the gap is closed. -/
theorem Gap.done (a : Gap n hm ps s qs g i m) (hh : ∀ k, hm k < n) (ht : (ge qs i).t = false) : Inv n hm qs := by
  refine ⟨a.len, fun j hj hjt x hx hwx => ?_, a.key⟩
  rcases a.path j hj hjt x hx hwx with h | ⟨rfl, h⟩
  · exact h
  · exfalso
    have h1 := wy_add (hh _) hx hj hwx
    have h2 := wy_lt (hh (ge qs j).k) hj
    have h3 := wy_add3 (hh (ge qs j).k) hx a.ilt (by omega)
    rcases a.path j hj hjt i a.ilt (by omega) with h4 | ⟨h4, _⟩
    · rw [ht] at h4; cases h4
    · exact a.ne h4.symm
/-- How many were looked at. -/
theorem gap_probes {h d : Nat} (a : Gap n hm ps s qs g i m) (hs : s < n) (hh : h < n) (sc : Scan n h ps s d) (ht : (ge qs i).t = false) : d + m + 1 ≤ n := by
  have hi : (ge ps i).t = false := by rw [← a.same i a.ilt (by rw [a.way]; exact Nat.le_refl _)]; exact ht
  rcases Nat.lt_or_ge (d + m) n with hlt | hge
  · omega
  · exfalso
    have h1 := wy_over hh hs a.ilt (by rw [sc.way, a.way]; exact hge)
    rw [sc.way, a.way] at h1
    have h2 := wy_lt hs a.ilt
    have := sc.full i a.ilt (by rw [a.way] at h2; omega)
    rw [hi] at this; cases this
theorem gap_move_ents (a : Gap n hm ps s qs g i m) (ht : (ge qs i).t = true) : (ents ((qs.set g (ge qs i)).set i z)).Perm (ents qs) := by
  have hgl : g < qs.length := by rw [a.len]; exact a.glt
  have hil : i < (qs.set g (ge qs i)).length := by rw [List.length_set, a.len]; exact a.ilt
  have h1 := ents_put (ge qs i) hgl a.free ht
  have hgi : ge (qs.set g (ge qs i)) i = ge qs i := ge_set_ne a.ne
  have h2 := ents_wipe z hil (by rw [hgi]; exact ht) rfl
  rw [hgi] at h2
  exact List.Perm.cons_inv (h2.trans h1)
end
end Go.Proofs.Ytihhkdcgnnfkkaa.Hs.H
