
/- Values by keys: places of a pool, and keys that name them; lists alone. -/
import Derived.Test.YtihhkdcgnnfkkaaHMath
namespace Go.Proofs.Ytihhkdcgnnfkkaa
set_option maxRecDepth 20000
namespace Sv
/-- What the keys' places hold. -/
def vl (ns : List (Nat × Bool)) (tr : List (Nat × Nat)) : List (Nat × Nat) := tr.map fun x => (x.1, ((ns[x.2]?).map (·.1)).getD 0)
/-- The table's entries. -/
def es (tr : List (Nat × Nat)) : List ((Nat × Nat) × Nat) := tr.map fun x => ((0, x.1), x.2)
/-- Each key has a place of its own that is taken; all other places are freed. -/
structure SI (ns : List (Nat × Bool)) (fs : List Nat) (tr : List (Nat × Nat)) : Prop where
  live : ∀ x ∈ tr, ∃ v, ns[x.2]? = some (v, true)
  pl : (tr.map (·.2)).Nodup
  ky : (tr.map (·.1)).Nodup
  dead : ∀ i ∈ fs, ∃ v, ns[i]? = some (v, false)
  fn : fs.Nodup
  len : tr.length + fs.length = ns.length
section
variable {ns ns' : List (Nat × Bool)} {fs : List Nat} {tr tr' : List (Nat × Nat)} {k v i p : Nat}
theorem vl_congr (h : ∀ x ∈ tr, ns'[x.2]? = ns[x.2]?) : vl ns' tr = vl ns tr := by
  unfold vl
  exact List.map_congr_left fun x hx => by rw [h x hx]
theorem vl_cons (x : Nat × Nat) : vl ns (x :: tr) = (x.1, ((ns[x.2]?).map (·.1)).getD 0) :: vl ns tr := rfl
theorem vl_len : (vl ns tr).length = tr.length := by simp [vl]
theorem es_len : (es tr).length = tr.length := by simp [es]
theorem vl_keys : (vl ns tr).map (·.1) = tr.map (·.1) := by simp [vl, Function.comp_def]
theorem es_perm (h : tr.Perm tr') : (es tr).Perm (es tr') := h.map _
theorem vl_perm (h : tr.Perm tr') : (vl ns tr).Perm (vl ns tr') := h.map _
theorem SI.nil : SI [] [] [] := ⟨by simp, by simp, by simp, by simp, by simp, rfl⟩
theorem SI.perm (a : SI ns fs tr) (h : tr.Perm tr') : SI ns fs tr' :=
  ⟨fun x hx => a.live x (h.symm.subset hx), (h.map _).nodup_iff.1 a.pl, (h.map _).nodup_iff.1 a.ky, a.dead, a.fn, by rw [← h.length_eq]; exact a.len⟩
theorem SI.new (a : SI ns [] tr) (hk : ∀ x ∈ tr, x.1 ≠ k) (v : Nat) : SI (ns ++ [(v, true)]) [] ((k, ns.length) :: tr) ∧ vl (ns ++ [(v, true)]) ((k, ns.length) :: tr) = (k, v) :: vl ns tr := by
  have hlt : ∀ x ∈ tr, x.2 < ns.length := fun x hx => by
    obtain ⟨u, hu⟩ := a.live x hx
    exact (List.getElem?_eq_some_iff.1 hu).1
  refine ⟨⟨fun x hx => ?_, ?_, ?_, by simp, by simp, ?_⟩, ?_⟩
  · rcases List.mem_cons.1 hx with rfl | hx
    · exact ⟨v, by simp⟩
    · obtain ⟨u, hu⟩ := a.live x hx
      exact ⟨u, by rw [List.getElem?_append_left (hlt x hx)]; exact hu⟩
  · rw [List.map_cons, List.nodup_cons]
    refine ⟨fun hm => ?_, a.pl⟩
    obtain ⟨x, hx, e⟩ := List.mem_map.1 hm
    have := hlt x hx
    simp at e
    omega
  · rw [List.map_cons, List.nodup_cons]
    refine ⟨fun hm => ?_, a.ky⟩
    obtain ⟨x, hx, e⟩ := List.mem_map.1 hm
    exact hk x hx e
  · have := a.len
    simp at this ⊢
    omega
  · rw [vl_cons, vl_congr (fun x hx => List.getElem?_append_left (hlt x hx))]
    simp
theorem SI.pop (a : SI ns (fs ++ [i]) tr) (hk : ∀ x ∈ tr, x.1 ≠ k) (v : Nat) : SI (ns.set i (v, true)) fs ((k, i) :: tr) ∧ vl (ns.set i (v, true)) ((k, i) :: tr) = (k, v) :: vl ns tr := by
  obtain ⟨u, hu⟩ := a.dead i (by simp)
  have hi := (List.getElem?_eq_some_iff.1 hu).1
  have hne : ∀ x ∈ tr, i ≠ x.2 := fun x hx e => by
    obtain ⟨u', hu'⟩ := a.live x hx
    rw [← e, hu] at hu'
    simp at hu'
  have hnf : i ∉ fs := by
    have := List.nodup_append.1 a.fn
    exact fun h => this.2.2 i h i (by simp) rfl
  have hs : ∀ x ∈ tr, (ns.set i (v, true))[x.2]? = ns[x.2]? := fun x hx => List.getElem?_set_ne (hne x hx)
  refine ⟨⟨fun x hx => ?_, ?_, ?_, fun j hj => ?_, (List.nodup_append.1 a.fn).1, ?_⟩, ?_⟩
  · rcases List.mem_cons.1 hx with rfl | hx
    · exact ⟨v, by simp [hi]⟩
    · obtain ⟨u', hu'⟩ := a.live x hx
      exact ⟨u', by rw [hs x hx]; exact hu'⟩
  · rw [List.map_cons, List.nodup_cons]
    refine ⟨fun hm => ?_, a.pl⟩
    obtain ⟨x, hx, e⟩ := List.mem_map.1 hm
    exact hne x hx e.symm
  · rw [List.map_cons, List.nodup_cons]
    refine ⟨fun hm => ?_, a.ky⟩
    obtain ⟨x, hx, e⟩ := List.mem_map.1 hm
    exact hk x hx e
  · obtain ⟨u', hu'⟩ := a.dead j (by simp [hj])
    exact ⟨u', by rw [List.getElem?_set_ne (by rintro rfl; exact hnf hj)]; exact hu'⟩
  · have := a.len
    simp at this ⊢
    omega
  · rw [vl_cons, vl_congr hs]
    simp [hi]
theorem SI.put (a : SI ns fs ((k, p) :: tr)) (v : Nat) : SI (ns.set p (v, true)) fs ((k, p) :: tr) ∧ vl (ns.set p (v, true)) ((k, p) :: tr) = (k, v) :: vl ns tr := by
  obtain ⟨u, hu⟩ := a.live (k, p) (by simp)
  have hi := (List.getElem?_eq_some_iff.1 hu).1
  simp only at hi hu
  have hp := List.nodup_cons.1 a.pl
  have hne : ∀ x ∈ tr, p ≠ x.2 := fun x hx e => hp.1 (List.mem_map.2 ⟨x, hx, e.symm⟩)
  have hs : ∀ x ∈ tr, (ns.set p (v, true))[x.2]? = ns[x.2]? := fun x hx => List.getElem?_set_ne (hne x hx)
  refine ⟨⟨fun x hx => ?_, a.pl, a.ky, fun j hj => ?_, a.fn, by simpa using a.len⟩, ?_⟩
  · rcases List.mem_cons.1 hx with rfl | hx
    · exact ⟨v, by simp [hi]⟩
    · obtain ⟨u', hu'⟩ := a.live x (by simp [hx])
      exact ⟨u', by rw [hs x hx]; exact hu'⟩
  · obtain ⟨u', hu'⟩ := a.dead j hj
    exact ⟨u', by
      rw [List.getElem?_set_ne]
      · exact hu'
      · rintro rfl
        rw [hu] at hu'
        simp at hu'⟩
  · rw [vl_cons, vl_congr hs]
    simp [hi]
theorem SI.free (a : SI ns fs ((k, p) :: tr)) : SI (ns.set p (0, false)) (fs ++ [p]) tr ∧ vl (ns.set p (0, false)) tr = vl ns tr := by
  obtain ⟨u, hu⟩ := a.live (k, p) (by simp)
  have hi := (List.getElem?_eq_some_iff.1 hu).1
  simp only at hi hu
  have hp := List.nodup_cons.1 a.pl
  have hne : ∀ x ∈ tr, p ≠ x.2 := fun x hx e => hp.1 (List.mem_map.2 ⟨x, hx, e.symm⟩)
  have hs : ∀ x ∈ tr, (ns.set p (0, false))[x.2]? = ns[x.2]? := fun x hx => List.getElem?_set_ne (hne x hx)
  have hpf : p ∉ fs := fun h => by
    obtain ⟨u', hu'⟩ := a.dead p h
    rw [hu] at hu'
    simp at hu'
  refine ⟨⟨fun x hx => ?_, hp.2, (List.nodup_cons.1 a.ky).2, fun j hj => ?_, ?_, ?_⟩, vl_congr hs⟩
  · obtain ⟨u', hu'⟩ := a.live x (by simp [hx])
    exact ⟨u', by rw [hs x hx]; exact hu'⟩
  · rcases List.mem_append.1 hj with hj | hj
    · obtain ⟨u', hu'⟩ := a.dead j hj
      exact ⟨u', by rw [List.getElem?_set_ne (by rintro rfl; exact hpf hj)]; exact hu'⟩
    · obtain rfl : j = p := by simpa using hj
      exact ⟨0, by simp [hi]⟩
  · rw [List.nodup_append]
    exact ⟨a.fn, by simp, fun x hx y hy e => hpf (by
      obtain rfl : y = p := by simpa using hy
      exact e ▸ hx)⟩
  · have := a.len
    simp at this ⊢
    omega
/-- A key's place, found by its value. -/
theorem SI.find {l r : List (Nat × Nat)} (a : SI ns fs tr) (h : l.Perm (vl ns tr)) (hl : l.Perm ((k, v) :: r)) : ∃ p tr', tr.Perm ((k, p) :: tr') ∧ ns[p]? = some (v, true) ∧ r.Perm (vl ns tr') := by
  have hm : (k, v) ∈ vl ns tr := (hl.symm.trans h).subset (by simp)
  obtain ⟨x, hx, e⟩ := List.mem_map.1 hm
  obtain ⟨u, hu⟩ := a.live x hx
  obtain ⟨k', p⟩ := x
  simp only [hu, Option.map_some, Option.getD_some, Prod.mk.injEq] at e
  obtain ⟨rfl, rfl⟩ := e
  have hp : tr.Perm ((k', p) :: tr.erase (k', p)) := List.perm_cons_erase hx
  refine ⟨p, _, hp, hu, ?_⟩
  have h2 : ((k', u) :: r).Perm ((k', u) :: vl ns (tr.erase (k', p))) := by
    refine (hl.symm.trans h).trans ((vl_perm hp).trans ?_)
    rw [vl_cons]
    simp only [hu, Option.map_some, Option.getD_some]
    exact List.Perm.refl _
  exact h2.cons_inv
theorem SI.none {l : List (Nat × Nat)} (h : l.Perm (vl ns tr)) (hk : ∀ x ∈ l, x.1 ≠ k) : ∀ x ∈ tr, x.1 ≠ k := fun x hx e =>
  hk (x.1, ((ns[x.2]?).map (·.1)).getD 0) (h.symm.subset (List.mem_map.2 ⟨x, hx, rfl⟩)) e
theorem SI.le (a : SI ns fs tr) (h : tr.Perm ((k, p) :: tr')) : fs.length + 1 ≤ ns.length := by
  have h1 := a.len
  have h2 := h.length_eq
  simp at h2
  omega
theorem SI.live_len (a : SI ns fs tr) : ns.length - fs.length = tr.length := by have := a.len; omega
end
end Sv
end Go.Proofs.Ytihhkdcgnnfkkaa
