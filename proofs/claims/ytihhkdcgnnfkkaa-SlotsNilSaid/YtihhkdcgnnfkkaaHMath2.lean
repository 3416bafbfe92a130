
/- Plain facts on moving all entries to other places. -/
import Derived.Test.YtihhkdcgnnfkkaaHMath
namespace Go.Proofs.Ytihhkdcgnnfkkaa.Hs.H
set_option maxRecDepth 4000
theorem ge_take {ps : List En} {k j : Nat} (h : j < k) : ge (ps.take k) j = ge ps j := by
  unfold ge; rw [List.getElem?_take_of_lt h]
theorem ents_take_succ {ps : List En} {k : Nat} (h : k < ps.length) : ents (ps.take (k + 1)) = ents (ps.take k) ++ (if (ge ps k).t = true then [((ge ps k).k, (ge ps k).v)] else []) := by
  rw [List.take_succ_eq_append_getElem h, ents_append, ents_cons, ents_nil, List.append_nil, ge_get h]
theorem ents_take_le (ps : List En) (k : Nat) : (ents (ps.take k)).length ≤ (ents ps).length := by
  have : ents ps = ents (ps.take k) ++ ents (ps.drop k) := by rw [← ents_append, List.take_append_drop]
  rw [this, List.length_append]; omega
theorem move_absent {n : Nat} {hm : Key → Nat} {ps ts : List En} {k : Nat} (I : Inv n hm ps) (hk : k < n) (ht : (ge ps k).t = true) (hp : (ents ts).Perm (ents (ps.take k))) : Absent ts (ge ps k).k := by
  rw [absent_iff]
  intro x hx e
  obtain ⟨j, hj, hjt, rfl⟩ := ents_mem.1 (hp.mem_iff.1 hx)
  have hjk : j < k := by rw [List.length_take] at hj; omega
  rw [ge_take hjk] at hjt e
  have := I.key j k (by omega) hk hjt ht e
  omega
theorem move_put {ps ts : List En} {k i : Nat} (hk : k < ps.length) (ht : (ge ps k).t = true) (hp : (ents ts).Perm (ents (ps.take k))) (hi : i < ts.length) (hf : (ge ts i).t = false) :
    (ents (ts.set i (ge ps k))).Perm (ents (ps.take (k + 1))) := by
  have h1 := ents_put (ge ps k) hi hf ht
  rw [ents_take_succ hk, if_pos ht]
  exact h1.trans ((hp.cons _).trans (List.perm_append_comm (l₁ := [((ge ps k).k, (ge ps k).v)])))
theorem move_skip {ps ts : List En} {k : Nat} (hk : k < ps.length) (ht : (ge ps k).t = false) (hp : (ents ts).Perm (ents (ps.take k))) : (ents ts).Perm (ents (ps.take (k + 1))) := by
  rw [ents_take_succ hk, ht]
  simpa using hp
theorem move_free {ps ts : List En} {k n : Nat} (hp : (ents ts).Perm (ents (ps.take k))) (h : (ents ps).length < n) (hl : ts.length = n) : ∃ f, f < n ∧ (ge ts f).t = false := by
  have := ents_take_le ps k
  have h2 := hp.length_eq
  obtain ⟨f, hf, ht⟩ := free_of (ps := ts) (by omega)
  exact ⟨f, by omega, ht⟩
theorem en_eta (e : En) (h : e.t = true) : (⟨e.k.1, e.k.2, e.v, true⟩ : En) = e := by
  cases e; simp at h; simp [h]
end Go.Proofs.Ytihhkdcgnnfkkaa.Hs.H
