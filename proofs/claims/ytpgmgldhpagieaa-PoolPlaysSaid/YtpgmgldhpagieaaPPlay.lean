
/- A step of both: the law's do keeps the pool and the reference's alike. -/
import Derived.Test.YtpgmgldhpagieaaPDo
import Derived.Test.YtpgmgldhpagieaaPSame
import Derived.Test.YtpgmgldhpagieaaRDo5
namespace Go.Proofs.Ytpgmgldhpagieaa
open Go.RowKit
/-- The freed ones are those not taken, each once. -/
def FreeOk (ns : List (Nat × Bool)) (fs : List Nat) : Prop := fs.Nodup ∧ ∀ i, i ∈ fs ↔ ∃ h : i < ns.length, ns[i].2 = false
theorem FreeOk.nil : FreeOk [] [] := ⟨List.nodup_nil, fun i => ⟨fun h => by simp at h, fun ⟨h, _⟩ => by simp at h⟩⟩
theorem tkn_idx : ∀ ns : List (Nat × Bool), tkn ns + ((List.range ns.length).filter (fun i => !((ns[i]?).map (·.2)).getD false)).length = ns.length
  | [] => rfl
  | x :: ns => by
    have ih := tkn_idx ns
    rw [List.length_cons, List.range_succ_eq_map, List.filter_cons, List.filter_map]
    have e : ((fun i => !((((x :: ns)[i]?).map (·.2)).getD false)) ∘ Nat.succ) = fun i => !((ns[i]?).map (·.2)).getD false := by
      funext i; simp
    rw [e]
    unfold tkn at ih ⊢
    rw [List.filter_cons]
    cases h : x.2 <;> simp [h] <;> omega
theorem FreeOk.len {ns : List (Nat × Bool)} {fs : List Nat} (h : FreeOk ns fs) : fs.length + tkn ns = ns.length := by
  have hp : fs.Perm ((List.range ns.length).filter (fun i => !((ns[i]?).map (·.2)).getD false)) := by
    refine (List.perm_ext_iff_of_nodup h.1 (List.Pairwise.filter _ List.nodup_range)).2 fun i => ?_
    rw [h.2 i, List.mem_filter, List.mem_range]
    constructor
    · rintro ⟨hi, hv⟩
      exact ⟨hi, by simp [hi, hv]⟩
    · rintro ⟨hi, hv⟩
      exact ⟨hi, by simpa [hi] using hv⟩
  have := tkn_idx ns
  rw [hp.length_eq]
  omega
theorem FreeOk.new {ns : List (Nat × Bool)} (h : FreeOk ns []) (v : Nat) : FreeOk (ns ++ [(v, true)]) [] := by
  refine ⟨List.nodup_nil, fun i => ⟨fun hi => by simp at hi, fun ⟨hi, hv⟩ => ?_⟩⟩
  by_cases hlt : i < ns.length
  · rw [List.getElem_append_left hlt] at hv
    exact (h.2 i).2 ⟨hlt, hv⟩
  · simp at hi
    have e : i = ns.length := by omega
    subst e
    simp at hv
theorem FreeOk.pop {ns : List (Nat × Bool)} {fs : List Nat} {k : Nat} (h : FreeOk ns (fs ++ [k])) (v : Nat) : FreeOk (ns.set k (v, true)) fs := by
  obtain ⟨h1, h2⟩ := h
  rw [List.nodup_append] at h1
  refine ⟨h1.1, fun i => ⟨fun hi => ?_, fun ⟨hi, hv⟩ => ?_⟩⟩
  · obtain ⟨hl, hv⟩ := (h2 i).1 (List.mem_append_left _ hi)
    have hne : k ≠ i := fun e => h1.2.2 i hi k (by simp) e.symm
    exact ⟨by rw [List.length_set]; exact hl, by rw [List.getElem_set_ne hne]; exact hv⟩
  · rw [List.length_set] at hi
    by_cases e : k = i
    · subst e; rw [List.getElem_set_self] at hv; simp at hv
    · rw [List.getElem_set_ne e] at hv
      rcases List.mem_append.1 ((h2 i).2 ⟨hi, hv⟩) with h | h
      · exact h
      · simp at h; omega
theorem FreeOk.free {ns : List (Nat × Bool)} {fs : List Nat} {k : Nat} (h : FreeOk ns fs) (hk : k < ns.length) (ht : ns[k].2 = true) (v : Nat) : FreeOk (ns.set k (v, false)) (fs ++ [k]) := by
  obtain ⟨h1, h2⟩ := h
  have hnk : k ∉ fs := fun hi => by
    obtain ⟨_, hv⟩ := (h2 k).1 hi
    rw [ht] at hv; simp at hv
  refine ⟨by rw [List.nodup_append]; exact ⟨h1, by simp, fun a ha b hb => by simp at hb; subst hb; exact fun e => hnk (e ▸ ha)⟩, fun i => ⟨fun hi => ?_, fun ⟨hi, hv⟩ => ?_⟩⟩
  · rcases List.mem_append.1 hi with hi | hi
    · obtain ⟨hl, hv⟩ := (h2 i).1 hi
      have hne : k ≠ i := fun e => hnk (e ▸ hi)
      exact ⟨by rw [List.length_set]; exact hl, by rw [List.getElem_set_ne hne]; exact hv⟩
    · simp at hi; subst hi
      exact ⟨by rw [List.length_set]; exact hk, by rw [List.getElem_set_self]⟩
  · rw [List.length_set] at hi
    by_cases e : k = i
    · subst e; exact List.mem_append_right _ (by simp)
    · rw [List.getElem_set_ne e] at hv
      exact List.mem_append_left _ ((h2 i).2 ⟨hi, hv⟩)
theorem FreeOk.put {ns : List (Nat × Bool)} {fs : List Nat} {k : Nat} (h : FreeOk ns fs) (hk : k < ns.length) (ht : ns[k].2 = true) (v : Nat) : FreeOk (ns.set k (v, true)) fs := by
  refine ⟨h.1, fun i => ?_⟩
  rw [h.2 i]
  constructor
  · rintro ⟨hi, hv⟩
    have hne : k ≠ i := fun e => by subst e; rw [ht] at hv; simp at hv
    exact ⟨by rw [List.length_set]; exact hi, by rw [List.getElem_set_ne hne]; exact hv⟩
  · rintro ⟨hi, hv⟩
    rw [List.length_set] at hi
    by_cases e : k = i
    · subst e; rw [List.getElem_set_self] at hv; simp at hv
    · rw [List.getElem_set_ne e] at hv; exact ⟨hi, hv⟩
/-- Both alike after at most k steps. -/
def Pl (w : World) (B P M R lim k : Nat) : Prop :=
  ∃ ns fs rs r p, Bs w B P M R lim ns fs rs fs r r p r ∧ Like ns rs ∧ FreeOk ns fs ∧ r ≤ k ∧ ns.length ≤ k ∧ tkn ns ≤ lim
section
variable {w w' : World} {B P M R lim cn cf cv cl cg r t p q : Nat} {An Af Av Al Ag : Option Addr} {ns rs : List (Nat × Bool)} {fs gs : List Nat}
theorem Bo.base_le (a : Bo w B P M R lim An cn Af cf Av cv Al cl Ag cg ns fs rs gs r t p q) : B ≤ w.heap.size := Nat.le_trans a.po.base (Nat.le_of_lt a.po.lt)
theorem Bo.but (a : Bo w B P M R lim An cn Af cf Av cv Al cl Ag cg ns fs rs gs r t p q) (b : ButS w w' (fun _ => False)) : Bo w' B P M R lim An cn Af cf Av cv Al cl Ag cg ns fs rs gs r t p q :=
  ⟨a.po.but b (fun _ _ h => h), a.rf.but b (fun _ _ h => h), (b.block M a.ml (fun h => h)).trans a.mt, Nat.lt_of_lt_of_le a.ml b.size, a.mb, a.pr, a.pm, a.rm⟩
theorem Bo.refrK (a : Bo w B P M R lim An cn Af cf Av cv Al cl Ag cg ns fs rs gs r t p q) {rs' : List (Nat × Bool)} {gs' : List Nat} {q' : Nat} (st : RStep w B R lim q' Av Al Ag rs' gs' w') {s : Nat} (hs : s < w.heap.size) (hn : ¬ RB R Av Al Ag s) :
    (Bs w' B P M R lim ns fs rs' gs' r t p q' ∧ Below B w w') ∧ w'.heap[s]? = w.heap[s]? := by
  have st0 := st
  obtain ⟨_, _, _, _, _, _, _, b, _⟩ := st0
  exact ⟨a.refr st, b.block s hs hn⟩
theorem RStep.refl (a : Rf w B R lim q Av cv Al cl Ag cg rs gs) {o : Obj} (n : Nat) : RStep w B R lim q Av Al Ag rs gs ((w.alloc o).drewN n) :=
  ⟨Av, cv, Al, cl, Ag, cg, (a.alloc o).drew n, (but_alloc w o _).drewN n, fun _ h => .inl h⟩
theorem Like.tkn_eq (h : Like ns rs) : tkn rs = tkn ns := (tkn_like h).symm
end
end Go.Proofs.Ytpgmgldhpagieaa
