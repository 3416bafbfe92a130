/- Links in a row, told by the list of their places and keys: plain lemmas. -/
import Derived.Test.YtiinefdpaiincaaMxC3
namespace Go.Proofs.Ytiinefdpaiincaa
open Go.RowKit
abbrev LL := List (Nat × Nat)
def hd (L : LL) (b : Int) : Int := match L with | [] => b | x :: _ => (x.1 : Int)
def lst (a : Int) (L : LL) : Int := match L with | [] => a | x :: L => lst (x.1 : Int) L
/-- The links L stand one behind the other, ahead of them a, behind them b. -/
def Seg (ns : List (Nd × Bool)) (a : Int) (L : LL) (b : Int) : Prop := match L with
  | [] => True
  | x :: L => ns[x.1]? = some (⟨x.2, a, hd L b⟩, true) ∧ Seg ns (x.1 : Int) L b
theorem hd_app (L1 L2 : LL) (b : Int) : hd (L1 ++ L2) b = hd L1 (hd L2 b) := by cases L1 <;> rfl
theorem lst_app (L1 L2 : LL) (a : Int) : lst a (L1 ++ L2) = lst (lst a L1) L2 := by
  induction L1 generalizing a with
  | nil => rfl
  | cons x L1 ih => exact ih _
theorem seg_app {ns : List (Nd × Bool)} {L1 L2 : LL} {a b : Int} : Seg ns a (L1 ++ L2) b ↔ Seg ns a L1 (hd L2 b) ∧ Seg ns (lst a L1) L2 b := by
  induction L1 generalizing a with
  | nil => simp [Seg, lst]
  | cons x L1 ih =>
    show (_ ∧ Seg ns _ (L1 ++ L2) b) ↔ (_ ∧ Seg ns _ L1 _) ∧ Seg ns (lst _ L1) L2 b
    rw [ih, ← hd_app]
    exact ⟨fun ⟨h1, h2, h3⟩ => ⟨⟨h1, h2⟩, h3⟩, fun ⟨⟨h1, h2⟩, h3⟩ => ⟨h1, h2, h3⟩⟩
theorem seg_frame {ns ns' : List (Nd × Bool)} {L : LL} {a b : Int} (h : Seg ns a L b) (hf : ∀ x ∈ L, ns'[x.1]? = ns[x.1]?) : Seg ns' a L b := by
  induction L generalizing a with
  | nil => trivial
  | cons x L ih => exact ⟨(hf x (by simp)).trans h.1, ih h.2 (fun y hy => hf y (by simp [hy]))⟩
theorem seg_live {ns : List (Nd × Bool)} {L : LL} {a b : Int} (h : Seg ns a L b) {x : Nat × Nat} (hx : x ∈ L) : ∃ nd : Nd, ns[x.1]? = some (nd, true) ∧ nd.key = x.2 := by
  induction L generalizing a with
  | nil => cases hx
  | cons y L ih =>
    rcases List.mem_cons.1 hx with rfl | hx
    · exact ⟨_, h.1, rfl⟩
    · exact ih h.2 hx
theorem lvq_some {ns : List (Nd × Bool)} {k : Nat} {nd : Nd} (h : ns[k]? = some (nd, true)) : lvq ns (k : Int) = true := by
  unfold lvq
  simp [h]
theorem ndi_some {ns : List (Nd × Bool)} {k : Nat} {nd : Nd} (h : ns[k]? = some (nd, true)) : ndi ns (k : Int) = nd := by
  unfold ndi
  simp [h]
theorem lvq_neg {ns : List (Nd × Bool)} {i : Int} (h : i < 0) : lvq ns i = false := by
  unfold lvq
  rw [decide_eq_false (by omega)]
  rfl
theorem setb_some {ns : List (Nd × Bool)} {k : Nat} {nd : Nd} (h : ns[k]? = some (nd, true)) (b : Int) : setb ns (k : Int) b = ns.set k (⟨nd.key, nd.ah, b⟩, true) := by
  unfold setb
  rw [lvq_some h, if_pos rfl, ndi_some h]
  rfl
theorem seta_some {ns : List (Nd × Bool)} {k : Nat} {nd : Nd} (h : ns[k]? = some (nd, true)) (b : Int) : seta ns (k : Int) b = ns.set k (⟨nd.key, b, nd.be⟩, true) := by
  unfold seta
  rw [lvq_some h, if_pos rfl, ndi_some h]
  rfl
theorem setb_ne (ns : List (Nd × Bool)) {i b : Int} {j : Nat} (h : (j : Int) ≠ i) : (setb ns i b)[j]? = ns[j]? := by
  unfold setb
  split
  · rename_i hl
    obtain ⟨k, rfl, _⟩ := lvq_form hl
    rw [List.getElem?_set_ne]
    rw [Int.toNat_natCast]
    intro e; subst e; exact h rfl
  · rfl
theorem seta_ne (ns : List (Nd × Bool)) {i b : Int} {j : Nat} (h : (j : Int) ≠ i) : (seta ns i b)[j]? = ns[j]? := by
  unfold seta
  split
  · rename_i hl
    obtain ⟨k, rfl, _⟩ := lvq_form hl
    rw [List.getElem?_set_ne]
    rw [Int.toNat_natCast]
    intro e; subst e; exact h rfl
  · rfl
theorem get_set {ns : List (Nd × Bool)} {k : Nat} {x y : Nd × Bool} (h : ns[k]? = some x) : (ns.set k y)[k]? = some y := by
  have hk : k < ns.length := (List.getElem?_eq_some_iff.1 h).1
  simp [hk]
theorem setb_at {ns : List (Nd × Bool)} {k : Nat} {nd : Nd} (h : ns[k]? = some (nd, true)) (b : Int) : (setb ns (k : Int) b)[k]? = some (⟨nd.key, nd.ah, b⟩, true) := by
  rw [setb_some h]
  exact get_set h
theorem seta_at {ns : List (Nd × Bool)} {k : Nat} {nd : Nd} (h : ns[k]? = some (nd, true)) (b : Int) : (seta ns (k : Int) b)[k]? = some (⟨nd.key, b, nd.be⟩, true) := by
  rw [seta_some h]
  exact get_set h
theorem setb_len (ns : List (Nd × Bool)) (i b : Int) : (setb ns i b).length = ns.length := by
  unfold setb
  split <;> simp
theorem seta_len (ns : List (Nd × Bool)) (i b : Int) : (seta ns i b).length = ns.length := by
  unfold seta
  split <;> simp
theorem lst_mem {a : Int} {L : LL} (h : L ≠ []) : ∃ x ∈ L, lst a L = (x.1 : Int) := by
  induction L generalizing a with
  | nil => exact absurd rfl h
  | cons x L ih =>
    cases L with
    | nil => exact ⟨x, by simp, rfl⟩
    | cons y L =>
      obtain ⟨z, hz, e⟩ := ih (a := (x.1 : Int)) (by simp)
      exact ⟨z, by simp [hz], e⟩
/-- The last link with another one behind it. -/
theorem seg_setb {ns : List (Nd × Bool)} {L : LL} {a c : Int} (h : Seg ns a L c) (hn : (L.map (·.1)).Nodup) (b : Int) : Seg (setb ns (lst a L) b) a L b := by
  induction L generalizing a with
  | nil => trivial
  | cons x L ih =>
    rw [List.map_cons, List.nodup_cons] at hn
    cases L with
    | nil =>
      refine ⟨?_, trivial⟩
      show (setb ns (x.1 : Int) b)[x.1]? = _
      exact setb_at h.1 b
    | cons y L =>
      refine ⟨?_, ih h.2 hn.2⟩
      rw [setb_ne]
      · exact h.1
      · intro e
        obtain ⟨z, hz, e2⟩ := lst_mem (a := (x.1 : Int)) (L := y :: L) (by simp)
        have e3 : (x.1 : Int) = (z.1 : Int) := e.trans e2
        exact hn.1 (List.mem_map.2 ⟨z, hz, by omega⟩)
/-- The first link with another one ahead of it. -/
theorem seg_seta {ns : List (Nd × Bool)} {L : LL} {a c : Int} (h : Seg ns a L c) (hn : (L.map (·.1)).Nodup) (b : Int) : Seg (seta ns (hd L c) b) b L c := by
  cases L with
  | nil => trivial
  | cons x L =>
    rw [List.map_cons, List.nodup_cons] at hn
    refine ⟨seta_at h.1 b, seg_frame h.2 (fun y hy => seta_ne _ ?_)⟩
    intro e
    have e2 : (y.1 : Int) = (x.1 : Int) := e
    exact hn.1 (List.mem_map.2 ⟨y, hy, by omega⟩)
theorem lst_ne {L : LL} {n : Nat} (h : ∀ x ∈ L, x.1 ≠ n) : (n : Int) ≠ lst (-1) L := by
  intro e
  by_cases hL : L = []
  · subst hL
    have : (n : Int) = -1 := e
    omega
  · obtain ⟨x, hx, e2⟩ := lst_mem (a := -1) hL
    exact h x hx (by omega)
theorem hd_mem {L : LL} (h : L ≠ []) : ∃ x ∈ L, ∀ b, hd L b = (x.1 : Int) := by
  cases L with
  | nil => exact absurd rfl h
  | cons x L => exact ⟨x, by simp, fun _ => rfl⟩
theorem hd_ne {L : LL} {n : Nat} (h : ∀ x ∈ L, x.1 ≠ n) : (n : Int) ≠ hd L (-1) := by
  intro e
  by_cases hL : L = []
  · subst hL
    have : (n : Int) = -1 := e
    omega
  · obtain ⟨x, hx, e2⟩ := hd_mem hL
    have := e2 (-1)
    exact h x hx (by omega)
theorem nod_app {L1 L2 : LL} (hn : ((L1 ++ L2).map (·.1)).Nodup) : (L1.map (·.1)).Nodup ∧ (L2.map (·.1)).Nodup ∧ ∀ x ∈ L1, ∀ y ∈ L2, x.1 ≠ y.1 := by
  rw [List.map_append, List.nodup_append] at hn
  exact ⟨hn.1, hn.2.1, fun x hx y hy => hn.2.2 _ (List.mem_map.2 ⟨x, hx, rfl⟩) _ (List.mem_map.2 ⟨y, hy, rfl⟩)⟩
/-- A link more, behind L1. -/
theorem seg_more {ns ns2 : List (Nd × Bool)} {L1 L2 : LL} {n k : Nat} {nd : Nd} (h : Seg ns (-1) (L1 ++ L2) (-1)) (hn : ((L1 ++ L2).map (·.1)).Nodup) (hx : ∀ x ∈ L1 ++ L2, x.1 ≠ n)
    (h2 : ns2[n]? = some (nd, true)) (hk : nd.key = k) (hf : ∀ j, j ≠ n → ns2[j]? = ns[j]?) :
    Seg (seta (setb (seta (setb ns2 (lst (-1) L1) n) n (lst (-1) L1)) n (hd L2 (-1))) (hd L2 (-1)) n) (-1) (L1 ++ (n, k) :: L2) (-1) := by
  obtain ⟨hn1, hn2, hn12⟩ := nod_app hn
  have hx1 : ∀ x ∈ L1, x.1 ≠ n := fun x h => hx x (List.mem_append_left _ h)
  have hx2 : ∀ x ∈ L2, x.1 ≠ n := fun x h => hx x (List.mem_append_right _ h)
  obtain ⟨s1, s2⟩ := seg_app.1 h
  have s1 := seg_frame s1 (fun x hm => hf _ (hx1 x hm))
  have s2 := seg_frame s2 (fun x hm => hf _ (hx2 x hm))
  have na := lst_ne hx1
  have nb := hd_ne hx2
  have nl2 : ∀ y ∈ L2, (y.1 : Int) ≠ lst (-1) L1 := fun y hy => lst_ne (fun x hx => hn12 x hx y hy)
  have nh1 : ∀ x ∈ L1, (x.1 : Int) ≠ hd L2 (-1) := fun x hx => hd_ne (fun y hy => Ne.symm (hn12 x hx y hy))
  -- the link ahead
  have t1 := seg_setb s1 hn1 (n : Int)
  have t2 := seg_frame s2 (fun y hy => setb_ne ns2 (b := (n : Int)) (nl2 y hy))
  have t3 : (setb ns2 (lst (-1) L1) n)[n]? = some (nd, true) := (setb_ne ns2 na).trans h2
  generalize setb ns2 (lst (-1) L1) n = m1 at *
  have u3 := seta_at t3 (lst (-1) L1)
  have t1 := seg_frame t1 (fun x hm => seta_ne m1 (i := (n : Int)) (b := lst (-1) L1) (fun e => hx1 x hm (by omega)))
  have t2 := seg_frame t2 (fun x hm => seta_ne m1 (i := (n : Int)) (b := lst (-1) L1) (fun e => hx2 x hm (by omega)))
  generalize seta m1 n (lst (-1) L1) = m2 at *
  have u4 := setb_at u3 (hd L2 (-1))
  have t1 := seg_frame t1 (fun x hm => setb_ne m2 (i := (n : Int)) (b := hd L2 (-1)) (fun e => hx1 x hm (by omega)))
  have t2 := seg_frame t2 (fun x hm => setb_ne m2 (i := (n : Int)) (b := hd L2 (-1)) (fun e => hx2 x hm (by omega)))
  generalize setb m2 n (hd L2 (-1)) = m3 at *
  have t2 := seg_seta t2 hn2 (n : Int)
  have t1 := seg_frame t1 (fun x hm => seta_ne m3 (b := (n : Int)) (nh1 x hm))
  have u5 := (seta_ne m3 (b := (n : Int)) nb).trans u4
  refine seg_app.2 ⟨t1, ?_, t2⟩
  rw [u5]
  show _ = some ((⟨k, _, _⟩ : Nd), true)
  rw [← hk]
/-- A link less. -/
theorem seg_less {ns : List (Nd × Bool)} {L1 L2 : LL} {n k : Nat} {x : Nd × Bool} (h : Seg ns (-1) (L1 ++ (n, k) :: L2) (-1)) (hn : ((L1 ++ (n, k) :: L2).map (·.1)).Nodup) :
    Seg (seta (setb (ns.set n x) (lst (-1) L1) (hd L2 (-1))) (hd L2 (-1)) (lst (-1) L1)) (-1) (L1 ++ L2) (-1) := by
  obtain ⟨hn1, hn2, hn12⟩ := nod_app hn
  rw [List.map_cons, List.nodup_cons] at hn2
  have hx1 : ∀ x ∈ L1, x.1 ≠ n := fun x h => hn12 x h (n, k) (by simp)
  have hx2 : ∀ x ∈ L2, x.1 ≠ n := fun x h e => hn2.1 (List.mem_map.2 ⟨x, h, e⟩)
  have hn12 : ∀ x ∈ L1, ∀ y ∈ L2, x.1 ≠ y.1 := fun x hx y hy => hn12 x hx y (by simp [hy])
  obtain ⟨s1, _, s2⟩ := seg_app.1 h
  have nl2 : ∀ y ∈ L2, (y.1 : Int) ≠ lst (-1) L1 := fun y hy => lst_ne (fun x hx => hn12 x hx y hy)
  have nh1 : ∀ x ∈ L1, (x.1 : Int) ≠ hd L2 (-1) := fun x hx => hd_ne (fun y hy => Ne.symm (hn12 x hx y hy))
  have s1 := seg_frame (ns' := ns.set n x) s1 (fun y hm => List.getElem?_set_ne (Ne.symm (hx1 y hm)))
  have s2 := seg_frame (ns' := ns.set n x) s2 (fun y hm => List.getElem?_set_ne (Ne.symm (hx2 y hm)))
  generalize ns.set n x = m0 at *
  have t1 := seg_setb s1 hn1 (hd L2 (-1))
  have t2 := seg_frame s2 (fun y hy => setb_ne m0 (b := hd L2 (-1)) (nl2 y hy))
  generalize setb m0 (lst (-1) L1) (hd L2 (-1)) = m1 at *
  have t2 := seg_seta t2 hn2.2 (lst (-1) L1)
  have t1 := seg_frame t1 (fun x hm => seta_ne m1 (b := lst (-1) L1) (nh1 x hm))
  exact seg_app.2 ⟨t1, t2⟩
theorem lvq_lst {ns : List (Nd × Bool)} {L : LL} {b : Int} (h : Seg ns (-1) L b) : lvq ns (lst (-1) L) = !L.isEmpty := by
  by_cases hL : L = []
  · subst hL
    exact lvq_neg (by decide)
  · obtain ⟨x, hx, e⟩ := lst_mem (a := -1) hL
    obtain ⟨nd, h1, _⟩ := seg_live h hx
    rw [e, lvq_some h1]
    cases L
    · exact absurd rfl hL
    · rfl
theorem lvq_hd {ns : List (Nd × Bool)} {L : LL} {a : Int} (h : Seg ns a L (-1)) : lvq ns (hd L (-1)) = !L.isEmpty := by
  cases L with
  | nil => exact lvq_neg (by decide)
  | cons x L => exact lvq_some h.1
/-- What is not a link's place. -/
theorem seg_at {ns : List (Nd × Bool)} {L1 L2 : LL} {n k : Nat} {a b : Int} (h : Seg ns a (L1 ++ (n, k) :: L2) b) : ns[n]? = some (⟨k, lst a L1, hd L2 b⟩, true) := (seg_app.1 h).2.1
end Go.Proofs.Ytiinefdpaiincaa
