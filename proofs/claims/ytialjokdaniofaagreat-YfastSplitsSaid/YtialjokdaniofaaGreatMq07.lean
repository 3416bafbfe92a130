/- Links in a row, told by the list of their places and keys: plain lemmas. A chain whole: asking it; the texts walked. -/
import Derived.Test.YtialjokdaniofaaGreatMq06
section
namespace Go.Proofs.YtialjokdaniofaaGreat
set_option maxRecDepth 20000
open Go.RowKit
set_option linter.unusedSectionVars false
variable [Gh]
abbrev LL := List (Nat × Nat)
def hd (L : LL) (b : Int) : Int := match L with | [] => b | x :: _ => (x.1 : Int)
def lst (a : Int) (L : LL) : Int := match L with | [] => a | x :: L => lst (x.1 : Int) L
/-- The links L stand one behind the other, ahead of them a, behind them b. -/
def Seg (ns : List (Nd × Bool)) (a : Int) (L : LL) (b : Int) : Prop := match L with
  | [] => True
  | x :: L => ns[x.1]? = some (⟨x.2, a, hd L b⟩, true) ∧ Seg ns (x.1 : Int) L b
theorem hd_app (L1 L2 : LL) (b : Int) : hd (L1 ++ L2) b = hd L1 (hd L2 b) := by cases L1 <;> rfl
theorem lst_app (L1 L2 : LL) (a : Int) : lst a (L1 ++ L2) = lst (lst a L1) L2 := by
  induction L1 generalizing a with
  | nil => rfl
  | cons x L1 ih => exact ih _
theorem seg_app {ns : List (Nd × Bool)} {L1 L2 : LL} {a b : Int} : Seg ns a (L1 ++ L2) b ↔ Seg ns a L1 (hd L2 b) ∧ Seg ns (lst a L1) L2 b := by
  induction L1 generalizing a with
  | nil => simp [Seg, lst]
  | cons x L1 ih =>
    show (_ ∧ Seg ns _ (L1 ++ L2) b) ↔ (_ ∧ Seg ns _ L1 _) ∧ Seg ns (lst _ L1) L2 b
    rw [ih, ← hd_app]
    exact ⟨fun ⟨h1, h2, h3⟩ => ⟨⟨h1, h2⟩, h3⟩, fun ⟨⟨h1, h2⟩, h3⟩ => ⟨h1, h2, h3⟩⟩
theorem seg_frame {ns ns' : List (Nd × Bool)} {L : LL} {a b : Int} (h : Seg ns a L b) (hf : ∀ x ∈ L, ns'[x.1]? = ns[x.1]?) : Seg ns' a L b := by
  induction L generalizing a with
  | nil => trivial
  | cons x L ih => exact ⟨(hf x (by simp)).trans h.1, ih h.2 (fun y hy => hf y (by simp [hy]))⟩
theorem seg_live {ns : List (Nd × Bool)} {L : LL} {a b : Int} (h : Seg ns a L b) {x : Nat × Nat} (hx : x ∈ L) : ∃ nd : Nd, ns[x.1]? = some (nd, true) ∧ nd.key = x.2 := by
  induction L generalizing a with
  | nil => cases hx
  | cons y L ih =>
    rcases List.mem_cons.1 hx with rfl | hx
    · exact ⟨_, h.1, rfl⟩
    · exact ih h.2 hx
theorem lvq_some {ns : List (Nd × Bool)} {k : Nat} {nd : Nd} (h : ns[k]? = some (nd, true)) : lvq ns (k : Int) = true := by
  unfold lvq
  simp [h]
theorem ndi_some {ns : List (Nd × Bool)} {k : Nat} {nd : Nd} (h : ns[k]? = some (nd, true)) : ndi ns (k : Int) = nd := by
  unfold ndi
  simp [h]
theorem lvq_neg {ns : List (Nd × Bool)} {i : Int} (h : i < 0) : lvq ns i = false := by
  unfold lvq
  rw [decide_eq_false (by omega)]
  rfl
theorem setb_some {ns : List (Nd × Bool)} {k : Nat} {nd : Nd} (h : ns[k]? = some (nd, true)) (b : Int) : setb ns (k : Int) b = ns.set k (⟨nd.key, nd.ah, b⟩, true) := by
  unfold setb
  rw [lvq_some h, if_pos rfl, ndi_some h]
  rfl
theorem seta_some {ns : List (Nd × Bool)} {k : Nat} {nd : Nd} (h : ns[k]? = some (nd, true)) (b : Int) : seta ns (k : Int) b = ns.set k (⟨nd.key, b, nd.be⟩, true) := by
  unfold seta
  rw [lvq_some h, if_pos rfl, ndi_some h]
  rfl
theorem setb_ne (ns : List (Nd × Bool)) {i b : Int} {j : Nat} (h : (j : Int) ≠ i) : (setb ns i b)[j]? = ns[j]? := by
  unfold setb
  split
  · rename_i hl
    obtain ⟨k, rfl, _⟩ := lvq_form hl
    rw [List.getElem?_set_ne]
    rw [Int.toNat_natCast]
    intro e; subst e; exact h rfl
  · rfl
theorem seta_ne (ns : List (Nd × Bool)) {i b : Int} {j : Nat} (h : (j : Int) ≠ i) : (seta ns i b)[j]? = ns[j]? := by
  unfold seta
  split
  · rename_i hl
    obtain ⟨k, rfl, _⟩ := lvq_form hl
    rw [List.getElem?_set_ne]
    rw [Int.toNat_natCast]
    intro e; subst e; exact h rfl
  · rfl
theorem get_set {ns : List (Nd × Bool)} {k : Nat} {x y : Nd × Bool} (h : ns[k]? = some x) : (ns.set k y)[k]? = some y := by
  have hk : k < ns.length := (List.getElem?_eq_some_iff.1 h).1
  simp [hk]
theorem setb_at {ns : List (Nd × Bool)} {k : Nat} {nd : Nd} (h : ns[k]? = some (nd, true)) (b : Int) : (setb ns (k : Int) b)[k]? = some (⟨nd.key, nd.ah, b⟩, true) := by
  rw [setb_some h]
  exact get_set h
theorem seta_at {ns : List (Nd × Bool)} {k : Nat} {nd : Nd} (h : ns[k]? = some (nd, true)) (b : Int) : (seta ns (k : Int) b)[k]? = some (⟨nd.key, b, nd.be⟩, true) := by
  rw [seta_some h]
  exact get_set h
theorem setb_len (ns : List (Nd × Bool)) (i b : Int) : (setb ns i b).length = ns.length := by
  unfold setb
  split <;> simp
theorem seta_len (ns : List (Nd × Bool)) (i b : Int) : (seta ns i b).length = ns.length := by
  unfold seta
  split <;> simp
theorem lst_mem {a : Int} {L : LL} (h : L ≠ []) : ∃ x ∈ L, lst a L = (x.1 : Int) := by
  induction L generalizing a with
  | nil => exact absurd rfl h
  | cons x L ih =>
    cases L with
    | nil => exact ⟨x, by simp, rfl⟩
    | cons y L =>
      obtain ⟨z, hz, e⟩ := ih (a := (x.1 : Int)) (by simp)
      exact ⟨z, by simp [hz], e⟩
/-- The last link with another one behind it. -/
theorem seg_setb {ns : List (Nd × Bool)} {L : LL} {a c : Int} (h : Seg ns a L c) (hn : (L.map (·.1)).Nodup) (b : Int) : Seg (setb ns (lst a L) b) a L b := by
  induction L generalizing a with
  | nil => trivial
  | cons x L ih =>
    rw [List.map_cons, List.nodup_cons] at hn
    cases L with
    | nil =>
      refine ⟨?_, trivial⟩
      show (setb ns (x.1 : Int) b)[x.1]? = _
      exact setb_at h.1 b
    | cons y L =>
      refine ⟨?_, ih h.2 hn.2⟩
      rw [setb_ne]
      · exact h.1
      · intro e
        obtain ⟨z, hz, e2⟩ := lst_mem (a := (x.1 : Int)) (L := y :: L) (by simp)
        have e3 : (x.1 : Int) = (z.1 : Int) := e.trans e2
        exact hn.1 (List.mem_map.2 ⟨z, hz, by omega⟩)
/-- The first link with another one ahead of it. -/
theorem seg_seta {ns : List (Nd × Bool)} {L : LL} {a c : Int} (h : Seg ns a L c) (hn : (L.map (·.1)).Nodup) (b : Int) : Seg (seta ns (hd L c) b) b L c := by
  cases L with
  | nil => trivial
  | cons x L =>
    rw [List.map_cons, List.nodup_cons] at hn
    refine ⟨seta_at h.1 b, seg_frame h.2 (fun y hy => seta_ne _ ?_)⟩
    intro e
    have e2 : (y.1 : Int) = (x.1 : Int) := e
    exact hn.1 (List.mem_map.2 ⟨y, hy, by omega⟩)
theorem lst_ne {L : LL} {n : Nat} (h : ∀ x ∈ L, x.1 ≠ n) : (n : Int) ≠ lst (-1) L := by
  intro e
  by_cases hL : L = []
  · subst hL
    have : (n : Int) = -1 := e
    omega
  · obtain ⟨x, hx, e2⟩ := lst_mem (a := -1) hL
    exact h x hx (by omega)
theorem hd_mem {L : LL} (h : L ≠ []) : ∃ x ∈ L, ∀ b, hd L b = (x.1 : Int) := by
  cases L with
  | nil => exact absurd rfl h
  | cons x L => exact ⟨x, by simp, fun _ => rfl⟩
theorem hd_ne {L : LL} {n : Nat} (h : ∀ x ∈ L, x.1 ≠ n) : (n : Int) ≠ hd L (-1) := by
  intro e
  by_cases hL : L = []
  · subst hL
    have : (n : Int) = -1 := e
    omega
  · obtain ⟨x, hx, e2⟩ := hd_mem hL
    have := e2 (-1)
    exact h x hx (by omega)
theorem nod_app {L1 L2 : LL} (hn : ((L1 ++ L2).map (·.1)).Nodup) : (L1.map (·.1)).Nodup ∧ (L2.map (·.1)).Nodup ∧ ∀ x ∈ L1, ∀ y ∈ L2, x.1 ≠ y.1 := by
  rw [List.map_append, List.nodup_append] at hn
  exact ⟨hn.1, hn.2.1, fun x hx y hy => hn.2.2 _ (List.mem_map.2 ⟨x, hx, rfl⟩) _ (List.mem_map.2 ⟨y, hy, rfl⟩)⟩
/-- A link more, behind L1. -/
theorem seg_more {ns ns2 : List (Nd × Bool)} {L1 L2 : LL} {n k : Nat} {nd : Nd} (h : Seg ns (-1) (L1 ++ L2) (-1)) (hn : ((L1 ++ L2).map (·.1)).Nodup) (hx : ∀ x ∈ L1 ++ L2, x.1 ≠ n)
    (h2 : ns2[n]? = some (nd, true)) (hk : nd.key = k) (hf : ∀ j, j ≠ n → ns2[j]? = ns[j]?) :
    Seg (seta (setb (seta (setb ns2 (lst (-1) L1) n) n (lst (-1) L1)) n (hd L2 (-1))) (hd L2 (-1)) n) (-1) (L1 ++ (n, k) :: L2) (-1) := by
  obtain ⟨hn1, hn2, hn12⟩ := nod_app hn
  have hx1 : ∀ x ∈ L1, x.1 ≠ n := fun x h => hx x (List.mem_append_left _ h)
  have hx2 : ∀ x ∈ L2, x.1 ≠ n := fun x h => hx x (List.mem_append_right _ h)
  obtain ⟨s1, s2⟩ := seg_app.1 h
  have s1 := seg_frame s1 (fun x hm => hf _ (hx1 x hm))
  have s2 := seg_frame s2 (fun x hm => hf _ (hx2 x hm))
  have na := lst_ne hx1
  have nb := hd_ne hx2
  have nl2 : ∀ y ∈ L2, (y.1 : Int) ≠ lst (-1) L1 := fun y hy => lst_ne (fun x hx => hn12 x hx y hy)
  have nh1 : ∀ x ∈ L1, (x.1 : Int) ≠ hd L2 (-1) := fun x hx => hd_ne (fun y hy => Ne.symm (hn12 x hx y hy))
  -- the link ahead
  have t1 := seg_setb s1 hn1 (n : Int)
  have t2 := seg_frame s2 (fun y hy => setb_ne ns2 (b := (n : Int)) (nl2 y hy))
  have t3 : (setb ns2 (lst (-1) L1) n)[n]? = some (nd, true) := (setb_ne ns2 na).trans h2
  generalize setb ns2 (lst (-1) L1) n = m1 at *
  have u3 := seta_at t3 (lst (-1) L1)
  have t1 := seg_frame t1 (fun x hm => seta_ne m1 (i := (n : Int)) (b := lst (-1) L1) (fun e => hx1 x hm (by omega)))
  have t2 := seg_frame t2 (fun x hm => seta_ne m1 (i := (n : Int)) (b := lst (-1) L1) (fun e => hx2 x hm (by omega)))
  generalize seta m1 n (lst (-1) L1) = m2 at *
  have u4 := setb_at u3 (hd L2 (-1))
  have t1 := seg_frame t1 (fun x hm => setb_ne m2 (i := (n : Int)) (b := hd L2 (-1)) (fun e => hx1 x hm (by omega)))
  have t2 := seg_frame t2 (fun x hm => setb_ne m2 (i := (n : Int)) (b := hd L2 (-1)) (fun e => hx2 x hm (by omega)))
  generalize setb m2 n (hd L2 (-1)) = m3 at *
  have t2 := seg_seta t2 hn2 (n : Int)
  have t1 := seg_frame t1 (fun x hm => seta_ne m3 (b := (n : Int)) (nh1 x hm))
  have u5 := (seta_ne m3 (b := (n : Int)) nb).trans u4
  refine seg_app.2 ⟨t1, ?_, t2⟩
  rw [u5]
  show _ = some ((⟨k, _, _⟩ : Nd), true)
  rw [← hk]
/-- A link less. -/
theorem seg_less {ns : List (Nd × Bool)} {L1 L2 : LL} {n k : Nat} {x : Nd × Bool} (h : Seg ns (-1) (L1 ++ (n, k) :: L2) (-1)) (hn : ((L1 ++ (n, k) :: L2).map (·.1)).Nodup) :
    Seg (seta (setb (ns.set n x) (lst (-1) L1) (hd L2 (-1))) (hd L2 (-1)) (lst (-1) L1)) (-1) (L1 ++ L2) (-1) := by
  obtain ⟨hn1, hn2, hn12⟩ := nod_app hn
  rw [List.map_cons, List.nodup_cons] at hn2
  have hx1 : ∀ x ∈ L1, x.1 ≠ n := fun x h => hn12 x h (n, k) (by simp)
  have hx2 : ∀ x ∈ L2, x.1 ≠ n := fun x h e => hn2.1 (List.mem_map.2 ⟨x, h, e⟩)
  have hn12 : ∀ x ∈ L1, ∀ y ∈ L2, x.1 ≠ y.1 := fun x hx y hy => hn12 x hx y (by simp [hy])
  obtain ⟨s1, _, s2⟩ := seg_app.1 h
  have nl2 : ∀ y ∈ L2, (y.1 : Int) ≠ lst (-1) L1 := fun y hy => lst_ne (fun x hx => hn12 x hx y hy)
  have nh1 : ∀ x ∈ L1, (x.1 : Int) ≠ hd L2 (-1) := fun x hx => hd_ne (fun y hy => Ne.symm (hn12 x hx y hy))
  have s1 := seg_frame (ns' := ns.set n x) s1 (fun y hm => List.getElem?_set_ne (Ne.symm (hx1 y hm)))
  have s2 := seg_frame (ns' := ns.set n x) s2 (fun y hm => List.getElem?_set_ne (Ne.symm (hx2 y hm)))
  generalize ns.set n x = m0 at *
  have t1 := seg_setb s1 hn1 (hd L2 (-1))
  have t2 := seg_frame s2 (fun y hy => setb_ne m0 (b := hd L2 (-1)) (nl2 y hy))
  generalize setb m0 (lst (-1) L1) (hd L2 (-1)) = m1 at *
  have t2 := seg_seta t2 hn2.2 (lst (-1) L1)
  have t1 := seg_frame t1 (fun x hm => seta_ne m1 (b := lst (-1) L1) (nh1 x hm))
  exact seg_app.2 ⟨t1, t2⟩
theorem lvq_lst {ns : List (Nd × Bool)} {L : LL} {b : Int} (h : Seg ns (-1) L b) : lvq ns (lst (-1) L) = !L.isEmpty := by
  by_cases hL : L = []
  · subst hL
    exact lvq_neg (by decide)
  · obtain ⟨x, hx, e⟩ := lst_mem (a := -1) hL
    obtain ⟨nd, h1, _⟩ := seg_live h hx
    rw [e, lvq_some h1]
    cases L
    · exact absurd rfl hL
    · rfl
theorem lvq_hd {ns : List (Nd × Bool)} {L : LL} {a : Int} (h : Seg ns a L (-1)) : lvq ns (hd L (-1)) = !L.isEmpty := by
  cases L with
  | nil => exact lvq_neg (by decide)
  | cons x L => exact lvq_some h.1
/-- What is not a link's place. -/
theorem seg_at {ns : List (Nd × Bool)} {L1 L2 : LL} {n k : Nat} {a b : Int} (h : Seg ns a (L1 ++ (n, k) :: L2) b) : ns[n]? = some (⟨k, lst a L1, hd L2 b⟩, true) := (seg_app.1 h).2.1
end Go.Proofs.YtialjokdaniofaaGreat
end
section
namespace Go.Proofs.YtialjokdaniofaaGreat
set_option maxRecDepth 20000
open Go.RowKit
set_option linter.unusedSectionVars false
variable [Gh]
/-- Block C is a chain of these links. -/
structure CW (w : World) (C Q M lim : Nat) (An : Option Addr) (cn : Nat) (Af : Option Addr) (cf : Nat) (ns : List (Nd × Bool)) (fs : List Nat) (L : LL) : Prop where
  cb : Cb w C Q M (hd L (-1)) (lst (-1) L)
  po : Qo w Q M lim An cn Af cf ns fs
  seg : Seg ns (-1) L (-1)
  nod : (L.map (·.1)).Nodup
  cnt : ns.length - fs.length = L.length
  keys : ∀ x ∈ L, x.2 < 18446744073709551616
section
variable {w w' : World} {C Q M lim cn cf : Nat} {An Af : Option Addr} {ns : List (Nd × Bool)} {fs : List Nat} {L : LL}
theorem CW.chg {O : Nat → Prop} (h : CW w C Q M lim An cn Af cf ns fs L) (b : K.Chg w w' O) (hO : ∀ j, CB C Q An Af j → ¬ O j) : CW w' C Q M lim An cn Af cf ns fs L :=
  ⟨h.cb.chg b (hO C (.inl rfl)), h.po.chg b (fun j hj => hO j (.inr hj)), h.seg, h.nod, h.cnt, h.keys⟩
theorem CW.lt (h : CW w C Q M lim An cn Af cf ns fs L) {j : Nat} (hj : CB C Q An Af j) : j < w.heap.size := by
  rcases hj with rfl | hj
  · exact h.cb.lt
  · exact h.po.qb hj
theorem CW.ne_m (h : CW w C Q M lim An cn Af cf ns fs L) {tk : Nat} (hm : Mx w M tk) : ¬ CB C Q An Af M := by
  obtain ⟨r, c, s, p, _, hr, _⟩ := hm
  rintro (e | e | e | e)
  · exact row_ne hr h.cb.row (by decide) e
  · exact row_ne hr h.po.row (by decide) e
  · obtain ⟨_, cur, hc⟩ := own_block_lt h.po.nodes e
    exact row_ne hc hr (by decide) rfl
  · obtain ⟨_, cur, hc⟩ := own_block_lt h.po.freed e
    exact row_ne hc hr (by decide) rfl
theorem CW.len (h : CW w C Q M lim An cn Af cf ns fs L) : L.length ≤ lim ∧ lim ≤ 1048576 := by
  have := h.cnt
  have := h.po.ns_le
  exact ⟨by omega, h.po.lim_le⟩
/-- A link that stands there. -/
theorem CW.at (h : CW w C Q M lim An cn Af cf ns fs L) {L1 L2 : LL} {n k : Nat} (e : L = L1 ++ (n, k) :: L2) : ∃ hn : n < ns.length, ns[n] = (⟨k, lst (-1) L1, hd L2 (-1)⟩, true) := by
  have h1 := seg_at (e ▸ h.seg)
  obtain ⟨hn, h2⟩ := List.getElem?_eq_some_iff.1 h1
  exact ⟨hn, h2⟩
end
/-- What a call that changes a chain leaves, told by its links. -/
def CWS (w : World) (C Q M lim : Nat) (An Af : Option Addr) (L' : LL) (w' : World) : Prop :=
  ∃ An' cn' Af' cf' ns' fs', CW w' C Q M lim An' cn' Af' cf' ns' fs' L' ∧ K.Chg w w' (CB C Q An Af) ∧ ∀ j, QB Q An' Af' j → QB Q An Af j ∨ w.heap.size ≤ j
section
variable (w : World) (C Q M lim cn cf : Nat) (fi la : Int) (An Af : Option Addr) (ns : List (Nd × Bool)) (fs : List Nat)
theorem c_len (L : LL) (h : CW w C Q M lim An cn Af cf ns fs L) : Calls Tryz.prog 74 #[.pointer (some ⟨C, 0, none⟩)] w fun e w' => e = .returned (.int .i64 (L.length : Int)) ∧ ∃ n, w' = w.drewN n := by
  have h1 := h.cb.c1
  have hq := Lib.hid (q_len w Q M lim cn cf An Af ns fs h.po)
  rw [h.cnt] at hq
  clear h
  go_enter Tryz.func74, Tryz.ntmps74
  go_wp2_with (go_at_call 107; (with_reducible refine hq.out.mono ?_); rintro e w1 ⟨rfl, N, rfl⟩)
  go_ret
  exact ⟨rfl, _, rfl⟩
set_option maxHeartbeats 1000000 in
theorem c_at_yes (h : Cb w C Q M fi la) (a : Qo w Q M lim An cn Af cf ns fs) (k : Nat) (hk : k < ns.length) (key : Nat) (ah be : Int) (hx : ns[k] = (⟨key, ah, be⟩, true)) (tk : Nat) (hM : Mx w M tk) (htk : tk < 1000000) :
    Calls Tryz.prog 157 #[.pointer (some ⟨C, 0, none⟩), .int .i64 (k : Int)] w (AtP w M (tk + 1) (ndv key ah be) true) := by
  have hb : Below w.heap.size w (w.alloc ndzo) := (Below.refl _ w).alloc (Nat.le_refl _) _
  have a1 := a.chg (K.Chg.of_below (O := fun _ => False) hb) (fun _ _ h => h)
  have h1 := h.chg (K.Chg.of_below (O := fun _ => False) hb) (fun h => h)
  have m1 := hM.chg (K.Chg.of_below (O := fun _ => False) hb) (fun h => h)
  have hml := hM.lt
  have hq := q_at_yes _ Q M lim cn cf An Af ns fs a1 k hk (by rw [hx]) tk m1 htk
  rw [hx] at hq
  have hq : Hid (Calls _ _ _ _ (AtP (w.alloc ndzo) M (tk + 1) (ndv key ah be) true)) := hq
  have c1 := h1.c1
  have HB := Lib.hid hb
  have hz1 : (w.alloc ndzo).heap.size = w.heap.size + 1 := by simp
  have HZ := Lib.hid hz1
  clear h a a1 h1 hx hM m1 hb hz1
  go_enter Tryz.func157, Tryz.ntmps157
  go_wp2_with (go_at_call 174; (with_reducible refine hq.out.mono ?_); rintro e w1 ⟨rfl, hm1, hc1⟩
               have zz := (hc1.block w.heap.size (by rw [HZ.out]; omega) (by omega)).trans (K.alloc_top _ _)
               have f0 := frozen_of_row _ _ 0 _ _ zz
               have f1 := frozen_of_row _ _ 1 _ _ zz
               have f2 := frozen_of_row _ _ 2 _ _ zz
               obtain ⟨t0, t1, t2⟩ := nd_cells zz
               have ZZ := Lib.hid zz
               have HM1 := Lib.hid hm1
               have HC1 := Lib.hid hc1
               clear hm1 hc1 zz)
  refine bodyPost_ret (nd_res rfl _ _ w.heap.size _ _ _ _ rfl (row_z5 ZZ.out _ _ _) rfl) rfl ?_
  have h5 : ∀ a b c, K.Chg w1 _ (fun j => j = w.heap.size) := fun a b c => chg_five w1 w.heap.size 0 1 2 a b c _ rfl
  have hch : K.Chg w w1 (· = M) := (K.Chg.of_below (O := (· = M)) HB.out).same HC1.out
  exact ⟨rfl, HM1.out.chg (h5 _ _ _) (by omega), hch.trans (h5 _ _ _) (fun j hj => .inr (by omega))⟩
theorem c_at_no (h : Cb w C Q M fi la) (a : Qo w Q M lim An cn Af cf ns fs) (i : Int) (hi : lvq ns i = false) :
    Calls Tryz.prog 157 #[.pointer (some ⟨C, 0, none⟩), .int .i64 i] w (PeekP w ndzv false) := by
  have hb : Below w.heap.size w (w.alloc ndzo) := (Below.refl _ w).alloc (Nat.le_refl _) _
  have a1 := a.chg (K.Chg.of_below (O := fun _ => False) hb) (fun _ _ h => h)
  have h1 := h.chg (K.Chg.of_below (O := fun _ => False) hb) (fun h => h)
  have hq := Lib.hid (q_at_no _ Q M lim cn cf An Af ns fs a1 i hi)
  have c1 := h1.c1
  have HB := Lib.hid hb
  have hz1 : (w.alloc ndzo).heap.size = w.heap.size + 1 := by simp
  have HZ := Lib.hid hz1
  clear h a a1 h1 hi hb hz1
  go_enter Tryz.func157, Tryz.ntmps157
  go_wp2_with (go_at_call 174; (with_reducible refine hq.out.mono ?_); rintro e w1 ⟨rfl, hb1⟩
               have zz := (hb1.block w.heap.size (by rw [HZ.out]; omega)).trans (K.alloc_top _ _)
               have f0 := frozen_of_row _ _ 0 _ _ zz
               have f1 := frozen_of_row _ _ 1 _ _ zz
               have f2 := frozen_of_row _ _ 2 _ _ zz
               obtain ⟨t0, t1, t2⟩ := nd_cells zz
               have ZZ := Lib.hid zz
               have HB1 := Lib.hid hb1
               clear hb1 zz)
  refine bodyPost_ret (nd_res rfl _ _ w.heap.size _ _ _ _ rfl (row_z5 ZZ.out _ _ _) rfl) rfl ⟨rfl, ?_⟩
  have h1 : Below w.heap.size w w1 := HB.out.trans (HB1.out.mono (by rw [HZ.out]; omega))
  exact ((h1.setCell (by simp) _).setCell (by simp) _).setCell (by simp) _
theorem c_key_no (h : Cb w C Q M fi la) (a : Qo w Q M lim An cn Af cf ns fs) (i : Int) (hi : lvq ns i = false) :
    Calls Tryz.prog 142 #[.pointer (some ⟨C, 0, none⟩), .int .i64 i] w fun e w' => e = .returned (.tuple #[.int .u64 0, .bool false]) ∧ Below w.heap.size w w' := by
  have hq := Lib.hid (c_at_no w C Q M lim cn cf fi la An Af ns fs h a i hi)
  clear h a hi
  go_enter Tryz.func142, Tryz.ntmps142
  go_wp2_with (go_at_call 157; (with_reducible refine hq.out.mono ?_); rintro e w1 ⟨rfl, hb1⟩; have HB1 := Lib.hid hb1; clear hb1)
  go_ret2
  exact ⟨rfl, HB1.out.alloc HB1.out.size _⟩
theorem c_key_yes (h : Cb w C Q M fi la) (a : Qo w Q M lim An cn Af cf ns fs) (k : Nat) (hk : k < ns.length) (key : Nat) (ah be : Int) (hx : ns[k] = (⟨key, ah, be⟩, true)) (tk : Nat) (hM : Mx w M tk) (htk : tk < 1000000) :
    Calls Tryz.prog 142 #[.pointer (some ⟨C, 0, none⟩), .int .i64 (k : Int)] w fun e w' => e = .returned (.tuple #[.int .u64 (key : Int), .bool true]) ∧ Mx w' M (tk + 1) ∧ K.Chg w w' (· = M) := by
  have hq := Lib.hid (c_at_yes w C Q M lim cn cf fi la An Af ns fs h a k hk key ah be hx tk hM htk)
  clear h a hx hM
  go_enter Tryz.func142, Tryz.ntmps142
  go_wp2_with (go_at_call 157; (with_reducible refine hq.out.mono ?_); rintro e w1 ⟨rfl, hm1, hc1⟩; have HM1 := Lib.hid hm1; have HC1 := Lib.hid hc1; clear hm1 hc1)
  go_ret2
  exact ⟨rfl, HM1.out.chg (chg_alloc _ _ (fun _ => False)) (fun h => h), HC1.out.same (chg_alloc _ _ _)⟩
theorem c_next_yes (h : Cb w C Q M fi la) (a : Qo w Q M lim An cn Af cf ns fs) (k : Nat) (hk : k < ns.length) (key : Nat) (ah be : Int) (hx : ns[k] = (⟨key, ah, be⟩, true)) (tk : Nat) (hM : Mx w M tk) (htk : tk < 1000000) :
    Calls Tryz.prog 150 #[.pointer (some ⟨C, 0, none⟩), .int .i64 (k : Int)] w fun e w' => e = .returned (.int .i64 be) ∧ Mx w' M (tk + 1) ∧ K.Chg w w' (· = M) := by
  have hq := Lib.hid (c_at_yes w C Q M lim cn cf fi la An Af ns fs h a k hk key ah be hx tk hM htk)
  clear h a hx hM
  go_enter Tryz.func150, Tryz.ntmps150
  go_wp2_with (go_at_call 157; (with_reducible refine hq.out.mono ?_); rintro e w1 ⟨rfl, hm1, hc1⟩; have HM1 := Lib.hid hm1; have HC1 := Lib.hid hc1; clear hm1 hc1)
  go_ret
  exact ⟨rfl, HM1.out.chg (chg_alloc _ _ (fun _ => False)) (fun h => h), HC1.out.same (chg_alloc _ _ _)⟩
theorem c_prev_yes (h : Cb w C Q M fi la) (a : Qo w Q M lim An cn Af cf ns fs) (k : Nat) (hk : k < ns.length) (key : Nat) (ah be : Int) (hx : ns[k] = (⟨key, ah, be⟩, true)) (tk : Nat) (hM : Mx w M tk) (htk : tk < 1000000) :
    Calls Tryz.prog 144 #[.pointer (some ⟨C, 0, none⟩), .int .i64 (k : Int)] w fun e w' => e = .returned (.int .i64 ah) ∧ Mx w' M (tk + 1) ∧ K.Chg w w' (· = M) := by
  have hq := Lib.hid (c_at_yes w C Q M lim cn cf fi la An Af ns fs h a k hk key ah be hx tk hM htk)
  clear h a hx hM
  go_enter Tryz.func144, Tryz.ntmps144
  go_wp2_with (go_at_call 157; (with_reducible refine hq.out.mono ?_); rintro e w1 ⟨rfl, hm1, hc1⟩; have HM1 := Lib.hid hm1; have HC1 := Lib.hid hc1; clear hm1 hc1)
  go_ret
  exact ⟨rfl, HM1.out.chg (chg_alloc _ _ (fun _ => False)) (fun h => h), HC1.out.same (chg_alloc _ _ _)⟩
end
end Go.Proofs.YtialjokdaniofaaGreat
end
