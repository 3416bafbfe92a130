/- Links in a row, told by the list of their places and keys: plain lemmas. Lists of 64-bit numbers in memory. What a call leaves of the world but for some blocks; the first part of a row. slices.Concat at lists of 64-bit numbers: a row of one's own that holds them all; the text walked. slices.Compact at 64-bit numbers: laid over the library's contract. -/
import Derived.Maps.AppendAt
import Derived.Deep.AppendLies
import Derived.RegionTactic
import Derived.Lib.Hide
import Derived.OwnWalk
import Derived.Laws.OwnMore
import Derived.Below
import Derived.Lib.AppendZeros
import Derived.Shelf.SlGeneric
import Derived.Shelf.SlicesE.Compact
import Derived.Test.YtelfacchhclgnaaGreatProg
import Derived.Test.YtelfacchhclgnaaGreatMu22
import Derived.Test.YtelfacchhclgnaaGreatMu02
section
namespace Go.Proofs.YtelfacchhclgnaaGreat.Yp
set_option maxRecDepth 20000
open Go.RowKit
abbrev LL := List (Nat × Kd)
def hd (L : LL) (b : Int) : Int := match L with | [] => b | x :: _ => (x.1 : Int)
def lst (a : Int) (L : LL) : Int := match L with | [] => a | x :: L => lst (x.1 : Int) L
/-- The links L stand one behind the other, ahead of them a, behind them b. -/
def Seg (ns : List (Nd × Bool)) (a : Int) (L : LL) (b : Int) : Prop := match L with
  | [] => True
  | x :: L => ns[x.1]? = some (mkn x.2 a (hd L b), true) ∧ Seg ns (x.1 : Int) L b
theorem hd_app (L1 L2 : LL) (b : Int) : hd (L1 ++ L2) b = hd L1 (hd L2 b) := by cases L1 <;> rfl
theorem lst_app (L1 L2 : LL) (a : Int) : lst a (L1 ++ L2) = lst (lst a L1) L2 := by
  induction L1 generalizing a with
  | nil => rfl
  | cons x L1 ih => exact ih _
theorem seg_app {ns : List (Nd × Bool)} {L1 L2 : LL} {a b : Int} : Seg ns a (L1 ++ L2) b ↔ Seg ns a L1 (hd L2 b) ∧ Seg ns (lst a L1) L2 b := by
  induction L1 generalizing a with
  | nil => simp [Seg, lst]
  | cons x L1 ih =>
    show (_ ∧ Seg ns _ (L1 ++ L2) b) ↔ (_ ∧ Seg ns _ L1 _) ∧ Seg ns (lst _ L1) L2 b
    rw [ih, ← hd_app]
    exact ⟨fun ⟨h1, h2, h3⟩ => ⟨⟨h1, h2⟩, h3⟩, fun ⟨⟨h1, h2⟩, h3⟩ => ⟨h1, h2, h3⟩⟩
theorem seg_frame {ns ns' : List (Nd × Bool)} {L : LL} {a b : Int} (h : Seg ns a L b) (hf : ∀ x ∈ L, ns'[x.1]? = ns[x.1]?) : Seg ns' a L b := by
  induction L generalizing a with
  | nil => trivial
  | cons x L ih => exact ⟨(hf x (by simp)).trans h.1, ih h.2 (fun y hy => hf y (by simp [hy]))⟩
theorem seg_live {ns : List (Nd × Bool)} {L : LL} {a b : Int} (h : Seg ns a L b) {x : Nat × Kd} (hx : x ∈ L) : ∃ nd : Nd, ns[x.1]? = some (nd, true) ∧ nd.key = x.2 := by
  induction L generalizing a with
  | nil => cases hx
  | cons y L ih =>
    rcases List.mem_cons.1 hx with rfl | hx
    · exact ⟨_, h.1, rfl⟩
    · exact ih h.2 hx
theorem lvq_some {ns : List (Nd × Bool)} {k : Nat} {nd : Nd} (h : ns[k]? = some (nd, true)) : lvq ns (k : Int) = true := by
  unfold lvq
  simp [h]
theorem ndi_some {ns : List (Nd × Bool)} {k : Nat} {nd : Nd} (h : ns[k]? = some (nd, true)) : ndi ns (k : Int) = nd := by
  unfold ndi
  simp [h]
theorem lvq_neg {ns : List (Nd × Bool)} {i : Int} (h : i < 0) : lvq ns i = false := by
  unfold lvq
  rw [decide_eq_false (by omega)]
  rfl
theorem setb_some {ns : List (Nd × Bool)} {k : Nat} {nd : Nd} (h : ns[k]? = some (nd, true)) (b : Int) : setb ns (k : Int) b = ns.set k (mkn nd.key nd.ahead b, true) := by
  unfold setb
  rw [lvq_some h, if_pos rfl, ndi_some h]
  rfl
theorem seta_some {ns : List (Nd × Bool)} {k : Nat} {nd : Nd} (h : ns[k]? = some (nd, true)) (b : Int) : seta ns (k : Int) b = ns.set k (mkn nd.key b nd.behind, true) := by
  unfold seta
  rw [lvq_some h, if_pos rfl, ndi_some h]
  rfl
theorem setb_ne (ns : List (Nd × Bool)) {i b : Int} {j : Nat} (h : (j : Int) ≠ i) : (setb ns i b)[j]? = ns[j]? := by
  unfold setb
  split
  · rename_i hl
    obtain ⟨k, rfl, _⟩ := lvq_form hl
    rw [List.getElem?_set_ne]
    rw [Int.toNat_natCast]
    intro e; subst e; exact h rfl
  · rfl
theorem seta_ne (ns : List (Nd × Bool)) {i b : Int} {j : Nat} (h : (j : Int) ≠ i) : (seta ns i b)[j]? = ns[j]? := by
  unfold seta
  split
  · rename_i hl
    obtain ⟨k, rfl, _⟩ := lvq_form hl
    rw [List.getElem?_set_ne]
    rw [Int.toNat_natCast]
    intro e; subst e; exact h rfl
  · rfl
theorem get_set {ns : List (Nd × Bool)} {k : Nat} {x y : Nd × Bool} (h : ns[k]? = some x) : (ns.set k y)[k]? = some y := by
  have hk : k < ns.length := (List.getElem?_eq_some_iff.1 h).1
  simp [hk]
theorem setb_at {ns : List (Nd × Bool)} {k : Nat} {nd : Nd} (h : ns[k]? = some (nd, true)) (b : Int) : (setb ns (k : Int) b)[k]? = some (mkn nd.key nd.ahead b, true) := by
  rw [setb_some h]
  exact get_set h
theorem seta_at {ns : List (Nd × Bool)} {k : Nat} {nd : Nd} (h : ns[k]? = some (nd, true)) (b : Int) : (seta ns (k : Int) b)[k]? = some (mkn nd.key b nd.behind, true) := by
  rw [seta_some h]
  exact get_set h
theorem setb_len (ns : List (Nd × Bool)) (i b : Int) : (setb ns i b).length = ns.length := by
  unfold setb
  split <;> simp
theorem seta_len (ns : List (Nd × Bool)) (i b : Int) : (seta ns i b).length = ns.length := by
  unfold seta
  split <;> simp
theorem lst_mem {a : Int} {L : LL} (h : L ≠ []) : ∃ x ∈ L, lst a L = (x.1 : Int) := by
  induction L generalizing a with
  | nil => exact absurd rfl h
  | cons x L ih =>
    cases L with
    | nil => exact ⟨x, by simp, rfl⟩
    | cons y L =>
      obtain ⟨z, hz, e⟩ := ih (a := (x.1 : Int)) (by simp)
      exact ⟨z, by simp [hz], e⟩
/-- The last link with another one behind it. -/
theorem seg_setb {ns : List (Nd × Bool)} {L : LL} {a c : Int} (h : Seg ns a L c) (hn : (L.map (·.1)).Nodup) (b : Int) : Seg (setb ns (lst a L) b) a L b := by
  induction L generalizing a with
  | nil => trivial
  | cons x L ih =>
    rw [List.map_cons, List.nodup_cons] at hn
    cases L with
    | nil =>
      refine ⟨?_, trivial⟩
      show (setb ns (x.1 : Int) b)[x.1]? = _
      exact setb_at h.1 b
    | cons y L =>
      refine ⟨?_, ih h.2 hn.2⟩
      rw [setb_ne]
      · exact h.1
      · intro e
        obtain ⟨z, hz, e2⟩ := lst_mem (a := (x.1 : Int)) (L := y :: L) (by simp)
        have e3 : (x.1 : Int) = (z.1 : Int) := e.trans e2
        exact hn.1 (List.mem_map.2 ⟨z, hz, by omega⟩)
/-- The first link with another one ahead of it. -/
theorem seg_seta {ns : List (Nd × Bool)} {L : LL} {a c : Int} (h : Seg ns a L c) (hn : (L.map (·.1)).Nodup) (b : Int) : Seg (seta ns (hd L c) b) b L c := by
  cases L with
  | nil => trivial
  | cons x L =>
    rw [List.map_cons, List.nodup_cons] at hn
    refine ⟨seta_at h.1 b, seg_frame h.2 (fun y hy => seta_ne _ ?_)⟩
    intro e
    have e2 : (y.1 : Int) = (x.1 : Int) := e
    exact hn.1 (List.mem_map.2 ⟨y, hy, by omega⟩)
theorem lst_ne {L : LL} {n : Nat} (h : ∀ x ∈ L, x.1 ≠ n) : (n : Int) ≠ lst (-1) L := by
  intro e
  by_cases hL : L = []
  · subst hL
    have : (n : Int) = -1 := e
    omega
  · obtain ⟨x, hx, e2⟩ := lst_mem (a := -1) hL
    exact h x hx (by omega)
theorem hd_mem {L : LL} (h : L ≠ []) : ∃ x ∈ L, ∀ b, hd L b = (x.1 : Int) := by
  cases L with
  | nil => exact absurd rfl h
  | cons x L => exact ⟨x, by simp, fun _ => rfl⟩
theorem hd_ne {L : LL} {n : Nat} (h : ∀ x ∈ L, x.1 ≠ n) : (n : Int) ≠ hd L (-1) := by
  intro e
  by_cases hL : L = []
  · subst hL
    have : (n : Int) = -1 := e
    omega
  · obtain ⟨x, hx, e2⟩ := hd_mem hL
    have := e2 (-1)
    exact h x hx (by omega)
theorem nod_app {L1 L2 : LL} (hn : ((L1 ++ L2).map (·.1)).Nodup) : (L1.map (·.1)).Nodup ∧ (L2.map (·.1)).Nodup ∧ ∀ x ∈ L1, ∀ y ∈ L2, x.1 ≠ y.1 := by
  rw [List.map_append, List.nodup_append] at hn
  exact ⟨hn.1, hn.2.1, fun x hx y hy => hn.2.2 _ (List.mem_map.2 ⟨x, hx, rfl⟩) _ (List.mem_map.2 ⟨y, hy, rfl⟩)⟩
/-- A link more, behind L1. -/
theorem seg_more {ns ns2 : List (Nd × Bool)} {L1 L2 : LL} {n : Nat} {k : Kd} {nd : Nd} (h : Seg ns (-1) (L1 ++ L2) (-1)) (hn : ((L1 ++ L2).map (·.1)).Nodup) (hx : ∀ x ∈ L1 ++ L2, x.1 ≠ n)
    (h2 : ns2[n]? = some (nd, true)) (hk : nd.key = k) (hf : ∀ j, j ≠ n → ns2[j]? = ns[j]?) :
    Seg (seta (setb (seta (setb ns2 (lst (-1) L1) n) n (lst (-1) L1)) n (hd L2 (-1))) (hd L2 (-1)) n) (-1) (L1 ++ (n, k) :: L2) (-1) := by
  obtain ⟨hn1, hn2, hn12⟩ := nod_app hn
  have hx1 : ∀ x ∈ L1, x.1 ≠ n := fun x h => hx x (List.mem_append_left _ h)
  have hx2 : ∀ x ∈ L2, x.1 ≠ n := fun x h => hx x (List.mem_append_right _ h)
  obtain ⟨s1, s2⟩ := seg_app.1 h
  have s1 := seg_frame s1 (fun x hm => hf _ (hx1 x hm))
  have s2 := seg_frame s2 (fun x hm => hf _ (hx2 x hm))
  have na := lst_ne hx1
  have nb := hd_ne hx2
  have nl2 : ∀ y ∈ L2, (y.1 : Int) ≠ lst (-1) L1 := fun y hy => lst_ne (fun x hx => hn12 x hx y hy)
  have nh1 : ∀ x ∈ L1, (x.1 : Int) ≠ hd L2 (-1) := fun x hx => hd_ne (fun y hy => Ne.symm (hn12 x hx y hy))
  -- the link ahead
  have t1 := seg_setb s1 hn1 (n : Int)
  have t2 := seg_frame s2 (fun y hy => setb_ne ns2 (b := (n : Int)) (nl2 y hy))
  have t3 : (setb ns2 (lst (-1) L1) n)[n]? = some (nd, true) := (setb_ne ns2 na).trans h2
  generalize setb ns2 (lst (-1) L1) n = m1 at *
  have u3 := seta_at t3 (lst (-1) L1)
  have t1 := seg_frame t1 (fun x hm => seta_ne m1 (i := (n : Int)) (b := lst (-1) L1) (fun e => hx1 x hm (by omega)))
  have t2 := seg_frame t2 (fun x hm => seta_ne m1 (i := (n : Int)) (b := lst (-1) L1) (fun e => hx2 x hm (by omega)))
  generalize seta m1 n (lst (-1) L1) = m2 at *
  have u4 := setb_at u3 (hd L2 (-1))
  have t1 := seg_frame t1 (fun x hm => setb_ne m2 (i := (n : Int)) (b := hd L2 (-1)) (fun e => hx1 x hm (by omega)))
  have t2 := seg_frame t2 (fun x hm => setb_ne m2 (i := (n : Int)) (b := hd L2 (-1)) (fun e => hx2 x hm (by omega)))
  generalize setb m2 n (hd L2 (-1)) = m3 at *
  have t2 := seg_seta t2 hn2 (n : Int)
  have t1 := seg_frame t1 (fun x hm => seta_ne m3 (b := (n : Int)) (nh1 x hm))
  have u5 := (seta_ne m3 (b := (n : Int)) nb).trans u4
  refine seg_app.2 ⟨t1, ?_, t2⟩
  rw [u5]
  show _ = some (mkn k _ _, true)
  rw [← hk]
  rfl
/-- A link less. -/
theorem seg_less {ns : List (Nd × Bool)} {L1 L2 : LL} {n : Nat} {k : Kd} {x : Nd × Bool} (h : Seg ns (-1) (L1 ++ (n, k) :: L2) (-1)) (hn : ((L1 ++ (n, k) :: L2).map (·.1)).Nodup) :
    Seg (seta (setb (ns.set n x) (lst (-1) L1) (hd L2 (-1))) (hd L2 (-1)) (lst (-1) L1)) (-1) (L1 ++ L2) (-1) := by
  obtain ⟨hn1, hn2, hn12⟩ := nod_app hn
  rw [List.map_cons, List.nodup_cons] at hn2
  have hx1 : ∀ x ∈ L1, x.1 ≠ n := fun x h => hn12 x h (n, k) (by simp)
  have hx2 : ∀ x ∈ L2, x.1 ≠ n := fun x h e => hn2.1 (List.mem_map.2 ⟨x, h, e⟩)
  have hn12 : ∀ x ∈ L1, ∀ y ∈ L2, x.1 ≠ y.1 := fun x hx y hy => hn12 x hx y (by simp [hy])
  obtain ⟨s1, _, s2⟩ := seg_app.1 h
  have nl2 : ∀ y ∈ L2, (y.1 : Int) ≠ lst (-1) L1 := fun y hy => lst_ne (fun x hx => hn12 x hx y hy)
  have nh1 : ∀ x ∈ L1, (x.1 : Int) ≠ hd L2 (-1) := fun x hx => hd_ne (fun y hy => Ne.symm (hn12 x hx y hy))
  have s1 := seg_frame (ns' := ns.set n x) s1 (fun y hm => List.getElem?_set_ne (Ne.symm (hx1 y hm)))
  have s2 := seg_frame (ns' := ns.set n x) s2 (fun y hm => List.getElem?_set_ne (Ne.symm (hx2 y hm)))
  generalize ns.set n x = m0 at *
  have t1 := seg_setb s1 hn1 (hd L2 (-1))
  have t2 := seg_frame s2 (fun y hy => setb_ne m0 (b := hd L2 (-1)) (nl2 y hy))
  generalize setb m0 (lst (-1) L1) (hd L2 (-1)) = m1 at *
  have t2 := seg_seta t2 hn2.2 (lst (-1) L1)
  have t1 := seg_frame t1 (fun x hm => seta_ne m1 (b := lst (-1) L1) (nh1 x hm))
  exact seg_app.2 ⟨t1, t2⟩
theorem lvq_lst {ns : List (Nd × Bool)} {L : LL} {b : Int} (h : Seg ns (-1) L b) : lvq ns (lst (-1) L) = !L.isEmpty := by
  by_cases hL : L = []
  · subst hL
    exact lvq_neg (by decide)
  · obtain ⟨x, hx, e⟩ := lst_mem (a := -1) hL
    obtain ⟨nd, h1, _⟩ := seg_live h hx
    rw [e, lvq_some h1]
    cases L
    · exact absurd rfl hL
    · rfl
theorem lvq_hd {ns : List (Nd × Bool)} {L : LL} {a : Int} (h : Seg ns a L (-1)) : lvq ns (hd L (-1)) = !L.isEmpty := by
  cases L with
  | nil => exact lvq_neg (by decide)
  | cons x L => exact lvq_some h.1
/-- What is not a link's place. -/
theorem seg_at {ns : List (Nd × Bool)} {L1 L2 : LL} {n : Nat} {k : Kd} {a b : Int} (h : Seg ns a (L1 ++ (n, k) :: L2) b) : ns[n]? = some (mkn k (lst a L1) (hd L2 b), true) := (seg_app.1 h).2.1
end Go.Proofs.YtelfacchhclgnaaGreat.Yp
end
section
namespace Go.Proofs.YtelfacchhclgnaaGreat.Kb
set_option maxRecDepth 20000
open Go.RowKit
abbrev hv (xs : List Int) : List Value := xs.map (Value.int .u64)
/-- The slice at A reads as the list xs of 64-bit numbers, in cells below block B. -/
def Rh (w : World) (B : Nat) (A : Option Addr) (xs : List Int) : Prop :=
  xs ≠ [] → ∃ b off, A = some ⟨b, off, none⟩ ∧ b < B ∧ ∀ (k : Nat) (h : k < xs.length), w.cell? ⟨b, off + k, none⟩ = some (.int .u64 xs[k])
theorem Rh.nil (w : World) (B : Nat) (A : Option Addr) : Rh w B A [] := fun h => absurd rfl h
theorem Rh.below {w w' : World} {B B' : Nat} {A : Option Addr} {xs : List Int} (h : Rh w B A xs) (hb : Below B' w w') (hB : B ≤ B') : Rh w' B A xs := fun hne => by
  obtain ⟨b, off, rfl, hlt, hc⟩ := h hne
  exact ⟨b, off, rfl, hlt, fun k hk => (hb.cell (p := ⟨b, off + k, none⟩) (by show b < B'; omega)).trans (hc k hk)⟩
theorem Rh.more {w : World} {B B' : Nat} {A : Option Addr} {xs : List Int} (h : Rh w B A xs) (hB : B ≤ B') : Rh w B' A xs := fun hne => by
  obtain ⟨b, off, rfl, hlt, hc⟩ := h hne
  exact ⟨b, off, rfl, by omega, hc⟩
theorem Rh.drew {w : World} {B : Nat} {A : Option Addr} {xs : List Int} (h : Rh w B A xs) (n : Nat) : Rh (w.drewN n) B A xs := h
theorem Rh.at {w : World} {B : Nat} {A : Option Addr} {xs : List Int} (h : Rh w B A xs) {k : Nat} (hk : k < xs.length) : ∃ b off, A = some ⟨b, off, none⟩ ∧ b < B ∧ w.cell? ⟨b, off + k, none⟩ = some (.int .u64 xs[k]) := by
  obtain ⟨b, off, rfl, hlt, hc⟩ := h (by intro e; subst e; simp at hk)
  exact ⟨b, off, rfl, hlt, hc k hk⟩
theorem Rh.grown {w w' : World} {B g : Nat} {A : Option Addr} {xs : List Int} (h : Rh w B A xs) (hg : w.grownBy w' (some g)) (hB : B ≤ w.heap.size) (hne : ∀ ad, A = some ad → ad.block ≠ g) : Rh w' B A xs := fun he => by
  obtain ⟨b, off, rfl, hlt, hc⟩ := h he
  refine ⟨b, off, rfl, hlt, fun k hk => ?_⟩
  have hb := hg.block b (by omega) (by intro e; cases e; exact hne _ rfl rfl)
  have := hc k hk
  simp only [World.cell?, hb] at this ⊢
  exact this
theorem add_offB (g k : Nat) : (⟨g, 0, none⟩ : Addr).add k = ⟨g, k, none⟩ := by
  by_cases h : k = 0
  · subst h; rfl
  · simp [Addr.add, h]
theorem cell_oneB (w : World) (v : Value) (t : TypeId) (j : Nat) (u : Value) (h : [v][j]? = some u) : (w.alloc (.cells #[v] t)).cell? ((⟨w.heap.size, 0, none⟩ : Addr).add j) = some u := by
  match j, h with
  | 0, h =>
    rw [add_offB]
    simp at h
    subst h
    simp
/-- No older block than n. -/
def Young (n : Nat) (A : Option Addr) : Prop := ∀ ad, A = some ad → n ≤ ad.block
theorem Rh.of_own {w : World} {base : Nat} {v : Value} {xs : List Int} (h : w.ownsRow base 22 1 v xs.length (hv xs)) : ∃ A c, v = .slice A xs.length c ∧ Rh w w.heap.size A xs ∧ Young base A := by
  rcases h.2 with ⟨rfl, hn⟩ | ⟨g, cap, cur, rfl, hb, hh, _⟩
  · have : xs = [] := by simpa using hn
    subst this
    exact ⟨none, 0, rfl, fun h => absurd rfl h, fun _ h => by cases h⟩
  · refine ⟨_, _, rfl, fun hne => ⟨g, 0, rfl, ?_, fun k hk => ?_⟩, fun _ e => by cases e; exact hb⟩
    · exact (h.lt g rfl).2
    · have := h.cells (g := g) rfl k (.int .u64 xs[k]) (by simp [hk])
      rw [add_offB] at this
      rw [Nat.zero_add]
      exact this
theorem own_cap {w : World} {base : Nat} {e : TypeId} {size n : Nat} {v : Value} {xs : List Value} (h : w.ownsRow base e size v n xs) : ∀ A c, v = .slice A n c → n ≤ c := by
  intro A c hv
  rcases h.2 with ⟨h1, h2⟩ | ⟨g, cap, cur, h1, _, _, hnc, _⟩
  · rw [h1] at hv; simp at hv; omega
  · rw [h1] at hv; simp at hv; omega
theorem u64_info : (Tryz.prog.info? 22).map (fun i => (i.zero, i.size, i.bytes)) = some (some (.int .u64 0), 1, 8) := by kernel_rfl
end Go.Proofs.YtelfacchhclgnaaGreat.Kb
end
section
namespace Go.Proofs.YtelfacchhclgnaaGreat.Kb
set_option maxRecDepth 20000
open Go.RowKit
section
variable {w w' : World}
theorem own_form {base : Nat} {e : TypeId} {size n : Nat} {v : Value} {xs : List Value} (h : w.ownsRow base e size v n xs) : ∃ A c, v = .slice A n c := by
  rcases h.2 with ⟨rfl, rfl⟩ | ⟨g, cap, cur, rfl, _⟩
  · exact ⟨none, 0, rfl⟩
  · exact ⟨_, _, rfl⟩
theorem own_some {base : Nat} {e : TypeId} {size n c : Nat} {A : Option Addr} {xs : List Value} (h : w.ownsRow base e size (.slice A n c) n xs) (hn : 0 < n) : ∃ g, A = some ⟨g, 0, none⟩ := by
  rcases h.2 with ⟨_, rfl⟩ | ⟨g, cap, cur, hv, _⟩
  · omega
  · simp at hv; exact ⟨g, hv.1⟩
/-- The first k of a row. -/
theorem own_cut {base : Nat} {e : TypeId} {size n c : Nat} {A : Option Addr} {xs : List Value} (h : w.ownsRow base e size (.slice A n c) n xs) {k : Nat} (hk : k ≤ n) : w.ownsRow base e size (.slice A k c) k (xs.take (k * size)) := by
  have hl := h.1
  have hle : k * size ≤ n * size := Nat.mul_le_mul_right _ hk
  refine ⟨by rw [List.length_take]; omega, ?_⟩
  rcases h.2 with ⟨hv, rfl⟩ | ⟨g, cap, cur, hv, hb, hg, hnc, hcm, hcs, ht⟩
  · obtain rfl : k = 0 := by omega
    exact .inl ⟨hv, rfl⟩
  · simp only [Value.slice.injEq, true_and] at hv
    obtain ⟨rfl, rfl⟩ := hv
    refine .inr ⟨g, c, cur, rfl, hb, hg, by omega, hcm, hcs, ?_⟩
    rw [← ht, List.take_take, Nat.min_eq_left hle]
/-- All but the blocks of S are as they were. -/
structure ButS (w w' : World) (S : Nat → Prop) : Prop where
  os : w'.os = w.os
  tape : w'.tape = w.tape
  output : w'.output = w.output
  size : w.heap.size ≤ w'.heap.size
  block : ∀ j, j < w.heap.size → ¬ S j → w'.heap[j]? = w.heap[j]?
theorem ButS.refl (w : World) (S : Nat → Prop) : ButS w w S := ⟨rfl, rfl, rfl, Nat.le_refl _, fun _ _ _ => rfl⟩
theorem ButS.trans {w2 : World} {S : Nat → Prop} (h : ButS w w' S) (k : ButS w' w2 S) : ButS w w2 S :=
  ⟨k.os.trans h.os, k.tape.trans h.tape, k.output.trans h.output, Nat.le_trans h.size k.size, fun j hj hs => (k.block j (Nat.lt_of_lt_of_le hj h.size) hs).trans (h.block j hj hs)⟩
theorem ButS.mono {S T : Nat → Prop} (h : ButS w w' S) (hST : ∀ j, j < w.heap.size → S j → T j) : ButS w w' T := ⟨h.os, h.tape, h.output, h.size, fun j hj ht => h.block j hj fun hs => ht (hST j hj hs)⟩
/-- One step more, which changes but what S has, or is younger. -/
theorem ButS.then {w2 : World} {S T : Nat → Prop} (h : ButS w w' S) (k : ButS w' w2 T) (hT : ∀ j, T j → S j ∨ w.heap.size ≤ j) : ButS w w2 S :=
  ⟨k.os.trans h.os, k.tape.trans h.tape, k.output.trans h.output, Nat.le_trans h.size k.size, fun j hj hs => (k.block j (Nat.lt_of_lt_of_le hj h.size) fun ht => by rcases hT j ht with h1 | h1; exact hs h1; omega).trans (h.block j hj hs)⟩
theorem ButS.of_grown {row : Option Nat} {S : Nat → Prop} (g : w.grownBy w' row) (h : ∀ j, row = some j → S j) : ButS w w' S :=
  ⟨g.os, g.tape, g.output, g.size, fun j hj hs => g.block j hj fun e => hs (h j e.symm)⟩
theorem ButS.drewN {S : Nat → Prop} (h : ButS w w' S) (n : Nat) : ButS w (w'.drewN n) S := ⟨h.os, h.tape, h.output, h.size, h.block⟩
theorem ButS.below {S : Nat → Prop} {B : Nat} (h : ButS w w' S) (hB : B ≤ w.heap.size) (hS : ∀ j, S j → B ≤ j) : Below B w w' :=
  ⟨h.os, h.tape, h.output, h.size, fun k hk => h.block k (by omega) fun hs => by have := hS k hs; omega⟩
theorem ButS.own {S : Nat → Prop} {base : Nat} {e : TypeId} {size n : Nat} {v : Value} {xs : List Value} (b : ButS w w' S) (h : w.ownsRow base e size v n xs) (hS : ∀ k, v.ownBlock = some k → ¬ S k) : w'.ownsRow base e size v n xs := by
  refine ⟨h.1, ?_⟩
  rcases h.2 with hn | ⟨g, cap, cur, rfl, hb, hg, rest⟩
  · exact .inl hn
  · exact .inr ⟨g, cap, cur, rfl, hb, (b.block g (Array.getElem?_eq_some_iff.1 hg).1 (hS g rfl)).trans hg, rest⟩
end
theorem ButS.cell {w w' : World} {S : Nat → Prop} (h : ButS w w' S) {b : Nat} (hb : b < w.heap.size) (hs : ¬ S b) (o : Nat) : w'.cell? ⟨b, o, none⟩ = w.cell? ⟨b, o, none⟩ := by
  simp [World.cell?, h.block b hb hs]
theorem ButS.of_below {B : Nat} {w w' : World} {S : Nat → Prop} (h : Below B w w') (hB : w.heap.size ≤ B) : ButS w w' S :=
  ⟨h.os, h.tape, h.output, h.size, fun j hj _ => h.block j (by omega)⟩
theorem but_alloc' (w : World) (o : Obj) (S : Nat → Prop) : ButS w (w.alloc o) S := ButS.of_grown (World.grownBy_alloc w o none) (by simp)
theorem set_grown (w : World) (g i : Nat) (u : Value) : w.grownBy (w.setCell ⟨g, i, none⟩ u) (some g) :=
  ⟨rfl, rfl, rfl, by simp [World.setCell], fun j _ hne => Below.heap_setCell w _ u j (fun e => hne (by rw [e]))⟩
theorem but_set' (w : World) (h k : Nat) (u : Value) (S : Nat → Prop) (hS : S h) : ButS w (w.setCell ⟨h, k, none⟩ u) S := ButS.of_grown (set_grown w h k u) (fun j e => by cases e; exact hS)
end Go.Proofs.YtelfacchhclgnaaGreat.Kb
end
section
namespace Go.Proofs.YtelfacchhclgnaaGreat.Kb
set_option maxRecDepth 20000
open Go.RowKit
abbrev Part := Option Addr × Nat × List Int
def cat (L : List Part) : List Int := L.flatMap (·.2.2)
/-- The row of slices at gp, from off on, reads as the parts L. -/
def Parts (w : World) (B gp off : Nat) (L : List Part) : Prop := ∀ k (h : k < L.length), w.cell? ⟨gp, off + k, none⟩ = some (.slice L[k].1 L[k].2.2.length L[k].2.1) ∧ Rh w B L[k].1 L[k].2.2
theorem cat_snoc {L : List Part} {k : Nat} (h : k < L.length) : cat (L.take (k + 1)) = cat (L.take k) ++ L[k].2.2 := by
  unfold cat; rw [List.take_succ_eq_append_getElem h, List.flatMap_append]; simp
theorem cat_le {L : List Part} {k : Nat} : (cat (L.take k)).length ≤ (cat L).length := by
  conv => rhs; rw [← List.take_append_drop k L]
  unfold cat; rw [List.flatMap_append, List.length_append]; omega
theorem Rh.reads {w : World} {B : Nat} {A : Option Addr} {xs : List Int} (h : Rh w B A xs) : Reads w B 1 A xs.length (hv xs) := by
  refine ⟨by simp, fun hn => ?_⟩
  obtain ⟨b, off, rfl, hb, hc⟩ := h (by intro e; subst e; simp at hn)
  refine ⟨_, rfl, hb, fun j u hu => ?_⟩
  have hj : j < xs.length := by
    rcases Nat.lt_or_ge j xs.length with h1 | h1
    · exact h1
    · rw [List.getElem?_eq_none (by simpa using h1)] at hu; cases hu
  have e : (⟨b, off, none⟩ : Addr).add j = ⟨b, off + j, none⟩ := by
    unfold Addr.add
    by_cases h0 : j = 0 <;> simp [h0]
  rw [e, hc j hj]
  simpa [hj] using hu
theorem hv_one (xs : List Int) : ∀ u ∈ hv xs, u.oneCell' = true := by
  intro u hu
  rw [hv, List.mem_map] at hu
  obtain ⟨x, _, rfl⟩ := hu
  rfl
theorem size_zero1 (k : IntKind) (n : Nat) : (Builtin.zeroCells #[Value.int k 0] n).size = n := by simp [Builtin.zeroCells]
set_option maxHeartbeats 4000000 in
theorem grow_nil (w : World) (n : Nat) (hn : n ≤ 1099511627776) : Calls Tryz.prog 120 #[.slice none 0 0, .int .i64 n] w fun e w' =>
    ∃ v, e = .returned v ∧ w'.ownsRow w.heap.size 22 1 v 0 [] ∧ Below w.heap.size w w' := by
  obtain ⟨ti, hi, hz0, hz1, hz2⟩ : ∃ ti, Tryz.prog.info? 22 = some ti ∧ ti.zero = some (.int .u64 0) ∧ ti.size = 1 ∧ ti.bytes = 8 := ⟨_, rfl, rfl, rfl, rfl⟩
  rcases Nat.eq_zero_or_pos n with h0 | h0
  · subst h0
    go_enter Tryz.func120, Tryz.ntmps120
    go_wp2
    go_ret
    exact ⟨_, rfl, ⟨rfl, .inl ⟨rfl, rfl⟩⟩, Below.refl _ _⟩
  · have hr := Lib.run_append_nil_zeros (P := Tryz.prog) w 47 3 47 22 ti (.int .u64 0) .i64 .i64 Tryz.underlying47 Tryz.underlying3 hi hz0 n h0 (by omega) (by omega) (by rw [hz2]; omega)
    have HR := Lib.hid hr
    have hi' := Lib.hid hi
    clear hr hi hz0 hz1 hz2
    go_enter Tryz.func120, Tryz.ntmps120
    go_wp2_with (at_builtin; refine Lib.wpList_append_run _ rfl _ _ _ _ rfl _ _ rfl rfl _ _ HR.out ?_)
    go_ret
    have hge := grownCap_ge w n 0 22
    have hle := grownCap_le_maxLen w n 0 22 (by unfold maxLen; omega)
    refine ⟨_, rfl, ⟨rfl, .inr ⟨w.heap.size, grownCap w n 0 22, Builtin.zeroCells #[Value.int IntKind.u64 0] n ++ Builtin.zeroCells #[Value.int IntKind.u64 0] (grownCap w n 0 22 - n), rfl, Nat.le_refl _, ?_, Nat.zero_le _, hle, ?_, by simp⟩⟩, ?_⟩
    · exact heap_alloc_new w _
    · rw [Array.size_append, size_zero1, size_zero1]; omega
    · have hb := (Below.refl w.heap.size w).alloc (Nat.le_refl _) (Obj.cells (Builtin.zeroCells #[Value.int IntKind.u64 0] n ++ Builtin.zeroCells #[Value.int IntKind.u64 0] (grownCap w n 0 22 - n)) 22)
      exact ⟨hb.os, hb.tape, hb.output, hb.size, hb.block⟩
set_option maxHeartbeats 8000000 in
set_option maxRecDepth 100000 in
theorem concat_any (w : World) (B gp off cap : Nat) (L : List Part) (h : Parts w B gp off L) (hB : B ≤ w.heap.size) (hg : gp < w.heap.size) (hn : (cat L).length ≤ 1099511627776) (hL : L.length ≤ 1099511627776) :
    Calls Tryz.prog 86 #[.slice (some ⟨gp, off, none⟩) L.length cap] w fun e w' =>
      ∃ v, e = .returned v ∧ w'.ownsRow w.heap.size 22 1 v (cat L).length (hv (cat L)) ∧ Below w.heap.size w w' := by
  have H := Lib.hid h
  obtain ⟨m, hm⟩ : ∃ m, m = L.length := ⟨_, rfl⟩
  obtain ⟨ti, hi, hz0, hz1, hz2⟩ : ∃ ti, Tryz.prog.info? 22 = some ti ∧ ti.zero = some (.int .u64 0) ∧ ti.size = 1 ∧ ti.bytes = 8 := ⟨_, rfl, rfl, rfl, rfl⟩
  have HM := Lib.hid hm
  have HI := Lib.hid hi
  have HZ0 := Lib.hid hz0
  have HZ1 := Lib.hid hz1
  have HZ2 := Lib.hid hz2
  have hmn : m ≤ 1099511627776 := by omega
  rw [← hm]
  clear hi hz0 hz1 hz2 h
  have HLm := Lib.hid hL
  have HN := Lib.hid hn
  clear hm hL hn
  go_enter Tryz.func86, Tryz.ntmps86
  go_wp2
  go_loop [3, 11] (fun vs vi => ∃ k s : Nat, vi = .int .i64 k ∧ vs = .int .i64 s ∧ k ≤ m ∧ Hid (s = (cat (L.take k)).length)) (fun _ vi => m - (intOf vi).toNat)
  case atStart => exact ⟨0, 0, rfl, rfl, Nat.zero_le _, Lib.hid rfl⟩
  case round =>
    obtain ⟨k, s, rfl, rfl, hk, hs⟩ := hrel
    by_cases hlt : k < m
    · have hkL : k < L.length := by rw [← HM.out]; exact hlt
      obtain ⟨q, hq⟩ : ∃ q : Nat, q = (L[k]).2.2.length := ⟨_, rfl⟩
      obtain ⟨A, hA⟩ : ∃ A, A = (L[k]).1 := ⟨_, rfl⟩
      obtain ⟨c, hc⟩ : ∃ c, c = (L[k]).2.1 := ⟨_, rfl⟩
      have hcell : w.cell? ⟨gp, off + k, none⟩ = some (.slice A q c) := by rw [hq, hA, hc]; exact (H.out k hkL).1
      have hsum : Hid (s + q = (cat (L.take (k + 1))).length) := Lib.hid (by rw [hs.out, cat_snoc hkL, List.length_append, hq])
      have hb : s + q ≤ 1099511627776 := by rw [hsum.out]; exact Nat.le_trans cat_le HN.out
      clear hq hA hc
      go_wp2
      go_round
      case rel => exact ⟨k + 1, s + q, by go_num, by go_num, by omega, hsum⟩
      case measure => simp [intOf]; omega
    · have hsn : s ≤ 1099511627776 := by rw [hs.out]; exact Nat.le_trans cat_le HN.out
      go_wp2_with (go_at_call 120; (with_reducible refine (grow_nil w s hsn).mono ?_); rintro e w1 ⟨v, rfl, h1, h2⟩; replace h1 := Lib.hid h1; replace h2 := Lib.hid h2)
      go_loopw [6, 27] (fun vn vi wr => ∃ (k : Nat), vi = .int .i64 k ∧ k ≤ m ∧ Hid (wr.ownsRow w.heap.size 22 1 vn (cat (L.take k)).length (hv (cat (L.take k)))) ∧ Hid (Below w.heap.size w wr)) (fun _ vi _ => m - (intOf vi).toNat)
      case atStart => exact ⟨0, rfl, Nat.zero_le _, h1, h2⟩
      case round =>
        obtain ⟨j, rfl, hj, ho, hbl⟩ := hrel
        obtain ⟨vn, hvn⟩ : ∃ vn, vn = u6 := ⟨_, rfl⟩
        subst hvn
        by_cases hlt : j < m
        · have hjL : j < L.length := by rw [← HM.out]; exact hlt
          obtain ⟨xs, hxs⟩ : ∃ xs, xs = (L[j]).2.2 := ⟨_, rfl⟩
          obtain ⟨q, hq⟩ : ∃ q : Nat, q = xs.length := ⟨_, rfl⟩
          obtain ⟨A, hA⟩ : ∃ A, A = (L[j]).1 := ⟨_, rfl⟩
          obtain ⟨c, hc⟩ : ∃ c, c = (L[j]).2.1 := ⟨_, rfl⟩
          have hcell : wr.cell? ⟨gp, off + j, none⟩ = some (.slice A q c) := by
            rw [hbl.out.cell (p := ⟨gp, off + j, none⟩) hg, hq, hxs, hA, hc]; exact (H.out j hjL).1
          have hrd : Hid (Reads wr B 1 A q (hv xs)) := Lib.hid (by
            have := Rh.reads ((H.out j hjL).2.below hbl.out hB)
            rw [← hxs, ← hA, ← hq] at this; exact this)
          have hcat : Hid (cat (L.take (j + 1)) = cat (L.take j) ++ xs) := Lib.hid (by rw [cat_snoc hjL, hxs])
          obtain ⟨s1, hs1⟩ : ∃ s1, s1 = (cat (L.take j)).length := ⟨_, rfl⟩
          have hb : s1 + q ≤ 1099511627776 := by
            have e : (cat (L.take (j + 1))).length = s1 + q := by rw [hcat.out, List.length_append, hs1, hq]
            rw [← e]; exact Nat.le_trans cat_le HN.out
          have ho' : Hid (wr.ownsRow w.heap.size 22 1 vn s1 (hv (cat (L.take j)))) := Lib.hid (by rw [hs1]; exact ho.out)
          have HQ : Hid (s1 + q = (cat (L.take (j + 1))).length ∧ hv (cat (L.take j)) ++ hv xs = hv (cat (L.take (j + 1)))) := Lib.hid ⟨by rw [hcat.out, List.length_append, hs1, hq], by rw [hcat.out]; simp⟩
          have hws : w.heap.size ≤ wr.heap.size := hbl.out.size
          clear hxs hq hA hc hs1
          go_wp2_with (at_builtin; refine wpList_append_any _ rfl (.tmp 31) (.tmp 32) 47 rfl w.heap.size 22 ti (.int .u64 0) 1 8 Tryz.underlying47 HI.out HZ0.out HZ1.out HZ2.out rfl (by decide) vn s1 (hv (cat (L.take j))) rfl ho'.out B A q c (hv xs) rfl hrd.out (hv_one xs) (by unfold maxLen; omega) (by omega) hws ?_; intro v' w' g1 g2 g3; replace g1 := Lib.hid g1; replace g2 := Lib.hid g2; replace g3 := Lib.hid g3)
          go_roundw
          case rel => exact ⟨j + 1, by go_num, by omega, Lib.hid (by rw [← HQ.out.1, ← HQ.out.2]; exact g1.out), Lib.hid (hbl.out.grown g2.out hws (fun g hg => (ho'.out.lt g hg).1))⟩
          case measure => simp [intOf]; omega
        · have hjm : j = m := by omega
          have hfin : Hid (cat (L.take j) = cat L) := Lib.hid (by rw [hjm, HM.out, List.take_length])
          clear hjm
          go_wp2
          go_ret
          refine ⟨_, rfl, ?_, hbl.out⟩
          have := ho.out
          rw [hfin.out] at this
          exact this
end Go.Proofs.YtelfacchhclgnaaGreat.Kb
end
section
namespace Go.Proofs
set_option maxRecDepth 20000
open Go.Shelf
def Tryz.compH_ren : Go.Shelf.Ren := ⟨fun | 43 => 135 | n => n, fun | 22 => 47 | 23 => 22 | 3 => 3 | 4 => 4 | 0 => 0 | n => n, fun | n => n⟩
theorem Tryz.compH : Go.Proofs.SlLaysE.n43 Tryz.prog Tryz.compH_ren := {
  mixed := by kernel_rfl
  f43 := ⟨Tryz.f135.name, by decide, Tryz.func135.trans (congrArg some (by kernel_rfl))⟩
  t0 := Tryz.underlying0
  a0 := Tryz.isAgg0
  z0 := Tryz.sizeOf0
  v0 := Tryz.zeroValue0
  t3 := Tryz.underlying3
  a3 := Tryz.isAgg3
  z3 := Tryz.sizeOf3
  v3 := Tryz.zeroValue3
  t4 := Tryz.underlying4
  a4 := Tryz.isAgg4
  z4 := Tryz.sizeOf4
  v4 := Tryz.zeroValue4
  t22 := Tryz.underlying47
  a22 := Tryz.isAgg47
  z22 := Tryz.sizeOf47
  v22 := Tryz.zeroValue47
  a23 := Tryz.isAgg22
  z23 := Tryz.sizeOf22 }
end Go.Proofs
end
