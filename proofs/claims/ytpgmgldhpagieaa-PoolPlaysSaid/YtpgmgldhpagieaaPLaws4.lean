
/- A pool with its meter: Live, Peek, At, Put, Limit. -/
import Derived.Test.YtpgmgldhpagieaaPLaws3
namespace Go.Proofs.Ytpgmgldhpagieaa
open Go.RowKit
section
variable {w : World} {B P M lim N : Nat} {ns : List (Nat × Bool)} {fs : List Nat} {r t p : Nat}
theorem pm_live (a : Pm w B N P M lim ns fs r t p) (i : Int) (b : Bool) (hb : lv ns i = b) :
    Calls Try.prog 22 #[.pointer (some ⟨P, 0, none⟩), .int .i64 i] w fun e w' => e = .returned (.bool b) ∧ w = w' := by
  obtain ⟨An, cn, Af, cf, h, _⟩ := a
  have := p_live w B P M lim cn cf An Af ns fs h i
  rwa [hb] at this
theorem pm_peek_no (a : Pm w B N P M lim ns fs r t p) (i : Int) (hl : lv ns i = false) :
    Calls Try.prog 20 #[.pointer (some ⟨P, 0, none⟩), .int .i64 i] w fun e w' => e = .returned (.tuple #[.int .u64 0, .bool false]) ∧ w = w' := p_peek_no w i _ (pm_live a i false hl)
theorem pm_at_no (a : Pm w B N P M lim ns fs r t p) (i : Int) (hl : lv ns i = false) :
    Calls Try.prog 19 #[.pointer (some ⟨P, 0, none⟩), .int .i64 i] w fun e w' => e = .returned (.tuple #[.int .u64 0, .bool false]) ∧ w = w' := p_at_no w i _ (pm_live a i false hl)
theorem pm_put_no (a : Pm w B N P M lim ns fs r t p) (i : Int) (v : Nat) (hl : lv ns i = false) :
    Calls Try.prog 21 #[.pointer (some ⟨P, 0, none⟩), .int .i64 i, .int .u64 (v : Int)] w fun e w' => e = .returned (.bool false) ∧ w = w' := p_put_no w i v _ (pm_live a i false hl)
theorem pm_peek_yes (a : Pm w B N P M lim ns fs r t p) (i : Int) (k : Nat) (hi : i = (k : Int)) (hk : k < ns.length) (ht : ns[k].2 = true) (x : Int) (hx : x = (ns[k].1 : Int)) :
    Calls Try.prog 20 #[.pointer (some ⟨P, 0, none⟩), .int .i64 i] w fun e w' => e = .returned (.tuple #[.int .u64 x, .bool true]) ∧ w = w' := by
  subst hi hx
  obtain ⟨An, cn, Af, cf, h, _⟩ := a
  exact p_peek_yes w B P M lim cn cf An Af ns fs h k hk ht
theorem pm_put_yes (a : Pm w B N P M lim ns fs r t p) (i : Int) (k : Nat) (hi : i = (k : Int)) (hk : k < ns.length) (ht : ns[k].2 = true) (v : Nat) :
    Calls Try.prog 21 #[.pointer (some ⟨P, 0, none⟩), .int .i64 i, .int .u64 (v : Int)] w fun e w' => e = .returned (.bool true) ∧ Pm w' B N P M lim (ns.set k (v, true)) fs r t p ∧ Below B w w' := by
  subst hi
  obtain ⟨An, cn, Af, cf, h, h1, h2, h3, h4, h5, h6⟩ := a
  exact (p_put_yes w B P M lim cn cf An Af ns fs h k hk ht v).mono fun e w' ⟨he, st⟩ => ⟨he, Pm.step h h1 h2 h3 h4 h5 h6 st⟩
theorem pm_limit (a : Pm w B N P M lim ns fs r t p) :
    Calls Try.prog 15 #[.pointer (some ⟨P, 0, none⟩)] w fun e w' => e = .returned (.int .i64 (lim : Int)) ∧ w = w' := by
  obtain ⟨An, cn, Af, cf, h, _⟩ := a
  exact p_limit w B P M lim cn cf An Af ns fs h
end
/-- The pool's places, and the reference's: as many, taken alike, alike where taken. -/
def Like (ns rs : List (Nat × Bool)) : Prop := ns.length = rs.length ∧ ∀ k (h : k < ns.length) (h' : k < rs.length), ns[k].2 = rs[k].2 ∧ (ns[k].2 = true → ns[k].1 = rs[k].1)
theorem Like.lv {ns rs : List (Nat × Bool)} (h : Like ns rs) (i : Int) : Go.Proofs.Ytpgmgldhpagieaa.lv ns i = Go.Proofs.Ytpgmgldhpagieaa.lv rs i := by
  unfold Go.Proofs.Ytpgmgldhpagieaa.lv
  congr 1
  by_cases hk : i.toNat < ns.length
  · have hk' : i.toNat < rs.length := by have := h.1; omega
    rw [List.getElem?_eq_getElem hk, List.getElem?_eq_getElem hk']
    simp [(h.2 _ hk hk').1]
  · rw [List.getElem?_eq_none (by omega), List.getElem?_eq_none (by have := h.1; omega)]
theorem Like.nil : Like [] [] := ⟨rfl, fun k h => by simp at h⟩
theorem Like.snoc {ns rs : List (Nat × Bool)} (h : Like ns rs) (v : Nat) : Like (ns ++ [(v, true)]) (rs ++ [(v, true)]) := by
  refine ⟨by simp [h.1], fun k hk hk' => ?_⟩
  by_cases hlt : k < ns.length
  · have hlt' : k < rs.length := by have := h.1; omega
    rw [List.getElem_append_left hlt, List.getElem_append_left hlt']
    exact h.2 k hlt hlt'
  · simp at hk
    have := h.1
    have e : k = ns.length := by omega
    subst e
    simp [this]
theorem Like.set {ns rs : List (Nat × Bool)} (h : Like ns rs) (i : Nat) (x y : Nat × Bool) (hxy : x.2 = y.2 ∧ (x.2 = true → x.1 = y.1)) : Like (ns.set i x) (rs.set i y) := by
  refine ⟨by simp [h.1], fun k hk hk' => ?_⟩
  rw [List.length_set] at hk hk'
  rw [List.getElem_set, List.getElem_set]
  by_cases e : i = k
  · simp only [e, if_true]; exact hxy
  · simp only [e, if_false]
    exact h.2 k hk hk'
end Go.Proofs.Ytpgmgldhpagieaa
