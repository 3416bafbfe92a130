
/- The document's example of package pool. -/
import Derived.Test.YtpgmgldhpagieaaPObj4
namespace Go.Proofs.Ytpgmgldhpagieaa
open Go.RowKit
section
variable {w : World} {B P M lim cn cf : Nat} {An Af : Option Addr} {ns : List (Nat × Bool)} {fs : List Nat}
theorem PStep.below {w' : World} {ns' : List (Nat × Bool)} {fs' : List Nat} (h : PStep w B P M lim An Af ns' fs' w') (a : Po w B P M lim An cn Af cf ns fs) : Below B w w' := by
  obtain ⟨_, _, _, _, _, hb, _⟩ := h
  have := a.base
  have := a.lt
  exact hb.below (by omega) fun j hj => (a.pb hj).1
theorem alloc_newI (a : Po w B P M lim An cn Af cf ns []) (v : Int) (V : Nat) (hv : v = (V : Int)) (r : Int) (hr : r = (ns.length : Int)) (hf : ns.length < lim) :
    Calls Try.prog 16 #[.pointer (some ⟨P, 0, none⟩), .int .u64 v] w fun e w' => e = .returned (.tuple #[.int .i64 r, .bool true]) ∧ PStep w B P M lim An Af (ns ++ [(V, true)]) [] w' := by
  subst hv hr
  exact p_alloc_new w B P M lim cn cf An Af ns a V hf
theorem alloc_popI (a : Po w B P M lim An cn Af cf ns fs) (fs' : List Nat) (i : Nat) (hfs : fs = fs' ++ [i]) (v : Int) (V : Nat) (hv : v = (V : Int)) (r : Int) (hr : r = (i : Int)) (hf : ns.length - fs.length < lim) :
    Calls Try.prog 16 #[.pointer (some ⟨P, 0, none⟩), .int .u64 v] w fun e w' => e = .returned (.tuple #[.int .i64 r, .bool true]) ∧ PStep w B P M lim An Af (ns.set i (V, true)) fs' w' := by
  subst hv hr hfs
  exact p_alloc_pop w B P M lim cn cf An Af ns fs' i a V hf
theorem free_yesI (a : Po w B P M lim An cn Af cf ns fs) (i : Int) (k : Nat) (hi : i = (k : Int)) (hk : k < ns.length) (ht : ns[k].2 = true) (hfl : fs.length + 1 ≤ ns.length) :
    Calls Try.prog 17 #[.pointer (some ⟨P, 0, none⟩), .int .i64 i] w fun e w' => e = .returned (.bool true) ∧ PStep w B P M lim An Af (ns.set k (0, false)) (fs ++ [k]) w' := by
  subst hi
  exact p_free_yes w B P M lim cn cf An Af ns fs a k hk ht hfl
theorem lenI (a : Po w B P M lim An cn Af cf ns fs) (r : Int) (hr : r = ((ns.length - fs.length : Nat) : Int)) :
    Calls Try.prog 9 #[.pointer (some ⟨P, 0, none⟩)] w fun e w' => e = .returned (.int .i64 r) ∧ ∃ n, w' = w.drewN n := by
  subst hr
  exact p_len w B P M lim cn cf An Af ns fs a
theorem new_nilI (w : World) (B lim : Nat) (l : Int) (hl : l = (lim : Int)) (hlim : lim ≤ 1048576) (hB : B ≤ w.heap.size) :
    Calls Try.prog 7 #[.pointer none, .int .i64 l] w fun e w' => ∃ P M, e = .returned (.tuple #[.pointer (some ⟨P, 0, none⟩), .int .i64 0]) ∧ Po w' B P M lim none 0 none 0 [] [] ∧ Mt w' M 0 0 0 0 0 ∧ M ≠ P ∧ w.heap.size ≤ P ∧ w.heap.size ≤ M ∧ Below w.heap.size w w' := by
  subst hl
  exact p_new_nil w B lim hlim hB
end
set_option maxRecDepth 100000 in
set_option maxHeartbeats 2000000 in
theorem awake_any (w : World) : Calls Try.prog 4 #[] w fun e w' => e = .returned (.bool true) ∧ Below w.heap.size w w' := by
  go_enter Try.func4, Try.ntmps4
  go_wp2_with (go_at_call 7; (with_reducible refine (new_nilI _ w.heap.size 5 5 rfl (by omega) (Nat.le_refl _)).mono ?_); rintro e w1 ⟨P, M, rfl, hP, _, _, _, _, hb⟩; have hP1 := Lib.hid hP; clear hP; have hB1 := Lib.hid hb; clear hb)
  go_wp2_with (go_at_call 16; (with_reducible refine (alloc_newI hP1.out 7 7 rfl 0 rfl (by decide)).mono ?_); rintro e w2 ⟨rfl, hst⟩; have hB2 := Lib.hid (hst.below hP1.out); obtain ⟨An2, cn2, Af2, cf2, hP, _, _⟩ := hst; have hP2 := Lib.hid hP; clear hP)
  go_wp2_with (go_at_call 16; (with_reducible refine (alloc_newI hP2.out 8 8 rfl 1 rfl (by decide)).mono ?_); rintro e w3 ⟨rfl, hst⟩; have hB3 := Lib.hid (hst.below hP2.out); obtain ⟨An3, cn3, Af3, cf3, hP, _, _⟩ := hst; have hP3 := Lib.hid hP; clear hP)
  go_wp2_with (go_at_call 17; (with_reducible refine (free_yesI hP3.out 0 0 rfl (by decide) rfl (by decide)).mono ?_); rintro e w4 ⟨rfl, hst⟩; have hB4 := Lib.hid (hst.below hP3.out); obtain ⟨An4, cn4, Af4, cf4, hP, _, _⟩ := hst; have hP4 := Lib.hid hP; clear hP)
  go_wp2_with (go_at_call 16; (with_reducible refine (alloc_popI hP4.out [] 0 rfl 9 9 rfl 0 rfl (by decide)).mono ?_); rintro e w5 ⟨rfl, hst⟩; have hB5 := Lib.hid (hst.below hP4.out); obtain ⟨An5, cn5, Af5, cf5, hP, _, _⟩ := hst; have hP5 := Lib.hid hP; clear hP)
  go_wp2_with (go_at_call 9; (with_reducible refine (lenI hP5.out 2 rfl).mono ?_); rintro e w6 ⟨rfl, N6, rfl⟩)
  go_ret
  exact ⟨rfl, Below.trans hB1.out (hB2.out.trans (hB3.out.trans (hB4.out.trans ⟨hB5.out.os, hB5.out.tape, hB5.out.output, hB5.out.size, hB5.out.block⟩)))⟩
end Go.Proofs.Ytpgmgldhpagieaa
