
/- The law of full pools: it returns true at every input. -/
import Derived.Test.YtpgmgldhpagieaaPLaws
namespace Go.Proofs.Ytpgmgldhpagieaa
open Go.RowKit
theorem ref_clamp (n m : Int) (w : World) : Calls Try.prog 5 #[.int .i64 n, .int .i64 m] w fun e w' => e = .returned (.int .i64 (max (min n m) 0)) ∧ w = w' := by
  go_enter Try.func5, Try.ntmps5
  go_wp2
  all_goals
    go_ret
    exact ⟨ret_int (by omega), rfl⟩
/-- The first k places, each with its number. -/
def upto (k : Nat) : List (Nat × Bool) := (List.range k).map fun i => (i, true)
theorem upto_len (k : Nat) : (upto k).length = k := by simp [upto]
theorem upto_succ (k : Nat) : upto (k + 1) = upto k ++ [(k, true)] := by simp [upto, List.range_succ]
/-- The rows of a pool are younger than N. -/
def Far (P : Nat) (An Af : Option Addr) (N : Nat) : Prop := ∀ j, PB P An Af j → j = P ∨ N ≤ j
section
variable {w w' : World} {B P M lim cn cf N : Nat} {An Af : Option Addr} {ns : List (Nat × Bool)} {fs : List Nat}
/-- A pool with its meter beside it. -/
def Pm (w : World) (B N P M lim : Nat) (ns : List (Nat × Bool)) (fs : List Nat) (r t p : Nat) : Prop :=
  ∃ An cn Af cf, Po w B P M lim An cn Af cf ns fs ∧ Far P An Af N ∧ Mt w M r 0 0 t p ∧ M ≠ P ∧ M < N ∧ N ≤ w.heap.size ∧ B ≤ M
theorem Pm.step {ns' : List (Nat × Bool)} {fs' : List Nat} {r t p : Nat} (h : Po w B P M lim An cn Af cf ns fs) (hf : Far P An Af N) (hm : Mt w M r 0 0 t p) (h1 : M ≠ P) (h2 : M < N) (h3 : N ≤ w.heap.size) (h4 : B ≤ M) (st : PStep w B P M lim An Af ns' fs' w') : Pm w' B N P M lim ns' fs' r t p ∧ Below B w w' := by
  have hb := st.below h
  obtain ⟨An', cn', Af', cf', hp, hB, hI⟩ := st
  refine ⟨⟨An', cn', Af', cf', hp, fun j hj => ?_, ?_, h1, h2, Nat.le_trans h3 hB.size, h4⟩, hb⟩
  · rcases hI j hj with h | h
    · exact hf j h
    · right; omega
  · exact (hB.block M (by omega) fun hM => by rcases hf M hM with h | h <;> omega).trans hm
theorem Pm.drew {r t p : Nat} (h : Pm w B N P M lim ns fs r t p) (n : Nat) : Pm (w.drewN n) B N P M lim ns fs r t p := by
  obtain ⟨An, cn, Af, cf, h1, h2⟩ := h
  exact ⟨An, cn, Af, cf, h1.drew n, h2⟩
theorem pm_alloc_new {r t p : Nat} (a : Pm w B N P M lim ns [] r t p) (v : Int) (V : Nat) (hv : v = (V : Int)) (q : Int) (hq : q = (ns.length : Int)) (hf : ns.length < lim) :
    Calls Try.prog 16 #[.pointer (some ⟨P, 0, none⟩), .int .u64 v] w fun e w' => e = .returned (.tuple #[.int .i64 q, .bool true]) ∧ Pm w' B N P M lim (ns ++ [(V, true)]) [] r t p ∧ Below B w w' := by
  obtain ⟨An, cn, Af, cf, h, h1, h2, h3, h4, h5, h6⟩ := a
  exact (alloc_newI h v V hv q hq hf).mono fun e w' ⟨he, st⟩ => ⟨he, Pm.step h h1 h2 h3 h4 h5 h6 st⟩
theorem pm_alloc_pop {r t p : Nat} (a : Pm w B N P M lim ns fs r t p) (fs' : List Nat) (i : Nat) (hfs : fs = fs' ++ [i]) (v : Int) (V : Nat) (hv : v = (V : Int)) (q : Int) (hq : q = (i : Int)) (hf : ns.length - fs.length < lim) :
    Calls Try.prog 16 #[.pointer (some ⟨P, 0, none⟩), .int .u64 v] w fun e w' => e = .returned (.tuple #[.int .i64 q, .bool true]) ∧ Pm w' B N P M lim (ns.set i (V, true)) fs' r t p ∧ Below B w w' := by
  obtain ⟨An, cn, Af, cf, h, h1, h2, h3, h4, h5, h6⟩ := a
  exact (alloc_popI h fs' i hfs v V hv q hq hf).mono fun e w' ⟨he, st⟩ => ⟨he, Pm.step h h1 h2 h3 h4 h5 h6 st⟩
theorem pm_alloc_full {r t p : Nat} (a : Pm w B N P M lim ns fs r t p) (v : Nat) (hf : lim ≤ ns.length - fs.length) :
    Calls Try.prog 16 #[.pointer (some ⟨P, 0, none⟩), .int .u64 (v : Int)] w fun e w' => e = .returned (.tuple #[.int .i64 0, .bool false]) ∧ ∃ n, w' = w.drewN n := by
  obtain ⟨An, cn, Af, cf, h, _⟩ := a
  exact p_alloc_full w B P M lim cn cf An Af ns fs h v hf
theorem pm_free {r t p : Nat} (a : Pm w B N P M lim ns fs r t p) (i : Int) (k : Nat) (hi : i = (k : Int)) (hk : k < ns.length) (ht : ns[k].2 = true) (hfl : fs.length + 1 ≤ ns.length) :
    Calls Try.prog 17 #[.pointer (some ⟨P, 0, none⟩), .int .i64 i] w fun e w' => e = .returned (.bool true) ∧ Pm w' B N P M lim (ns.set k (0, false)) (fs ++ [k]) r t p ∧ Below B w w' := by
  obtain ⟨An, cn, Af, cf, h, h1, h2, h3, h4, h5, h6⟩ := a
  exact (free_yesI h i k hi hk ht hfl).mono fun e w' ⟨he, st⟩ => ⟨he, Pm.step h h1 h2 h3 h4 h5 h6 st⟩
theorem pm_free_no {r t p : Nat} (a : Pm w B N P M lim ns fs r t p) (i : Int) (hl : lv ns i = false) :
    Calls Try.prog 17 #[.pointer (some ⟨P, 0, none⟩), .int .i64 i] w fun e w' => e = .returned (.bool false) ∧ w = w' := by
  obtain ⟨An, cn, Af, cf, h, _⟩ := a
  have := p_live w B P M lim cn cf An Af ns fs h i
  rw [hl] at this
  exact p_free_no w i _ this
theorem pm_len {r t p : Nat} (a : Pm w B N P M lim ns fs r t p) (q : Int) (hq : q = ((ns.length - fs.length : Nat) : Int)) :
    Calls Try.prog 9 #[.pointer (some ⟨P, 0, none⟩)] w fun e w' => e = .returned (.int .i64 q) ∧ ∃ n, w' = w.drewN n := by
  obtain ⟨An, cn, Af, cf, h, _⟩ := a
  exact lenI h q hq
theorem pm_room {r t p : Nat} (a : Pm w B N P M lim ns fs r t p) (k : Int) (b : Bool) (hb : decide (k ≤ (lim : Int) - ((ns.length - fs.length : Nat) : Int)) = b) :
    Calls Try.prog 11 #[.pointer (some ⟨P, 0, none⟩), .int .i64 k] w fun e w' => e = .returned (.bool b) ∧ ∃ n, w' = w.drewN n := by
  obtain ⟨An, cn, Af, cf, h, _⟩ := a
  subst hb
  exact p_room w B P M lim cn cf An Af ns fs h k
theorem pm_at {r t p : Nat} (a : Pm w B N P M lim ns fs r t p) (i : Int) (k : Nat) (hi : i = (k : Int)) (hk : k < ns.length) (ht : ns[k].2 = true) (v : Int) (hv : v = (ns[k].1 : Int)) (hr : r < 1000000) (ht2 : t < 1000000) :
    Calls Try.prog 19 #[.pointer (some ⟨P, 0, none⟩), .int .i64 i] w fun e w' => e = .returned (.tuple #[.int .u64 v, .bool true]) ∧ Pm w' B N P M lim ns fs (r + 1) (t + 1) (max p (t + 1)) ∧ Below B w w' := by
  obtain ⟨An, cn, Af, cf, h, h1, h2, h3, h4, h5, h6⟩ := a
  subst hi hv
  refine (p_at_yes w B P M lim cn cf An Af ns fs h k hk ht r 0 0 t p h2 hr ht2).mono ?_
  rintro e w' ⟨rfl, hM, hG⟩
  have hb : ButS w w' (· = M) := ButS.of_grown hG (fun j e => by cases e; rfl)
  refine ⟨rfl, ⟨An, cn, Af, cf, h.but hb (fun j hj e => by subst e; rcases h1 j hj with h | h <;> omega), h1, hM, h3, h4, Nat.le_trans h5 hG.size, h6⟩, hb.below (by omega) (fun j e => by subst e; exact h6)⟩
theorem pm_new (w : World) (lim : Nat) (l : Int) (hl : l = (lim : Int)) (hlim : lim ≤ 1048576) :
    Calls Try.prog 7 #[.pointer none, .int .i64 l] w fun e w' => ∃ P M, e = .returned (.tuple #[.pointer (some ⟨P, 0, none⟩), .int .i64 0]) ∧ Pm w' w.heap.size w'.heap.size P M lim [] [] 0 0 0 ∧ Below w.heap.size w w' := by
  refine (new_nilI w w.heap.size lim l hl hlim (Nat.le_refl _)).mono ?_
  rintro e w' ⟨P, M, rfl, h1, h2, h3, h4, h5, h6⟩
  refine ⟨P, M, rfl, ⟨none, 0, none, 0, h1, ?_, h2, h3, h2.lt, Nat.le_refl _, h5⟩, h6⟩
  rintro j (rfl | hj | hj)
  · exact .inl rfl
  · simp at hj
  · simp at hj
end
end Go.Proofs.Ytpgmgldhpagieaa
