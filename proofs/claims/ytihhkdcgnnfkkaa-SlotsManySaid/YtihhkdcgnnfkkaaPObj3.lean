
/- A pool is changed: Alloc, Free, Put; the texts walked. -/
import Derived.Test.YtihhkdcgnnfkkaaPObj2
namespace Go.Proofs.Ytihhkdcgnnfkkaa.Pp
set_option maxRecDepth 4000
open Go.RowKit
section
variable {w : World} {B P M lim cn cf g : Nat} {An Af : Option Addr} {ns : List (Nat × Bool)} {fs : List Nat}
theorem Po.other (a : Po w B P M lim (some ⟨g, 0, none⟩) cn Af cf ns fs) (k : Nat) (u : Value) {xs : List Value} (hown : (w.setCell ⟨g, k, none⟩ u).ownsRow B 84 2 (.slice (some ⟨g, 0, none⟩) ns.length cn) ns.length xs) {ns' : List (Nat × Bool)} (hx : xs = nv ns') (hl : ns'.length = ns.length) :
    Po (w.setCell ⟨g, k, none⟩ u) B P M lim (some ⟨g, 0, none⟩) cn Af cf ns' fs := by
  have b := but_set w g k u (· = g) rfl
  subst hx
  refine ⟨?_, ?_, ?_, a.base, a.n1, a.n2, a.n3, fun i hi => by rw [hl]; exact a.inr i hi, a.lim_le, by rw [hl]; exact a.ns_le, by rw [hl]; exact a.fs_le⟩
  · rw [b.block P a.lt (fun e => a.n1 _ rfl e.symm), a.row, hl]
  · rw [hl]; exact hown
  · exact b.own a.freed (fun k hk => by
      cases Af with
      | none => simp [Value.ownBlock] at hk
      | some y => simp [Value.ownBlock] at hk; subst hk; exact fun e => a.n3 _ y rfl rfl e.symm)
theorem Po.put (a : Po w B P M lim (some ⟨g, 0, none⟩) cn Af cf ns fs) {k : Nat} (hk : k < ns.length) (v : Nat) :
    Po (w.setCell ⟨g, k * 2, none⟩ (.int .u64 (v : Int))) B P M lim (some ⟨g, 0, none⟩) cn Af cf (ns.set k (v, ns[k].2)) fs :=
  a.other _ _ (a.nodes.stored (k * 2) _).1 (nv_put ns k v hk) (by rw [List.length_set])
theorem Po.place (a : Po w B P M lim (some ⟨g, 0, none⟩) cn Af cf ns fs) {k : Nat} (hk : k < ns.length) (v : Nat) (b : Bool) :
    Po ((w.setCell ⟨g, k * 2, none⟩ (.int .u64 (v : Int))).setCell ⟨g, k * 2 + 1, none⟩ (.bool b)) B P M lim (some ⟨g, 0, none⟩) cn Af cf (ns.set k (v, b)) fs := by
  have a1 := a.put hk v
  have hs := (a1.nodes.stored (k * 2 + 1) (.bool b)).1
  have e : (nv (ns.set k (v, ns[k].2))).set (k * 2 + 1) (.bool b) = nv (ns.set k (v, b)) := by
    rw [← nv_put ns k v hk, nv_set ns k v b hk]
  have := a1.other _ _ hs e (by rw [List.length_set, List.length_set])
  exact this
theorem but_place (w : World) (g k : Nat) (u u' : Value) (S : Nat → Prop) (hS : S g) : ButS w ((w.setCell ⟨g, k, none⟩ u).setCell ⟨g, k + 1, none⟩ u') S :=
  (but_set w g k u S hS).trans (but_set _ g (k + 1) u' S hS)
end
section
variable (w : World) (B P M lim cn cf : Nat) (An Af : Option Addr) (ns : List (Nat × Bool)) (fs : List Nat)
theorem p_alloc_full (a : Po w B P M lim An cn Af cf ns fs) (v : Nat) (hf : lim ≤ ns.length - fs.length) :
    Calls Try.prog 31 #[.pointer (some ⟨P, 0, none⟩), .int .u64 (v : Int)] w fun e w' => e = .returned (.tuple #[.int .i64 0, .bool false]) ∧ ∃ n, w' = w.drewN n := by
  have hr := Lib.hid (p_room w B P M lim cn cf An Af ns fs a 1)
  have d : decide ((1 : Int) ≤ (lim : Int) - ((ns.length - fs.length : Nat) : Int)) = false := decide_eq_false (by omega)
  rw [d] at hr
  clear a d hf
  go_enter Try.func31, Try.ntmps31
  go_wp2_with (go_at_call 34; (with_reducible refine hr.out.mono ?_); rintro e w' ⟨rfl, N, rfl⟩)
  go_ret2
  exact ⟨rfl, _, rfl⟩
theorem p_alloc_nil (v : Nat) :
    Calls Try.prog 31 #[.pointer none, .int .u64 (v : Int)] w fun e w' => e = .returned (.tuple #[.int .i64 0, .bool false]) ∧ ∃ n, w' = w.drewN n := by
  go_enter Try.func31, Try.ntmps31
  go_wp2_with (go_at_call 34; (with_reducible refine (p_room_nil _ _).mono ?_); rintro e w' ⟨rfl, N, rfl⟩)
  go_ret2
  exact ⟨rfl, _, rfl⟩
theorem p_alloc_by (a : Po w B P M lim An cn Af cf ns fs) (v i : Nat) (ns' : List (Nat × Bool)) (fs' : List Nat) (hf : ns.length - fs.length < lim) (hi : i < ns'.length)
    (hn : ∀ N, Calls Try.prog 42 #[.pointer (some ⟨P, 0, none⟩)] (w.drewN N) fun e w' => e = .returned (.int .i64 (i : Int)) ∧ PStep (w.drewN N) B P M lim An Af ns' fs' w') :
    Calls Try.prog 31 #[.pointer (some ⟨P, 0, none⟩), .int .u64 (v : Int)] w fun e w' => e = .returned (.tuple #[.int .i64 (i : Int), .bool true]) ∧ PStep w B P M lim An Af (ns'.set i (v, true)) fs' w' := by
  have hr := Lib.hid (p_room w B P M lim cn cf An Af ns fs a 1)
  have d : decide ((1 : Int) ≤ (lim : Int) - ((ns.length - fs.length : Nat) : Int)) = true := decide_eq_true (by omega)
  rw [d] at hr
  have hnH := Lib.hid hn
  clear a d hf hn
  go_enter Try.func31, Try.ntmps31
  go_wp2_with (first
    | (go_at_call 34; (with_reducible refine hr.out.mono ?_); rintro e w' ⟨rfl, N, rfl⟩)
    | (go_at_call 42; (with_reducible refine (hnH.out _).mono ?_); rintro e w1 ⟨rfl, An', cn', Af', cf', hP, hBu, hIn⟩; have hc2 := hP.c2; obtain ⟨g, rfl, hgP, hc0, hc1, hfr⟩ := hP.at hi; have hPH := Lib.hid hP; clear hP; have hBH := Lib.hid hBu; clear hBu; have hIH := Lib.hid hIn; clear hIn; have hf0 := hfr (i * 2); have hf1 := hfr (i * 2 + 1); clear hfr; have k1 : (i : Int) < (ns'.length : Int) := (by omega)))
  go_ret2
  refine ⟨rfl, _, cn', Af', cf', hPH.out.place hi v true, ?_, fun j hj => hIH.out j hj⟩
  have b0 : ButS w w1 (PB P An Af) := ⟨hBH.out.os, hBH.out.tape, hBH.out.output, hBH.out.size, hBH.out.block⟩
  exact b0.then (but_place w1 g (i * 2) _ _ (· = g) rfl) (fun j e => by subst e; exact hIH.out _ (.inr (.inl rfl)))
theorem p_alloc_pop (i : Nat) (a : Po w B P M lim An cn Af cf ns (fs ++ [i])) (v : Nat) (hf : ns.length - (fs ++ [i]).length < lim) :
    Calls Try.prog 31 #[.pointer (some ⟨P, 0, none⟩), .int .u64 (v : Int)] w fun e w' => e = .returned (.tuple #[.int .i64 (i : Int), .bool true]) ∧ PStep w B P M lim An Af (ns.set i (v, true)) fs w' :=
  p_alloc_by w B P M lim cn cf An Af ns (fs ++ [i]) a v i ns fs hf (a.inr i (by simp)) fun N => p_next_pop (w.drewN N) B P M lim cn cf An Af ns fs i fs.length (a.drew N) rfl
theorem p_alloc_new (a : Po w B P M lim An cn Af cf ns []) (v : Nat) (hf : ns.length < lim) :
    Calls Try.prog 31 #[.pointer (some ⟨P, 0, none⟩), .int .u64 (v : Int)] w fun e w' => e = .returned (.tuple #[.int .i64 (ns.length : Int), .bool true]) ∧ PStep w B P M lim An Af (ns ++ [(v, true)]) [] w' := by
  have := p_alloc_by w B P M lim cn cf An Af ns [] a v ns.length (ns ++ [(0, false)]) [] (by simpa using hf) (by simp) fun N => p_next_new (w.drewN N) B P M lim cn cf An Af ns (a.drew N) (by have := a.lim_le; omega)
  have e : (ns ++ [(0, false)]).set ns.length (v, true) = ns ++ [(v, true)] := by
    rw [List.set_append_right _ _ (Nat.le_refl _)]
    simp
  rw [e] at this
  exact this
theorem p_put_no (i : Int) (v : Nat) (p : Option Addr) (h : Calls Try.prog 39 #[.pointer p, .int .i64 i] w fun e w' => e = .returned (.bool false) ∧ w = w') :
    Calls Try.prog 30 #[.pointer p, .int .i64 i, .int .u64 (v : Int)] w fun e w' => e = .returned (.bool false) ∧ w = w' := by
  have hH := Lib.hid h
  clear h
  go_enter Try.func30, Try.ntmps30
  go_wp2_with (go_at_call 39; (with_reducible refine hH.out.mono ?_); rintro e w' ⟨rfl, rfl⟩)
  go_ret
  exact ⟨rfl, rfl⟩
theorem p_free_no (i : Int) (p : Option Addr) (h : Calls Try.prog 39 #[.pointer p, .int .i64 i] w fun e w' => e = .returned (.bool false) ∧ w = w') :
    Calls Try.prog 26 #[.pointer p, .int .i64 i] w fun e w' => e = .returned (.bool false) ∧ w = w' := by
  have hH := Lib.hid h
  clear h
  go_enter Try.func26, Try.ntmps26
  go_wp2_with (go_at_call 39; (with_reducible refine hH.out.mono ?_); rintro e w' ⟨rfl, rfl⟩)
  go_ret
  exact ⟨rfl, rfl⟩
theorem p_put_yes (a : Po w B P M lim An cn Af cf ns fs) (k : Nat) (hk : k < ns.length) (ht : ns[k].2 = true) (v : Nat) :
    Calls Try.prog 30 #[.pointer (some ⟨P, 0, none⟩), .int .i64 (k : Int), .int .u64 (v : Int)] w fun e w' => e = .returned (.bool true) ∧ PStep w B P M lim An Af (ns.set k (v, true)) fs w' := by
  have hl := Lib.hid (p_live w B P M lim cn cf An Af ns fs a k)
  have hr : lv ns (k : Int) = true := by
    unfold lv
    simp [hk, ht]
  rw [hr] at hl
  have hc2 := a.c2
  obtain ⟨g, rfl, _, hv, _, hfr⟩ := a.at hk
  have hf0 := hfr (k * 2)
  have k1 : (k : Int) < (ns.length : Int) := by omega
  have hp := a.put hk v
  rw [ht] at hp
  have hpH := Lib.hid hp
  clear a hr ht hfr hp
  go_enter Try.func30, Try.ntmps30
  go_wp2_with (go_at_call 39; (with_reducible refine hl.out.mono ?_); rintro e w' ⟨rfl, rfl⟩)
  go_ret
  exact ⟨rfl, _, cn, Af, cf, hpH.out, but_set _ _ _ _ _ (.inr (.inl rfl)), fun j hj => .inl hj⟩
end
end Go.Proofs.Ytihhkdcgnnfkkaa.Pp
