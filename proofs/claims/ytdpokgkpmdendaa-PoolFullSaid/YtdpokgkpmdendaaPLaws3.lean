
/- The law of full pools: it returns true at every input. -/
import Derived.Test.YtdpokgkpmdendaaPLaws
namespace Go.Proofs.Ytdpokgkpmdendaa
open Go.RowKit
theorem ref_clamp (n m : Int) (w : World) : Calls Try.prog 7 #[.int .i64 n, .int .i64 m] w fun e w' => e = .returned (.int .i64 (max (min n m) 0)) ∧ w = w' := by
  go_enter Try.func7, Try.ntmps7
  go_wp2
  all_goals
    go_ret
    exact ⟨ret_int (by omega), rfl⟩
/-- The first k places, each with its number. -/
def upto (k : Nat) : List (Nat × Bool) := (List.range k).map fun i => (i, true)
theorem upto_len (k : Nat) : (upto k).length = k := by simp [upto]
theorem upto_succ (k : Nat) : upto (k + 1) = upto k ++ [(k, true)] := by simp [upto, List.range_succ]
/-- The rows of a pool are younger than N. -/
def Far (P : Nat) (An Af : Option Addr) (N : Nat) : Prop := ∀ j, PB P An Af j → j = P ∨ N ≤ j
section
variable {w w' : World} {B P M lim cn cf N : Nat} {An Af : Option Addr} {ns : List (Nat × Bool)} {fs : List Nat}
/-- A pool with its meter beside it. -/
def Pm (w : World) (B N P M lim : Nat) (ns : List (Nat × Bool)) (fs : List Nat) (r t p : Nat) : Prop :=
  ∃ An cn Af cf, Po w B P M lim An cn Af cf ns fs ∧ Far P An Af N ∧ Mt w M r 0 0 t p ∧ M ≠ P ∧ M < N ∧ N ≤ w.heap.size ∧ B ≤ M
theorem Pm.step {ns' : List (Nat × Bool)} {fs' : List Nat} {r t p : Nat} (h : Po w B P M lim An cn Af cf ns fs) (hf : Far P An Af N) (hm : Mt w M r 0 0 t p) (h1 : M ≠ P) (h2 : M < N) (h3 : N ≤ w.heap.size) (h4 : B ≤ M) (st : PStep w B P M lim An Af ns' fs' w') : Pm w' B N P M lim ns' fs' r t p ∧ Below B w w' := by
  have hb := st.below h
  obtain ⟨An', cn', Af', cf', hp, hB, hI⟩ := st
  refine ⟨⟨An', cn', Af', cf', hp, fun j hj => ?_, ?_, h1, h2, Nat.le_trans h3 hB.size, h4⟩, hb⟩
  · rcases hI j hj with h | h
    · exact hf j h
    · right; omega
  · exact (hB.block M (by omega) fun hM => by rcases hf M hM with h | h <;> omega).trans hm
theorem Pm.drew {r t p : Nat} (h : Pm w B N P M lim ns fs r t p) (n : Nat) : Pm (w.drewN n) B N P M lim ns fs r t p := by
  obtain ⟨An, cn, Af, cf, h1, h2⟩ := h
  exact ⟨An, cn, Af, cf, h1.drew n, h2⟩
theorem pm_alloc_new {r t p : Nat} (a : Pm w B N P M lim ns [] r t p) (v : Int) (V : Nat) (hv : v = (V : Int)) (q : Int) (hq : q = (ns.length : Int)) (hf : ns.length < lim) :
    Calls Try.prog 18 #[.pointer (some ⟨P, 0, none⟩), .int .u64 v] w fun e w' => e = .returned (.tuple #[.int .i64 q, .bool true]) ∧ Pm w' B N P M lim (ns ++ [(V, true)]) [] r t p ∧ Below B w w' := by
  obtain ⟨An, cn, Af, cf, h, h1, h2, h3, h4, h5, h6⟩ := a
  exact (alloc_newI h v V hv q hq hf).mono fun e w' ⟨he, st⟩ => ⟨he, Pm.step h h1 h2 h3 h4 h5 h6 st⟩
theorem pm_alloc_pop {r t p : Nat} (a : Pm w B N P M lim ns fs r t p) (fs' : List Nat) (i : Nat) (hfs : fs = fs' ++ [i]) (v : Int) (V : Nat) (hv : v = (V : Int)) (q : Int) (hq : q = (i : Int)) (hf : ns.length - fs.length < lim) :
    Calls Try.prog 18 #[.pointer (some ⟨P, 0, none⟩), .int .u64 v] w fun e w' => e = .returned (.tuple #[.int .i64 q, .bool true]) ∧ Pm w' B N P M lim (ns.set i (V, true)) fs' r t p ∧ Below B w w' := by
  obtain ⟨An, cn, Af, cf, h, h1, h2, h3, h4, h5, h6⟩ := a
  exact (alloc_popI h fs' i hfs v V hv q hq hf).mono fun e w' ⟨he, st⟩ => ⟨he, Pm.step h h1 h2 h3 h4 h5 h6 st⟩
theorem pm_alloc_full {r t p : Nat} (a : Pm w B N P M lim ns fs r t p) (v : Nat) (hf : lim ≤ ns.length - fs.length) :
    Calls Try.prog 18 #[.pointer (some ⟨P, 0, none⟩), .int .u64 (v : Int)] w fun e w' => e = .returned (.tuple #[.int .i64 0, .bool false]) ∧ ∃ n, w' = w.drewN n := by
  obtain ⟨An, cn, Af, cf, h, _⟩ := a
  exact p_alloc_full w B P M lim cn cf An Af ns fs h v hf
theorem pm_free {r t p : Nat} (a : Pm w B N P M lim ns fs r t p) (i : Int) (k : Nat) (hi : i = (k : Int)) (hk : k < ns.length) (ht : ns[k].2 = true) (hfl : fs.length + 1 ≤ ns.length) :
    Calls Try.prog 19 #[.pointer (some ⟨P, 0, none⟩), .int .i64 i] w fun e w' => e = .returned (.bool true) ∧ Pm w' B N P M lim (ns.set k (0, false)) (fs ++ [k]) r t p ∧ Below B w w' := by
  obtain ⟨An, cn, Af, cf, h, h1, h2, h3, h4, h5, h6⟩ := a
  exact (free_yesI h i k hi hk ht hfl).mono fun e w' ⟨he, st⟩ => ⟨he, Pm.step h h1 h2 h3 h4 h5 h6 st⟩
theorem pm_free_no {r t p : Nat} (a : Pm w B N P M lim ns fs r t p) (i : Int) (hl : lv ns i = false) :
    Calls Try.prog 19 #[.pointer (some ⟨P, 0, none⟩), .int .i64 i] w fun e w' => e = .returned (.bool false) ∧ w = w' := by
  obtain ⟨An, cn, Af, cf, h, _⟩ := a
  have := p_live w B P M lim cn cf An Af ns fs h i
  rw [hl] at this
  exact p_free_no w i _ this
theorem pm_len {r t p : Nat} (a : Pm w B N P M lim ns fs r t p) (q : Int) (hq : q = ((ns.length - fs.length : Nat) : Int)) :
    Calls Try.prog 11 #[.pointer (some ⟨P, 0, none⟩)] w fun e w' => e = .returned (.int .i64 q) ∧ ∃ n, w' = w.drewN n := by
  obtain ⟨An, cn, Af, cf, h, _⟩ := a
  exact lenI h q hq
theorem pm_room {r t p : Nat} (a : Pm w B N P M lim ns fs r t p) (k : Int) (b : Bool) (hb : decide (k ≤ (lim : Int) - ((ns.length - fs.length : Nat) : Int)) = b) :
    Calls Try.prog 13 #[.pointer (some ⟨P, 0, none⟩), .int .i64 k] w fun e w' => e = .returned (.bool b) ∧ ∃ n, w' = w.drewN n := by
  obtain ⟨An, cn, Af, cf, h, _⟩ := a
  subst hb
  exact p_room w B P M lim cn cf An Af ns fs h k
theorem pm_at {r t p : Nat} (a : Pm w B N P M lim ns fs r t p) (i : Int) (k : Nat) (hi : i = (k : Int)) (hk : k < ns.length) (ht : ns[k].2 = true) (v : Int) (hv : v = (ns[k].1 : Int)) (hr : r < 1000000) (ht2 : t < 1000000) :
    Calls Try.prog 20 #[.pointer (some ⟨P, 0, none⟩), .int .i64 i] w fun e w' => e = .returned (.tuple #[.int .u64 v, .bool true]) ∧ Pm w' B N P M lim ns fs (r + 1) (t + 1) (max p (t + 1)) ∧ Below B w w' := by
  obtain ⟨An, cn, Af, cf, h, h1, h2, h3, h4, h5, h6⟩ := a
  subst hi hv
  refine (p_at_yes w B P M lim cn cf An Af ns fs h k hk ht r 0 0 t p h2 hr ht2).mono ?_
  rintro e w' ⟨rfl, hM, hG⟩
  have hb : ButS w w' (· = M) := ButS.of_grown hG (fun j e => by cases e; rfl)
  refine ⟨rfl, ⟨An, cn, Af, cf, h.but hb (fun j hj e => by subst e; rcases h1 j hj with h | h <;> omega), h1, hM, h3, h4, Nat.le_trans h5 hG.size, h6⟩, hb.below (by omega) (fun j e => by subst e; exact h6)⟩
theorem pm_new (w : World) (lim : Nat) (l : Int) (hl : l = (lim : Int)) (hlim : lim ≤ 1048576) :
    Calls Try.prog 9 #[.pointer none, .int .i64 l] w fun e w' => ∃ P M, e = .returned (.tuple #[.pointer (some ⟨P, 0, none⟩), .int .i64 0]) ∧ Pm w' w.heap.size w'.heap.size P M lim [] [] 0 0 0 ∧ Below w.heap.size w w' := by
  refine (new_nilI w w.heap.size lim l hl hlim (Nat.le_refl _)).mono ?_
  rintro e w' ⟨P, M, rfl, h1, h2, h3, h4, h5, h6⟩
  refine ⟨P, M, rfl, ⟨none, 0, none, 0, h1, ?_, h2, h3, h2.lt, Nat.le_refl _, h5⟩, h6⟩
  rintro j (rfl | hj | hj)
  · exact .inl rfl
  · simp at hj
  · simp at hj
end
set_option maxRecDepth 100000 in
set_option maxHeartbeats 4000000 in
theorem law_full (q : Nat) (hq : q < 256) (at_ : Int) (v : Nat) (w : World) :
    Calls Try.prog 4 #[.int .u8 (q : Int), .int .i64 at_, .int .u64 (v : Int)] w fun e w' => e = .returned (.bool true) ∧ Below w.heap.size w w' := by
  have e1 : (q : Int) % 20 = ((q % 20 : Nat) : Int) := by omega
  have e2 : (q : Int).tmod 20 = ((q % 20 : Nat) : Int) := by rw [Int.tmod_eq_emod_of_nonneg (by omega)]; omega
  have hm : q % 20 < 20 := Nat.mod_lt _ (by decide)
  generalize q % 20 = m at *
  have x1 : IntKind.u8.wrap (m : Int) = (m : Int) := by simp [IntKind.wrap, IntKind.signed, IntKind.bits]; omega
  have x2 : IntKind.i64.wrap (m : Int) = (m : Int) := IntWalk.i64_in _ (by omega)
  have x3 : IntKind.i64.wrap (1 + (m : Int)) = 1 + (m : Int) := IntWalk.i64_in _ (by omega)
  have x4 : IntKind.i64.wrap (1 + (m : Int) - 1) = (m : Int) := by rw [IntWalk.i64_in _ (by omega)]; omega
  go_enter Try.func4, Try.ntmps4
  go_wp2_with (go_at_call 6; (with_reducible refine (awake_any _).mono ?_); rintro e w1 ⟨rfl, hb1⟩; have hB1 := Lib.hid hb1; clear hb1)
  go_wp2_with (go_at_call 9; (with_reducible refine (pm_new _ (m + 1) _ (by omega) (by omega)).mono ?_); rintro e w2 ⟨P, M, rfl, hp, hb⟩; have hP2 := Lib.hid hp; clear hp; have hB2 := Lib.hid hb; clear hb)
  go_loopw [39] (fun u wr => ∃ k : Nat, k ≤ m + 1 ∧ u = .int .i64 k ∧ Hid (Pm wr w1.heap.size w2.heap.size P M (m + 1) (upto k) [] 0 0 0) ∧ Hid (Below w1.heap.size w1 wr)) (fun u _ => m + 1 - (intOf u).toNat)
  case atStart => exact ⟨0, by omega, rfl, hP2.out, hB2.out⟩
  case round =>
    obtain ⟨k, hk, rfl, hP, hB⟩ := hrel
    by_cases hlt : k < m + 1
    · have hT : decide ((k : Int) < 1 + (m : Int)) = true := decide_eq_true (by omega)
      have wk : IntKind.u64.wrap (k : Int) = (k : Int) := by simp [IntKind.wrap, IntKind.signed, IntKind.bits]; omega
      have hal := fun r hr => Lib.hid (pm_alloc_new hP.out (k : Int) k rfl r hr (by rw [upto_len]; exact hlt))
      have hul := Lib.hid (upto_succ k)
      go_wp2_with (go_at_call 18; (with_reducible refine (hal (k : Int) (by rw [upto_len])).out.mono ?_); rintro e w3 ⟨rfl, hp, hb⟩; have hP3 := Lib.hid hp; clear hp; have hB3 := Lib.hid hb; clear hb)
      go_roundw
      case rel => exact ⟨k + 1, by omega, by go_num, by rw [hul.out]; exact hP3.out, hB.out.trans hB3.out⟩
      case measure => simp [intOf]; omega
    · obtain rfl : k = m + 1 := by omega
      have hT : decide (((m + 1 : Nat) : Int) < 1 + (m : Int)) = false := decide_eq_false (by omega)
      have hT2 : decide ((m : Int) + 1 < 1 + (m : Int)) = false := decide_eq_false (by omega)
      have hn := upto_len (m + 1)
      have hat : ∀ i, i < m + 1 → ∃ h : i < (upto (m + 1)).length, (upto (m + 1))[i] = (i, true) := fun i hi => ⟨by rw [hn]; exact hi, by simp [upto]⟩
      obtain ⟨i, hi⟩ : ∃ i : Nat, max (min at_ (m : Int)) 0 = (i : Int) := ⟨(max (min at_ (m : Int)) 0).toNat, by omega⟩
      have him : i < m + 1 := by omega
      have hiH := Lib.hid hi
      clear hi
      obtain ⟨hil, hiv⟩ := hat i him
      have hclamp := fun w0 => Lib.hid (ref_clamp at_ (m : Int) w0)
      have hfull := fun w0 (a : Pm w0 w1.heap.size w2.heap.size P M (m + 1) (upto (m + 1)) [] 0 0 0) => Lib.hid (pm_alloc_full a v (by rw [hn]; simp))
      have hlen := fun w0 (a : Pm w0 w1.heap.size w2.heap.size P M (m + 1) (upto (m + 1)) [] 0 0 0) => Lib.hid (pm_len a (1 + (m : Int)) (by rw [hn]; simp; omega))
      have hr1 := fun w0 (a : Pm w0 w1.heap.size w2.heap.size P M (m + 1) (upto (m + 1)) [] 0 0 0) => Lib.hid (pm_room a 1 false (by rw [hn]; simp))
      have hr0 := fun w0 (a : Pm w0 w1.heap.size w2.heap.size P M (m + 1) (upto (m + 1)) [] 0 0 0) => Lib.hid (pm_room a 0 true (by rw [hn]; simp))
      have hfree := fun w0 (a : Pm w0 w1.heap.size w2.heap.size P M (m + 1) (upto (m + 1)) [] 0 0 0) => Lib.hid (pm_free a (max (min at_ (m : Int)) 0) i hiH.out hil (by rw [hiv]) (by rw [hn]; simp))
      have hset : ((upto (m + 1)).set i (0, false)).set i (v, true) = (upto (m + 1)).set i (v, true) := by simp
      have hpop := fun w0 (a : Pm w0 w1.heap.size w2.heap.size P M (m + 1) ((upto (m + 1)).set i (0, false)) ([] ++ [i]) 0 0 0) => Lib.hid (pm_alloc_pop a [] i rfl (v : Int) v rfl (max (min at_ (m : Int)) 0) hiH.out (by rw [List.length_set, hn]; simp))
      rw [hset] at hpop
      have hil2 : i < ((upto (m + 1)).set i (v, true)).length := by rw [List.length_set]; exact hil
      have hget := fun w0 (a : Pm w0 w1.heap.size w2.heap.size P M (m + 1) ((upto (m + 1)).set i (v, true)) [] 0 0 0) => Lib.hid (pm_at a (max (min at_ (m : Int)) 0) i hiH.out hil2 (by simp) (v : Int) (by simp) (by omega) (by omega))
      have hno1 := fun w0 (a : Pm w0 w1.heap.size w2.heap.size P M (m + 1) ((upto (m + 1)).set i (v, true)) [] 1 1 1) => Lib.hid (pm_free_no a (1 + (m : Int)) (by
        unfold lv
        rw [List.getElem?_eq_none (by rw [List.length_set, hn]; omega)]
        simp))
      have hno2 := fun w0 (a : Pm w0 w1.heap.size w2.heap.size P M (m + 1) ((upto (m + 1)).set i (v, true)) [] 1 1 1) => Lib.hid (pm_free_no a (-1) (by unfold lv; simp))
      clear hat hn hil hiv hil2 hset
      generalize max (min at_ (m : Int)) 0 = ii at *
      go_wp2_with (first
        | (go_at_call 18; (with_reducible refine (hfull _ hP.out).out.mono ?_); rintro e w3 ⟨rfl, N3, rfl⟩; clear hfull)
        | (go_at_call 11; (with_reducible refine (hlen _ (hP.out.drew _)).out.mono ?_); rintro e w4 ⟨rfl, N4, rfl⟩; clear hlen)
        | (go_at_call 13; (with_reducible refine (hr1 _ (hP.out.drew _)).out.mono ?_); rintro e w5 ⟨rfl, N5, rfl⟩; clear hr1)
        | (go_at_call 13; (with_reducible refine (hr0 _ (hP.out.drew _)).out.mono ?_); rintro e w6 ⟨rfl, N6, rfl⟩; clear hr0)
        | (go_at_call 7; (with_reducible refine (hclamp _).out.mono ?_); rintro e w7 ⟨rfl, rfl⟩)
        | (go_at_call 19; (with_reducible refine (hfree _ (hP.out.drew _)).out.mono ?_); rintro e w8 ⟨rfl, hp, hb⟩; clear hfree; have hP8 := Lib.hid hp; clear hp; have hB8 := Lib.hid hb; clear hb)
        | (go_at_call 18; (with_reducible refine (hpop _ hP8.out).out.mono ?_); rintro e w9 ⟨rfl, hp, hb⟩; clear hpop; have hP9 := Lib.hid hp; clear hp; have hB9 := Lib.hid hb; clear hb)
        | (go_at_call 20; (with_reducible refine (hget _ hP9.out).out.mono ?_); rintro e w10 ⟨rfl, hp, hb⟩; clear hget; have hP10 := Lib.hid hp; clear hp; have hB10 := Lib.hid hb; clear hb)
        | (go_at_call 19; (with_reducible refine (hno1 _ hP10.out).out.mono ?_); rintro e w11 ⟨rfl, rfl⟩; clear hno1)
        | (go_at_call 19; (with_reducible refine (hno2 _ hP10.out).out.mono ?_); rintro e w12 ⟨rfl, rfl⟩; clear hno2))
      go_ret
      have hz := hB1.out.size
      refine ⟨rfl, hB1.out.trans ((hB.out.mono hz).trans (Below.trans (⟨rfl, rfl, rfl, Nat.le_refl _, fun _ _ => rfl⟩ : Below w.heap.size wr (wr.drewN (N3 + N4 + N5 + N6))) ((hB8.out.mono hz).trans ((hB9.out.mono hz).trans (hB10.out.mono hz)))))⟩
end Go.Proofs.Ytdpokgkpmdendaa
