
/- The law's own function awake, walked with the trie's own methods; the law TrieNil; the texts walked. -/
import Derived.Test.YtndielncleohlaaDoorU16
namespace Go.Proofs.YtndielncleohlaaDoor
set_option maxRecDepth 40000
open Go.RowKit
/-- A trie that was made behind a world, and the table of bits as it lay. -/
def TA (w : World) (P : Nat) (xs : List Nat) (lim : Nat) (w' : World) : Prop :=
  ∃ Q m0 tk An cn Af cf ns fs root pl, TW w' P Q m0 lim tk An cn Af cf ns fs root pl xs ∧ Below w.heap.size w w' ∧ ∀ j, TBk P Q m0 An Af ns j → w.heap.size ≤ j
theorem TA.low {w w1 : World} {P lim : Nat} {xs : List Nat} (h : TA w P xs lim w1) : Below w.heap.size w w1 := by
  obtain ⟨Q, m0, tk, An, cn, Af, cf, ns, fs, root, pl, _, hb, _⟩ := h
  exact hb
theorem ta_new (w : World) (lim : Nat) (hl : lim ≤ 1048576) : Calls Tryd.prog 10 #[.int .i64 (lim : Int)] w fun e w' => ∃ P, e = .returned (.tuple #[.pointer (some ⟨P, 0, none⟩), .int .i64 0]) ∧ TA w P [] lim w' := by
  refine (t_new w lim hl).mono ?_
  rintro e w' ⟨P, Q, m0, rfl, ⟨An, cn, Af, cf, ns, fs, root, pl, hT, _, hO⟩, hb⟩
  exact ⟨P, rfl, Q, m0, _, An, cn, Af, cf, ns, fs, root, pl, hT, hb, fun j hj => (hO j hj).elim (fun h => h.elim) (fun h => h)⟩
theorem ta_insert {w w1 : World} {P lim : Nat} {xs : List Nat} (h : TA w P xs lim w1) (k : Nat) (hk : k < 18446744073709551616) : Calls Tryd.prog 23 #[.pointer (some ⟨P, 0, none⟩), .int .u64 (k : Int)] w1 fun e w' => e = .returned (.int .i64 ((K.inE K.trie xs lim k : Nat) : Int)) ∧ TA w P (K.inL K.trie xs lim k) lim w' := by
  obtain ⟨Q, m0, tk, An, cn, Af, cf, ns, fs, root, pl, hT, hb, hO⟩ := h
  refine (t_insert w1 P Q m0 lim tk root cn cf An Af ns fs xs pl hT k hk).mono ?_
  rintro e w' ⟨rfl, tk', _, An', cn', Af', cf', ns', fs', root', pl', hT', hC, hO'⟩
  refine ⟨rfl, Q, m0, tk', An', cn', Af', cf', ns', fs', root', pl', hT', hb.trans (hC.below hb.size hO), fun j hj => ?_⟩
  rcases hO' j hj with h1 | h1
  · exact hO j h1
  · exact Nat.le_trans hb.size h1
theorem ta_look {w w1 w' : World} {P lim Q m0 tk root cn cf : Nat} {An Af : Option Addr} {ns : List (Nd × Bool)} {fs xs : List Nat} {pl : Nat → Nat → Nat} (hT : TW w1 P Q m0 lim tk An cn Af cf ns fs root pl xs) (hb : Below w.heap.size w w1) (hO : ∀ j, TBk P Q m0 An Af ns j → w.heap.size ≤ j) {most : Nat} {v : Value} {e : Ending} (h : LookP w1 m0 most v e w') : e = .returned v ∧ TA w P xs lim w' := by
  obtain ⟨rfl, tk', _, hx, hC⟩ := h
  exact ⟨rfl, Q, m0, tk', An, cn, Af, cf, ns, fs, root, pl, hT.met hC hx, hb.trans (hC.below hb.size (fun j hj => by subst hj; exact hO _ (.inr (.inl rfl)))), hO⟩
theorem ta_next {w w1 : World} {P lim : Nat} {xs : List Nat} (hTab : Tab w) (h : TA w P xs lim w1) (k : Nat) (hk : k < 18446744073709551616) : Calls Tryd.prog 29 #[.pointer (some ⟨P, 0, none⟩), .int .u64 (k : Int)] w1 fun e w' => e = .returned (.tuple #[.int .u64 ((K.nx xs k : Nat) : Int), .bool (K.nxb xs k)]) ∧ TA w P xs lim w' := by
  obtain ⟨Q, m0, tk, An, cn, Af, cf, ns, fs, root, pl, hT, hb, hO⟩ := h
  exact (t_next w1 P Q m0 lim tk root cn cf An Af ns fs xs pl hT (hTab.below hb hTab.pos) k hk).mono fun e w' h => ta_look hT hb hO h
theorem ta_prev {w w1 : World} {P lim : Nat} {xs : List Nat} (hTab : Tab w) (h : TA w P xs lim w1) (k : Nat) (hk : k < 18446744073709551616) : Calls Tryd.prog 30 #[.pointer (some ⟨P, 0, none⟩), .int .u64 (k : Int)] w1 fun e w' => e = .returned (.tuple #[.int .u64 ((K.pv xs k : Nat) : Int), .bool (K.pvb xs k)]) ∧ TA w P xs lim w' := by
  obtain ⟨Q, m0, tk, An, cn, Af, cf, ns, fs, root, pl, hT, hb, hO⟩ := h
  exact (t_prev w1 P Q m0 lim tk root cn cf An Af ns fs xs pl hT (hTab.below hb hTab.pos) k hk).mono fun e w' h => ta_look hT hb hO h
theorem ta_len {w w1 : World} {P lim : Nat} {xs : List Nat} (h : TA w P xs lim w1) : Calls Tryd.prog 32 #[.pointer (some ⟨P, 0, none⟩)] w1 fun e w' => e = .returned (.int .i64 ((xs.length : Nat) : Int)) ∧ Below w.heap.size w w' := by
  obtain ⟨Q, m0, tk, An, cn, Af, cf, ns, fs, root, pl, hT, hb, hO⟩ := h
  exact (t_len w1 P Q m0 lim tk root cn cf An Af ns fs xs pl hT).mono fun e w' ⟨h1, h2⟩ => ⟨h1, hb.trans (h2.mono hb.size)⟩
set_option maxHeartbeats 1000000 in
theorem awake_any (w : World) (hTab : Tab w) :
    Calls Tryd.prog 9 #[] w fun e w' => e = .returned (.bool true) ∧ Below w.heap.size w w' := by
  have g5 : K.trie [5] ≤ 4000 := by decide
  have g9 : K.trie [5, 9] ≤ 4000 := by decide
  have hnew : Hid (Calls Tryd.prog 10 #[.int .i64 4000] w fun e w' => ∃ P, e = .returned (.tuple #[.pointer (some ⟨P, 0, none⟩), .int .i64 0]) ∧ TA w P [] 4000 w') := Lib.hid (ta_new w 4000 (by omega))
  have hi5 : Hid (∀ W P, TA w P [] 4000 W → Calls Tryd.prog 23 #[.pointer (some ⟨P, 0, none⟩), .int .u64 5] W fun e w' => e = .returned (.int .i64 0) ∧ TA w P [5] 4000 w') := Lib.hid (fun W P h => by
    have := ta_insert h 5 (by omega)
    have e1 : K.inE K.trie [] 4000 5 = 0 := by unfold K.inE; rw [show K.fo [] 5 = false from rfl, show K.add [] 5 = [5] from rfl, if_neg (by simp), if_neg (by omega)]
    have e2 : K.inL K.trie [] 4000 5 = [5] := by unfold K.inL; rw [show K.fo [] 5 = false from rfl, show K.add [] 5 = [5] from rfl, if_neg (by simp), if_neg (by omega)]
    rw [e1, e2] at this
    exact this)
  have hi9 : Hid (∀ W P, TA w P [5] 4000 W → Calls Tryd.prog 23 #[.pointer (some ⟨P, 0, none⟩), .int .u64 9] W fun e w' => e = .returned (.int .i64 0) ∧ TA w P [5, 9] 4000 w') := Lib.hid (fun W P h => by
    have := ta_insert h 9 (by omega)
    have e1 : K.inE K.trie [5] 4000 9 = 0 := by unfold K.inE; rw [show K.fo [5] 9 = false by decide, show K.add [5] 9 = [5, 9] by decide, if_neg (by simp), if_neg (by omega)]
    have e2 : K.inL K.trie [5] 4000 9 = [5, 9] := by unfold K.inL; rw [show K.fo [5] 9 = false by decide, show K.add [5] 9 = [5, 9] by decide, if_neg (by simp), if_neg (by omega)]
    rw [e1, e2] at this
    exact this)
  have hi99 : Hid (∀ W P, TA w P [5, 9] 4000 W → Calls Tryd.prog 23 #[.pointer (some ⟨P, 0, none⟩), .int .u64 9] W fun e w' => e = .returned (.int .i64 4) ∧ TA w P [5, 9] 4000 w') := Lib.hid (fun W P h => by
    have := ta_insert h 9 (by omega)
    have e1 : K.inE K.trie [5, 9] 4000 9 = 4 := by unfold K.inE; rw [show K.fo [5, 9] 9 = true by decide, if_pos rfl]
    have e2 : K.inL K.trie [5, 9] 4000 9 = [5, 9] := by unfold K.inL; rw [show K.fo [5, 9] 9 = true by decide, if_pos rfl]
    rw [e1, e2] at this
    exact this)
  have hnx : Hid (∀ W P, TA w P [5, 9] 4000 W → Calls Tryd.prog 29 #[.pointer (some ⟨P, 0, none⟩), .int .u64 6] W fun e w' => e = .returned (.tuple #[.int .u64 9, .bool true]) ∧ TA w P [5, 9] 4000 w') := Lib.hid (fun W P h => by
    have := ta_next hTab h 6 (by omega)
    rw [show K.nx [5, 9] 6 = 9 by decide, show K.nxb [5, 9] 6 = true by decide] at this
    exact this)
  have hpv : Hid (∀ W P, TA w P [5, 9] 4000 W → Calls Tryd.prog 30 #[.pointer (some ⟨P, 0, none⟩), .int .u64 8] W fun e w' => e = .returned (.tuple #[.int .u64 5, .bool true]) ∧ TA w P [5, 9] 4000 w') := Lib.hid (fun W P h => by
    have := ta_prev hTab h 8 (by omega)
    rw [show K.pv [5, 9] 8 = 5 by decide, show K.pvb [5, 9] 8 = true by decide] at this
    exact this)
  have hln : Hid (∀ W P, TA w P [5, 9] 4000 W → Calls Tryd.prog 32 #[.pointer (some ⟨P, 0, none⟩)] W fun e w' => e = .returned (.int .i64 2) ∧ Below w.heap.size w w') := Lib.hid (fun W P h => ta_len h)
  clear hTab g5 g9
  go_enter Tryd.func9, Tryd.ntmps9
  go_wp2_with (first
    | (go_at_call 10; (with_reducible refine hnew.out.mono ?_); rintro e w1 ⟨P, rfl, h1⟩; have H1 := Lib.hid h1; clear h1)
    | (go_at_call 23; (with_reducible refine (hi5.out w1 P H1.out).mono ?_); rintro e w2 ⟨rfl, h2⟩; have H2 := Lib.hid h2; clear h2)
    | (go_at_call 23; (with_reducible refine (hi9.out w2 P H2.out).mono ?_); rintro e w3 ⟨rfl, h3⟩; have H3 := Lib.hid h3; clear h3)
    | (go_at_call 23; (with_reducible refine (hi99.out w3 P H3.out).mono ?_); rintro e w4 ⟨rfl, h4⟩; have H4 := Lib.hid h4; clear h4)
    | (go_at_call 29; (with_reducible refine (hnx.out w4 P H4.out).mono ?_); rintro e w5 ⟨rfl, h5'⟩; have H5 := Lib.hid h5'; clear h5')
    | (go_at_call 30; (with_reducible refine (hpv.out w5 P H5.out).mono ?_); rintro e w6 ⟨rfl, h6⟩; have H6 := Lib.hid h6; clear h6)
    | (go_at_call 32; (with_reducible refine (hln.out w6 P H6.out).mono ?_); rintro e w7 ⟨rfl, h7⟩; have H7 := Lib.hid h7; clear h7))
  go_ret
  exact ⟨rfl, H7.out⟩
end Go.Proofs.YtndielncleohlaaDoor
