/- A law's own functions 'do' whole, 'same' and 'awake' (layers 11, 12, 14); the texts walked. A law's own function 'awake' (layer 11); the text walked. The law TriePlays (layer 11): the acts as they read; the steps that a look may take; a round on plain lists. The law TriePlays (layer 11) on what the methods must keep alone: a round; the text walked. -/
import Derived.Deep.RegionHeld3
import Derived.Test.YtiinefdpaiincaaMxK17x
section
namespace Go.Proofs.Ytiinefdpaiincaa
set_option maxRecDepth 4000
open Go.RowKit
namespace K
def loE (us : List Nat → Nat) (xs : List Nat) (lim d k : Nat) : Nat := if d % 9 ≤ 1 then inE us xs lim k else if d % 9 = 2 then (if fo xs k then 0 else 3) else 0
def loL (us : List Nat → Nat) (xs : List Nat) (lim d k : Nat) : List Nat := if d % 9 ≤ 1 then inL us xs lim k else if d % 9 = 2 then drop xs k else if d % 9 = 8 then [] else xs
def loS (sh sn sm d : Nat) : Nat := if d % 9 = 3 then sh else if d % 9 = 4 then sn else if d % 9 = 5 then sn else if d % 9 = 6 then sm else if d % 9 = 7 then sm else 1073741824
end K
/-- What else the methods must keep: the ones that change nothing. -/
structure TC2 (us : List Nat → Nat) (sh sn sm : Nat) (T : World → Nat → List Nat → Nat → Nat → (Nat → Prop) → Prop) : Prop extends TC us sh sn sm T where
  new : ∀ (w : World), ∀ (sd : Nat), sd < 18446744073709551616 → ∀ (n : Nat), n ≤ 500000 → Calls Try.prog 8 #[.int .u64 (sd : Int), .int .i64 (n : Int)] w fun e w' => ∃ P tk O, e = .returned (.tuple #[.pointer (some ⟨P, 0, none⟩), .int .i64 0]) ∧ T w' P [] n tk O ∧ Below w.heap.size w w' ∧ ∀ j, O j → w.heap.size ≤ j
  len : ∀ (w : World) (P : Nat) (xs : List Nat) (lim tk : Nat) (O : Nat → Prop), T w P xs lim tk O → Calls Try.prog 30 #[.pointer (some ⟨P, 0, none⟩)] w fun e w' => e = .returned (.int .i64 ((xs.length : Nat) : Int)) ∧ Below w.heap.size w w'
  used : ∀ (w : World) (P : Nat) (xs : List Nat) (lim tk : Nat) (O : Nat → Prop), T w P xs lim tk O → Calls Try.prog 12 #[.pointer (some ⟨P, 0, none⟩)] w fun e w' => e = .returned (.int .i64 ((us xs : Nat) : Int)) ∧ Below w.heap.size w w'
  limit : ∀ (w : World) (P : Nat) (xs : List Nat) (lim tk : Nat) (O : Nat → Prop), T w P xs lim tk O → Calls Try.prog 18 #[.pointer (some ⟨P, 0, none⟩)] w fun e w' => e = .returned (.int .i64 (lim : Int)) ∧ Below w.heap.size w w'
  all : ∀ (w : World) (P : Nat) (xs : List Nat) (lim tk : Nat) (O : Nat → Prop), T w P xs lim tk O → ∀ m : Nat, 0 < m → m ≤ 100000 → Calls Try.prog 17 #[.pointer (some ⟨P, 0, none⟩), .int .i64 (m : Int)] w fun e w' => ∃ v, e = .returned v ∧ KX w' v (xs.take m) ∧ Below w.heap.size w w'
section
variable {us : List Nat → Nat} {sh sn sm : Nat} {T : World → Nat → List Nat → Nat → Nat → (Nat → Prop) → Prop}
theorem TC.below (h : TC us sh sn sm T) {w w' : World} {P : Nat} {xs : List Nat} {lim tk : Nat} {O : Nat → Prop} (hT : T w P xs lim tk O) (hb : Below w.heap.size w w') : T w' P xs lim tk O :=
  h.frame hT (K.Chg.of_below hb)
theorem law_do (hTC : TC us sh sn sm T) (w : World) (P : Nat) (xs : List Nat) (lim tk : Nat) (O : Nat → Prop) (hT : T w P xs lim tk O) (d k : Nat) (hd : d < 256) (hk2 : k < 18446744073709551616) :
    Calls Try.prog 10 #[.pointer (some ⟨P, 0, none⟩), kactv d k] w (TOp T w P O (kansv (K.loE us xs lim d k) (K.doK xs d k) (K.doY xs d k)) (K.loL us xs lim d k) lim (K.loS sh sn sm d)) := by
  have h9 : d % 9 < 9 := Nat.mod_lt _ (by decide)
  unfold K.loE K.doK K.doY K.loL K.loS
  rcases (by omega : d % 9 = 0 ∨ d % 9 = 1 ∨ d % 9 = 2 ∨ d % 9 = 3 ∨ d % 9 = 4 ∨ d % 9 = 5 ∨ d % 9 = 6 ∨ d % 9 = 7 ∨ d % 9 = 8) with e | e | e | e | e | e | e | e | e <;> rw [e]
  · simpa using law_do_insert0 hTC w P xs lim tk O hT d k hd e hk2
  · simpa using law_do_insert1 hTC w P xs lim tk O hT d k hd e hk2
  · simpa using law_do_delete hTC w P xs lim tk O hT d k hd e hk2
  · simpa using law_do_has hTC w P xs lim tk O hT d k hd e hk2
  · simpa using law_do_next hTC w P xs lim tk O hT d k hd e hk2
  · simpa using law_do_prev hTC w P xs lim tk O hT d k hd e hk2
  · simpa using law_do_min hTC w P xs lim tk O hT d k hd e hk2
  · simpa using law_do_max hTC w P xs lim tk O hT d k hd e hk2
  · simpa using law_do_clear hTC w P xs lim tk O hT d k hd e hk2
theorem kx_rw {w : World} {v : Value} {xs : List Nat} (h : KX w v xs) : ∃ A c, v = .slice A xs.length c ∧ Rw w w.heap.size A xs := by
  obtain ⟨A, c, h1, h2, _⟩ := Rw.of_own (h : w.ownsRow 0 22 1 v xs.length (wv xs))
  exact ⟨A, c, h1, h2⟩
set_option maxHeartbeats 1000000 in
theorem law_same (hTC : TC2 us sh sn sm T) (w : World) (P : Nat) (xs : List Nat) (lim tk : Nat) (O : Nat → Prop) (hT : T w P xs lim tk O) (hl : xs.length ≤ 100000) (v : Value) (ys : List Nat) (hK : KX w v ys) (hy : ys.length ≤ 1000000) :
    Calls Try.prog 15 #[.pointer (some ⟨P, 0, none⟩), v] w fun e w' => e = .returned (.bool (decide (xs = ys))) ∧ Below w.heap.size w w' := by
  have hall := hTC.all w P xs lim tk O hT 100000 (by omega) (by omega)
  rw [List.take_of_length_le hl] at hall
  have HALL : Hid (Calls Try.prog 17 #[.pointer (some ⟨P, 0, none⟩), .int .i64 100000] w fun e w' => ∃ v, e = .returned v ∧ KX w' v xs ∧ Below w.heap.size w w') := hall
  have hlen := Lib.hid (fun (W : World) (hW : Below w.heap.size w W) => hTC.len W P xs lim tk O (hTC.toTC.below hT hW))
  have hsk := Lib.hid (fun (W : World) (A A' : Option Addr) (c c' : Nat) (h1 : Rw W W.heap.size A xs) (h2 : Rw W W.heap.size A' ys) => ref_samekeys A A' c c' xs ys W _ _ h1 h2 (by omega) (by omega))
  have hKK := Lib.hid (fun (W : World) (hW : Below w.heap.size w W) => hK.below hW)
  obtain ⟨A', c', rfl, _⟩ := kx_rw hK
  have hRW := Lib.hid (fun (W : World) (hW : Below w.heap.size w W) => show Rw W W.heap.size A' ys from by
    obtain ⟨A2, c2, e, h⟩ := kx_rw (hKK.out W hW)
    injection e with e1 _ _
    exact e1 ▸ h)
  clear hall hT hK hKK
  by_cases hxy : xs = ys
  · have hd : decide (xs = ys) = true := decide_eq_true hxy
    rw [hd] at hsk ⊢
    have hll : ((xs.length : Int) == (ys.length : Int)) = true := by rw [hxy]; simp
    have hll2 : (xs.length : Int) = (ys.length : Int) := by rw [hxy]
    clear hxy hd
    go_enter Try.func15, Try.ntmps15
    go_wp2_with (first
      | (go_at_call 17; (with_reducible refine HALL.out.mono ?_); rintro e w1 ⟨v1, rfl, hk1, hb1⟩; have HB1 := Lib.hid hb1; obtain ⟨A1, c1, rfl, hr1⟩ := kx_rw hk1; have HR1 := Lib.hid hr1; clear hk1 hb1 hr1)
      | (go_at_call 16; (with_reducible refine (hsk.out w1 A1 A' c1 c' HR1.out (hRW.out w1 HB1.out)).mono ?_); rintro e w2 ⟨rfl, n2, rfl⟩; have HB2 : Hid (Below w.heap.size w (w1.drewN n2)) := below_drewN HB1.out n2)
      | (go_at_call 30; (with_reducible refine (hlen.out _ HB2.out).mono ?_); rintro e w3 ⟨rfl, hb3⟩; have HB3 := Lib.hid hb3; clear hb3))
    go_ret
    exact ⟨rfl, HB2.out.trans (HB3.out.mono HB2.out.size)⟩
  · have hd : decide (xs = ys) = false := decide_eq_false hxy
    rw [hd] at hsk ⊢
    clear hxy hd
    go_enter Try.func15, Try.ntmps15
    go_wp2_with (first
      | (go_at_call 17; (with_reducible refine HALL.out.mono ?_); rintro e w1 ⟨v1, rfl, hk1, hb1⟩; have HB1 := Lib.hid hb1; obtain ⟨A1, c1, rfl, hr1⟩ := kx_rw hk1; have HR1 := Lib.hid hr1; clear hk1 hb1 hr1)
      | (go_at_call 16; (with_reducible refine (hsk.out w1 A1 A' c1 c' HR1.out (hRW.out w1 HB1.out)).mono ?_); rintro e w2 ⟨rfl, n2, rfl⟩; have HB2 : Hid (Below w.heap.size w (w1.drewN n2)) := below_drewN HB1.out n2))
    go_ret
    exact ⟨rfl, HB2.out⟩
end
end Go.Proofs.Ytiinefdpaiincaa
end
section
namespace Go.Proofs.Ytiinefdpaiincaa
set_option maxRecDepth 4000
open Go.RowKit
section
variable {us : List Nat → Nat} {sh sn sm : Nat} {T : World → Nat → List Nat → Nat → Nat → (Nat → Prop) → Prop}
/-- What is left of a call of a method, seen from a world before it. -/
def TAt (T : World → Nat → List Nat → Nat → Nat → (Nat → Prop) → Prop) (w : World) (P : Nat) (xs : List Nat) (lim : Nat) (w' : World) : Prop :=
  ∃ tk O, T w' P xs lim tk O ∧ Below w.heap.size w w' ∧ ∀ j, O j → w.heap.size ≤ j
theorem TAt.op {w w1 : World} {P : Nat} {xs : List Nat} {lim : Nat} (h : TAt T w P xs lim w1) {f : FuncId} {args : Array Value} {v : Value} {ys : List Nat} {m : Nat}
    (hc : ∀ tk O, T w1 P xs lim tk O → Calls Try.prog f args w1 (TOp T w1 P O v ys lim m)) : Calls Try.prog f args w1 fun e w' => e = .returned v ∧ TAt T w P ys lim w' := by
  obtain ⟨tk, O, hT, hb, hO⟩ := h
  refine (hc tk O hT).mono ?_
  rintro e w' ⟨tk', O', rfl, hT', _, hC, hO'⟩
  refine ⟨rfl, tk', O', hT', hb.trans (hC.below hb.size hO), fun j hj => ?_⟩
  rcases hO' j hj with h1 | h1
  · exact hO j h1
  · exact Nat.le_trans hb.size h1
theorem TAt.below (hTC : TC us sh sn sm T) {w w1 w2 : World} {P : Nat} {xs : List Nat} {lim : Nat} (h : TAt T w P xs lim w1) (hb : Below w1.heap.size w1 w2) : TAt T w P xs lim w2 := by
  obtain ⟨tk, O, hT, hb1, hO⟩ := h
  exact ⟨tk, O, hTC.below hT hb, hb1.trans (hb.mono hb1.size), hO⟩
theorem TAt.low {w w1 : World} {P : Nat} {xs : List Nat} {lim : Nat} (h : TAt T w P xs lim w1) : Below w.heap.size w w1 := by
  obtain ⟨tk, O, hT, hb1, hO⟩ := h
  exact hb1
set_option maxHeartbeats 1000000 in
theorem law_awake (hTC : TC2 us sh sn sm T) (h5 : us [5] ≤ 4000) (h9 : us [5, 9] ≤ 4000) (w : World) :
    Calls Try.prog 7 #[] w fun e w' => e = .returned (.bool true) ∧ Below w.heap.size w w' := by
  have hnew : Hid (Calls Try.prog 8 #[.int .u64 1, .int .i64 4000] w fun e w' => ∃ P, e = .returned (.tuple #[.pointer (some ⟨P, 0, none⟩), .int .i64 0]) ∧ TAt T w P [] 4000 w') :=
    (hTC.new w 1 (by decide) 4000 (by omega)).mono fun e w' ⟨P, tk, O, h1, h2, h3, h4⟩ => ⟨P, h1, tk, O, h2, h3, h4⟩
  have hi5 : Hid (∀ W P, TAt T w P [] 4000 W → Calls Try.prog 21 #[.pointer (some ⟨P, 0, none⟩), .int .u64 5] W fun e w' => e = .returned (.int .i64 0) ∧ TAt T w P [5] 4000 w') := Lib.hid (fun W P h => by
    have := TAt.op h (fun tk O hT => hTC.insert W P [] 4000 tk O hT 5 (by omega))
    have e1 : K.inE us [] 4000 5 = 0 := by unfold K.inE; rw [show K.fo [] 5 = false from rfl, show K.add [] 5 = [5] from rfl, if_neg (by simp), if_neg (by omega)]
    have e2 : K.inL us [] 4000 5 = [5] := by unfold K.inL; rw [show K.fo [] 5 = false from rfl, show K.add [] 5 = [5] from rfl, if_neg (by simp), if_neg (by omega)]
    rw [e1, e2] at this
    exact this)
  have hi9 : Hid (∀ W P, TAt T w P [5] 4000 W → Calls Try.prog 21 #[.pointer (some ⟨P, 0, none⟩), .int .u64 9] W fun e w' => e = .returned (.int .i64 0) ∧ TAt T w P [5, 9] 4000 w') := Lib.hid (fun W P h => by
    have := TAt.op h (fun tk O hT => hTC.insert W P [5] 4000 tk O hT 9 (by omega))
    have e1 : K.inE us [5] 4000 9 = 0 := by unfold K.inE; rw [show K.fo [5] 9 = false by decide, show K.add [5] 9 = [5, 9] by decide, if_neg (by simp), if_neg (by omega)]
    have e2 : K.inL us [5] 4000 9 = [5, 9] := by unfold K.inL; rw [show K.fo [5] 9 = false by decide, show K.add [5] 9 = [5, 9] by decide, if_neg (by simp), if_neg (by omega)]
    rw [e1, e2] at this
    exact this)
  have hi99 : Hid (∀ W P, TAt T w P [5, 9] 4000 W → Calls Try.prog 21 #[.pointer (some ⟨P, 0, none⟩), .int .u64 9] W fun e w' => e = .returned (.int .i64 4) ∧ TAt T w P [5, 9] 4000 w') := Lib.hid (fun W P h => by
    have := TAt.op h (fun tk O hT => hTC.insert W P [5, 9] 4000 tk O hT 9 (by omega))
    have e1 : K.inE us [5, 9] 4000 9 = 4 := by unfold K.inE; rw [show K.fo [5, 9] 9 = true by decide, if_pos rfl]
    have e2 : K.inL us [5, 9] 4000 9 = [5, 9] := by unfold K.inL; rw [show K.fo [5, 9] 9 = true by decide, if_pos rfl]
    rw [e1, e2] at this
    exact this)
  have hnx : Hid (∀ W P, TAt T w P [5, 9] 4000 W → Calls Try.prog 27 #[.pointer (some ⟨P, 0, none⟩), .int .u64 6] W fun e w' => e = .returned (.tuple #[.int .u64 9, .bool true]) ∧ TAt T w P [5, 9] 4000 w') := Lib.hid (fun W P h => by
    have := TAt.op h (fun tk O hT => hTC.next W P [5, 9] 4000 tk O hT 6 (by omega))
    rw [show K.nx [5, 9] 6 = 9 by decide, show K.nxb [5, 9] 6 = true by decide] at this
    exact this)
  have hpv : Hid (∀ W P, TAt T w P [5, 9] 4000 W → Calls Try.prog 28 #[.pointer (some ⟨P, 0, none⟩), .int .u64 8] W fun e w' => e = .returned (.tuple #[.int .u64 5, .bool true]) ∧ TAt T w P [5, 9] 4000 w') := Lib.hid (fun W P h => by
    have := TAt.op h (fun tk O hT => hTC.prev W P [5, 9] 4000 tk O hT 8 (by omega))
    rw [show K.pv [5, 9] 8 = 5 by decide, show K.pvb [5, 9] 8 = true by decide] at this
    exact this)
  have hln : Hid (∀ W P, TAt T w P [5, 9] 4000 W → Calls Try.prog 30 #[.pointer (some ⟨P, 0, none⟩)] W fun e w' => e = .returned (.int .i64 2) ∧ Below w.heap.size w w') := Lib.hid (fun W P ⟨tk, O, hT, hb, _⟩ =>
    (hTC.len W P [5, 9] 4000 tk O hT).mono fun e w' ⟨h1, h2⟩ => ⟨h1, hb.trans (h2.mono hb.size)⟩)
  clear hTC
  go_enter Try.func7, Try.ntmps7
  go_wp2_with (first
    | (go_at_call 8; (with_reducible refine hnew.out.mono ?_); rintro e w1 ⟨P, rfl, h1⟩; have H1 := Lib.hid h1; clear h1)
    | (go_at_call 21; (with_reducible refine (hi5.out w1 P H1.out).mono ?_); rintro e w2 ⟨rfl, h2⟩; have H2 := Lib.hid h2; clear h2)
    | (go_at_call 21; (with_reducible refine (hi9.out w2 P H2.out).mono ?_); rintro e w3 ⟨rfl, h3⟩; have H3 := Lib.hid h3; clear h3)
    | (go_at_call 21; (with_reducible refine (hi99.out w3 P H3.out).mono ?_); rintro e w4 ⟨rfl, h4⟩; have H4 := Lib.hid h4; clear h4)
    | (go_at_call 27; (with_reducible refine (hnx.out w4 P H4.out).mono ?_); rintro e w5 ⟨rfl, h5'⟩; have H5 := Lib.hid h5'; clear h5')
    | (go_at_call 28; (with_reducible refine (hpv.out w5 P H5.out).mono ?_); rintro e w6 ⟨rfl, h6⟩; have H6 := Lib.hid h6; clear h6)
    | (go_at_call 30; (with_reducible refine (hln.out w6 P H6.out).mono ?_); rintro e w7 ⟨rfl, h7⟩; have H7 := Lib.hid h7; clear h7))
  go_ret
  exact ⟨rfl, H7.out⟩
end
end Go.Proofs.Ytiinefdpaiincaa
end
section
namespace Go.Proofs.Ytiinefdpaiincaa
set_option maxRecDepth 4000
open Go.RowKit
/-- And the meter, that lies ahead in it. -/
structure TC3 (us : List Nat → Nat) (sh sn sm : Nat) (T : World → Nat → List Nat → Nat → Nat → (Nat → Prop) → Prop) : Prop extends TC2 us sh sn sm T where
  taken : ∀ (w : World) (P : Nat) (xs : List Nat) (lim tk : Nat) (O : Nat → Prop), T w P xs lim tk O → ∃ M, w.cell? ⟨P, 0, none⟩ = some (.pointer (some ⟨M, 0, none⟩)) ∧ P < w.heap.size ∧ O P ∧ Calls Try.prog 13 #[.pointer (some ⟨M, 0, none⟩)] w fun e w' => e = .returned (.int .i64 (tk : Int)) ∧ Below w.heap.size w w'
theorem law_steps (w : World) (d : Nat) (hd : d < 256) :
    Calls Try.prog 14 #[.int .u8 (d : Int)] w fun e w' => e = .returned (.int .i64 ((K.loS 1 9 1 d : Nat) : Int)) ∧ w = w' := by
  have h9 : d % 9 < 9 := Nat.mod_lt _ (by decide)
  unfold K.loS
  rcases (by omega : d % 9 = 0 ∨ d % 9 = 1 ∨ d % 9 = 2 ∨ d % 9 = 3 ∨ d % 9 = 4 ∨ d % 9 = 5 ∨ d % 9 = 6 ∨ d % 9 = 7 ∨ d % 9 = 8) with e | e | e | e | e | e | e | e | e
  all_goals
    rw [e]
    obtain ⟨e1, e2⟩ := mod9 d hd _ e
    clear e h9 hd
    go_enter Try.func14, Try.ntmps14
    go_wp2
    go_ret
    exact ⟨rfl, rfl⟩
/-- A slice of acts, as it reads. -/
def Rk (w : World) (B : Nat) (A : Option Addr) (xs : List (Nat × Nat)) : Prop :=
  (∀ x ∈ xs, x.1 < 256 ∧ x.2 < 18446744073709551616) ∧ (xs ≠ [] → ∃ b off, A = some ⟨b, off, none⟩ ∧ b < B ∧ ∀ (k : Nat) (h : k < xs.length),
    w.cell? ⟨b, off + k * 2, none⟩ = some (.int .u8 (xs[k].1 : Nat)) ∧ w.cell? ⟨b, off + k * 2 + 1, none⟩ = some (.int .u64 (xs[k].2 : Nat)))
theorem Rk.below {w w' : World} {B B' : Nat} {A : Option Addr} {xs : List (Nat × Nat)} (h : Rk w B A xs) (hb : Below B' w w') (hB : B ≤ B') : Rk w' B A xs := ⟨h.1, fun hne => by
  obtain ⟨b, off, rfl, hlt, hc⟩ := h.2 hne
  refine ⟨b, off, rfl, hlt, fun k hk => ?_⟩
  obtain ⟨c0, c1⟩ := hc k hk
  have hl := Nat.lt_of_lt_of_le hlt hB
  exact ⟨(hb.cell (p := ⟨b, _, none⟩) hl).trans c0, (hb.cell (p := ⟨b, _, none⟩) hl).trans c1⟩⟩
theorem Rk.at_ {w : World} {B : Nat} {A : Option Addr} {xs : List (Nat × Nat)} (h : Rk w B A xs) {k : Nat} (hk : k < xs.length) : ∃ b off, A = some ⟨b, off, none⟩ ∧ b < B ∧ (xs[k].1 < 256 ∧ xs[k].2 < 18446744073709551616) ∧
    w.cell? ⟨b, off + k * 2, none⟩ = some (.int .u8 (xs[k].1 : Nat)) ∧ w.cell? ⟨b, off + k * 2 + 1, none⟩ = some (.int .u64 (xs[k].2 : Nat)) := by
  obtain ⟨b, off, rfl, hlt, hc⟩ := h.2 (fun e => by subst e; simp at hk)
  exact ⟨b, off, rfl, hlt, h.1 _ (List.getElem_mem hk), hc k hk⟩
namespace K
theorem loL_len (us : List Nat → Nat) (xs : List Nat) (lim d k : Nat) : (loL us xs lim d k).length ≤ xs.length + 1 := by
  have h1 := add_len xs k
  have h2 : (drop xs k).length ≤ xs.length := by
    unfold drop
    split
    · rw [List.length_append, List.length_take, List.length_drop]
      have := fi_le xs k
      omega
    · omega
  unfold loL inL
  split
  · split
    · omega
    · split <;> omega
  · split
    · omega
    · split <;> simp
theorem doL_len (xs : List Nat) (d k : Nat) : (doL xs d k).length ≤ xs.length + 1 := by
  have h1 := add_len xs k
  have h2 : (drop xs k).length ≤ xs.length := by
    unfold drop
    split
    · rw [List.length_append, List.length_take, List.length_drop]
      have := fi_le xs k
      omega
    · omega
  unfold doL
  split
  · omega
  · split
    · omega
    · split <;> simp
/-- When the page's limit strikes. -/
theorem step_full (us : List Nat → Nat) (xs : List Nat) (lim d k : Nat) (h : d % 9 < 2) (h0 : doE xs d k = 0) (hf : lim < us (doL xs d k)) : loE us xs lim d k = 5 ∧ loL us xs lim d k = xs := by
  have h1 : d % 9 ≤ 1 := by omega
  unfold doE at h0
  unfold doL at hf
  rw [if_pos h1] at h0 hf
  unfold loE loL inE inL
  rw [if_pos h1, if_pos h1]
  by_cases hfo : fo xs k = true
  · rw [if_pos hfo] at h0; omega
  · rw [if_neg hfo, if_neg hfo, if_pos hf, if_pos hf]
    exact ⟨rfl, rfl⟩
theorem step_else (us : List Nat → Nat) (xs : List Nat) (lim d k : Nat) (h : ¬ (d % 9 < 2 ∧ doE xs d k = 0 ∧ lim < us (doL xs d k))) : loE us xs lim d k = doE xs d k ∧ loL us xs lim d k = doL xs d k := by
  unfold loE loL doE doL at *
  by_cases h1 : d % 9 ≤ 1
  · rw [if_pos h1] at h
    simp only [if_pos h1] at h ⊢
    unfold inE inL
    by_cases hfo : fo xs k = true
    · have e : add xs k = xs := by unfold add; rw [if_pos hfo]
      rw [if_pos hfo, if_pos hfo, if_pos hfo, e]
      exact ⟨rfl, rfl⟩
    · rw [if_neg hfo] at h
      rw [if_neg hfo, if_neg hfo, if_neg hfo]
      have : ¬ lim < us (add xs k) := fun h2 => h ⟨by omega, rfl, h2⟩
      rw [if_neg this, if_neg this]
      exact ⟨rfl, rfl⟩
  · simp only [if_neg h1]
    exact ⟨by first | trivial | rfl, by first | trivial | rfl⟩
end K
end Go.Proofs.Ytiinefdpaiincaa
end
section
namespace Go.Proofs.Ytiinefdpaiincaa
set_option maxRecDepth 4000
open Go.RowKit
section
variable {us : List Nat → Nat} {sh sn sm : Nat} {T : World → Nat → List Nat → Nat → Nat → (Nat → Prop) → Prop}
/-- What the loop keeps. -/
def PI (T : World → Nat → List Nat → Nat → Nat → (Nat → Prop) → Prop) (w wr : World) (P M : Nat) (v : Value) (xs : List Nat) : Prop :=
  KX wr v xs ∧ ∃ tk O, T wr P xs M tk O ∧ Below w.heap.size w wr ∧ (∀ j, O j → w.heap.size ≤ j) ∧ ∀ g, v.ownBlock = some g → ¬ O g
theorem PI.below (hTC : TC us sh sn sm T) {w wr w' : World} {P M : Nat} {v : Value} {xs : List Nat} (h : PI T w wr P M v xs) (hb : Below wr.heap.size wr w') : PI T w w' P M v xs := by
  obtain ⟨h1, tk, O, h2, h3, h4, h5⟩ := h
  exact ⟨h1.below hb, tk, O, hTC.below h2 hb, h3.trans (hb.mono h3.size), h4, h5⟩
/-- What is there behind an act: the document's and the one's own. -/
structure PR (T : World → Nat → List Nat → Nat → Nat → (Nat → Prop) → Prop) (w wr w2 w4 : World) (P M d k : Nat) (v v2 : Value) (xs ys : List Nat) (E1 K1 : Nat) (Y1 : Bool) (zs : List Nat) (E2 K2 : Nat) (Y2 : Bool) (most : Nat) : Prop where
  act : w4.heap[wr.heap.size]? = some (kacto d k)
  want : w4.heap[w2.heap.size]? = some (.cells #[.int .i64 (E1 : Int), .int .u64 (K1 : Int), .bool Y1] 34 (0, 0))
  was : KX w4 v xs
  next : KX w4 v2 ys
  set_ : ∃ tk O, T w4 P zs M tk O ∧ tk ≤ most ∧ Below w.heap.size w w4 ∧ (∀ j, O j → w.heap.size ≤ j) ∧ (∀ g, v.ownBlock = some g → ¬ O g) ∧ (∀ g, v2.ownBlock = some g → ¬ O g) ∧ ¬ O w2.heap.size
  z1 : wr.heap.size < w2.heap.size
  z2 : w2.heap.size < w4.heap.size
theorem PR.of (hTC : TC us sh sn sm T) {w wr w2 w4 : World} {P M d k tk : Nat} {v v2 : Value} {xs ys zs : List Nat} {E1 K1 : Nat} {Y1 : Bool} {O : Nat → Prop} {E2 K2 : Nat} {Y2 : Bool} {most : Nat} {e : Ending}
    (hk : KX wr v xs) (hT : T wr P xs M tk O) (hb : Below w.heap.size w wr) (hO : ∀ j, O j → w.heap.size ≤ j) (hv : ∀ g, v.ownBlock = some g → ¬ O g)
    (hk2 : KX w2 v2 ys) (hb2 : Below (wr.alloc (kacto d k)).heap.size (wr.alloc (kacto d k)) w2) (hv2 : v2 = v ∨ ∀ g, v2.ownBlock = some g → (wr.alloc (kacto d k)).heap.size ≤ g)
    (hD : TOp T (w2.alloc (.cells #[.int .i64 (E1 : Int), .int .u64 (K1 : Int), .bool Y1] 34)) P O (kansv E2 K2 Y2) zs M most e w4) : PR T w wr w2 w4 P M d k v v2 xs ys E1 K1 Y1 zs E2 K2 Y2 most := by
  obtain ⟨tk', O', rfl, hT', htk, hC, hO'⟩ := hD
  have s1 : (wr.alloc (kacto d k)).heap.size = wr.heap.size + 1 := by simp
  have s2 : (w2.alloc (.cells #[.int .i64 (E1 : Int), .int .u64 (K1 : Int), .bool Y1] 34)).heap.size = w2.heap.size + 1 := by simp
  have s3 := hb2.size
  have s4 := hC.size
  have hlt := hTC.lt hT
  have a1 : Below wr.heap.size wr (wr.alloc (kacto d k)) := (Below.refl _ wr).alloc (Nat.le_refl _) _
  have a2 : Below wr.heap.size wr w2 := a1.trans (hb2.mono (by omega))
  have a3 : Below w2.heap.size w2 (w2.alloc (.cells #[.int .i64 (E1 : Int), .int .u64 (K1 : Int), .bool Y1] 34)) := (Below.refl _ w2).alloc (Nat.le_refl _) _
  have hn2 : ∀ g, v2.ownBlock = some g → ¬ O g := fun g e h => by
    rcases hv2 with rfl | h2
    · exact hv g e h
    · have := h2 g e; have := hlt g h; omega
  have l1 : ∀ g, v.ownBlock = some g → g < wr.heap.size := fun g e => (K.own_lt hk e).1
  have l2 : ∀ g, v2.ownBlock = some g → g < w2.heap.size := fun g e => (K.own_lt hk2 e).1
  refine ⟨?_, ?_, hC.kx ((hk.below a2).below a3) hv, hC.kx (hk2.below a3) hn2, ⟨tk', O', hT', htk, ?_, fun j hj => ?_, fun g e h => ?_, fun g e h => ?_, fun h => ?_⟩, by omega, by omega⟩
  · refine (hC.block _ (by omega) (fun h => by have := hlt _ h; omega)).trans ((a3.block _ (by omega)).trans ((hb2.block _ (by omega)).trans ?_))
    exact K.alloc_top wr _
  · refine (hC.block _ (by omega) (fun h => by have := hlt _ h; omega)).trans ?_
    exact K.alloc_top w2 _
  · exact hb.trans ((a2.mono hb.size).trans ((a3.mono (by have := hb.size; omega)).trans (hC.below (by have := hb.size; omega) hO)))
  · rcases hO' j hj with h | h
    · exact hO j h
    · have := hb.size; omega
  · rcases hO' g h with h1 | h1
    · exact hv g e h1
    · have := l1 g e; omega
  · rcases hO' g h with h1 | h1
    · exact hn2 g e h1
    · have := l2 g e; omega
  · rcases hO' _ h with h1 | h1
    · have := hlt _ h1; omega
    · omega
/-- What is there when the two answers are compared. -/
structure PS (T : World → Nat → List Nat → Nat → Nat → (Nat → Prop) → Prop) (w W : World) (P M d k bA bW bG : Nat) (E1 K1 : Nat) (Y1 : Bool) (E2 : Nat) (l : Value) (zs : List Nat) (most : Nat) : Prop where
  act : W.heap[bA]? = some (kacto d k)
  want : W.heap[bW]? = some (.cells #[.int .i64 (E1 : Int), .int .u64 (K1 : Int), .bool Y1] 34 (0, 0))
  got : W.heap[bG]? = some (.cells #[.int .i64 (E2 : Int), .int .u64 (K1 : Int), .bool Y1] 34 (0, 0))
  lx : KX W l zs
  set_ : ∃ tk O, T W P zs M tk O ∧ tk ≤ most ∧ Below w.heap.size w W ∧ (∀ j, O j → w.heap.size ≤ j) ∧ (∀ g, l.ownBlock = some g → ¬ O g) ∧ ¬ O bW
  ne : bA ≠ bW ∧ bW ≠ bG ∧ (w.heap.size ≤ bW ∧ 0 < bW) ∧ l.ownBlock ≠ some bW
theorem PS.below (hTC : TC us sh sn sm T) {w W W' : World} {P M d k bA bW bG E1 K1 : Nat} {Y1 : Bool} {E2 : Nat} {l : Value} {zs : List Nat} {most : Nat} (h : PS T w W P M d k bA bW bG E1 K1 Y1 E2 l zs most) (hb : Below W.heap.size W W') : PS T w W' P M d k bA bW bG E1 K1 Y1 E2 l zs most := by
  obtain ⟨h1, h2, h3, h4, ⟨tk, O, h5, h6, h7, h8, h9, h10⟩, h11⟩ := h
  exact ⟨(hb.block _ (Array.getElem?_eq_some_iff.1 h1).1).trans h1, (hb.block _ (Array.getElem?_eq_some_iff.1 h2).1).trans h2, (hb.block _ (Array.getElem?_eq_some_iff.1 h3).1).trans h3, h4.below hb, ⟨tk, O, hTC.below h5 hb, h6, h7.trans (hb.mono h7.size), h8, h9, h10⟩, h11⟩
theorem PS.set (hTC : TC us sh sn sm T) {w W : World} {P M d k bA bW bG E1 K1 : Nat} {Y1 : Bool} {E2 : Nat} {l : Value} {zs : List Nat} {most : Nat} (h : PS T w W P M d k bA bW bG E1 K1 Y1 E2 l zs most) (E : Nat) : PS T w (W.setCell ⟨bW, 0, none⟩ (.int .i64 (E : Int))) P M d k bA bW bG E K1 Y1 E2 l zs most := by
  obtain ⟨h1, h2, h3, h4, ⟨tk, O, h5, h6, h7, h8, h9, h10⟩, h11, h12, ⟨h13, h15⟩, h14⟩ := h
  have hc := K.chg_set W ⟨bW, 0, none⟩ (.int .i64 (E : Int))
  refine ⟨(hc.block _ (Array.getElem?_eq_some_iff.1 h1).1 h11).trans h1, ?_, (hc.block _ (Array.getElem?_eq_some_iff.1 h3).1 (fun e => h12 e.symm)).trans h3, K.kx_set h4 _ _ h14, ⟨tk, O, hTC.frame h5 ⟨hc.os, hc.tape, hc.output, hc.size, fun j hg hn => hc.block j hg (fun e => by have e2 : j = bW := e; exact h10 (e2 ▸ Classical.not_not.1 hn))⟩, h6, h7.setCell (p := ⟨bW, 0, none⟩) h13 _, h8, h9, h10⟩, h11, h12, ⟨h13, h15⟩, h14⟩
  have := Go.heap_setCell_same W bW 0 _ _ (.int .i64 (E : Int)) h2
  simpa using this
theorem PR.ps (hTC : TC us sh sn sm T) {w wr w2 w4 : World} {P M d k : Nat} {v v2 : Value} {xs ys zs : List Nat} {E1 K1 : Nat} {Y1 : Bool} {E2 : Nat} {most : Nat} (h : PR T w wr w2 w4 P M d k v v2 xs ys E1 K1 Y1 zs E2 K1 Y1 most) (hk : KX wr v xs) (hk2 : KX w2 v2 ys) (hbw : w.heap.size ≤ wr.heap.size) (l : Value) (hl : (l = v ∧ zs = xs) ∨ (l = v2 ∧ zs = ys)) :
    PS T w (w4.alloc (.cells #[.int .i64 (E2 : Int), .int .u64 (K1 : Int), .bool Y1] 34)) P M d k wr.heap.size w2.heap.size w4.heap.size E1 K1 Y1 E2 l zs most := by
  obtain ⟨h1, h2, h3, h4, ⟨tk, O, h5, h6, h7, h8, h9, h10, h11⟩, z1, z2⟩ := h
  have a : Below w4.heap.size w4 (w4.alloc (.cells #[.int .i64 (E2 : Int), .int .u64 (K1 : Int), .bool Y1] 34)) := (Below.refl _ _).alloc (Nat.le_refl _) _
  refine ⟨(a.block _ (by omega)).trans h1, (a.block _ z2).trans h2, K.alloc_top w4 _, ?_, ⟨tk, O, hTC.below h5 a, h6, h7.trans (a.mono h7.size), h8, ?_, h11⟩, by omega, by omega, by omega, ?_⟩
  · rcases hl with ⟨rfl, rfl⟩ | ⟨rfl, rfl⟩
    · exact h3.below a
    · exact h4.below a
  · rcases hl with ⟨rfl, rfl⟩ | ⟨rfl, rfl⟩
    · exact h9
    · exact h10
  · intro e
    rcases hl with ⟨rfl, rfl⟩ | ⟨rfl, rfl⟩
    · have := (K.own_lt hk e).1; omega
    · have := (K.own_lt hk2 e).1; omega
end
end Go.Proofs.Ytiinefdpaiincaa
end
