/- A law's own function 'do' (layers 11, 12, 14): an act on a set of keys answers what its methods answer; the text walked. -/
import Derived.Test.YtiinefdpaiincaaMgE
namespace Go.Proofs.Ytiinefdpaiincaa
set_option maxRecDepth 4000
open Go.RowKit
namespace K
/-- What an insertion answers, and the list then; a limit bears on what is used. -/
def inE (us : List Nat → Nat) (xs : List Nat) (lim k : Nat) : Nat := if fo xs k then 4 else if lim < us (add xs k) then 5 else 0
def inL (us : List Nat → Nat) (xs : List Nat) (lim k : Nat) : List Nat := if fo xs k then xs else if lim < us (add xs k) then xs else add xs k
theorem chg_set (w : World) (p : Addr) (u : Value) : Chg w (w.setCell p u) (fun j => j = p.block) :=
  ⟨rfl, rfl, rfl, by simp [World.setCell], fun g _ hn => Go.heap_setCell_other w p g u hn⟩
theorem Chg.refl (w : World) (O : Nat → Prop) : Chg w w O := ⟨rfl, rfl, rfl, Nat.le_refl _, fun _ _ _ => rfl⟩
end K
/-- What a call of a method leaves. -/
def TOp (T : World → Nat → List Nat → Nat → Nat → (Nat → Prop) → Prop) (w : World) (P : Nat) (O : Nat → Prop) (v : Value) (xs : List Nat) (lim most : Nat) (e : Ending) (w' : World) : Prop :=
  ∃ tk O', e = .returned v ∧ T w' P xs lim tk O' ∧ tk ≤ most ∧ K.Chg w w' O ∧ ∀ j, O' j → O j ∨ w.heap.size ≤ j
/-- What a set of keys by its methods must keep. T w P xs lim tk O: the set at P holds xs, may use lim, took tk steps, and lies in the blocks O. -/
structure TC (us : List Nat → Nat) (sh sn sm : Nat) (T : World → Nat → List Nat → Nat → Nat → (Nat → Prop) → Prop) : Prop where
  frame : ∀ {w w' : World} {P xs lim tk O}, T w P xs lim tk O → K.Chg w w' (fun j => ¬ O j) → T w' P xs lim tk O
  pos : ∀ {w : World} {P xs lim tk O}, T w P xs lim tk O → 0 < w.heap.size
  lt : ∀ {w : World} {P xs lim tk O}, T w P xs lim tk O → ∀ j, O j → j < w.heap.size
  up : ∀ {w : World} {P xs lim tk O}, T w P xs lim tk O → K.Up xs ∧ (∀ x ∈ xs, x < 18446744073709551616) ∧ us xs ≤ lim
  insert : ∀ (w : World) (P : Nat) (xs : List Nat) (lim tk : Nat) (O : Nat → Prop), T w P xs lim tk O → ∀ (k : Nat), k < 18446744073709551616 → Calls Try.prog 21 #[.pointer (some ⟨P, 0, none⟩), .int .u64 (k : Int)] w (TOp T w P O (.int .i64 ((K.inE us xs lim k : Nat) : Int)) (K.inL us xs lim k) lim 1073741824)
  delete : ∀ (w : World) (P : Nat) (xs : List Nat) (lim tk : Nat) (O : Nat → Prop), T w P xs lim tk O → ∀ (k : Nat), k < 18446744073709551616 → Calls Try.prog 23 #[.pointer (some ⟨P, 0, none⟩), .int .u64 (k : Int)] w (TOp T w P O (.int .i64 (((if K.fo xs k then 0 else 3 : Nat)) : Int)) (K.drop xs k) lim 1073741824)
  has : ∀ (w : World) (P : Nat) (xs : List Nat) (lim tk : Nat) (O : Nat → Prop), T w P xs lim tk O → ∀ (k : Nat), k < 18446744073709551616 → Calls Try.prog 24 #[.pointer (some ⟨P, 0, none⟩), .int .u64 (k : Int)] w (TOp T w P O (.bool (K.fo xs k)) (xs) lim sh)
  next : ∀ (w : World) (P : Nat) (xs : List Nat) (lim tk : Nat) (O : Nat → Prop), T w P xs lim tk O → ∀ (k : Nat), k < 18446744073709551616 → Calls Try.prog 27 #[.pointer (some ⟨P, 0, none⟩), .int .u64 (k : Int)] w (TOp T w P O (.tuple #[.int .u64 ((K.nx xs k : Nat) : Int), .bool (K.nxb xs k)]) (xs) lim sn)
  prev : ∀ (w : World) (P : Nat) (xs : List Nat) (lim tk : Nat) (O : Nat → Prop), T w P xs lim tk O → ∀ (k : Nat), k < 18446744073709551616 → Calls Try.prog 28 #[.pointer (some ⟨P, 0, none⟩), .int .u64 (k : Int)] w (TOp T w P O (.tuple #[.int .u64 ((K.pv xs k : Nat) : Int), .bool (K.pvb xs k)]) (xs) lim sn)
  min : ∀ (w : World) (P : Nat) (xs : List Nat) (lim tk : Nat) (O : Nat → Prop), T w P xs lim tk O → Calls Try.prog 25 #[.pointer (some ⟨P, 0, none⟩)] w (TOp T w P O (.tuple #[.int .u64 ((K.nx xs 0 : Nat) : Int), .bool (K.nxb xs 0)]) (xs) lim sm)
  max : ∀ (w : World) (P : Nat) (xs : List Nat) (lim tk : Nat) (O : Nat → Prop), T w P xs lim tk O → Calls Try.prog 26 #[.pointer (some ⟨P, 0, none⟩)] w (TOp T w P O (.tuple #[.int .u64 ((K.pv xs 18446744073709551615 : Nat) : Int), .bool (K.pvb xs 18446744073709551615)]) (xs) lim sm)
  clear : ∀ (w : World) (P : Nat) (xs : List Nat) (lim tk : Nat) (O : Nat → Prop), T w P xs lim tk O → Calls Try.prog 29 #[.pointer (some ⟨P, 0, none⟩)] w (TOp T w P O (.tuple #[]) ([]) lim 1073741824)
abbrev kw3 (w : World) (d k : Nat) : World := ((w.alloc (kacto d k)).alloc kanso).alloc kanso
theorem kw3_size (w : World) (d k : Nat) : (kw3 w d k).heap.size = w.heap.size + 3 := by simp [kw3]
theorem kw3_below (w : World) (d k : Nat) : Below w.heap.size w (kw3 w d k) := (((Below.refl _ w).alloc (Nat.le_refl _) _).alloc (by simp) _).alloc (by simp; omega) _
/-- What is there behind the method's call. -/
structure KF (w w4 : World) (d k : Nat) : Prop where
  a0 : w4.heap[w.heap.size + 1]? = some kanso
  x0 : w4.heap[w.heap.size + 2]? = some kanso
theorem KF.of {w w4 : World} {d k : Nat} {O : Nat → Prop} (hC : K.Chg (kw3 w d k) w4 O) (hlt : ∀ j, O j → j < w.heap.size) : KF w w4 d k := by
  have hs := kw3_size w d k
  refine ⟨(hC.block _ (by omega) (fun h => by have := hlt _ h; omega)).trans ?_, (hC.block _ (by omega) (fun h => by have := hlt _ h; omega)).trans ?_⟩
  · rw [Below.heap_alloc _ _ _ (by simp)]
    have := K.alloc_top (w.alloc (kacto d k)) kanso
    simpa using this
  · have := K.alloc_top ((w.alloc (kacto d k)).alloc kanso) kanso
    simpa using this
section
variable {us : List Nat → Nat} {sh sn sm : Nat} {T : World → Nat → List Nat → Nat → Nat → (Nat → Prop) → Prop}
theorem do_end (hTC : TC us sh sn sm T) {w w4 V : World} {P lim tk d k : Nat} {xs : List Nat} {O O' : Nat → Prop} (hlt : ∀ j, O j → j < w.heap.size) (hT4 : T w4 P xs lim tk O') (hC : K.Chg (kw3 w d k) w4 O) (hO' : ∀ j, O' j → O j ∨ (kw3 w d k).heap.size ≤ j) (hF : KF w w4 d k)
    (hV : K.Chg w4 V (fun j => j = w.heap.size + 2)) (a' b' c' : Value) :
    (((V.setCell ⟨w.heap.size + 1, 0, none⟩ a').setCell ⟨w.heap.size + 1, 1, none⟩ b').setCell ⟨w.heap.size + 1, 2, none⟩ c').heap[w.heap.size + 1]? = some (.cells #[a', b', c'] 34 (0, 0)) ∧
    T (((V.setCell ⟨w.heap.size + 1, 0, none⟩ a').setCell ⟨w.heap.size + 1, 1, none⟩ b').setCell ⟨w.heap.size + 1, 2, none⟩ c') P xs lim tk O' ∧
    K.Chg w (((V.setCell ⟨w.heap.size + 1, 0, none⟩ a').setCell ⟨w.heap.size + 1, 1, none⟩ b').setCell ⟨w.heap.size + 1, 2, none⟩ c') O ∧ ∀ j, O' j → O j ∨ w.heap.size ≤ j := by
  have hs := kw3_size w d k
  have hs4 := hC.size
  have hZ : K.Chg V (((V.setCell ⟨w.heap.size + 1, 0, none⟩ a').setCell ⟨w.heap.size + 1, 1, none⟩ b').setCell ⟨w.heap.size + 1, 2, none⟩ c') (fun j => j = w.heap.size + 1) :=
    ((K.chg_set V ⟨w.heap.size + 1, 0, none⟩ a').trans (K.chg_set _ ⟨w.heap.size + 1, 1, none⟩ b') (fun j h => .inl h)).trans (K.chg_set _ ⟨w.heap.size + 1, 2, none⟩ c') (fun j h => .inl h)
  have hsV := hV.size
  have hnO : ∀ j, O' j → j ≠ w.heap.size + 1 ∧ j ≠ w.heap.size + 2 := fun j h => by
    rcases hO' j h with h1 | h1
    · have := hlt j h1; omega
    · omega
  refine ⟨K.set_all ((hV.block _ (by omega) (by omega)).trans hF.a0), hTC.frame hT4 ⟨hZ.os.trans hV.os, hZ.tape.trans hV.tape, hZ.output.trans hV.output, Nat.le_trans hsV hZ.size, fun j h1 hn => ?_⟩, ?_, fun j h => ?_⟩
  · have h : O' j := Classical.not_not.1 hn
    have h2 : j ≠ w.heap.size + 1 ∧ j ≠ w.heap.size + 2 := hnO j h
    exact (hZ.block j (by omega) h2.1).trans (hV.block j h1 h2.2)
  · have hb : K.Chg w (kw3 w d k) O := K.Chg.of_below (kw3_below w d k)
    refine ⟨?_, ?_, ?_, ?_, fun g hg hn => ?_⟩
    · exact hZ.os.trans (hV.os.trans (hC.os.trans hb.os))
    · exact hZ.tape.trans (hV.tape.trans (hC.tape.trans hb.tape))
    · exact hZ.output.trans (hV.output.trans (hC.output.trans hb.output))
    · have := hZ.size; omega
    · exact (hZ.block g (by omega) (by omega)).trans ((hV.block g (by omega) (by omega)).trans ((hC.block g (by omega) hn).trans (hb.block g hg hn)))
  · rcases hO' j h with h1 | h1
    · exact .inl h1
    · exact .inr (by omega)
set_option maxHeartbeats 1000000 in
theorem law_do_insert0 (hTC : TC us sh sn sm T) (w : World) (P : Nat) (xs : List Nat) (lim tk : Nat) (O : Nat → Prop) (hT : T w P xs lim tk O) (d k : Nat) (hd : d < 256) (hk : d % 9 = 0) (hk2 : k < 18446744073709551616) :
    Calls Try.prog 10 #[.pointer (some ⟨P, 0, none⟩), kactv d k] w (TOp T w P O (kansv (K.inE us xs lim k) (0) (false)) (K.inL us xs lim k) lim 1073741824) := by
  have hlt := Lib.hid (hTC.lt hT)
  have hop := Lib.hid (hTC.insert (kw3 w d k) P xs lim tk O (hTC.frame hT (K.Chg.of_below (kw3_below w d k))) k hk2)
  obtain ⟨e1, e2⟩ := mod9 d hd 0 hk
  clear hT hk hd
  generalize K.inE us xs lim k = E at *
  go_enter Try.func10, Try.ntmps10
  go_wp2_with (go_at_call 21; (with_reducible refine hop.out.mono ?_); rintro e w4 ⟨tk', O', rfl, hT4, hq, hC, hO'⟩; have HF := Lib.hid (KF.of hC hlt.out); have HT4 := Lib.hid hT4; have HQ := Lib.hid hq; have HC := Lib.hid hC; have HO := Lib.hid hO'; clear hT4 hq hC hO'; have x0 := cell_of_row w4 _ 0 _ _ (0, 0) HF.out.x0; have x1 := cell_of_row w4 _ 1 _ _ (0, 0) HF.out.x0; have x2 := cell_of_row w4 _ 2 _ _ (0, 0) HF.out.x0; have g0 := frozen_of_row w4 _ 0 _ _ HF.out.x0; have g1 := frozen_of_row w4 _ 1 _ _ HF.out.x0; have g2 := frozen_of_row w4 _ 2 _ _ HF.out.x0; have y0 := cell_of_row w4 _ 0 _ _ (0, 0) HF.out.a0; have y1 := cell_of_row w4 _ 1 _ _ (0, 0) HF.out.a0; have y2 := cell_of_row w4 _ 2 _ _ (0, 0) HF.out.a0; have f0 := frozen_of_row w4 _ 0 _ _ HF.out.a0; have f1 := frozen_of_row w4 _ 1 _ _ HF.out.a0; have f2 := frozen_of_row w4 _ 2 _ _ HF.out.a0; simp at x0 x1 x2 y0 y1 y2)
  obtain ⟨hr, ht, hc, ho⟩ := do_end (V := (w4.setCell ⟨w.heap.size + 2, 0, none⟩ (.int .i64 (E : Int)))) hTC hlt.out HT4.out HC.out HO.out HF.out (K.chg_set w4 ⟨w.heap.size + 2, 0, none⟩ _) (.int .i64 (E : Int)) (.int .u64 0) (.bool false)
  refine bodyPost_ret (results_cell_row rfl _ _ (w.heap.size + 1) _ _ _ _ rfl hr Try.underlying34 (by kernel_rfl) (by kernel_rfl)) rfl ?_
  exact ⟨tk', O', rfl, ht, HQ.out, hc, ho⟩
set_option maxHeartbeats 1000000 in
theorem law_do_insert1 (hTC : TC us sh sn sm T) (w : World) (P : Nat) (xs : List Nat) (lim tk : Nat) (O : Nat → Prop) (hT : T w P xs lim tk O) (d k : Nat) (hd : d < 256) (hk : d % 9 = 1) (hk2 : k < 18446744073709551616) :
    Calls Try.prog 10 #[.pointer (some ⟨P, 0, none⟩), kactv d k] w (TOp T w P O (kansv (K.inE us xs lim k) (0) (false)) (K.inL us xs lim k) lim 1073741824) := by
  have hlt := Lib.hid (hTC.lt hT)
  have hop := Lib.hid (hTC.insert (kw3 w d k) P xs lim tk O (hTC.frame hT (K.Chg.of_below (kw3_below w d k))) k hk2)
  obtain ⟨e1, e2⟩ := mod9 d hd 1 hk
  clear hT hk hd
  generalize K.inE us xs lim k = E at *
  go_enter Try.func10, Try.ntmps10
  go_wp2_with (go_at_call 21; (with_reducible refine hop.out.mono ?_); rintro e w4 ⟨tk', O', rfl, hT4, hq, hC, hO'⟩; have HF := Lib.hid (KF.of hC hlt.out); have HT4 := Lib.hid hT4; have HQ := Lib.hid hq; have HC := Lib.hid hC; have HO := Lib.hid hO'; clear hT4 hq hC hO'; have x0 := cell_of_row w4 _ 0 _ _ (0, 0) HF.out.x0; have x1 := cell_of_row w4 _ 1 _ _ (0, 0) HF.out.x0; have x2 := cell_of_row w4 _ 2 _ _ (0, 0) HF.out.x0; have g0 := frozen_of_row w4 _ 0 _ _ HF.out.x0; have g1 := frozen_of_row w4 _ 1 _ _ HF.out.x0; have g2 := frozen_of_row w4 _ 2 _ _ HF.out.x0; have y0 := cell_of_row w4 _ 0 _ _ (0, 0) HF.out.a0; have y1 := cell_of_row w4 _ 1 _ _ (0, 0) HF.out.a0; have y2 := cell_of_row w4 _ 2 _ _ (0, 0) HF.out.a0; have f0 := frozen_of_row w4 _ 0 _ _ HF.out.a0; have f1 := frozen_of_row w4 _ 1 _ _ HF.out.a0; have f2 := frozen_of_row w4 _ 2 _ _ HF.out.a0; simp at x0 x1 x2 y0 y1 y2)
  obtain ⟨hr, ht, hc, ho⟩ := do_end (V := (w4.setCell ⟨w.heap.size + 2, 0, none⟩ (.int .i64 (E : Int)))) hTC hlt.out HT4.out HC.out HO.out HF.out (K.chg_set w4 ⟨w.heap.size + 2, 0, none⟩ _) (.int .i64 (E : Int)) (.int .u64 0) (.bool false)
  refine bodyPost_ret (results_cell_row rfl _ _ (w.heap.size + 1) _ _ _ _ rfl hr Try.underlying34 (by kernel_rfl) (by kernel_rfl)) rfl ?_
  exact ⟨tk', O', rfl, ht, HQ.out, hc, ho⟩
set_option maxHeartbeats 1000000 in
theorem law_do_delete (hTC : TC us sh sn sm T) (w : World) (P : Nat) (xs : List Nat) (lim tk : Nat) (O : Nat → Prop) (hT : T w P xs lim tk O) (d k : Nat) (hd : d < 256) (hk : d % 9 = 2) (hk2 : k < 18446744073709551616) :
    Calls Try.prog 10 #[.pointer (some ⟨P, 0, none⟩), kactv d k] w (TOp T w P O (kansv ((if K.fo xs k then 0 else 3 : Nat)) (0) (false)) (K.drop xs k) lim 1073741824) := by
  have hlt := Lib.hid (hTC.lt hT)
  have hop := Lib.hid (hTC.delete (kw3 w d k) P xs lim tk O (hTC.frame hT (K.Chg.of_below (kw3_below w d k))) k hk2)
  obtain ⟨e1, e2⟩ := mod9 d hd 2 hk
  clear hT hk hd
  generalize (if K.fo xs k then 0 else 3 : Nat) = E at *
  go_enter Try.func10, Try.ntmps10
  go_wp2_with (go_at_call 23; (with_reducible refine hop.out.mono ?_); rintro e w4 ⟨tk', O', rfl, hT4, hq, hC, hO'⟩; have HF := Lib.hid (KF.of hC hlt.out); have HT4 := Lib.hid hT4; have HQ := Lib.hid hq; have HC := Lib.hid hC; have HO := Lib.hid hO'; clear hT4 hq hC hO'; have x0 := cell_of_row w4 _ 0 _ _ (0, 0) HF.out.x0; have x1 := cell_of_row w4 _ 1 _ _ (0, 0) HF.out.x0; have x2 := cell_of_row w4 _ 2 _ _ (0, 0) HF.out.x0; have g0 := frozen_of_row w4 _ 0 _ _ HF.out.x0; have g1 := frozen_of_row w4 _ 1 _ _ HF.out.x0; have g2 := frozen_of_row w4 _ 2 _ _ HF.out.x0; have y0 := cell_of_row w4 _ 0 _ _ (0, 0) HF.out.a0; have y1 := cell_of_row w4 _ 1 _ _ (0, 0) HF.out.a0; have y2 := cell_of_row w4 _ 2 _ _ (0, 0) HF.out.a0; have f0 := frozen_of_row w4 _ 0 _ _ HF.out.a0; have f1 := frozen_of_row w4 _ 1 _ _ HF.out.a0; have f2 := frozen_of_row w4 _ 2 _ _ HF.out.a0; simp at x0 x1 x2 y0 y1 y2)
  obtain ⟨hr, ht, hc, ho⟩ := do_end (V := (w4.setCell ⟨w.heap.size + 2, 0, none⟩ (.int .i64 (E : Int)))) hTC hlt.out HT4.out HC.out HO.out HF.out (K.chg_set w4 ⟨w.heap.size + 2, 0, none⟩ _) (.int .i64 (E : Int)) (.int .u64 0) (.bool false)
  refine bodyPost_ret (results_cell_row rfl _ _ (w.heap.size + 1) _ _ _ _ rfl hr Try.underlying34 (by kernel_rfl) (by kernel_rfl)) rfl ?_
  exact ⟨tk', O', rfl, ht, HQ.out, hc, ho⟩
set_option maxHeartbeats 1000000 in
theorem law_do_has (hTC : TC us sh sn sm T) (w : World) (P : Nat) (xs : List Nat) (lim tk : Nat) (O : Nat → Prop) (hT : T w P xs lim tk O) (d k : Nat) (hd : d < 256) (hk : d % 9 = 3) (hk2 : k < 18446744073709551616) :
    Calls Try.prog 10 #[.pointer (some ⟨P, 0, none⟩), kactv d k] w (TOp T w P O (kansv (0) (0) (K.fo xs k)) (xs) lim sh) := by
  have hlt := Lib.hid (hTC.lt hT)
  have hop := Lib.hid (hTC.has (kw3 w d k) P xs lim tk O (hTC.frame hT (K.Chg.of_below (kw3_below w d k))) k hk2)
  obtain ⟨e1, e2⟩ := mod9 d hd 3 hk
  clear hT hk hd
  generalize K.fo xs k = Y at *
  go_enter Try.func10, Try.ntmps10
  go_wp2_with (go_at_call 24; (with_reducible refine hop.out.mono ?_); rintro e w4 ⟨tk', O', rfl, hT4, hq, hC, hO'⟩; have HF := Lib.hid (KF.of hC hlt.out); have HT4 := Lib.hid hT4; have HQ := Lib.hid hq; have HC := Lib.hid hC; have HO := Lib.hid hO'; clear hT4 hq hC hO'; have x0 := cell_of_row w4 _ 0 _ _ (0, 0) HF.out.x0; have x1 := cell_of_row w4 _ 1 _ _ (0, 0) HF.out.x0; have x2 := cell_of_row w4 _ 2 _ _ (0, 0) HF.out.x0; have g0 := frozen_of_row w4 _ 0 _ _ HF.out.x0; have g1 := frozen_of_row w4 _ 1 _ _ HF.out.x0; have g2 := frozen_of_row w4 _ 2 _ _ HF.out.x0; have y0 := cell_of_row w4 _ 0 _ _ (0, 0) HF.out.a0; have y1 := cell_of_row w4 _ 1 _ _ (0, 0) HF.out.a0; have y2 := cell_of_row w4 _ 2 _ _ (0, 0) HF.out.a0; have f0 := frozen_of_row w4 _ 0 _ _ HF.out.a0; have f1 := frozen_of_row w4 _ 1 _ _ HF.out.a0; have f2 := frozen_of_row w4 _ 2 _ _ HF.out.a0; simp at x0 x1 x2 y0 y1 y2)
  obtain ⟨hr, ht, hc, ho⟩ := do_end (V := (w4.setCell ⟨w.heap.size + 2, 2, none⟩ (.bool Y))) hTC hlt.out HT4.out HC.out HO.out HF.out (K.chg_set w4 ⟨w.heap.size + 2, 2, none⟩ _) (.int .i64 0) (.int .u64 0) (.bool Y)
  refine bodyPost_ret (results_cell_row rfl _ _ (w.heap.size + 1) _ _ _ _ rfl hr Try.underlying34 (by kernel_rfl) (by kernel_rfl)) rfl ?_
  exact ⟨tk', O', rfl, ht, HQ.out, hc, ho⟩
set_option maxHeartbeats 1000000 in
theorem law_do_next (hTC : TC us sh sn sm T) (w : World) (P : Nat) (xs : List Nat) (lim tk : Nat) (O : Nat → Prop) (hT : T w P xs lim tk O) (d k : Nat) (hd : d < 256) (hk : d % 9 = 4) (hk2 : k < 18446744073709551616) :
    Calls Try.prog 10 #[.pointer (some ⟨P, 0, none⟩), kactv d k] w (TOp T w P O (kansv (0) (K.nx xs k) (K.nxb xs k)) (xs) lim sn) := by
  have hlt := Lib.hid (hTC.lt hT)
  have hop := Lib.hid (hTC.next (kw3 w d k) P xs lim tk O (hTC.frame hT (K.Chg.of_below (kw3_below w d k))) k hk2)
  obtain ⟨e1, e2⟩ := mod9 d hd 4 hk
  clear hT hk hd
  generalize K.nx xs k = X at *
  generalize K.nxb xs k = Y at *
  go_enter Try.func10, Try.ntmps10
  go_wp2_with (go_at_call 27; (with_reducible refine hop.out.mono ?_); rintro e w4 ⟨tk', O', rfl, hT4, hq, hC, hO'⟩; have HF := Lib.hid (KF.of hC hlt.out); have HT4 := Lib.hid hT4; have HQ := Lib.hid hq; have HC := Lib.hid hC; have HO := Lib.hid hO'; clear hT4 hq hC hO'; have x0 := cell_of_row w4 _ 0 _ _ (0, 0) HF.out.x0; have x1 := cell_of_row w4 _ 1 _ _ (0, 0) HF.out.x0; have x2 := cell_of_row w4 _ 2 _ _ (0, 0) HF.out.x0; have g0 := frozen_of_row w4 _ 0 _ _ HF.out.x0; have g1 := frozen_of_row w4 _ 1 _ _ HF.out.x0; have g2 := frozen_of_row w4 _ 2 _ _ HF.out.x0; have y0 := cell_of_row w4 _ 0 _ _ (0, 0) HF.out.a0; have y1 := cell_of_row w4 _ 1 _ _ (0, 0) HF.out.a0; have y2 := cell_of_row w4 _ 2 _ _ (0, 0) HF.out.a0; have f0 := frozen_of_row w4 _ 0 _ _ HF.out.a0; have f1 := frozen_of_row w4 _ 1 _ _ HF.out.a0; have f2 := frozen_of_row w4 _ 2 _ _ HF.out.a0; simp at x0 x1 x2 y0 y1 y2)
  obtain ⟨hr, ht, hc, ho⟩ := do_end (V := ((w4.setCell ⟨w.heap.size + 2, 1, none⟩ (.int .u64 (X : Int))).setCell ⟨w.heap.size + 2, 2, none⟩ (.bool Y))) hTC hlt.out HT4.out HC.out HO.out HF.out ((K.chg_set w4 ⟨w.heap.size + 2, 1, none⟩ _).trans (K.chg_set _ ⟨w.heap.size + 2, 2, none⟩ _) (fun j h => .inl h)) (.int .i64 0) (.int .u64 (X : Int)) (.bool Y)
  refine bodyPost_ret (results_cell_row rfl _ _ (w.heap.size + 1) _ _ _ _ rfl hr Try.underlying34 (by kernel_rfl) (by kernel_rfl)) rfl ?_
  exact ⟨tk', O', rfl, ht, HQ.out, hc, ho⟩
set_option maxHeartbeats 1000000 in
theorem law_do_prev (hTC : TC us sh sn sm T) (w : World) (P : Nat) (xs : List Nat) (lim tk : Nat) (O : Nat → Prop) (hT : T w P xs lim tk O) (d k : Nat) (hd : d < 256) (hk : d % 9 = 5) (hk2 : k < 18446744073709551616) :
    Calls Try.prog 10 #[.pointer (some ⟨P, 0, none⟩), kactv d k] w (TOp T w P O (kansv (0) (K.pv xs k) (K.pvb xs k)) (xs) lim sn) := by
  have hlt := Lib.hid (hTC.lt hT)
  have hop := Lib.hid (hTC.prev (kw3 w d k) P xs lim tk O (hTC.frame hT (K.Chg.of_below (kw3_below w d k))) k hk2)
  obtain ⟨e1, e2⟩ := mod9 d hd 5 hk
  clear hT hk hd
  generalize K.pv xs k = X at *
  generalize K.pvb xs k = Y at *
  go_enter Try.func10, Try.ntmps10
  go_wp2_with (go_at_call 28; (with_reducible refine hop.out.mono ?_); rintro e w4 ⟨tk', O', rfl, hT4, hq, hC, hO'⟩; have HF := Lib.hid (KF.of hC hlt.out); have HT4 := Lib.hid hT4; have HQ := Lib.hid hq; have HC := Lib.hid hC; have HO := Lib.hid hO'; clear hT4 hq hC hO'; have x0 := cell_of_row w4 _ 0 _ _ (0, 0) HF.out.x0; have x1 := cell_of_row w4 _ 1 _ _ (0, 0) HF.out.x0; have x2 := cell_of_row w4 _ 2 _ _ (0, 0) HF.out.x0; have g0 := frozen_of_row w4 _ 0 _ _ HF.out.x0; have g1 := frozen_of_row w4 _ 1 _ _ HF.out.x0; have g2 := frozen_of_row w4 _ 2 _ _ HF.out.x0; have y0 := cell_of_row w4 _ 0 _ _ (0, 0) HF.out.a0; have y1 := cell_of_row w4 _ 1 _ _ (0, 0) HF.out.a0; have y2 := cell_of_row w4 _ 2 _ _ (0, 0) HF.out.a0; have f0 := frozen_of_row w4 _ 0 _ _ HF.out.a0; have f1 := frozen_of_row w4 _ 1 _ _ HF.out.a0; have f2 := frozen_of_row w4 _ 2 _ _ HF.out.a0; simp at x0 x1 x2 y0 y1 y2)
  obtain ⟨hr, ht, hc, ho⟩ := do_end (V := ((w4.setCell ⟨w.heap.size + 2, 1, none⟩ (.int .u64 (X : Int))).setCell ⟨w.heap.size + 2, 2, none⟩ (.bool Y))) hTC hlt.out HT4.out HC.out HO.out HF.out ((K.chg_set w4 ⟨w.heap.size + 2, 1, none⟩ _).trans (K.chg_set _ ⟨w.heap.size + 2, 2, none⟩ _) (fun j h => .inl h)) (.int .i64 0) (.int .u64 (X : Int)) (.bool Y)
  refine bodyPost_ret (results_cell_row rfl _ _ (w.heap.size + 1) _ _ _ _ rfl hr Try.underlying34 (by kernel_rfl) (by kernel_rfl)) rfl ?_
  exact ⟨tk', O', rfl, ht, HQ.out, hc, ho⟩
set_option maxHeartbeats 1000000 in
theorem law_do_min (hTC : TC us sh sn sm T) (w : World) (P : Nat) (xs : List Nat) (lim tk : Nat) (O : Nat → Prop) (hT : T w P xs lim tk O) (d k : Nat) (hd : d < 256) (hk : d % 9 = 6) (_hk2 : k < 18446744073709551616) :
    Calls Try.prog 10 #[.pointer (some ⟨P, 0, none⟩), kactv d k] w (TOp T w P O (kansv (0) (K.nx xs 0) (K.nxb xs 0)) (xs) lim sm) := by
  have hlt := Lib.hid (hTC.lt hT)
  have hop := Lib.hid (hTC.min (kw3 w d k) P xs lim tk O (hTC.frame hT (K.Chg.of_below (kw3_below w d k))))
  obtain ⟨e1, e2⟩ := mod9 d hd 6 hk
  clear hT hk hd
  generalize K.nx xs 0 = X at *
  generalize K.nxb xs 0 = Y at *
  go_enter Try.func10, Try.ntmps10
  go_wp2_with (go_at_call 25; (with_reducible refine hop.out.mono ?_); rintro e w4 ⟨tk', O', rfl, hT4, hq, hC, hO'⟩; have HF := Lib.hid (KF.of hC hlt.out); have HT4 := Lib.hid hT4; have HQ := Lib.hid hq; have HC := Lib.hid hC; have HO := Lib.hid hO'; clear hT4 hq hC hO'; have x0 := cell_of_row w4 _ 0 _ _ (0, 0) HF.out.x0; have x1 := cell_of_row w4 _ 1 _ _ (0, 0) HF.out.x0; have x2 := cell_of_row w4 _ 2 _ _ (0, 0) HF.out.x0; have g0 := frozen_of_row w4 _ 0 _ _ HF.out.x0; have g1 := frozen_of_row w4 _ 1 _ _ HF.out.x0; have g2 := frozen_of_row w4 _ 2 _ _ HF.out.x0; have y0 := cell_of_row w4 _ 0 _ _ (0, 0) HF.out.a0; have y1 := cell_of_row w4 _ 1 _ _ (0, 0) HF.out.a0; have y2 := cell_of_row w4 _ 2 _ _ (0, 0) HF.out.a0; have f0 := frozen_of_row w4 _ 0 _ _ HF.out.a0; have f1 := frozen_of_row w4 _ 1 _ _ HF.out.a0; have f2 := frozen_of_row w4 _ 2 _ _ HF.out.a0; simp at x0 x1 x2 y0 y1 y2)
  obtain ⟨hr, ht, hc, ho⟩ := do_end (V := ((w4.setCell ⟨w.heap.size + 2, 1, none⟩ (.int .u64 (X : Int))).setCell ⟨w.heap.size + 2, 2, none⟩ (.bool Y))) hTC hlt.out HT4.out HC.out HO.out HF.out ((K.chg_set w4 ⟨w.heap.size + 2, 1, none⟩ _).trans (K.chg_set _ ⟨w.heap.size + 2, 2, none⟩ _) (fun j h => .inl h)) (.int .i64 0) (.int .u64 (X : Int)) (.bool Y)
  refine bodyPost_ret (results_cell_row rfl _ _ (w.heap.size + 1) _ _ _ _ rfl hr Try.underlying34 (by kernel_rfl) (by kernel_rfl)) rfl ?_
  exact ⟨tk', O', rfl, ht, HQ.out, hc, ho⟩
set_option maxHeartbeats 1000000 in
theorem law_do_max (hTC : TC us sh sn sm T) (w : World) (P : Nat) (xs : List Nat) (lim tk : Nat) (O : Nat → Prop) (hT : T w P xs lim tk O) (d k : Nat) (hd : d < 256) (hk : d % 9 = 7) (_hk2 : k < 18446744073709551616) :
    Calls Try.prog 10 #[.pointer (some ⟨P, 0, none⟩), kactv d k] w (TOp T w P O (kansv (0) (K.pv xs 18446744073709551615) (K.pvb xs 18446744073709551615)) (xs) lim sm) := by
  have hlt := Lib.hid (hTC.lt hT)
  have hop := Lib.hid (hTC.max (kw3 w d k) P xs lim tk O (hTC.frame hT (K.Chg.of_below (kw3_below w d k))))
  obtain ⟨e1, e2⟩ := mod9 d hd 7 hk
  clear hT hk hd
  generalize K.pv xs 18446744073709551615 = X at *
  generalize K.pvb xs 18446744073709551615 = Y at *
  go_enter Try.func10, Try.ntmps10
  go_wp2_with (go_at_call 26; (with_reducible refine hop.out.mono ?_); rintro e w4 ⟨tk', O', rfl, hT4, hq, hC, hO'⟩; have HF := Lib.hid (KF.of hC hlt.out); have HT4 := Lib.hid hT4; have HQ := Lib.hid hq; have HC := Lib.hid hC; have HO := Lib.hid hO'; clear hT4 hq hC hO'; have x0 := cell_of_row w4 _ 0 _ _ (0, 0) HF.out.x0; have x1 := cell_of_row w4 _ 1 _ _ (0, 0) HF.out.x0; have x2 := cell_of_row w4 _ 2 _ _ (0, 0) HF.out.x0; have g0 := frozen_of_row w4 _ 0 _ _ HF.out.x0; have g1 := frozen_of_row w4 _ 1 _ _ HF.out.x0; have g2 := frozen_of_row w4 _ 2 _ _ HF.out.x0; have y0 := cell_of_row w4 _ 0 _ _ (0, 0) HF.out.a0; have y1 := cell_of_row w4 _ 1 _ _ (0, 0) HF.out.a0; have y2 := cell_of_row w4 _ 2 _ _ (0, 0) HF.out.a0; have f0 := frozen_of_row w4 _ 0 _ _ HF.out.a0; have f1 := frozen_of_row w4 _ 1 _ _ HF.out.a0; have f2 := frozen_of_row w4 _ 2 _ _ HF.out.a0; simp at x0 x1 x2 y0 y1 y2)
  obtain ⟨hr, ht, hc, ho⟩ := do_end (V := ((w4.setCell ⟨w.heap.size + 2, 1, none⟩ (.int .u64 (X : Int))).setCell ⟨w.heap.size + 2, 2, none⟩ (.bool Y))) hTC hlt.out HT4.out HC.out HO.out HF.out ((K.chg_set w4 ⟨w.heap.size + 2, 1, none⟩ _).trans (K.chg_set _ ⟨w.heap.size + 2, 2, none⟩ _) (fun j h => .inl h)) (.int .i64 0) (.int .u64 (X : Int)) (.bool Y)
  refine bodyPost_ret (results_cell_row rfl _ _ (w.heap.size + 1) _ _ _ _ rfl hr Try.underlying34 (by kernel_rfl) (by kernel_rfl)) rfl ?_
  exact ⟨tk', O', rfl, ht, HQ.out, hc, ho⟩
set_option maxHeartbeats 1000000 in
theorem law_do_clear (hTC : TC us sh sn sm T) (w : World) (P : Nat) (xs : List Nat) (lim tk : Nat) (O : Nat → Prop) (hT : T w P xs lim tk O) (d k : Nat) (hd : d < 256) (hk : d % 9 = 8) (_hk2 : k < 18446744073709551616) :
    Calls Try.prog 10 #[.pointer (some ⟨P, 0, none⟩), kactv d k] w (TOp T w P O (kansv (0) (0) (false)) ([]) lim 1073741824) := by
  have hlt := Lib.hid (hTC.lt hT)
  have hop := Lib.hid (hTC.clear (kw3 w d k) P xs lim tk O (hTC.frame hT (K.Chg.of_below (kw3_below w d k))))
  obtain ⟨e1, e2⟩ := mod9 d hd 8 hk
  clear hT hk hd
  go_enter Try.func10, Try.ntmps10
  go_wp2_with (go_at_call 29; (with_reducible refine hop.out.mono ?_); rintro e w4 ⟨tk', O', rfl, hT4, hq, hC, hO'⟩; have HF := Lib.hid (KF.of hC hlt.out); have HT4 := Lib.hid hT4; have HQ := Lib.hid hq; have HC := Lib.hid hC; have HO := Lib.hid hO'; clear hT4 hq hC hO'; have x0 := cell_of_row w4 _ 0 _ _ (0, 0) HF.out.x0; have x1 := cell_of_row w4 _ 1 _ _ (0, 0) HF.out.x0; have x2 := cell_of_row w4 _ 2 _ _ (0, 0) HF.out.x0; have g0 := frozen_of_row w4 _ 0 _ _ HF.out.x0; have g1 := frozen_of_row w4 _ 1 _ _ HF.out.x0; have g2 := frozen_of_row w4 _ 2 _ _ HF.out.x0; have y0 := cell_of_row w4 _ 0 _ _ (0, 0) HF.out.a0; have y1 := cell_of_row w4 _ 1 _ _ (0, 0) HF.out.a0; have y2 := cell_of_row w4 _ 2 _ _ (0, 0) HF.out.a0; have f0 := frozen_of_row w4 _ 0 _ _ HF.out.a0; have f1 := frozen_of_row w4 _ 1 _ _ HF.out.a0; have f2 := frozen_of_row w4 _ 2 _ _ HF.out.a0; simp at x0 x1 x2 y0 y1 y2)
  obtain ⟨hr, ht, hc, ho⟩ := do_end (V := w4) hTC hlt.out HT4.out HC.out HO.out HF.out (K.Chg.refl _ _) (.int .i64 0) (.int .u64 0) (.bool false)
  refine bodyPost_ret (results_cell_row rfl _ _ (w.heap.size + 1) _ _ _ _ rfl hr Try.underlying34 (by kernel_rfl) (by kernel_rfl)) rfl ?_
  exact ⟨tk', O', rfl, ht, HQ.out, hc, ho⟩
end
end Go.Proofs.Ytiinefdpaiincaa
