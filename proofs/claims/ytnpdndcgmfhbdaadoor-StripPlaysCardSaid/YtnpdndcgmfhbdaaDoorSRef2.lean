
/- What the document's Do answers: the loop's text walked, call by call. -/
import Derived.Test.YtnpdndcgmfhbdaaDoorSRef
import Derived.Test.YtnpdndcgmfhbdaaDoorSSet
namespace Go.Proofs.YtnpdndcgmfhbdaaDoor
open Go.RowKit
/-- What Do leaves: n were changed; all from f on below t are in, or out. -/
def Did (o : Bool) (xs ys : List Int) (f t : Int) (n : Nat) : Prop := Upto o xs ys f t ∧ (if o then n + xs.length = ys.length else n + ys.length = xs.length)
def DoPost (o : Bool) (w : World) (X W : Nat) (xs : List Int) (f t : Int) (e : Ending) (w' : World) : Prop :=
  ∃ (A' : Option Addr) (c' : Nat) (ys : List Int) (n : Nat), e = .returned (.int .i64 (n : Int)) ∧ Did o xs ys f t n ∧ RS w' X W A' c' ys ∧ w.grownBy w' (some X)
theorem grown_drewN {w w' : World} {r : Option Nat} (a : w.grownBy w' r) (n : Nat) : w.grownBy (w'.drewN n) r := ⟨a.os, a.tape, a.output, a.size, a.block⟩
theorem grown_alloc {w w' : World} {r : Option Nat} (a : w.grownBy w' r) (o : Obj) : w.grownBy (w'.alloc o) r :=
  ⟨a.os, a.tape, a.output, by have := a.size; simp; omega, fun k hk hne => (Below.heap_alloc w' o k (by have := a.size; omega)).trans (a.block k hk hne)⟩
theorem RS.alloc {w : World} {X W : Nat} {A : Option Addr} {c : Nat} {xs : List Int} (h : RS w X W A c xs) (o : Obj) : RS (w.alloc o) X W A c xs := by
  have hb : Below w.heap.size w (w.alloc o) := (Below.refl _ w).alloc (Nat.le_refl _) o
  exact ⟨(hb.block X h.lt).trans h.1, (h.2.1.below hb (Nat.le_refl _)).more hb.size, h.2.2⟩
theorem upto_mem {o : Bool} {xs zs : List Int} {f q : Int} {N : Int} (h : Upto o xs zs f q) (hx : ∀ y ∈ xs, 0 ≤ y ∧ y < N) (hf : 0 ≤ f) (hq : q ≤ N) : ∀ y ∈ zs, 0 ≤ y ∧ y < N := by
  intro y hy
  rw [h.2] at hy
  by_cases hr : f ≤ y ∧ y < q
  · omega
  · rw [if_neg hr] at hy; exact hx y hy
set_option maxHeartbeats 2000000 in
theorem ref_do0 (w : World) (X W : Nat) (A : Option Addr) (c : Nat) (xs : List Int) (a : RS w X W A c xs) (hs : xs.Pairwise (· < ·)) (hx : ∀ y ∈ xs, 0 ≤ y ∧ y < 64 * (W : Int)) (hW : W ≤ 4096) (d : Nat) (hd : d < 256) (hr4 : d % 4 = 0) (i j : Int) (hi : i ≤ 9223372036854775807) (hi0 : 0 ≤ i) (hi1 : i < 64 * (W : Int))
    (w0 : World) (hw0 : w.alloc (.cells #[.int .u8 (d : Int), .int .i64 i, .int .i64 j] 46) = w0) (m T : Int) (hm : max i 0 = m) (hT : max m (min (i + 1) (64 * (W : Int))) = T) :
    Calls Tryd.prog 29 #[.pointer (some ⟨X, 0, none⟩), .agg #[.int .u8 (d : Int), .int .i64 i, .int .i64 j]] w fun e w' => DoPost true w0 X W xs m T e w' := by
  have hlen : ∀ zs : List Int, zs.Pairwise (· < ·) → (∀ y ∈ zs, 0 ≤ y ∧ y < 64 * (W : Int)) → zs.length ≤ 64 * W := fun zs h1 h2 => sorted_len (64 * W) h1 (fun y hy => by have := h2 y hy; omega)
  have hlenH := Lib.hid hlen
  clear hlen
  have hsH := Lib.hid hs
  clear hs
  have hxH := Lib.hid hx
  clear hx
  have a1 := a.alloc (.cells #[.int .u8 (d : Int), .int .i64 i, .int .i64 j] 46)
  have hXlt := a.lt
  have hcx := a1.c0
  have haH := Lib.hid a1
  have hD : Hid ((w.alloc (.cells #[.int .u8 (d : Int), .int .i64 i, .int .i64 j] 46)).heap[w.heap.size]? = some (.cells #[.int .u8 (d : Int), .int .i64 i, .int .i64 j] 46 (0, 0))) := alloc_top w _ rfl
  clear a a1
  have hs0 : w.heap.size < w0.heap.size := by rw [← hw0]; simp
  rw [hw0] at haH hD
  have hwH := Lib.hid hw0
  clear hw0
  have hm0 : 0 ≤ m := by omega
  have hmH := Lib.hid hm
  clear hm
  have hTH := Lib.hid hT
  have hT1 : m ≤ T := by omega
  have hT2 : T ≤ m ∨ T ≤ 64 * (W : Int) := by omega
  have hT3 : min (i + 1) (64 * (W : Int)) ≤ T := by omega
  have hT4 : T ≤ m ∨ T ≤ min (i + 1) (64 * (W : Int)) := by omega
  have hT5 : min (i + 1) (64 * (W : Int)) ≤ 64 * (W : Int) := by omega
  clear hT
  have e1 : ((d : Int).tmod 4) = 0 := by rw [Int.tmod_eq_emod_of_nonneg (by omega)]; omega
  have e2 : ((d : Int).tmod 2) = 0 := by rw [Int.tmod_eq_emod_of_nonneg (by omega)]; omega
  have e3 : (d : Int) % 4 = 0 := by omega
  have e4 : (d : Int) % 2 = 0 := by omega
  have wN : IntKind.i64.wrap (64 * (W : Int)) = 64 * (W : Int) := IntWalk.i64_in _ (by omega)
  have g1 : decide (i < 0) = false := decide_eq_false (by omega)
  have g2 : decide (64 * (W : Int) ≤ i) = false := decide_eq_false (by omega)
  have g3 : IntKind.i64.wrap (i + 1) = i + 1 := IntWalk.i64_in _ (by omega)
  go_enter Tryd.func29, Tryd.ntmps29
  go_wp2
  go_quiet (fail)
  go_wp2
  go_quiet (fail)
  go_wp2
  rw [hmH.out, hwH.out]
  go_loopw [7, 8] (fun v u wr => ∃ (q : Int) (k cc : Nat) (B : Option Addr) (zs : List Int), m ≤ q ∧ q ≤ T ∧ u = .int .i64 q ∧ v = .int .i64 (k : Int) ∧ k ≤ 64 * W ∧ Hid (RS wr X W B cc zs) ∧ Hid (Upto true xs zs m q) ∧ Hid (k + xs.length = zs.length) ∧ Hid (w0.grownBy wr (some X))) (fun _ u _ => (T - intOf u).toNat)
  case atStart => exact ⟨m, 0, c, A, xs, by omega, hT1, rfl, rfl, by omega, haH.out.drew _, Upto.start hsH.out, Nat.zero_add _, grown_drewN (grown_refl _ _) _⟩
  case round =>
    obtain ⟨q, k, cc, B, zs, hq1, hq2, rfl, rfl, hk, hR, hU, hC, hG⟩ := hrel
    have hc0 := hR.out.c0
    by_cases hlt : q < min (i + 1) (64 * (W : Int))
    · have hqT : q < T := by omega
      have hq64 : q < 64 * (W : Int) := by omega
      have hTb : decide (q < min (i + 1) (64 * (W : Int))) = true := decide_eq_true hlt
      have hzb := upto_mem hU.out hxH.out hm0 (by omega : q ≤ 64 * (W : Int))
      have hzl := hlenH.out zs hU.out.1 hzb
      have hzs : Hid (zs.Pairwise (· < ·)) := hU.out.1
      clear hzb
      have hrow : wr.heap[w.heap.size]? = some (.cells #[.int .u8 (d : Int), .int .i64 i, .int .i64 j] 46 (0, 0)) := (hG.out.block _ hs0 (by intro e; cases e; omega)).trans hD.out
      have hd0 : wr.cell? ⟨w.heap.size, 0, none⟩ = some (.int .u8 (d : Int)) := cell_of_row wr _ 0 _ _ (0, 0) hrow
      clear hrow
      have hc1 := hR.out.c1
      have hRd : ∀ N, Rd (wr.drewN N) (wr.drewN N).heap.size B zs := fun N => hR.out.2.1.drew N
      have hh := fun N => Lib.hid (ref_has B cc zs q (wr.drewN N) _ (hR.out.2.1.drew N) (by omega))
      have wq : IntKind.i64.wrap (q + 1) = q + 1 := IntWalk.i64_in _ (by omega)
      cases hb : M.rHas zs q
      · rw [hb] at hh
        have hU2 := Lib.hid (hU.out.add hq1)
        have hC2 : Hid (k + 1 + xs.length = (M.add zs q).length) := by
          show _ = _
          have e5 := hC.out
          have e6 := add_len hzs.out hb
          omega
        have hyb := upto_mem hU2.out hxH.out hm0 (by omega : q + 1 ≤ 64 * (W : Int))
        have hyl := hlenH.out _ hU2.out.1 hyb
        clear hyb hb hU
        have hC2k : k + 1 ≤ 64 * W := by have := hC2.out; have := hC.out; omega
        clear hC
        have hxX := hR.out.lt
        go_wp2
        go_quiet ((go_at_call 32; exact Calls.quiet_of_same ((hh _).out.mono (by rintro e w' ⟨rfl, rfl⟩; exact ⟨rfl, rfl⟩))))
        go_wp2_with (go_at_call 40; (with_reducible refine (ref_add B cc zs q _ (hRd _) (by omega) hzs.out).mono ?_); rintro e w2 ⟨A2, c2, rfl, hr2, hF2, hb2⟩; have hr2H := Lib.hid hr2; clear hr2; have hF2H := Lib.hid hF2; clear hF2; have hb2H := Lib.hid hb2; have hcX := (hb2.cell (p := ⟨X, 1, none⟩) hxX).trans hc1; have hfX := (hb2.frozen (p := ⟨X, 1, none⟩) hxX).trans (hR.out.fr 1); have hd2 := (hb2.cell (p := ⟨w.heap.size, 0, none⟩) (by have := hG.out.size; show w.heap.size < wr.heap.size; omega)).trans hd0; clear hb2)
        go_roundw
        case rel => exact ⟨q + 1, k + 1, c2, A2, _, by omega, by omega, rfl, by go_num, hC2k, (hR.out.drew _).store hb2H.out hr2H.out hF2H.out, hU2.out, hC2.out, grown_store (grown_drewN hG.out _) hb2H.out _⟩
        case measure => simp [intOf]; omega
      · rw [hb] at hh
        have hU2 := Lib.hid (hU.out.has hq1 hb)
        clear hb hU
        go_wp2
        go_quiet ((go_at_call 32; exact Calls.quiet_of_same ((hh _).out.mono (by rintro e w' ⟨rfl, rfl⟩; exact ⟨rfl, rfl⟩))))
        go_wp2
        go_roundw
        case rel => exact ⟨q + 1, k, cc, B, zs, by omega, by omega, rfl, rfl, hk, hR.out.drew _, hU2.out, hC.out, grown_drewN hG.out _⟩
        case measure => simp [intOf]; omega
    · have hTb : decide (q < min (i + 1) (64 * (W : Int))) = false := decide_eq_false hlt
      have hqT : Hid (q = T) := by show q = T; omega
      go_wp2
      go_ret
      exact ⟨B, cc, zs, k, rfl, ⟨by rw [← hqT.out]; exact hU.out, by simpa using hC.out⟩, hR.out, hG.out⟩
set_option maxHeartbeats 2000000 in
theorem ref_do1 (w : World) (X W : Nat) (A : Option Addr) (c : Nat) (xs : List Int) (a : RS w X W A c xs) (hs : xs.Pairwise (· < ·)) (hx : ∀ y ∈ xs, 0 ≤ y ∧ y < 64 * (W : Int)) (hW : W ≤ 4096) (d : Nat) (hd : d < 256) (hr4 : d % 4 = 1) (i j : Int) (hi : i ≤ 9223372036854775807) (hi0 : 0 ≤ i) (hi1 : i < 64 * (W : Int))
    (w0 : World) (hw0 : w.alloc (.cells #[.int .u8 (d : Int), .int .i64 i, .int .i64 j] 46) = w0) (m T : Int) (hm : max i 0 = m) (hT : max m (min (i + 1) (64 * (W : Int))) = T) :
    Calls Tryd.prog 29 #[.pointer (some ⟨X, 0, none⟩), .agg #[.int .u8 (d : Int), .int .i64 i, .int .i64 j]] w fun e w' => DoPost false w0 X W xs m T e w' := by
  have hlen : ∀ zs : List Int, zs.Pairwise (· < ·) → (∀ y ∈ zs, 0 ≤ y ∧ y < 64 * (W : Int)) → zs.length ≤ 64 * W := fun zs h1 h2 => sorted_len (64 * W) h1 (fun y hy => by have := h2 y hy; omega)
  have hlenH := Lib.hid hlen
  clear hlen
  have hsH := Lib.hid hs
  clear hs
  have hxH := Lib.hid hx
  clear hx
  have a1 := a.alloc (.cells #[.int .u8 (d : Int), .int .i64 i, .int .i64 j] 46)
  have hXlt := a.lt
  have hcx := a1.c0
  have haH := Lib.hid a1
  have hD : Hid ((w.alloc (.cells #[.int .u8 (d : Int), .int .i64 i, .int .i64 j] 46)).heap[w.heap.size]? = some (.cells #[.int .u8 (d : Int), .int .i64 i, .int .i64 j] 46 (0, 0))) := alloc_top w _ rfl
  clear a a1
  have hs0 : w.heap.size < w0.heap.size := by rw [← hw0]; simp
  rw [hw0] at haH hD
  have hwH := Lib.hid hw0
  clear hw0
  have hm0 : 0 ≤ m := by omega
  have hmH := Lib.hid hm
  clear hm
  have hTH := Lib.hid hT
  have hT1 : m ≤ T := by omega
  have hT2 : T ≤ m ∨ T ≤ 64 * (W : Int) := by omega
  have hT3 : min (i + 1) (64 * (W : Int)) ≤ T := by omega
  have hT4 : T ≤ m ∨ T ≤ min (i + 1) (64 * (W : Int)) := by omega
  have hT5 : min (i + 1) (64 * (W : Int)) ≤ 64 * (W : Int) := by omega
  clear hT
  have e1 : ((d : Int).tmod 4) = 1 := by rw [Int.tmod_eq_emod_of_nonneg (by omega)]; omega
  have e2 : ((d : Int).tmod 2) = 1 := by rw [Int.tmod_eq_emod_of_nonneg (by omega)]; omega
  have e3 : (d : Int) % 4 = 1 := by omega
  have e4 : (d : Int) % 2 = 1 := by omega
  have wN : IntKind.i64.wrap (64 * (W : Int)) = 64 * (W : Int) := IntWalk.i64_in _ (by omega)
  have g1 : decide (i < 0) = false := decide_eq_false (by omega)
  have g2 : decide (64 * (W : Int) ≤ i) = false := decide_eq_false (by omega)
  have g3 : IntKind.i64.wrap (i + 1) = i + 1 := IntWalk.i64_in _ (by omega)
  go_enter Tryd.func29, Tryd.ntmps29
  go_wp2
  go_quiet (fail)
  go_wp2
  go_quiet (fail)
  go_wp2
  rw [hmH.out, hwH.out]
  go_loopw [7, 8] (fun v u wr => ∃ (q : Int) (k cc : Nat) (B : Option Addr) (zs : List Int), m ≤ q ∧ q ≤ T ∧ u = .int .i64 q ∧ v = .int .i64 (k : Int) ∧ k ≤ 64 * W ∧ Hid (RS wr X W B cc zs) ∧ Hid (Upto false xs zs m q) ∧ Hid (k + zs.length = xs.length) ∧ Hid (w0.grownBy wr (some X))) (fun _ u _ => (T - intOf u).toNat)
  case atStart => exact ⟨m, 0, c, A, xs, by omega, hT1, rfl, rfl, by omega, haH.out.drew _, Upto.start hsH.out, Nat.zero_add _, grown_drewN (grown_refl _ _) _⟩
  case round =>
    obtain ⟨q, k, cc, B, zs, hq1, hq2, rfl, rfl, hk, hR, hU, hC, hG⟩ := hrel
    have hc0 := hR.out.c0
    by_cases hlt : q < min (i + 1) (64 * (W : Int))
    · have hqT : q < T := by omega
      have hq64 : q < 64 * (W : Int) := by omega
      have hTb : decide (q < min (i + 1) (64 * (W : Int))) = true := decide_eq_true hlt
      have hzb := upto_mem hU.out hxH.out hm0 (by omega : q ≤ 64 * (W : Int))
      have hzl := hlenH.out zs hU.out.1 hzb
      have hzs : Hid (zs.Pairwise (· < ·)) := hU.out.1
      clear hzb
      have hrow : wr.heap[w.heap.size]? = some (.cells #[.int .u8 (d : Int), .int .i64 i, .int .i64 j] 46 (0, 0)) := (hG.out.block _ hs0 (by intro e; cases e; omega)).trans hD.out
      have hd0 : wr.cell? ⟨w.heap.size, 0, none⟩ = some (.int .u8 (d : Int)) := cell_of_row wr _ 0 _ _ (0, 0) hrow
      clear hrow
      have hc1 := hR.out.c1
      have hRd : ∀ N, Rd (wr.drewN N) (wr.drewN N).heap.size B zs := fun N => hR.out.2.1.drew N
      have hh := fun N => Lib.hid (ref_has B cc zs q (wr.drewN N) _ (hR.out.2.1.drew N) (by omega))
      have wq : IntKind.i64.wrap (q + 1) = q + 1 := IntWalk.i64_in _ (by omega)
      cases hb : M.rHas zs q
      · rw [hb] at hh
        have hU2 := Lib.hid (hU.out.has hq1 hb)
        clear hb hU
        go_wp2
        go_quiet ((go_at_call 32; exact Calls.quiet_of_same ((hh _).out.mono (by rintro e w' ⟨rfl, rfl⟩; exact ⟨rfl, rfl⟩))))
        go_wp2
        go_roundw
        case rel => exact ⟨q + 1, k, cc, B, zs, by omega, by omega, rfl, rfl, hk, hR.out.drew _, hU2.out, hC.out, grown_drewN hG.out _⟩
        case measure => simp [intOf]; omega
      · rw [hb] at hh
        have hU2 := Lib.hid (hU.out.drop hq1)
        have hC2 : Hid (k + 1 + (M.drop zs q).length = xs.length) := by
          show _ = _
          have e5 := hC.out
          have e6 := drop_len1 hzs.out hb
          omega
        have hyb := upto_mem hU2.out hxH.out hm0 (by omega : q + 1 ≤ 64 * (W : Int))
        have hyl := hlenH.out _ hU2.out.1 hyb
        clear hyb hb hU
        have hC2k : k + 1 ≤ 64 * W := by have := hC2.out; have := hC.out; have := hlenH.out xs hsH.out hxH.out; omega
        clear hC
        have hxX := hR.out.lt
        go_wp2
        go_quiet ((go_at_call 32; exact Calls.quiet_of_same ((hh _).out.mono (by rintro e w' ⟨rfl, rfl⟩; exact ⟨rfl, rfl⟩))))
        go_wp2_with (go_at_call 41; (with_reducible refine (ref_drop B cc zs q _ (hRd _) (by omega)).mono ?_); rintro e w2 ⟨A2, c2, rfl, hr2, hF2, hb2⟩; have hr2H := Lib.hid hr2; clear hr2; have hF2H := Lib.hid hF2; clear hF2; have hb2H := Lib.hid hb2; have hcX := (hb2.cell (p := ⟨X, 1, none⟩) hxX).trans hc1; have hfX := (hb2.frozen (p := ⟨X, 1, none⟩) hxX).trans (hR.out.fr 1); have hd2 := (hb2.cell (p := ⟨w.heap.size, 0, none⟩) (by have := hG.out.size; show w.heap.size < wr.heap.size; omega)).trans hd0; clear hb2)
        go_roundw
        case rel => exact ⟨q + 1, k + 1, c2, A2, _, by omega, by omega, rfl, by go_num, hC2k, (hR.out.drew _).store hb2H.out hr2H.out hF2H.out, hU2.out, hC2.out, grown_store (grown_drewN hG.out _) hb2H.out _⟩
        case measure => simp [intOf]; omega
    · have hTb : decide (q < min (i + 1) (64 * (W : Int))) = false := decide_eq_false hlt
      have hqT : Hid (q = T) := by show q = T; omega
      go_wp2
      go_ret
      exact ⟨B, cc, zs, k, rfl, ⟨by rw [← hqT.out]; exact hU.out, by simpa using hC.out⟩, hR.out, hG.out⟩
set_option maxHeartbeats 2000000 in
theorem ref_do2 (w : World) (X W : Nat) (A : Option Addr) (c : Nat) (xs : List Int) (a : RS w X W A c xs) (hs : xs.Pairwise (· < ·)) (hx : ∀ y ∈ xs, 0 ≤ y ∧ y < 64 * (W : Int)) (hW : W ≤ 4096) (d : Nat) (hd : d < 256) (hr4 : d % 4 = 2) (i j : Int) (hi : i ≤ 9223372036854775807) 
    (w0 : World) (hw0 : w.alloc (.cells #[.int .u8 (d : Int), .int .i64 i, .int .i64 j] 46) = w0) (m T : Int) (hm : max i 0 = m) (hT : max m (min j (64 * (W : Int))) = T) :
    Calls Tryd.prog 29 #[.pointer (some ⟨X, 0, none⟩), .agg #[.int .u8 (d : Int), .int .i64 i, .int .i64 j]] w fun e w' => DoPost true w0 X W xs m T e w' := by
  have hlen : ∀ zs : List Int, zs.Pairwise (· < ·) → (∀ y ∈ zs, 0 ≤ y ∧ y < 64 * (W : Int)) → zs.length ≤ 64 * W := fun zs h1 h2 => sorted_len (64 * W) h1 (fun y hy => by have := h2 y hy; omega)
  have hlenH := Lib.hid hlen
  clear hlen
  have hsH := Lib.hid hs
  clear hs
  have hxH := Lib.hid hx
  clear hx
  have a1 := a.alloc (.cells #[.int .u8 (d : Int), .int .i64 i, .int .i64 j] 46)
  have hXlt := a.lt
  have hcx := a1.c0
  have haH := Lib.hid a1
  have hD : Hid ((w.alloc (.cells #[.int .u8 (d : Int), .int .i64 i, .int .i64 j] 46)).heap[w.heap.size]? = some (.cells #[.int .u8 (d : Int), .int .i64 i, .int .i64 j] 46 (0, 0))) := alloc_top w _ rfl
  clear a a1
  have hs0 : w.heap.size < w0.heap.size := by rw [← hw0]; simp
  rw [hw0] at haH hD
  have hwH := Lib.hid hw0
  clear hw0
  have hm0 : 0 ≤ m := by omega
  have hmH := Lib.hid hm
  clear hm
  have hTH := Lib.hid hT
  have hT1 : m ≤ T := by omega
  have hT2 : T ≤ m ∨ T ≤ 64 * (W : Int) := by omega
  have hT3 : min j (64 * (W : Int)) ≤ T := by omega
  have hT4 : T ≤ m ∨ T ≤ min j (64 * (W : Int)) := by omega
  have hT5 : min j (64 * (W : Int)) ≤ 64 * (W : Int) := by omega
  clear hT
  have e1 : ((d : Int).tmod 4) = 2 := by rw [Int.tmod_eq_emod_of_nonneg (by omega)]; omega
  have e2 : ((d : Int).tmod 2) = 0 := by rw [Int.tmod_eq_emod_of_nonneg (by omega)]; omega
  have e3 : (d : Int) % 4 = 2 := by omega
  have e4 : (d : Int) % 2 = 0 := by omega
  have wN : IntKind.i64.wrap (64 * (W : Int)) = 64 * (W : Int) := IntWalk.i64_in _ (by omega)
  go_enter Tryd.func29, Tryd.ntmps29
  go_wp2
  go_quiet (fail)
  go_wp2
  rw [hmH.out, hwH.out]
  go_loopw [7, 8] (fun v u wr => ∃ (q : Int) (k cc : Nat) (B : Option Addr) (zs : List Int), m ≤ q ∧ q ≤ T ∧ u = .int .i64 q ∧ v = .int .i64 (k : Int) ∧ k ≤ 64 * W ∧ Hid (RS wr X W B cc zs) ∧ Hid (Upto true xs zs m q) ∧ Hid (k + xs.length = zs.length) ∧ Hid (w0.grownBy wr (some X))) (fun _ u _ => (T - intOf u).toNat)
  case atStart => exact ⟨m, 0, c, A, xs, by omega, hT1, rfl, rfl, by omega, haH.out.drew _, Upto.start hsH.out, Nat.zero_add _, grown_drewN (grown_refl _ _) _⟩
  case round =>
    obtain ⟨q, k, cc, B, zs, hq1, hq2, rfl, rfl, hk, hR, hU, hC, hG⟩ := hrel
    have hc0 := hR.out.c0
    by_cases hlt : q < min j (64 * (W : Int))
    · have hqT : q < T := by omega
      have hq64 : q < 64 * (W : Int) := by omega
      have hTb : decide (q < min j (64 * (W : Int))) = true := decide_eq_true hlt
      have hzb := upto_mem hU.out hxH.out hm0 (by omega : q ≤ 64 * (W : Int))
      have hzl := hlenH.out zs hU.out.1 hzb
      have hzs : Hid (zs.Pairwise (· < ·)) := hU.out.1
      clear hzb
      have hrow : wr.heap[w.heap.size]? = some (.cells #[.int .u8 (d : Int), .int .i64 i, .int .i64 j] 46 (0, 0)) := (hG.out.block _ hs0 (by intro e; cases e; omega)).trans hD.out
      have hd0 : wr.cell? ⟨w.heap.size, 0, none⟩ = some (.int .u8 (d : Int)) := cell_of_row wr _ 0 _ _ (0, 0) hrow
      clear hrow
      have hc1 := hR.out.c1
      have hRd : ∀ N, Rd (wr.drewN N) (wr.drewN N).heap.size B zs := fun N => hR.out.2.1.drew N
      have hh := fun N => Lib.hid (ref_has B cc zs q (wr.drewN N) _ (hR.out.2.1.drew N) (by omega))
      have wq : IntKind.i64.wrap (q + 1) = q + 1 := IntWalk.i64_in _ (by omega)
      cases hb : M.rHas zs q
      · rw [hb] at hh
        have hU2 := Lib.hid (hU.out.add hq1)
        have hC2 : Hid (k + 1 + xs.length = (M.add zs q).length) := by
          show _ = _
          have e5 := hC.out
          have e6 := add_len hzs.out hb
          omega
        have hyb := upto_mem hU2.out hxH.out hm0 (by omega : q + 1 ≤ 64 * (W : Int))
        have hyl := hlenH.out _ hU2.out.1 hyb
        clear hyb hb hU
        have hC2k : k + 1 ≤ 64 * W := by have := hC2.out; have := hC.out; omega
        clear hC
        have hxX := hR.out.lt
        go_wp2
        go_quiet ((go_at_call 32; exact Calls.quiet_of_same ((hh _).out.mono (by rintro e w' ⟨rfl, rfl⟩; exact ⟨rfl, rfl⟩))))
        go_wp2_with (go_at_call 40; (with_reducible refine (ref_add B cc zs q _ (hRd _) (by omega) hzs.out).mono ?_); rintro e w2 ⟨A2, c2, rfl, hr2, hF2, hb2⟩; have hr2H := Lib.hid hr2; clear hr2; have hF2H := Lib.hid hF2; clear hF2; have hb2H := Lib.hid hb2; have hcX := (hb2.cell (p := ⟨X, 1, none⟩) hxX).trans hc1; have hfX := (hb2.frozen (p := ⟨X, 1, none⟩) hxX).trans (hR.out.fr 1); have hd2 := (hb2.cell (p := ⟨w.heap.size, 0, none⟩) (by have := hG.out.size; show w.heap.size < wr.heap.size; omega)).trans hd0; clear hb2)
        go_roundw
        case rel => exact ⟨q + 1, k + 1, c2, A2, _, by omega, by omega, rfl, by go_num, hC2k, (hR.out.drew _).store hb2H.out hr2H.out hF2H.out, hU2.out, hC2.out, grown_store (grown_drewN hG.out _) hb2H.out _⟩
        case measure => simp [intOf]; omega
      · rw [hb] at hh
        have hU2 := Lib.hid (hU.out.has hq1 hb)
        clear hb hU
        go_wp2
        go_quiet ((go_at_call 32; exact Calls.quiet_of_same ((hh _).out.mono (by rintro e w' ⟨rfl, rfl⟩; exact ⟨rfl, rfl⟩))))
        go_wp2
        go_roundw
        case rel => exact ⟨q + 1, k, cc, B, zs, by omega, by omega, rfl, rfl, hk, hR.out.drew _, hU2.out, hC.out, grown_drewN hG.out _⟩
        case measure => simp [intOf]; omega
    · have hTb : decide (q < min j (64 * (W : Int))) = false := decide_eq_false hlt
      have hqT : Hid (q = T) := by show q = T; omega
      go_wp2
      go_ret
      exact ⟨B, cc, zs, k, rfl, ⟨by rw [← hqT.out]; exact hU.out, by simpa using hC.out⟩, hR.out, hG.out⟩
set_option maxHeartbeats 2000000 in
theorem ref_do3 (w : World) (X W : Nat) (A : Option Addr) (c : Nat) (xs : List Int) (a : RS w X W A c xs) (hs : xs.Pairwise (· < ·)) (hx : ∀ y ∈ xs, 0 ≤ y ∧ y < 64 * (W : Int)) (hW : W ≤ 4096) (d : Nat) (hd : d < 256) (hr4 : d % 4 = 3) (i j : Int) (hi : i ≤ 9223372036854775807) 
    (w0 : World) (hw0 : w.alloc (.cells #[.int .u8 (d : Int), .int .i64 i, .int .i64 j] 46) = w0) (m T : Int) (hm : max i 0 = m) (hT : max m (min j (64 * (W : Int))) = T) :
    Calls Tryd.prog 29 #[.pointer (some ⟨X, 0, none⟩), .agg #[.int .u8 (d : Int), .int .i64 i, .int .i64 j]] w fun e w' => DoPost false w0 X W xs m T e w' := by
  have hlen : ∀ zs : List Int, zs.Pairwise (· < ·) → (∀ y ∈ zs, 0 ≤ y ∧ y < 64 * (W : Int)) → zs.length ≤ 64 * W := fun zs h1 h2 => sorted_len (64 * W) h1 (fun y hy => by have := h2 y hy; omega)
  have hlenH := Lib.hid hlen
  clear hlen
  have hsH := Lib.hid hs
  clear hs
  have hxH := Lib.hid hx
  clear hx
  have a1 := a.alloc (.cells #[.int .u8 (d : Int), .int .i64 i, .int .i64 j] 46)
  have hXlt := a.lt
  have hcx := a1.c0
  have haH := Lib.hid a1
  have hD : Hid ((w.alloc (.cells #[.int .u8 (d : Int), .int .i64 i, .int .i64 j] 46)).heap[w.heap.size]? = some (.cells #[.int .u8 (d : Int), .int .i64 i, .int .i64 j] 46 (0, 0))) := alloc_top w _ rfl
  clear a a1
  have hs0 : w.heap.size < w0.heap.size := by rw [← hw0]; simp
  rw [hw0] at haH hD
  have hwH := Lib.hid hw0
  clear hw0
  have hm0 : 0 ≤ m := by omega
  have hmH := Lib.hid hm
  clear hm
  have hTH := Lib.hid hT
  have hT1 : m ≤ T := by omega
  have hT2 : T ≤ m ∨ T ≤ 64 * (W : Int) := by omega
  have hT3 : min j (64 * (W : Int)) ≤ T := by omega
  have hT4 : T ≤ m ∨ T ≤ min j (64 * (W : Int)) := by omega
  have hT5 : min j (64 * (W : Int)) ≤ 64 * (W : Int) := by omega
  clear hT
  have e1 : ((d : Int).tmod 4) = 3 := by rw [Int.tmod_eq_emod_of_nonneg (by omega)]; omega
  have e2 : ((d : Int).tmod 2) = 1 := by rw [Int.tmod_eq_emod_of_nonneg (by omega)]; omega
  have e3 : (d : Int) % 4 = 3 := by omega
  have e4 : (d : Int) % 2 = 1 := by omega
  have wN : IntKind.i64.wrap (64 * (W : Int)) = 64 * (W : Int) := IntWalk.i64_in _ (by omega)
  go_enter Tryd.func29, Tryd.ntmps29
  go_wp2
  go_quiet (fail)
  go_wp2
  rw [hmH.out, hwH.out]
  go_loopw [7, 8] (fun v u wr => ∃ (q : Int) (k cc : Nat) (B : Option Addr) (zs : List Int), m ≤ q ∧ q ≤ T ∧ u = .int .i64 q ∧ v = .int .i64 (k : Int) ∧ k ≤ 64 * W ∧ Hid (RS wr X W B cc zs) ∧ Hid (Upto false xs zs m q) ∧ Hid (k + zs.length = xs.length) ∧ Hid (w0.grownBy wr (some X))) (fun _ u _ => (T - intOf u).toNat)
  case atStart => exact ⟨m, 0, c, A, xs, by omega, hT1, rfl, rfl, by omega, haH.out.drew _, Upto.start hsH.out, Nat.zero_add _, grown_drewN (grown_refl _ _) _⟩
  case round =>
    obtain ⟨q, k, cc, B, zs, hq1, hq2, rfl, rfl, hk, hR, hU, hC, hG⟩ := hrel
    have hc0 := hR.out.c0
    by_cases hlt : q < min j (64 * (W : Int))
    · have hqT : q < T := by omega
      have hq64 : q < 64 * (W : Int) := by omega
      have hTb : decide (q < min j (64 * (W : Int))) = true := decide_eq_true hlt
      have hzb := upto_mem hU.out hxH.out hm0 (by omega : q ≤ 64 * (W : Int))
      have hzl := hlenH.out zs hU.out.1 hzb
      have hzs : Hid (zs.Pairwise (· < ·)) := hU.out.1
      clear hzb
      have hrow : wr.heap[w.heap.size]? = some (.cells #[.int .u8 (d : Int), .int .i64 i, .int .i64 j] 46 (0, 0)) := (hG.out.block _ hs0 (by intro e; cases e; omega)).trans hD.out
      have hd0 : wr.cell? ⟨w.heap.size, 0, none⟩ = some (.int .u8 (d : Int)) := cell_of_row wr _ 0 _ _ (0, 0) hrow
      clear hrow
      have hc1 := hR.out.c1
      have hRd : ∀ N, Rd (wr.drewN N) (wr.drewN N).heap.size B zs := fun N => hR.out.2.1.drew N
      have hh := fun N => Lib.hid (ref_has B cc zs q (wr.drewN N) _ (hR.out.2.1.drew N) (by omega))
      have wq : IntKind.i64.wrap (q + 1) = q + 1 := IntWalk.i64_in _ (by omega)
      cases hb : M.rHas zs q
      · rw [hb] at hh
        have hU2 := Lib.hid (hU.out.has hq1 hb)
        clear hb hU
        go_wp2
        go_quiet ((go_at_call 32; exact Calls.quiet_of_same ((hh _).out.mono (by rintro e w' ⟨rfl, rfl⟩; exact ⟨rfl, rfl⟩))))
        go_wp2
        go_roundw
        case rel => exact ⟨q + 1, k, cc, B, zs, by omega, by omega, rfl, rfl, hk, hR.out.drew _, hU2.out, hC.out, grown_drewN hG.out _⟩
        case measure => simp [intOf]; omega
      · rw [hb] at hh
        have hU2 := Lib.hid (hU.out.drop hq1)
        have hC2 : Hid (k + 1 + (M.drop zs q).length = xs.length) := by
          show _ = _
          have e5 := hC.out
          have e6 := drop_len1 hzs.out hb
          omega
        have hyb := upto_mem hU2.out hxH.out hm0 (by omega : q + 1 ≤ 64 * (W : Int))
        have hyl := hlenH.out _ hU2.out.1 hyb
        clear hyb hb hU
        have hC2k : k + 1 ≤ 64 * W := by have := hC2.out; have := hC.out; have := hlenH.out xs hsH.out hxH.out; omega
        clear hC
        have hxX := hR.out.lt
        go_wp2
        go_quiet ((go_at_call 32; exact Calls.quiet_of_same ((hh _).out.mono (by rintro e w' ⟨rfl, rfl⟩; exact ⟨rfl, rfl⟩))))
        go_wp2_with (go_at_call 41; (with_reducible refine (ref_drop B cc zs q _ (hRd _) (by omega)).mono ?_); rintro e w2 ⟨A2, c2, rfl, hr2, hF2, hb2⟩; have hr2H := Lib.hid hr2; clear hr2; have hF2H := Lib.hid hF2; clear hF2; have hb2H := Lib.hid hb2; have hcX := (hb2.cell (p := ⟨X, 1, none⟩) hxX).trans hc1; have hfX := (hb2.frozen (p := ⟨X, 1, none⟩) hxX).trans (hR.out.fr 1); have hd2 := (hb2.cell (p := ⟨w.heap.size, 0, none⟩) (by have := hG.out.size; show w.heap.size < wr.heap.size; omega)).trans hd0; clear hb2)
        go_roundw
        case rel => exact ⟨q + 1, k + 1, c2, A2, _, by omega, by omega, rfl, by go_num, hC2k, (hR.out.drew _).store hb2H.out hr2H.out hF2H.out, hU2.out, hC2.out, grown_store (grown_drewN hG.out _) hb2H.out _⟩
        case measure => simp [intOf]; omega
    · have hTb : decide (q < min j (64 * (W : Int))) = false := decide_eq_false hlt
      have hqT : Hid (q = T) := by show q = T; omega
      go_wp2
      go_ret
      exact ⟨B, cc, zs, k, rfl, ⟨by rw [← hqT.out]; exact hU.out, by simpa using hC.out⟩, hR.out, hG.out⟩

theorem ref_do_low (w : World) (X W : Nat) (A : Option Addr) (c : Nat) (xs : List Int) (a : RS w X W A c xs) (hW : W ≤ 4096) (d : Nat) (hd : d < 256) (hr4 : d % 4 < 2) (i j : Int) (ho : i < 0)
    (w0 : World) (hw0 : w.alloc (.cells #[.int .u8 (d : Int), .int .i64 i, .int .i64 j] 46) = w0) :
    Calls Tryd.prog 29 #[.pointer (some ⟨X, 0, none⟩), .agg #[.int .u8 (d : Int), .int .i64 i, .int .i64 j]] w fun e w' => e = .returned (.int .i64 0) ∧ ∃ n, w' = w0.drewN n := by
  have hcx := (a.alloc (.cells #[.int .u8 (d : Int), .int .i64 i, .int .i64 j] 46)).c0
  have hXlt := a.lt
  have hwH := Lib.hid hw0
  clear a hw0
  rcases (by omega : d % 4 = 0 ∨ d % 4 = 1) with hr | hr
  all_goals
    have e1 : ((d : Int).tmod 4) = (d % 4 : Nat) := by rw [Int.tmod_eq_emod_of_nonneg (by omega)]; omega
    have e3 : (d : Int) % 4 = (d % 4 : Nat) := by omega
    rw [hr] at e1 e3
    have wN : IntKind.i64.wrap (64 * (W : Int)) = 64 * (W : Int) := IntWalk.i64_in _ (by omega)
    have g1 : decide (i < 0) = true := decide_eq_true ho
    go_enter Tryd.func29, Tryd.ntmps29
    go_wp2
    go_quiet (fail)
    go_wp2
    go_quiet (fail)
    go_wp2
    rw [hwH.out]
    refine bodyPost_ret (results_tmp (t := 4) rfl _ _ _) rfl ?_
    exact ⟨rfl, _, World.drewN_drewN _ _ _⟩
theorem ref_do_high (w : World) (X W : Nat) (A : Option Addr) (c : Nat) (xs : List Int) (a : RS w X W A c xs) (hW : W ≤ 4096) (d : Nat) (hd : d < 256) (hr4 : d % 4 < 2) (i j : Int) (ho : 64 * (W : Int) ≤ i)
    (w0 : World) (hw0 : w.alloc (.cells #[.int .u8 (d : Int), .int .i64 i, .int .i64 j] 46) = w0) :
    Calls Tryd.prog 29 #[.pointer (some ⟨X, 0, none⟩), .agg #[.int .u8 (d : Int), .int .i64 i, .int .i64 j]] w fun e w' => e = .returned (.int .i64 0) ∧ ∃ n, w' = w0.drewN n := by
  have hcx := (a.alloc (.cells #[.int .u8 (d : Int), .int .i64 i, .int .i64 j] 46)).c0
  have hXlt := a.lt
  have hwH := Lib.hid hw0
  clear a hw0
  rcases (by omega : d % 4 = 0 ∨ d % 4 = 1) with hr | hr
  all_goals
    have e1 : ((d : Int).tmod 4) = (d % 4 : Nat) := by rw [Int.tmod_eq_emod_of_nonneg (by omega)]; omega
    have e3 : (d : Int) % 4 = (d % 4 : Nat) := by omega
    rw [hr] at e1 e3
    have wN : IntKind.i64.wrap (64 * (W : Int)) = 64 * (W : Int) := IntWalk.i64_in _ (by omega)
    have g1 : decide (i < 0) = false := decide_eq_false (by omega)
    have g2 : decide (64 * (W : Int) ≤ i) = true := decide_eq_true ho
    go_enter Tryd.func29, Tryd.ntmps29
    go_wp2
    go_quiet (fail)
    go_wp2
    go_quiet (fail)
    go_wp2
    rw [hwH.out]
    refine bodyPost_ret (results_tmp (t := 4) rfl _ _ _) rfl ?_
    exact ⟨rfl, _, World.drewN_drewN _ _ _⟩
end Go.Proofs.YtnpdndcgmfhbdaaDoor
