/- What the document's Do answers (stepstoneref11): what changes nothing; the text walked. What the document's Do answers (stepstoneref11): what errs, clears, adds and drops; the text walked. What the document's Do answers (stepstoneref11), whatever is asked; and plain facts of rising lists. -/
import Derived.Test.YtiinefdpaiincaaMgC
section
namespace Go.Proofs.Ytiinefdpaiincaa
set_option maxRecDepth 4000
open Go.RowKit
set_option maxHeartbeats 1000000 in
theorem k_do_has (w : World) (v : Value) (xs : List Nat) (h : KX w v xs) (hl : xs.length ≤ 4611686018427387904) (d k : Nat) (hd : d < 256) (hk : d % 9 = 3) :
    Calls Try.prog 9 #[v, kactv d k] w (KDo w v xs 0 0 (K.fo xs k)) := by
  have hfd := Lib.hid (k_find_do w v xs h hl d k)
  obtain ⟨e1, e2⟩ := mod9 d hd 3 hk
  have hvo := Lib.hid (kx_own h)
  clear h hk hd
  generalize K.fi xs k = F at *
  generalize K.fo xs k = G at *
  go_enter Try.func9, Try.ntmps9
  go_wp2_with (go_at_call 32; (with_reducible refine hfd.out.mono ?_); rintro e w2 ⟨rfl, hD⟩; have HD2 := Lib.hid hD; have c0 := hD.c0; have c1 := hD.c1; have sz1 : w.heap.size < w2.heap.size := (by have := hD.size; omega); have sz2 : w.heap.size + 1 < w2.heap.size := (by have := hD.size; omega); clear hD)
  have hW0 : (w2.alloc (.cells #[.int .i64 0, .int .u64 0, .bool G] 34)).heap[w.heap.size + 1]? = some kanso := (Below.heap_alloc _ _ _ sz2).trans HD2.out.a0
  have hW1 := K.alloc_top w2 (.cells #[.int .i64 0, .int .u64 0, .bool G] 34)
  have hWL : Below w.heap.size w (w2.alloc (.cells #[.int .i64 0, .int .u64 0, .bool G] 34)) := HD2.out.low.alloc HD2.out.low.size _
  have hWK : KX (w2.alloc (.cells #[.int .i64 0, .int .u64 0, .bool G] 34)) v xs := HD2.out.kx.below ((Below.refl _ _).alloc (Nat.le_refl _) _)
  clear c0 c1
  generalize (w2.alloc (.cells #[.int .i64 0, .int .u64 0, .bool G] 34)) = W at *
  have x0 : W.cell? ⟨w2.heap.size, 0, none⟩ = some (.int .i64 0) := cell_of_row _ _ 0 _ _ (0, 0) hW1
  have x1 : W.cell? ⟨w2.heap.size, 1, none⟩ = some (.int .u64 0) := cell_of_row _ _ 1 _ _ (0, 0) hW1
  have x2 : W.cell? ⟨w2.heap.size, 2, none⟩ = some (.bool G) := cell_of_row _ _ 2 _ _ (0, 0) hW1
  have y0 : W.cell? ⟨w.heap.size + 1, 0, none⟩ = some (.int .i64 0) := cell_of_row _ _ 0 _ _ (0, 0) hW0
  have y1 : W.cell? ⟨w.heap.size + 1, 1, none⟩ = some (.int .u64 0) := cell_of_row _ _ 1 _ _ (0, 0) hW0
  have y2 : W.cell? ⟨w.heap.size + 1, 2, none⟩ = some (.bool false) := cell_of_row _ _ 2 _ _ (0, 0) hW0
  have f0 : W.frozen? ⟨w.heap.size + 1, 0, none⟩ = false := frozen_of_row _ _ _ _ _ hW0
  have f1 : W.frozen? ⟨w.heap.size + 1, 1, none⟩ = false := frozen_of_row _ _ _ _ _ hW0
  have f2 : W.frozen? ⟨w.heap.size + 1, 2, none⟩ = false := frozen_of_row _ _ _ _ _ hW0
  go_region
  all_goals
    go_wp2
    obtain ⟨hr, hx, hb⟩ := k_end (a' := .int .i64 0) (b' := .int .u64 0) (c' := .bool G) hW0 hWL hWK hvo.out 1
    refine bodyPost_ret (k_res rfl _ _ (w.heap.size + 1) _ _ _ _ _ rfl hr) rfl ?_
    exact ⟨v, rfl, hx, hb, .inl rfl⟩
set_option maxHeartbeats 1000000 in
theorem k_do_next (w : World) (v : Value) (xs : List Nat) (h : KX w v xs) (hl : xs.length ≤ 4611686018427387904) (d k : Nat) (hd : d < 256) (hk : d % 9 = 4) :
    Calls Try.prog 9 #[v, kactv d k] w (KDo w v xs 0 (K.nx xs k) (K.nxb xs k)) := by
  have hfd := Lib.hid (k_find_do w v xs h hl d k)
  obtain ⟨e1, e2⟩ := mod9 d hd 4 hk
  have hvo := Lib.hid (kx_own h)
  have hvl := Lib.hid (fun (j : Nat) (e : v.ownBlock = some j) => (K.own_lt h e).1)
  have hnx : Hid (∀ W : World, KX W v xs → Calls Try.prog 38 #[v, .int .u64 (k : Int)] W fun e w' => e = .returned (.tuple #[.int .u64 ((K.nx xs k : Nat) : Int), .bool (K.nxb xs k)]) ∧ Below W.heap.size W w') := Lib.hid (fun W hW => k_next W v xs hW hl k)
  clear h hk hd
  generalize K.fi xs k = F at *
  generalize K.fo xs k = G at *
  generalize K.nx xs k = X at *
  generalize K.nxb xs k = Y at *
  go_enter Try.func9, Try.ntmps9
  go_wp2_with (first
    | (go_at_call 32; (with_reducible refine hfd.out.mono ?_); rintro e w2 ⟨rfl, hD⟩; have HD2 := Lib.hid hD; have c0 := hD.c0; have c1 := hD.c1; have sz1 : w.heap.size < w2.heap.size := (by have := hD.size; omega); have sz2 : w.heap.size + 1 < w2.heap.size := (by have := hD.size; omega); clear hD)
    | (go_at_call 38; (with_reducible refine (hnx.out _ (HD2.out.kx.below ((Below.refl _ _).alloc (Nat.le_refl _) _))).mono ?_); rintro e w4 ⟨rfl, hb4⟩; have HE := Lib.hid (KE.of HD2.out hb4); clear hb4 c0 c1; have x0 := cell_of_row w4 _ 0 _ _ (0, 0) HE.out.x0; have x1 := cell_of_row w4 _ 1 _ _ (0, 0) HE.out.x0; have x2 := cell_of_row w4 _ 2 _ _ (0, 0) HE.out.x0; have g1 := frozen_of_row w4 _ 1 _ _ HE.out.x0; have g2 := frozen_of_row w4 _ 2 _ _ HE.out.x0; simp at x0 x1 x2))
  have hW0 : ((w4.setCell ⟨w2.heap.size, 1, none⟩ (.int .u64 (X : Int))).setCell ⟨w2.heap.size, 2, none⟩ (.bool Y)).heap[w.heap.size + 1]? = some kanso := (Go.heap_setCell_other _ _ _ _ (by simp; omega)).trans ((Go.heap_setCell_other _ _ _ _ (by simp; omega)).trans HE.out.a0)
  have hW1 := K.set_one (b' := .int .u64 (X : Int)) (c' := .bool Y) HE.out.x0
  have hWL : Below w.heap.size w ((w4.setCell ⟨w2.heap.size, 1, none⟩ (.int .u64 (X : Int))).setCell ⟨w2.heap.size, 2, none⟩ (.bool Y)) := (HE.out.low.setCell (p := ⟨w2.heap.size, 1, none⟩) (by simp; omega) _).setCell (p := ⟨w2.heap.size, 2, none⟩) (by simp; omega) _
  have hWK : KX ((w4.setCell ⟨w2.heap.size, 1, none⟩ (.int .u64 (X : Int))).setCell ⟨w2.heap.size, 2, none⟩ (.bool Y)) v xs := K.kx_set (K.kx_set HE.out.kx _ _ (fun e => absurd (hvl.out w2.heap.size e) (by omega))) _ _ (fun e => absurd (hvl.out w2.heap.size e) (by omega))
  clear x0 x1 x2 g1 g2
  generalize ((w4.setCell ⟨w2.heap.size, 1, none⟩ (.int .u64 (X : Int))).setCell ⟨w2.heap.size, 2, none⟩ (.bool Y)) = W at *
  have x0 : W.cell? ⟨w2.heap.size, 0, none⟩ = some (.int .i64 0) := cell_of_row _ _ 0 _ _ (0, 0) hW1
  have x1 : W.cell? ⟨w2.heap.size, 1, none⟩ = some (.int .u64 (X : Int)) := cell_of_row _ _ 1 _ _ (0, 0) hW1
  have x2 : W.cell? ⟨w2.heap.size, 2, none⟩ = some (.bool Y) := cell_of_row _ _ 2 _ _ (0, 0) hW1
  have y0 : W.cell? ⟨w.heap.size + 1, 0, none⟩ = some (.int .i64 0) := cell_of_row _ _ 0 _ _ (0, 0) hW0
  have y1 : W.cell? ⟨w.heap.size + 1, 1, none⟩ = some (.int .u64 0) := cell_of_row _ _ 1 _ _ (0, 0) hW0
  have y2 : W.cell? ⟨w.heap.size + 1, 2, none⟩ = some (.bool false) := cell_of_row _ _ 2 _ _ (0, 0) hW0
  have f0 : W.frozen? ⟨w.heap.size + 1, 0, none⟩ = false := frozen_of_row _ _ _ _ _ hW0
  have f1 : W.frozen? ⟨w.heap.size + 1, 1, none⟩ = false := frozen_of_row _ _ _ _ _ hW0
  have f2 : W.frozen? ⟨w.heap.size + 1, 2, none⟩ = false := frozen_of_row _ _ _ _ _ hW0
  go_region
  all_goals
    go_wp2
    obtain ⟨hr, hx, hb⟩ := k_end (a' := .int .i64 0) (b' := .int .u64 (X : Int)) (c' := .bool Y) hW0 hWL hWK hvo.out 1
    refine bodyPost_ret (k_res rfl _ _ (w.heap.size + 1) _ _ _ _ _ rfl hr) rfl ?_
    exact ⟨v, rfl, hx, hb, .inl rfl⟩
set_option maxHeartbeats 1000000 in
theorem k_do_prev (w : World) (v : Value) (xs : List Nat) (h : KX w v xs) (hl : xs.length ≤ 4611686018427387904) (d k : Nat) (hd : d < 256) (hk : d % 9 = 5) :
    Calls Try.prog 9 #[v, kactv d k] w (KDo w v xs 0 (K.pv xs k) (K.pvb xs k)) := by
  have hfd := Lib.hid (k_find_do w v xs h hl d k)
  obtain ⟨e1, e2⟩ := mod9 d hd 5 hk
  have hvo := Lib.hid (kx_own h)
  have hvl := Lib.hid (fun (j : Nat) (e : v.ownBlock = some j) => (K.own_lt h e).1)
  have hnx : Hid (∀ W : World, KX W v xs → Calls Try.prog 39 #[v, .int .u64 (k : Int)] W fun e w' => e = .returned (.tuple #[.int .u64 ((K.pv xs k : Nat) : Int), .bool (K.pvb xs k)]) ∧ Below W.heap.size W w') := Lib.hid (fun W hW => k_prev W v xs hW hl k)
  clear h hk hd
  generalize K.fi xs k = F at *
  generalize K.fo xs k = G at *
  generalize K.pv xs k = X at *
  generalize K.pvb xs k = Y at *
  go_enter Try.func9, Try.ntmps9
  go_wp2_with (first
    | (go_at_call 32; (with_reducible refine hfd.out.mono ?_); rintro e w2 ⟨rfl, hD⟩; have HD2 := Lib.hid hD; have c0 := hD.c0; have c1 := hD.c1; have sz1 : w.heap.size < w2.heap.size := (by have := hD.size; omega); have sz2 : w.heap.size + 1 < w2.heap.size := (by have := hD.size; omega); clear hD)
    | (go_at_call 39; (with_reducible refine (hnx.out _ (HD2.out.kx.below ((Below.refl _ _).alloc (Nat.le_refl _) _))).mono ?_); rintro e w4 ⟨rfl, hb4⟩; have HE := Lib.hid (KE.of HD2.out hb4); clear hb4 c0 c1; have x0 := cell_of_row w4 _ 0 _ _ (0, 0) HE.out.x0; have x1 := cell_of_row w4 _ 1 _ _ (0, 0) HE.out.x0; have x2 := cell_of_row w4 _ 2 _ _ (0, 0) HE.out.x0; have g1 := frozen_of_row w4 _ 1 _ _ HE.out.x0; have g2 := frozen_of_row w4 _ 2 _ _ HE.out.x0; simp at x0 x1 x2))
  have hW0 : ((w4.setCell ⟨w2.heap.size, 1, none⟩ (.int .u64 (X : Int))).setCell ⟨w2.heap.size, 2, none⟩ (.bool Y)).heap[w.heap.size + 1]? = some kanso := (Go.heap_setCell_other _ _ _ _ (by simp; omega)).trans ((Go.heap_setCell_other _ _ _ _ (by simp; omega)).trans HE.out.a0)
  have hW1 := K.set_one (b' := .int .u64 (X : Int)) (c' := .bool Y) HE.out.x0
  have hWL : Below w.heap.size w ((w4.setCell ⟨w2.heap.size, 1, none⟩ (.int .u64 (X : Int))).setCell ⟨w2.heap.size, 2, none⟩ (.bool Y)) := (HE.out.low.setCell (p := ⟨w2.heap.size, 1, none⟩) (by simp; omega) _).setCell (p := ⟨w2.heap.size, 2, none⟩) (by simp; omega) _
  have hWK : KX ((w4.setCell ⟨w2.heap.size, 1, none⟩ (.int .u64 (X : Int))).setCell ⟨w2.heap.size, 2, none⟩ (.bool Y)) v xs := K.kx_set (K.kx_set HE.out.kx _ _ (fun e => absurd (hvl.out w2.heap.size e) (by omega))) _ _ (fun e => absurd (hvl.out w2.heap.size e) (by omega))
  clear x0 x1 x2 g1 g2
  generalize ((w4.setCell ⟨w2.heap.size, 1, none⟩ (.int .u64 (X : Int))).setCell ⟨w2.heap.size, 2, none⟩ (.bool Y)) = W at *
  have x0 : W.cell? ⟨w2.heap.size, 0, none⟩ = some (.int .i64 0) := cell_of_row _ _ 0 _ _ (0, 0) hW1
  have x1 : W.cell? ⟨w2.heap.size, 1, none⟩ = some (.int .u64 (X : Int)) := cell_of_row _ _ 1 _ _ (0, 0) hW1
  have x2 : W.cell? ⟨w2.heap.size, 2, none⟩ = some (.bool Y) := cell_of_row _ _ 2 _ _ (0, 0) hW1
  have y0 : W.cell? ⟨w.heap.size + 1, 0, none⟩ = some (.int .i64 0) := cell_of_row _ _ 0 _ _ (0, 0) hW0
  have y1 : W.cell? ⟨w.heap.size + 1, 1, none⟩ = some (.int .u64 0) := cell_of_row _ _ 1 _ _ (0, 0) hW0
  have y2 : W.cell? ⟨w.heap.size + 1, 2, none⟩ = some (.bool false) := cell_of_row _ _ 2 _ _ (0, 0) hW0
  have f0 : W.frozen? ⟨w.heap.size + 1, 0, none⟩ = false := frozen_of_row _ _ _ _ _ hW0
  have f1 : W.frozen? ⟨w.heap.size + 1, 1, none⟩ = false := frozen_of_row _ _ _ _ _ hW0
  have f2 : W.frozen? ⟨w.heap.size + 1, 2, none⟩ = false := frozen_of_row _ _ _ _ _ hW0
  go_region
  all_goals
    go_wp2
    obtain ⟨hr, hx, hb⟩ := k_end (a' := .int .i64 0) (b' := .int .u64 (X : Int)) (c' := .bool Y) hW0 hWL hWK hvo.out 1
    refine bodyPost_ret (k_res rfl _ _ (w.heap.size + 1) _ _ _ _ _ rfl hr) rfl ?_
    exact ⟨v, rfl, hx, hb, .inl rfl⟩
set_option maxHeartbeats 1000000 in
theorem k_do_min (w : World) (v : Value) (xs : List Nat) (h : KX w v xs) (hl : xs.length ≤ 4611686018427387904) (d k : Nat) (hd : d < 256) (hk : d % 9 = 6) :
    Calls Try.prog 9 #[v, kactv d k] w (KDo w v xs 0 (K.nx xs 0) (K.nxb xs 0)) := by
  have hfd := Lib.hid (k_find_do w v xs h hl d k)
  obtain ⟨e1, e2⟩ := mod9 d hd 6 hk
  have hvo := Lib.hid (kx_own h)
  have hvl := Lib.hid (fun (j : Nat) (e : v.ownBlock = some j) => (K.own_lt h e).1)
  have hnx : Hid (∀ W : World, KX W v xs → Calls Try.prog 38 #[v, .int .u64 0] W fun e w' => e = .returned (.tuple #[.int .u64 ((K.nx xs 0 : Nat) : Int), .bool (K.nxb xs 0)]) ∧ Below W.heap.size W w') := Lib.hid (fun W hW => k_next W v xs hW hl 0)
  clear h hk hd
  generalize K.fi xs k = F at *
  generalize K.fo xs k = G at *
  generalize K.nx xs 0 = X at *
  generalize K.nxb xs 0 = Y at *
  go_enter Try.func9, Try.ntmps9
  go_wp2_with (first
    | (go_at_call 32; (with_reducible refine hfd.out.mono ?_); rintro e w2 ⟨rfl, hD⟩; have HD2 := Lib.hid hD; have c0 := hD.c0; have c1 := hD.c1; have sz1 : w.heap.size < w2.heap.size := (by have := hD.size; omega); have sz2 : w.heap.size + 1 < w2.heap.size := (by have := hD.size; omega); clear hD)
    | (go_at_call 38; (with_reducible refine (hnx.out _ (HD2.out.kx.below ((Below.refl _ _).alloc (Nat.le_refl _) _))).mono ?_); rintro e w4 ⟨rfl, hb4⟩; have HE := Lib.hid (KE.of HD2.out hb4); clear hb4 c0 c1; have x0 := cell_of_row w4 _ 0 _ _ (0, 0) HE.out.x0; have x1 := cell_of_row w4 _ 1 _ _ (0, 0) HE.out.x0; have x2 := cell_of_row w4 _ 2 _ _ (0, 0) HE.out.x0; have g1 := frozen_of_row w4 _ 1 _ _ HE.out.x0; have g2 := frozen_of_row w4 _ 2 _ _ HE.out.x0; simp at x0 x1 x2))
  have hW0 : ((w4.setCell ⟨w2.heap.size, 1, none⟩ (.int .u64 (X : Int))).setCell ⟨w2.heap.size, 2, none⟩ (.bool Y)).heap[w.heap.size + 1]? = some kanso := (Go.heap_setCell_other _ _ _ _ (by simp; omega)).trans ((Go.heap_setCell_other _ _ _ _ (by simp; omega)).trans HE.out.a0)
  have hW1 := K.set_one (b' := .int .u64 (X : Int)) (c' := .bool Y) HE.out.x0
  have hWL : Below w.heap.size w ((w4.setCell ⟨w2.heap.size, 1, none⟩ (.int .u64 (X : Int))).setCell ⟨w2.heap.size, 2, none⟩ (.bool Y)) := (HE.out.low.setCell (p := ⟨w2.heap.size, 1, none⟩) (by simp; omega) _).setCell (p := ⟨w2.heap.size, 2, none⟩) (by simp; omega) _
  have hWK : KX ((w4.setCell ⟨w2.heap.size, 1, none⟩ (.int .u64 (X : Int))).setCell ⟨w2.heap.size, 2, none⟩ (.bool Y)) v xs := K.kx_set (K.kx_set HE.out.kx _ _ (fun e => absurd (hvl.out w2.heap.size e) (by omega))) _ _ (fun e => absurd (hvl.out w2.heap.size e) (by omega))
  clear x0 x1 x2 g1 g2
  generalize ((w4.setCell ⟨w2.heap.size, 1, none⟩ (.int .u64 (X : Int))).setCell ⟨w2.heap.size, 2, none⟩ (.bool Y)) = W at *
  have x0 : W.cell? ⟨w2.heap.size, 0, none⟩ = some (.int .i64 0) := cell_of_row _ _ 0 _ _ (0, 0) hW1
  have x1 : W.cell? ⟨w2.heap.size, 1, none⟩ = some (.int .u64 (X : Int)) := cell_of_row _ _ 1 _ _ (0, 0) hW1
  have x2 : W.cell? ⟨w2.heap.size, 2, none⟩ = some (.bool Y) := cell_of_row _ _ 2 _ _ (0, 0) hW1
  have y0 : W.cell? ⟨w.heap.size + 1, 0, none⟩ = some (.int .i64 0) := cell_of_row _ _ 0 _ _ (0, 0) hW0
  have y1 : W.cell? ⟨w.heap.size + 1, 1, none⟩ = some (.int .u64 0) := cell_of_row _ _ 1 _ _ (0, 0) hW0
  have y2 : W.cell? ⟨w.heap.size + 1, 2, none⟩ = some (.bool false) := cell_of_row _ _ 2 _ _ (0, 0) hW0
  have f0 : W.frozen? ⟨w.heap.size + 1, 0, none⟩ = false := frozen_of_row _ _ _ _ _ hW0
  have f1 : W.frozen? ⟨w.heap.size + 1, 1, none⟩ = false := frozen_of_row _ _ _ _ _ hW0
  have f2 : W.frozen? ⟨w.heap.size + 1, 2, none⟩ = false := frozen_of_row _ _ _ _ _ hW0
  go_region
  all_goals
    go_wp2
    obtain ⟨hr, hx, hb⟩ := k_end (a' := .int .i64 0) (b' := .int .u64 (X : Int)) (c' := .bool Y) hW0 hWL hWK hvo.out 1
    refine bodyPost_ret (k_res rfl _ _ (w.heap.size + 1) _ _ _ _ _ rfl hr) rfl ?_
    exact ⟨v, rfl, hx, hb, .inl rfl⟩
set_option maxHeartbeats 1000000 in
theorem k_do_max (w : World) (v : Value) (xs : List Nat) (h : KX w v xs) (hl : xs.length ≤ 4611686018427387904) (d k : Nat) (hd : d < 256) (hk : d % 9 = 7) :
    Calls Try.prog 9 #[v, kactv d k] w (KDo w v xs 0 (K.pv xs 18446744073709551615) (K.pvb xs 18446744073709551615)) := by
  have hfd := Lib.hid (k_find_do w v xs h hl d k)
  obtain ⟨e1, e2⟩ := mod9 d hd 7 hk
  have hvo := Lib.hid (kx_own h)
  have hvl := Lib.hid (fun (j : Nat) (e : v.ownBlock = some j) => (K.own_lt h e).1)
  have hnx : Hid (∀ W : World, KX W v xs → Calls Try.prog 39 #[v, .int .u64 18446744073709551615] W fun e w' => e = .returned (.tuple #[.int .u64 ((K.pv xs 18446744073709551615 : Nat) : Int), .bool (K.pvb xs 18446744073709551615)]) ∧ Below W.heap.size W w') := Lib.hid (fun W hW => k_prev W v xs hW hl 18446744073709551615)
  clear h hk hd
  generalize K.fi xs k = F at *
  generalize K.fo xs k = G at *
  generalize K.pv xs 18446744073709551615 = X at *
  generalize K.pvb xs 18446744073709551615 = Y at *
  go_enter Try.func9, Try.ntmps9
  go_wp2_with (first
    | (go_at_call 32; (with_reducible refine hfd.out.mono ?_); rintro e w2 ⟨rfl, hD⟩; have HD2 := Lib.hid hD; have c0 := hD.c0; have c1 := hD.c1; have sz1 : w.heap.size < w2.heap.size := (by have := hD.size; omega); have sz2 : w.heap.size + 1 < w2.heap.size := (by have := hD.size; omega); clear hD)
    | (go_at_call 39; (with_reducible refine (hnx.out _ (HD2.out.kx.below ((Below.refl _ _).alloc (Nat.le_refl _) _))).mono ?_); rintro e w4 ⟨rfl, hb4⟩; have HE := Lib.hid (KE.of HD2.out hb4); clear hb4 c0 c1; have x0 := cell_of_row w4 _ 0 _ _ (0, 0) HE.out.x0; have x1 := cell_of_row w4 _ 1 _ _ (0, 0) HE.out.x0; have x2 := cell_of_row w4 _ 2 _ _ (0, 0) HE.out.x0; have g1 := frozen_of_row w4 _ 1 _ _ HE.out.x0; have g2 := frozen_of_row w4 _ 2 _ _ HE.out.x0; simp at x0 x1 x2))
  have hW0 : ((w4.setCell ⟨w2.heap.size, 1, none⟩ (.int .u64 (X : Int))).setCell ⟨w2.heap.size, 2, none⟩ (.bool Y)).heap[w.heap.size + 1]? = some kanso := (Go.heap_setCell_other _ _ _ _ (by simp; omega)).trans ((Go.heap_setCell_other _ _ _ _ (by simp; omega)).trans HE.out.a0)
  have hW1 := K.set_one (b' := .int .u64 (X : Int)) (c' := .bool Y) HE.out.x0
  have hWL : Below w.heap.size w ((w4.setCell ⟨w2.heap.size, 1, none⟩ (.int .u64 (X : Int))).setCell ⟨w2.heap.size, 2, none⟩ (.bool Y)) := (HE.out.low.setCell (p := ⟨w2.heap.size, 1, none⟩) (by simp; omega) _).setCell (p := ⟨w2.heap.size, 2, none⟩) (by simp; omega) _
  have hWK : KX ((w4.setCell ⟨w2.heap.size, 1, none⟩ (.int .u64 (X : Int))).setCell ⟨w2.heap.size, 2, none⟩ (.bool Y)) v xs := K.kx_set (K.kx_set HE.out.kx _ _ (fun e => absurd (hvl.out w2.heap.size e) (by omega))) _ _ (fun e => absurd (hvl.out w2.heap.size e) (by omega))
  clear x0 x1 x2 g1 g2
  generalize ((w4.setCell ⟨w2.heap.size, 1, none⟩ (.int .u64 (X : Int))).setCell ⟨w2.heap.size, 2, none⟩ (.bool Y)) = W at *
  have x0 : W.cell? ⟨w2.heap.size, 0, none⟩ = some (.int .i64 0) := cell_of_row _ _ 0 _ _ (0, 0) hW1
  have x1 : W.cell? ⟨w2.heap.size, 1, none⟩ = some (.int .u64 (X : Int)) := cell_of_row _ _ 1 _ _ (0, 0) hW1
  have x2 : W.cell? ⟨w2.heap.size, 2, none⟩ = some (.bool Y) := cell_of_row _ _ 2 _ _ (0, 0) hW1
  have y0 : W.cell? ⟨w.heap.size + 1, 0, none⟩ = some (.int .i64 0) := cell_of_row _ _ 0 _ _ (0, 0) hW0
  have y1 : W.cell? ⟨w.heap.size + 1, 1, none⟩ = some (.int .u64 0) := cell_of_row _ _ 1 _ _ (0, 0) hW0
  have y2 : W.cell? ⟨w.heap.size + 1, 2, none⟩ = some (.bool false) := cell_of_row _ _ 2 _ _ (0, 0) hW0
  have f0 : W.frozen? ⟨w.heap.size + 1, 0, none⟩ = false := frozen_of_row _ _ _ _ _ hW0
  have f1 : W.frozen? ⟨w.heap.size + 1, 1, none⟩ = false := frozen_of_row _ _ _ _ _ hW0
  have f2 : W.frozen? ⟨w.heap.size + 1, 2, none⟩ = false := frozen_of_row _ _ _ _ _ hW0
  go_region
  all_goals
    go_wp2
    obtain ⟨hr, hx, hb⟩ := k_end (a' := .int .i64 0) (b' := .int .u64 (X : Int)) (c' := .bool Y) hW0 hWL hWK hvo.out 1
    refine bodyPost_ret (k_res rfl _ _ (w.heap.size + 1) _ _ _ _ _ rfl hr) rfl ?_
    exact ⟨v, rfl, hx, hb, .inl rfl⟩
end Go.Proofs.Ytiinefdpaiincaa
end
section
namespace Go.Proofs.Ytiinefdpaiincaa
set_option maxRecDepth 4000
open Go.RowKit
theorem k_end2 {w W : World} {v : Value} {ys : List Nat} {a b c a' b' c' : Value} {T : TypeId} (hW0 : W.heap[w.heap.size + 1]? = some (.cells #[a, b, c] T (0, 0))) (hL : Below w.heap.size w W) (hK : KX W v ys) (hne : v.ownBlock ≠ some (w.heap.size + 1)) (o : Obj) :
    ((((W.setCell ⟨w.heap.size + 1, 0, none⟩ a').setCell ⟨w.heap.size + 1, 1, none⟩ b').setCell ⟨w.heap.size + 1, 2, none⟩ c').alloc o).heap[w.heap.size + 1]? = some (.cells #[a', b', c'] T (0, 0)) ∧
    KX ((((W.setCell ⟨w.heap.size + 1, 0, none⟩ a').setCell ⟨w.heap.size + 1, 1, none⟩ b').setCell ⟨w.heap.size + 1, 2, none⟩ c').alloc o) v ys ∧
    Below w.heap.size w ((((W.setCell ⟨w.heap.size + 1, 0, none⟩ a').setCell ⟨w.heap.size + 1, 1, none⟩ b').setCell ⟨w.heap.size + 1, 2, none⟩ c').alloc o) := by
  obtain ⟨h1, h2, h3⟩ := k_end (a' := a') (b' := b') (c' := c') hW0 hL hK hne 0
  exact ⟨(Below.heap_alloc _ _ _ (Array.getElem?_eq_some_iff.1 h1).1).trans h1, h2.below ((Below.refl _ _).alloc (Nat.le_refl _) _), h3.alloc h3.size _⟩
set_option maxHeartbeats 1000000 in
theorem k_do_add_exists0 (w : World) (v : Value) (xs : List Nat) (h : KX w v xs) (hl : xs.length ≤ 4611686018427387904) (d k : Nat) (hd : d < 256) (hk : d % 9 = 0) (hG : K.fo xs k = true) :
    Calls Try.prog 9 #[v, kactv d k] w (KDo w v xs 4 0 false) := by
  have hfd := Lib.hid (k_find_do w v xs h hl d k)
  obtain ⟨e1, e2⟩ := mod9 d hd 0 hk
  have hvo := Lib.hid (kx_own h)
  rw [hG] at hfd
  clear h hk hd hG
  generalize K.fi xs k = F at *
  go_enter Try.func9, Try.ntmps9
  go_wp2_with (go_at_call 32; (with_reducible refine hfd.out.mono ?_); rintro e w2 ⟨rfl, hD⟩; have HD2 := Lib.hid hD; have c0 := hD.c0; have c1 := hD.c1; have sz1 : w.heap.size < w2.heap.size := (by have := hD.size; omega); have sz2 : w.heap.size + 1 < w2.heap.size := (by have := hD.size; omega); have y0 := cell_of_row w2 _ 0 _ _ (0, 0) hD.a0; have y1 := cell_of_row w2 _ 1 _ _ (0, 0) hD.a0; have y2 := cell_of_row w2 _ 2 _ _ (0, 0) hD.a0; have f0 := frozen_of_row w2 _ 0 _ _ hD.a0; have f1 := frozen_of_row w2 _ 1 _ _ hD.a0; have f2 := frozen_of_row w2 _ 2 _ _ hD.a0; simp at y0 y1 y2; clear hD)
  obtain ⟨hr, hx, hb⟩ := k_end2 (a' := .int .i64 4) (b' := .int .u64 0) (c' := .bool false) HD2.out.a0 HD2.out.low HD2.out.kx hvo.out kanso
  refine bodyPost_ret (k_res rfl _ _ (w.heap.size + 1) _ _ _ _ _ rfl hr) rfl ?_
  exact ⟨v, rfl, hx, hb, .inl rfl⟩
set_option maxHeartbeats 1000000 in
theorem k_do_add_exists1 (w : World) (v : Value) (xs : List Nat) (h : KX w v xs) (hl : xs.length ≤ 4611686018427387904) (d k : Nat) (hd : d < 256) (hk : d % 9 = 1) (hG : K.fo xs k = true) :
    Calls Try.prog 9 #[v, kactv d k] w (KDo w v xs 4 0 false) := by
  have hfd := Lib.hid (k_find_do w v xs h hl d k)
  obtain ⟨e1, e2⟩ := mod9 d hd 1 hk
  have hvo := Lib.hid (kx_own h)
  rw [hG] at hfd
  clear h hk hd hG
  generalize K.fi xs k = F at *
  go_enter Try.func9, Try.ntmps9
  go_wp2_with (go_at_call 32; (with_reducible refine hfd.out.mono ?_); rintro e w2 ⟨rfl, hD⟩; have HD2 := Lib.hid hD; have c0 := hD.c0; have c1 := hD.c1; have sz1 : w.heap.size < w2.heap.size := (by have := hD.size; omega); have sz2 : w.heap.size + 1 < w2.heap.size := (by have := hD.size; omega); have y0 := cell_of_row w2 _ 0 _ _ (0, 0) hD.a0; have y1 := cell_of_row w2 _ 1 _ _ (0, 0) hD.a0; have y2 := cell_of_row w2 _ 2 _ _ (0, 0) hD.a0; have f0 := frozen_of_row w2 _ 0 _ _ hD.a0; have f1 := frozen_of_row w2 _ 1 _ _ hD.a0; have f2 := frozen_of_row w2 _ 2 _ _ hD.a0; simp at y0 y1 y2; clear hD)
  obtain ⟨hr, hx, hb⟩ := k_end2 (a' := .int .i64 4) (b' := .int .u64 0) (c' := .bool false) HD2.out.a0 HD2.out.low HD2.out.kx hvo.out kanso
  refine bodyPost_ret (k_res rfl _ _ (w.heap.size + 1) _ _ _ _ _ rfl hr) rfl ?_
  exact ⟨v, rfl, hx, hb, .inl rfl⟩
set_option maxHeartbeats 1000000 in
theorem k_do_drop_none (w : World) (v : Value) (xs : List Nat) (h : KX w v xs) (hl : xs.length ≤ 4611686018427387904) (d k : Nat) (hd : d < 256) (hk : d % 9 = 2) (hG : K.fo xs k = false) :
    Calls Try.prog 9 #[v, kactv d k] w (KDo w v xs 3 0 false) := by
  have hfd := Lib.hid (k_find_do w v xs h hl d k)
  obtain ⟨e1, e2⟩ := mod9 d hd 2 hk
  have hvo := Lib.hid (kx_own h)
  rw [hG] at hfd
  clear h hk hd hG
  generalize K.fi xs k = F at *
  go_enter Try.func9, Try.ntmps9
  go_wp2_with (go_at_call 32; (with_reducible refine hfd.out.mono ?_); rintro e w2 ⟨rfl, hD⟩; have HD2 := Lib.hid hD; have c0 := hD.c0; have c1 := hD.c1; have sz1 : w.heap.size < w2.heap.size := (by have := hD.size; omega); have sz2 : w.heap.size + 1 < w2.heap.size := (by have := hD.size; omega); have y0 := cell_of_row w2 _ 0 _ _ (0, 0) hD.a0; have y1 := cell_of_row w2 _ 1 _ _ (0, 0) hD.a0; have y2 := cell_of_row w2 _ 2 _ _ (0, 0) hD.a0; have f0 := frozen_of_row w2 _ 0 _ _ hD.a0; have f1 := frozen_of_row w2 _ 1 _ _ hD.a0; have f2 := frozen_of_row w2 _ 2 _ _ hD.a0; simp at y0 y1 y2; clear hD)
  obtain ⟨hr, hx, hb⟩ := k_end2 (a' := .int .i64 3) (b' := .int .u64 0) (c' := .bool false) HD2.out.a0 HD2.out.low HD2.out.kx hvo.out kanso
  refine bodyPost_ret (k_res rfl _ _ (w.heap.size + 1) _ _ _ _ _ rfl hr) rfl ?_
  exact ⟨v, rfl, hx, hb, .inl rfl⟩
set_option maxHeartbeats 1000000 in
theorem k_do_clear (w : World) (v : Value) (xs : List Nat) (h : KX w v xs) (hl : xs.length ≤ 4611686018427387904) (d k : Nat) (hd : d < 256) (hk : d % 9 = 8) :
    Calls Try.prog 9 #[v, kactv d k] w (KDo w v [] 0 0 false) := by
  have hfd := Lib.hid (k_find_do w v xs h hl d k)
  obtain ⟨e1, e2⟩ := mod9 d hd 8 hk
  clear h hk hd
  generalize K.fi xs k = F at *
  generalize K.fo xs k = G at *
  go_enter Try.func9, Try.ntmps9
  go_wp2_with (go_at_call 32; (with_reducible refine hfd.out.mono ?_); rintro e w2 ⟨rfl, hD⟩; have HD2 := Lib.hid hD; have c0 := hD.c0; have c1 := hD.c1; have sz1 : w.heap.size < w2.heap.size := (by have := hD.size; omega); have sz2 : w.heap.size + 1 < w2.heap.size := (by have := hD.size; omega); clear hD)
  have hW0 : (w2.alloc kanso).heap[w.heap.size + 1]? = some kanso := (Below.heap_alloc _ _ _ sz2).trans HD2.out.a0
  have hWL : Below w.heap.size w (w2.alloc kanso) := HD2.out.low.alloc HD2.out.low.size _
  have hW1 := K.alloc_top w2 kanso
  have hWK : KX (w2.alloc kanso) (.slice none 0 0) [] := KX.nil _
  clear c0 c1
  generalize (w2.alloc kanso) = W at *
  have x0 : W.cell? ⟨w2.heap.size, 0, none⟩ = some (.int .i64 0) := cell_of_row _ _ 0 _ _ (0, 0) hW1
  have x1 : W.cell? ⟨w2.heap.size, 1, none⟩ = some (.int .u64 0) := cell_of_row _ _ 1 _ _ (0, 0) hW1
  have x2 : W.cell? ⟨w2.heap.size, 2, none⟩ = some (.bool false) := cell_of_row _ _ 2 _ _ (0, 0) hW1
  have y0 : W.cell? ⟨w.heap.size + 1, 0, none⟩ = some (.int .i64 0) := cell_of_row _ _ 0 _ _ (0, 0) hW0
  have y1 : W.cell? ⟨w.heap.size + 1, 1, none⟩ = some (.int .u64 0) := cell_of_row _ _ 1 _ _ (0, 0) hW0
  have y2 : W.cell? ⟨w.heap.size + 1, 2, none⟩ = some (.bool false) := cell_of_row _ _ 2 _ _ (0, 0) hW0
  have f0 : W.frozen? ⟨w.heap.size + 1, 0, none⟩ = false := frozen_of_row _ _ _ _ _ hW0
  have f1 : W.frozen? ⟨w.heap.size + 1, 1, none⟩ = false := frozen_of_row _ _ _ _ _ hW0
  have f2 : W.frozen? ⟨w.heap.size + 1, 2, none⟩ = false := frozen_of_row _ _ _ _ _ hW0
  go_region
  all_goals
    go_wp2
    obtain ⟨hr, hx, hb⟩ := k_end (a' := .int .i64 0) (b' := .int .u64 0) (c' := .bool false) hW0 hWL hWK (by simp [Value.ownBlock]) 1
    refine bodyPost_ret (k_res rfl _ _ (w.heap.size + 1) _ _ _ _ _ rfl hr) rfl ?_
    exact ⟨_, rfl, hx, hb, .inr fun g e => by simp [Value.ownBlock] at e⟩
set_option maxRecDepth 100000 in
set_option maxHeartbeats 1000000 in
theorem k_do_add0 (w : World) (v : Value) (xs : List Nat) (h : KX w v xs) (hl : xs.length ≤ 1000000) (d k : Nat) (hd : d < 256) (hk : d % 9 = 0) (hG : K.fo xs k = false) :
    Calls Try.prog 9 #[v, kactv d k] w (KDo w v (K.add xs k) 0 0 false) := by
  have hfd := Lib.hid (k_find_do w v xs h (by omega) d k)
  obtain ⟨e1, e2⟩ := mod9 d hd 0 hk
  have hvl := Lib.hid (fun (j : Nat) (e : v.ownBlock = some j) => (K.own_lt h e).1)
  have hadd := Lib.hid (fun (W : World) (hW : KX W v xs) => k_add W v xs hW hl k)
  rw [hG] at hfd
  clear h hk hd hG
  generalize K.fi xs k = F at *
  generalize K.add xs k = ys at *
  go_enter Try.func9, Try.ntmps9
  go_wp2_with (go_at_call 32; (with_reducible refine hfd.out.mono ?_); rintro e w2 ⟨rfl, hD⟩; have HD2 := Lib.hid hD; have c0 := hD.c0; have c1 := hD.c1; have sz1 : w.heap.size < w2.heap.size := (by have := hD.size; omega); have sz2 : w.heap.size + 1 < w2.heap.size := (by have := hD.size; omega); clear hD)
  have hW0 : (w2.alloc kanso).heap[w.heap.size + 1]? = some kanso := (Below.heap_alloc _ _ _ sz2).trans HD2.out.a0
  have hWL : Below w.heap.size w (w2.alloc kanso) := HD2.out.low.alloc HD2.out.low.size _
  have hW1 := K.alloc_top w2 kanso
  have hWK : KX (w2.alloc kanso) v xs := HD2.out.kx.below ((Below.refl _ _).alloc (Nat.le_refl _) _)
  have hWS : (w2.alloc kanso).heap.size = w2.heap.size + 1 := by simp
  have hc1 : (w2.alloc kanso).cell? ⟨w.heap.size, 1, none⟩ = some (.int .u64 (k : Int)) := (((Below.refl w2.heap.size w2).alloc (Nat.le_refl _) kanso).cell (p := ⟨w.heap.size, 1, none⟩) sz1).trans c1
  clear c0 c1
  generalize (w2.alloc kanso) = W at *
  have c1 := hc1
  have x0 : W.cell? ⟨w2.heap.size, 0, none⟩ = some (.int .i64 0) := cell_of_row _ _ 0 _ _ (0, 0) hW1
  have x1 : W.cell? ⟨w2.heap.size, 1, none⟩ = some (.int .u64 0) := cell_of_row _ _ 1 _ _ (0, 0) hW1
  have x2 : W.cell? ⟨w2.heap.size, 2, none⟩ = some (.bool false) := cell_of_row _ _ 2 _ _ (0, 0) hW1
  have y0 : W.cell? ⟨w.heap.size + 1, 0, none⟩ = some (.int .i64 0) := cell_of_row _ _ 0 _ _ (0, 0) hW0
  have y1 : W.cell? ⟨w.heap.size + 1, 1, none⟩ = some (.int .u64 0) := cell_of_row _ _ 1 _ _ (0, 0) hW0
  have y2 : W.cell? ⟨w.heap.size + 1, 2, none⟩ = some (.bool false) := cell_of_row _ _ 2 _ _ (0, 0) hW0
  have f0 : W.frozen? ⟨w.heap.size + 1, 0, none⟩ = false := frozen_of_row _ _ _ _ _ hW0
  have f1 : W.frozen? ⟨w.heap.size + 1, 1, none⟩ = false := frozen_of_row _ _ _ _ _ hW0
  have f2 : W.frozen? ⟨w.heap.size + 1, 2, none⟩ = false := frozen_of_row _ _ _ _ _ hW0
  have hin0 : ∀ W' : World, W'.heap[w2.heap.size]? = some kanso → W'.heap[w.heap.size + 1]? = some kanso → W'.cell? ⟨w.heap.size, 1, none⟩ = some (.int .u64 (k : Int)) → W'.cell? ⟨w2.heap.size, 0, none⟩ = some (.int .i64 0) ∧ W'.cell? ⟨w2.heap.size, 1, none⟩ = some (.int .u64 0) ∧ W'.cell? ⟨w2.heap.size, 2, none⟩ = some (.bool false) ∧ W'.cell? ⟨w.heap.size + 1, 0, none⟩ = some (.int .i64 0) ∧ W'.cell? ⟨w.heap.size + 1, 1, none⟩ = some (.int .u64 0) ∧ W'.cell? ⟨w.heap.size + 1, 2, none⟩ = some (.bool false) ∧ W'.frozen? ⟨w.heap.size + 1, 0, none⟩ = false ∧ W'.frozen? ⟨w.heap.size + 1, 1, none⟩ = false ∧ W'.frozen? ⟨w.heap.size + 1, 2, none⟩ = false ∧ W'.cell? ⟨w.heap.size, 1, none⟩ = some (.int .u64 (k : Int)) := fun W' h1 h2 h3 =>
    ⟨cell_of_row _ _ 0 _ _ (0, 0) h1, cell_of_row _ _ 1 _ _ (0, 0) h1, cell_of_row _ _ 2 _ _ (0, 0) h1, cell_of_row _ _ 0 _ _ (0, 0) h2, cell_of_row _ _ 1 _ _ (0, 0) h2, cell_of_row _ _ 2 _ _ (0, 0) h2, frozen_of_row _ _ _ _ _ h2, frozen_of_row _ _ _ _ _ h2, frozen_of_row _ _ _ _ _ h2, h3⟩
  have hin : Hid (∀ W', Below W.heap.size W W' → W'.cell? ⟨w2.heap.size, 0, none⟩ = some (.int .i64 0) ∧ W'.cell? ⟨w2.heap.size, 1, none⟩ = some (.int .u64 0) ∧ W'.cell? ⟨w2.heap.size, 2, none⟩ = some (.bool false) ∧ W'.cell? ⟨w.heap.size + 1, 0, none⟩ = some (.int .i64 0) ∧ W'.cell? ⟨w.heap.size + 1, 1, none⟩ = some (.int .u64 0) ∧ W'.cell? ⟨w.heap.size + 1, 2, none⟩ = some (.bool false) ∧ W'.frozen? ⟨w.heap.size + 1, 0, none⟩ = false ∧ W'.frozen? ⟨w.heap.size + 1, 1, none⟩ = false ∧ W'.frozen? ⟨w.heap.size + 1, 2, none⟩ = false ∧ W'.cell? ⟨w.heap.size, 1, none⟩ = some (.int .u64 (k : Int))) := fun W' hB =>
    hin0 W' ((hB.block w2.heap.size (by omega)).trans hW1) ((hB.block (w.heap.size + 1) (by omega)).trans hW0) ((hB.cell (p := ⟨w.heap.size, 1, none⟩) (by simp; omega)).trans c1)
  have hin3 : Hid (∀ W0, Below W.heap.size W W0 → ∀ W', W' = (((W0.setCell ⟨w.heap.size + 1, 0, none⟩ (.int .i64 0)).setCell ⟨w.heap.size + 1, 1, none⟩ (.int .u64 0)).setCell ⟨w.heap.size + 1, 2, none⟩ (.bool false)) → W'.cell? ⟨w2.heap.size, 0, none⟩ = some (.int .i64 0) ∧ W'.cell? ⟨w2.heap.size, 1, none⟩ = some (.int .u64 0) ∧ W'.cell? ⟨w2.heap.size, 2, none⟩ = some (.bool false) ∧ W'.cell? ⟨w.heap.size + 1, 0, none⟩ = some (.int .i64 0) ∧ W'.cell? ⟨w.heap.size + 1, 1, none⟩ = some (.int .u64 0) ∧ W'.cell? ⟨w.heap.size + 1, 2, none⟩ = some (.bool false) ∧ W'.frozen? ⟨w.heap.size + 1, 0, none⟩ = false ∧ W'.frozen? ⟨w.heap.size + 1, 1, none⟩ = false ∧ W'.frozen? ⟨w.heap.size + 1, 2, none⟩ = false ∧ W'.cell? ⟨w.heap.size, 1, none⟩ = some (.int .u64 (k : Int))) := fun W0 hB W' hE => by
    subst hE
    refine hin0 _ ?_ (K.set_all ((hB.block (w.heap.size + 1) (by omega)).trans hW0)) ?_
    · exact (Go.heap_setCell_other _ _ _ _ (by simp; omega)).trans ((Go.heap_setCell_other _ _ _ _ (by simp; omega)).trans ((Go.heap_setCell_other _ _ _ _ (by simp; omega)).trans ((hB.block w2.heap.size (by omega)).trans hW1)))
    · have e : ∀ (V : World) (p : Addr) (u : Value), p.block = w.heap.size + 1 → (V.setCell p u).heap[w.heap.size]? = V.heap[w.heap.size]? := fun V p u hp => Go.heap_setCell_other _ _ _ _ (by omega)
      have e2 : ∀ (V V' : World), V.heap[w.heap.size]? = V'.heap[w.heap.size]? → V.cell? ⟨w.heap.size, 1, none⟩ = V'.cell? ⟨w.heap.size, 1, none⟩ := fun V V' h => by simp [World.cell?, h]
      exact (e2 _ _ ((e _ _ _ rfl).trans ((e _ _ _ rfl).trans (e _ _ _ rfl)))).trans ((hB.cell (p := ⟨w.heap.size, 1, none⟩) (by simp; omega)).trans c1)
  clear hin0
  have B0 := Lib.hid (Below.refl W.heap.size W)
  have B0d : Hid (Below W.heap.size W W.drew) := below_drewN (Below.refl W.heap.size W) 1
  have HWd : Hid (KX W.drew v xs) := K.kx_drewN hWK 1
  go_region_held3 (fun W' => W'.cell? ⟨w2.heap.size, 0, none⟩ = some (.int .i64 0) ∧ W'.cell? ⟨w2.heap.size, 1, none⟩ = some (.int .u64 0) ∧ W'.cell? ⟨w2.heap.size, 2, none⟩ = some (.bool false) ∧ W'.cell? ⟨w.heap.size + 1, 0, none⟩ = some (.int .i64 0) ∧ W'.cell? ⟨w.heap.size + 1, 1, none⟩ = some (.int .u64 0) ∧ W'.cell? ⟨w.heap.size + 1, 2, none⟩ = some (.bool false) ∧ W'.frozen? ⟨w.heap.size + 1, 0, none⟩ = false ∧ W'.frozen? ⟨w.heap.size + 1, 1, none⟩ = false ∧ W'.frozen? ⟨w.heap.size + 1, 2, none⟩ = false ∧ W'.cell? ⟨w.heap.size, 1, none⟩ = some (.int .u64 (k : Int))) (first | exact hin3.out _ HB5.out _ rfl | exact hin.out _ HB5.out | exact hin.out _ B0d.out | exact hin.out _ B0.out | go_keep) (first
    | (go_at_call 37; (with_reducible refine (hadd.out _ HWd.out).mono ?_); rintro e w5 ⟨v5, rfl, hk5, hb5, hv5⟩; have HB5 := Lib.hid (Below.trans B0d.out hb5); have HK5 := Lib.hid hk5; have HV5 := Lib.hid hv5; clear hk5 hb5 hv5))
  all_goals
    go_wp2
    have hne : v5.ownBlock ≠ some (w.heap.size + 1) := by
      intro e
      rcases HV5.out with rfl | h5
      · have := hvl.out _ e; omega
      · have := h5 _ e; simp at this; omega
    obtain ⟨hr, hx, hb⟩ := k_end (a' := .int .i64 0) (b' := .int .u64 0) (c' := .bool false) ((HB5.out.block (w.heap.size + 1) (by omega)).trans hW0) (hWL.trans (HB5.out.mono (by omega))) HK5.out hne 0
    refine bodyPost_ret (k_res rfl _ _ (w.heap.size + 1) _ _ _ _ _ rfl hr) rfl ?_
    exact ⟨v5, rfl, hx, hb, HV5.out.elim .inl (fun h => .inr fun g e => by have := h g e; simp at this; omega)⟩
set_option maxRecDepth 100000 in
set_option maxHeartbeats 1000000 in
theorem k_do_add1 (w : World) (v : Value) (xs : List Nat) (h : KX w v xs) (hl : xs.length ≤ 1000000) (d k : Nat) (hd : d < 256) (hk : d % 9 = 1) (hG : K.fo xs k = false) :
    Calls Try.prog 9 #[v, kactv d k] w (KDo w v (K.add xs k) 0 0 false) := by
  have hfd := Lib.hid (k_find_do w v xs h (by omega) d k)
  obtain ⟨e1, e2⟩ := mod9 d hd 1 hk
  have hvl := Lib.hid (fun (j : Nat) (e : v.ownBlock = some j) => (K.own_lt h e).1)
  have hadd := Lib.hid (fun (W : World) (hW : KX W v xs) => k_add W v xs hW hl k)
  rw [hG] at hfd
  clear h hk hd hG
  generalize K.fi xs k = F at *
  generalize K.add xs k = ys at *
  go_enter Try.func9, Try.ntmps9
  go_wp2_with (go_at_call 32; (with_reducible refine hfd.out.mono ?_); rintro e w2 ⟨rfl, hD⟩; have HD2 := Lib.hid hD; have c0 := hD.c0; have c1 := hD.c1; have sz1 : w.heap.size < w2.heap.size := (by have := hD.size; omega); have sz2 : w.heap.size + 1 < w2.heap.size := (by have := hD.size; omega); clear hD)
  have hW0 : (w2.alloc kanso).heap[w.heap.size + 1]? = some kanso := (Below.heap_alloc _ _ _ sz2).trans HD2.out.a0
  have hWL : Below w.heap.size w (w2.alloc kanso) := HD2.out.low.alloc HD2.out.low.size _
  have hW1 := K.alloc_top w2 kanso
  have hWK : KX (w2.alloc kanso) v xs := HD2.out.kx.below ((Below.refl _ _).alloc (Nat.le_refl _) _)
  have hWS : (w2.alloc kanso).heap.size = w2.heap.size + 1 := by simp
  have hc1 : (w2.alloc kanso).cell? ⟨w.heap.size, 1, none⟩ = some (.int .u64 (k : Int)) := (((Below.refl w2.heap.size w2).alloc (Nat.le_refl _) kanso).cell (p := ⟨w.heap.size, 1, none⟩) sz1).trans c1
  clear c0 c1
  generalize (w2.alloc kanso) = W at *
  have c1 := hc1
  have x0 : W.cell? ⟨w2.heap.size, 0, none⟩ = some (.int .i64 0) := cell_of_row _ _ 0 _ _ (0, 0) hW1
  have x1 : W.cell? ⟨w2.heap.size, 1, none⟩ = some (.int .u64 0) := cell_of_row _ _ 1 _ _ (0, 0) hW1
  have x2 : W.cell? ⟨w2.heap.size, 2, none⟩ = some (.bool false) := cell_of_row _ _ 2 _ _ (0, 0) hW1
  have y0 : W.cell? ⟨w.heap.size + 1, 0, none⟩ = some (.int .i64 0) := cell_of_row _ _ 0 _ _ (0, 0) hW0
  have y1 : W.cell? ⟨w.heap.size + 1, 1, none⟩ = some (.int .u64 0) := cell_of_row _ _ 1 _ _ (0, 0) hW0
  have y2 : W.cell? ⟨w.heap.size + 1, 2, none⟩ = some (.bool false) := cell_of_row _ _ 2 _ _ (0, 0) hW0
  have f0 : W.frozen? ⟨w.heap.size + 1, 0, none⟩ = false := frozen_of_row _ _ _ _ _ hW0
  have f1 : W.frozen? ⟨w.heap.size + 1, 1, none⟩ = false := frozen_of_row _ _ _ _ _ hW0
  have f2 : W.frozen? ⟨w.heap.size + 1, 2, none⟩ = false := frozen_of_row _ _ _ _ _ hW0
  have hin0 : ∀ W' : World, W'.heap[w2.heap.size]? = some kanso → W'.heap[w.heap.size + 1]? = some kanso → W'.cell? ⟨w.heap.size, 1, none⟩ = some (.int .u64 (k : Int)) → W'.cell? ⟨w2.heap.size, 0, none⟩ = some (.int .i64 0) ∧ W'.cell? ⟨w2.heap.size, 1, none⟩ = some (.int .u64 0) ∧ W'.cell? ⟨w2.heap.size, 2, none⟩ = some (.bool false) ∧ W'.cell? ⟨w.heap.size + 1, 0, none⟩ = some (.int .i64 0) ∧ W'.cell? ⟨w.heap.size + 1, 1, none⟩ = some (.int .u64 0) ∧ W'.cell? ⟨w.heap.size + 1, 2, none⟩ = some (.bool false) ∧ W'.frozen? ⟨w.heap.size + 1, 0, none⟩ = false ∧ W'.frozen? ⟨w.heap.size + 1, 1, none⟩ = false ∧ W'.frozen? ⟨w.heap.size + 1, 2, none⟩ = false ∧ W'.cell? ⟨w.heap.size, 1, none⟩ = some (.int .u64 (k : Int)) := fun W' h1 h2 h3 =>
    ⟨cell_of_row _ _ 0 _ _ (0, 0) h1, cell_of_row _ _ 1 _ _ (0, 0) h1, cell_of_row _ _ 2 _ _ (0, 0) h1, cell_of_row _ _ 0 _ _ (0, 0) h2, cell_of_row _ _ 1 _ _ (0, 0) h2, cell_of_row _ _ 2 _ _ (0, 0) h2, frozen_of_row _ _ _ _ _ h2, frozen_of_row _ _ _ _ _ h2, frozen_of_row _ _ _ _ _ h2, h3⟩
  have hin : Hid (∀ W', Below W.heap.size W W' → W'.cell? ⟨w2.heap.size, 0, none⟩ = some (.int .i64 0) ∧ W'.cell? ⟨w2.heap.size, 1, none⟩ = some (.int .u64 0) ∧ W'.cell? ⟨w2.heap.size, 2, none⟩ = some (.bool false) ∧ W'.cell? ⟨w.heap.size + 1, 0, none⟩ = some (.int .i64 0) ∧ W'.cell? ⟨w.heap.size + 1, 1, none⟩ = some (.int .u64 0) ∧ W'.cell? ⟨w.heap.size + 1, 2, none⟩ = some (.bool false) ∧ W'.frozen? ⟨w.heap.size + 1, 0, none⟩ = false ∧ W'.frozen? ⟨w.heap.size + 1, 1, none⟩ = false ∧ W'.frozen? ⟨w.heap.size + 1, 2, none⟩ = false ∧ W'.cell? ⟨w.heap.size, 1, none⟩ = some (.int .u64 (k : Int))) := fun W' hB =>
    hin0 W' ((hB.block w2.heap.size (by omega)).trans hW1) ((hB.block (w.heap.size + 1) (by omega)).trans hW0) ((hB.cell (p := ⟨w.heap.size, 1, none⟩) (by simp; omega)).trans c1)
  have hin3 : Hid (∀ W0, Below W.heap.size W W0 → ∀ W', W' = (((W0.setCell ⟨w.heap.size + 1, 0, none⟩ (.int .i64 0)).setCell ⟨w.heap.size + 1, 1, none⟩ (.int .u64 0)).setCell ⟨w.heap.size + 1, 2, none⟩ (.bool false)) → W'.cell? ⟨w2.heap.size, 0, none⟩ = some (.int .i64 0) ∧ W'.cell? ⟨w2.heap.size, 1, none⟩ = some (.int .u64 0) ∧ W'.cell? ⟨w2.heap.size, 2, none⟩ = some (.bool false) ∧ W'.cell? ⟨w.heap.size + 1, 0, none⟩ = some (.int .i64 0) ∧ W'.cell? ⟨w.heap.size + 1, 1, none⟩ = some (.int .u64 0) ∧ W'.cell? ⟨w.heap.size + 1, 2, none⟩ = some (.bool false) ∧ W'.frozen? ⟨w.heap.size + 1, 0, none⟩ = false ∧ W'.frozen? ⟨w.heap.size + 1, 1, none⟩ = false ∧ W'.frozen? ⟨w.heap.size + 1, 2, none⟩ = false ∧ W'.cell? ⟨w.heap.size, 1, none⟩ = some (.int .u64 (k : Int))) := fun W0 hB W' hE => by
    subst hE
    refine hin0 _ ?_ (K.set_all ((hB.block (w.heap.size + 1) (by omega)).trans hW0)) ?_
    · exact (Go.heap_setCell_other _ _ _ _ (by simp; omega)).trans ((Go.heap_setCell_other _ _ _ _ (by simp; omega)).trans ((Go.heap_setCell_other _ _ _ _ (by simp; omega)).trans ((hB.block w2.heap.size (by omega)).trans hW1)))
    · have e : ∀ (V : World) (p : Addr) (u : Value), p.block = w.heap.size + 1 → (V.setCell p u).heap[w.heap.size]? = V.heap[w.heap.size]? := fun V p u hp => Go.heap_setCell_other _ _ _ _ (by omega)
      have e2 : ∀ (V V' : World), V.heap[w.heap.size]? = V'.heap[w.heap.size]? → V.cell? ⟨w.heap.size, 1, none⟩ = V'.cell? ⟨w.heap.size, 1, none⟩ := fun V V' h => by simp [World.cell?, h]
      exact (e2 _ _ ((e _ _ _ rfl).trans ((e _ _ _ rfl).trans (e _ _ _ rfl)))).trans ((hB.cell (p := ⟨w.heap.size, 1, none⟩) (by simp; omega)).trans c1)
  clear hin0
  have B0 := Lib.hid (Below.refl W.heap.size W)
  have B0d : Hid (Below W.heap.size W W.drew) := below_drewN (Below.refl W.heap.size W) 1
  have HWd : Hid (KX W.drew v xs) := K.kx_drewN hWK 1
  go_region_held3 (fun W' => W'.cell? ⟨w2.heap.size, 0, none⟩ = some (.int .i64 0) ∧ W'.cell? ⟨w2.heap.size, 1, none⟩ = some (.int .u64 0) ∧ W'.cell? ⟨w2.heap.size, 2, none⟩ = some (.bool false) ∧ W'.cell? ⟨w.heap.size + 1, 0, none⟩ = some (.int .i64 0) ∧ W'.cell? ⟨w.heap.size + 1, 1, none⟩ = some (.int .u64 0) ∧ W'.cell? ⟨w.heap.size + 1, 2, none⟩ = some (.bool false) ∧ W'.frozen? ⟨w.heap.size + 1, 0, none⟩ = false ∧ W'.frozen? ⟨w.heap.size + 1, 1, none⟩ = false ∧ W'.frozen? ⟨w.heap.size + 1, 2, none⟩ = false ∧ W'.cell? ⟨w.heap.size, 1, none⟩ = some (.int .u64 (k : Int))) (first | exact hin3.out _ HB5.out _ rfl | exact hin.out _ HB5.out | exact hin.out _ B0d.out | exact hin.out _ B0.out | go_keep) (first
    | (go_at_call 37; (with_reducible refine (hadd.out _ HWd.out).mono ?_); rintro e w5 ⟨v5, rfl, hk5, hb5, hv5⟩; have HB5 := Lib.hid (Below.trans B0d.out hb5); have HK5 := Lib.hid hk5; have HV5 := Lib.hid hv5; clear hk5 hb5 hv5))
  all_goals
    go_wp2
    have hne : v5.ownBlock ≠ some (w.heap.size + 1) := by
      intro e
      rcases HV5.out with rfl | h5
      · have := hvl.out _ e; omega
      · have := h5 _ e; simp at this; omega
    obtain ⟨hr, hx, hb⟩ := k_end (a' := .int .i64 0) (b' := .int .u64 0) (c' := .bool false) ((HB5.out.block (w.heap.size + 1) (by omega)).trans hW0) (hWL.trans (HB5.out.mono (by omega))) HK5.out hne 0
    refine bodyPost_ret (k_res rfl _ _ (w.heap.size + 1) _ _ _ _ _ rfl hr) rfl ?_
    exact ⟨v5, rfl, hx, hb, HV5.out.elim .inl (fun h => .inr fun g e => by have := h g e; simp at this; omega)⟩
set_option maxRecDepth 100000 in
set_option maxHeartbeats 1000000 in
theorem k_do_drop (w : World) (v : Value) (xs : List Nat) (h : KX w v xs) (hl : xs.length ≤ 1000000) (d k : Nat) (hd : d < 256) (hk : d % 9 = 2) (hG : K.fo xs k = true) :
    Calls Try.prog 9 #[v, kactv d k] w (KDo w v (K.drop xs k) 0 0 false) := by
  have hfd := Lib.hid (k_find_do w v xs h (by omega) d k)
  obtain ⟨e1, e2⟩ := mod9 d hd 2 hk
  have hvl := Lib.hid (fun (j : Nat) (e : v.ownBlock = some j) => (K.own_lt h e).1)
  have hadd := Lib.hid (fun (W : World) (hW : KX W v xs) => k_drop W v xs hW hl k)
  rw [hG] at hfd
  clear h hk hd hG
  generalize K.fi xs k = F at *
  generalize K.drop xs k = ys at *
  go_enter Try.func9, Try.ntmps9
  go_wp2_with (go_at_call 32; (with_reducible refine hfd.out.mono ?_); rintro e w2 ⟨rfl, hD⟩; have HD2 := Lib.hid hD; have c0 := hD.c0; have c1 := hD.c1; have sz1 : w.heap.size < w2.heap.size := (by have := hD.size; omega); have sz2 : w.heap.size + 1 < w2.heap.size := (by have := hD.size; omega); clear hD)
  have hW0 : (w2.alloc kanso).heap[w.heap.size + 1]? = some kanso := (Below.heap_alloc _ _ _ sz2).trans HD2.out.a0
  have hWL : Below w.heap.size w (w2.alloc kanso) := HD2.out.low.alloc HD2.out.low.size _
  have hW1 := K.alloc_top w2 kanso
  have hWK : KX (w2.alloc kanso) v xs := HD2.out.kx.below ((Below.refl _ _).alloc (Nat.le_refl _) _)
  have hWS : (w2.alloc kanso).heap.size = w2.heap.size + 1 := by simp
  have hc1 : (w2.alloc kanso).cell? ⟨w.heap.size, 1, none⟩ = some (.int .u64 (k : Int)) := (((Below.refl w2.heap.size w2).alloc (Nat.le_refl _) kanso).cell (p := ⟨w.heap.size, 1, none⟩) sz1).trans c1
  clear c0 c1
  generalize (w2.alloc kanso) = W at *
  have c1 := hc1
  have x0 : W.cell? ⟨w2.heap.size, 0, none⟩ = some (.int .i64 0) := cell_of_row _ _ 0 _ _ (0, 0) hW1
  have x1 : W.cell? ⟨w2.heap.size, 1, none⟩ = some (.int .u64 0) := cell_of_row _ _ 1 _ _ (0, 0) hW1
  have x2 : W.cell? ⟨w2.heap.size, 2, none⟩ = some (.bool false) := cell_of_row _ _ 2 _ _ (0, 0) hW1
  have y0 : W.cell? ⟨w.heap.size + 1, 0, none⟩ = some (.int .i64 0) := cell_of_row _ _ 0 _ _ (0, 0) hW0
  have y1 : W.cell? ⟨w.heap.size + 1, 1, none⟩ = some (.int .u64 0) := cell_of_row _ _ 1 _ _ (0, 0) hW0
  have y2 : W.cell? ⟨w.heap.size + 1, 2, none⟩ = some (.bool false) := cell_of_row _ _ 2 _ _ (0, 0) hW0
  have f0 : W.frozen? ⟨w.heap.size + 1, 0, none⟩ = false := frozen_of_row _ _ _ _ _ hW0
  have f1 : W.frozen? ⟨w.heap.size + 1, 1, none⟩ = false := frozen_of_row _ _ _ _ _ hW0
  have f2 : W.frozen? ⟨w.heap.size + 1, 2, none⟩ = false := frozen_of_row _ _ _ _ _ hW0
  have hin0 : ∀ W' : World, W'.heap[w2.heap.size]? = some kanso → W'.heap[w.heap.size + 1]? = some kanso → W'.cell? ⟨w.heap.size, 1, none⟩ = some (.int .u64 (k : Int)) → W'.cell? ⟨w2.heap.size, 0, none⟩ = some (.int .i64 0) ∧ W'.cell? ⟨w2.heap.size, 1, none⟩ = some (.int .u64 0) ∧ W'.cell? ⟨w2.heap.size, 2, none⟩ = some (.bool false) ∧ W'.cell? ⟨w.heap.size + 1, 0, none⟩ = some (.int .i64 0) ∧ W'.cell? ⟨w.heap.size + 1, 1, none⟩ = some (.int .u64 0) ∧ W'.cell? ⟨w.heap.size + 1, 2, none⟩ = some (.bool false) ∧ W'.frozen? ⟨w.heap.size + 1, 0, none⟩ = false ∧ W'.frozen? ⟨w.heap.size + 1, 1, none⟩ = false ∧ W'.frozen? ⟨w.heap.size + 1, 2, none⟩ = false ∧ W'.cell? ⟨w.heap.size, 1, none⟩ = some (.int .u64 (k : Int)) := fun W' h1 h2 h3 =>
    ⟨cell_of_row _ _ 0 _ _ (0, 0) h1, cell_of_row _ _ 1 _ _ (0, 0) h1, cell_of_row _ _ 2 _ _ (0, 0) h1, cell_of_row _ _ 0 _ _ (0, 0) h2, cell_of_row _ _ 1 _ _ (0, 0) h2, cell_of_row _ _ 2 _ _ (0, 0) h2, frozen_of_row _ _ _ _ _ h2, frozen_of_row _ _ _ _ _ h2, frozen_of_row _ _ _ _ _ h2, h3⟩
  have hin : Hid (∀ W', Below W.heap.size W W' → W'.cell? ⟨w2.heap.size, 0, none⟩ = some (.int .i64 0) ∧ W'.cell? ⟨w2.heap.size, 1, none⟩ = some (.int .u64 0) ∧ W'.cell? ⟨w2.heap.size, 2, none⟩ = some (.bool false) ∧ W'.cell? ⟨w.heap.size + 1, 0, none⟩ = some (.int .i64 0) ∧ W'.cell? ⟨w.heap.size + 1, 1, none⟩ = some (.int .u64 0) ∧ W'.cell? ⟨w.heap.size + 1, 2, none⟩ = some (.bool false) ∧ W'.frozen? ⟨w.heap.size + 1, 0, none⟩ = false ∧ W'.frozen? ⟨w.heap.size + 1, 1, none⟩ = false ∧ W'.frozen? ⟨w.heap.size + 1, 2, none⟩ = false ∧ W'.cell? ⟨w.heap.size, 1, none⟩ = some (.int .u64 (k : Int))) := fun W' hB =>
    hin0 W' ((hB.block w2.heap.size (by omega)).trans hW1) ((hB.block (w.heap.size + 1) (by omega)).trans hW0) ((hB.cell (p := ⟨w.heap.size, 1, none⟩) (by simp; omega)).trans c1)
  have hin3 : Hid (∀ W0, Below W.heap.size W W0 → ∀ W', W' = (((W0.setCell ⟨w.heap.size + 1, 0, none⟩ (.int .i64 0)).setCell ⟨w.heap.size + 1, 1, none⟩ (.int .u64 0)).setCell ⟨w.heap.size + 1, 2, none⟩ (.bool false)) → W'.cell? ⟨w2.heap.size, 0, none⟩ = some (.int .i64 0) ∧ W'.cell? ⟨w2.heap.size, 1, none⟩ = some (.int .u64 0) ∧ W'.cell? ⟨w2.heap.size, 2, none⟩ = some (.bool false) ∧ W'.cell? ⟨w.heap.size + 1, 0, none⟩ = some (.int .i64 0) ∧ W'.cell? ⟨w.heap.size + 1, 1, none⟩ = some (.int .u64 0) ∧ W'.cell? ⟨w.heap.size + 1, 2, none⟩ = some (.bool false) ∧ W'.frozen? ⟨w.heap.size + 1, 0, none⟩ = false ∧ W'.frozen? ⟨w.heap.size + 1, 1, none⟩ = false ∧ W'.frozen? ⟨w.heap.size + 1, 2, none⟩ = false ∧ W'.cell? ⟨w.heap.size, 1, none⟩ = some (.int .u64 (k : Int))) := fun W0 hB W' hE => by
    subst hE
    refine hin0 _ ?_ (K.set_all ((hB.block (w.heap.size + 1) (by omega)).trans hW0)) ?_
    · exact (Go.heap_setCell_other _ _ _ _ (by simp; omega)).trans ((Go.heap_setCell_other _ _ _ _ (by simp; omega)).trans ((Go.heap_setCell_other _ _ _ _ (by simp; omega)).trans ((hB.block w2.heap.size (by omega)).trans hW1)))
    · have e : ∀ (V : World) (p : Addr) (u : Value), p.block = w.heap.size + 1 → (V.setCell p u).heap[w.heap.size]? = V.heap[w.heap.size]? := fun V p u hp => Go.heap_setCell_other _ _ _ _ (by omega)
      have e2 : ∀ (V V' : World), V.heap[w.heap.size]? = V'.heap[w.heap.size]? → V.cell? ⟨w.heap.size, 1, none⟩ = V'.cell? ⟨w.heap.size, 1, none⟩ := fun V V' h => by simp [World.cell?, h]
      exact (e2 _ _ ((e _ _ _ rfl).trans ((e _ _ _ rfl).trans (e _ _ _ rfl)))).trans ((hB.cell (p := ⟨w.heap.size, 1, none⟩) (by simp; omega)).trans c1)
  clear hin0
  have B0 := Lib.hid (Below.refl W.heap.size W)
  have B0d : Hid (Below W.heap.size W W.drew) := below_drewN (Below.refl W.heap.size W) 1
  have HWd : Hid (KX W.drew v xs) := K.kx_drewN hWK 1
  go_region_held3 (fun W' => W'.cell? ⟨w2.heap.size, 0, none⟩ = some (.int .i64 0) ∧ W'.cell? ⟨w2.heap.size, 1, none⟩ = some (.int .u64 0) ∧ W'.cell? ⟨w2.heap.size, 2, none⟩ = some (.bool false) ∧ W'.cell? ⟨w.heap.size + 1, 0, none⟩ = some (.int .i64 0) ∧ W'.cell? ⟨w.heap.size + 1, 1, none⟩ = some (.int .u64 0) ∧ W'.cell? ⟨w.heap.size + 1, 2, none⟩ = some (.bool false) ∧ W'.frozen? ⟨w.heap.size + 1, 0, none⟩ = false ∧ W'.frozen? ⟨w.heap.size + 1, 1, none⟩ = false ∧ W'.frozen? ⟨w.heap.size + 1, 2, none⟩ = false ∧ W'.cell? ⟨w.heap.size, 1, none⟩ = some (.int .u64 (k : Int))) (first | exact hin3.out _ HB5.out _ rfl | exact hin.out _ HB5.out | exact hin.out _ B0d.out | exact hin.out _ B0.out | go_keep) (first
    | (go_at_call 22; (with_reducible refine (hadd.out _ HWd.out).mono ?_); rintro e w5 ⟨v5, rfl, hk5, hb5, hv5⟩; have HB5 := Lib.hid (Below.trans B0d.out hb5); have HK5 := Lib.hid hk5; have HV5 := Lib.hid hv5; clear hk5 hb5 hv5))
  all_goals
    go_wp2
    have hne : v5.ownBlock ≠ some (w.heap.size + 1) := by
      intro e
      rcases HV5.out with rfl | h5
      · have := hvl.out _ e; omega
      · have := h5 _ e; simp at this; omega
    obtain ⟨hr, hx, hb⟩ := k_end (a' := .int .i64 0) (b' := .int .u64 0) (c' := .bool false) ((HB5.out.block (w.heap.size + 1) (by omega)).trans hW0) (hWL.trans (HB5.out.mono (by omega))) HK5.out hne 0
    refine bodyPost_ret (k_res rfl _ _ (w.heap.size + 1) _ _ _ _ _ rfl hr) rfl ?_
    exact ⟨v5, rfl, hx, hb, HV5.out.elim .inl (fun h => .inr fun g e => by have := h g e; simp at this; omega)⟩
end Go.Proofs.Ytiinefdpaiincaa
end
section
namespace Go.Proofs.Ytiinefdpaiincaa
set_option maxRecDepth 4000
open Go.RowKit
namespace K
/-- The list behind a call; the error, the key and the yes it answers. -/
def doL (xs : List Nat) (d k : Nat) : List Nat := if d % 9 ≤ 1 then add xs k else if d % 9 = 2 then drop xs k else if d % 9 = 8 then [] else xs
def doE (xs : List Nat) (d k : Nat) : Nat := if d % 9 ≤ 1 then (if fo xs k then 4 else 0) else if d % 9 = 2 then (if fo xs k then 0 else 3) else 0
def doK (xs : List Nat) (d k : Nat) : Nat := if d % 9 = 4 then nx xs k else if d % 9 = 5 then pv xs k else if d % 9 = 6 then nx xs 0 else if d % 9 = 7 then pv xs 18446744073709551615 else 0
def doY (xs : List Nat) (d k : Nat) : Bool := if d % 9 = 3 then fo xs k else if d % 9 = 4 then nxb xs k else if d % 9 = 5 then pvb xs k else if d % 9 = 6 then nxb xs 0 else if d % 9 = 7 then pvb xs 18446744073709551615 else false
end K
theorem k_do (w : World) (v : Value) (xs : List Nat) (h : KX w v xs) (hl : xs.length ≤ 1000000) (d k : Nat) (hd : d < 256) :
    Calls Try.prog 9 #[v, kactv d k] w (KDo w v (K.doL xs d k) (K.doE xs d k) (K.doK xs d k) (K.doY xs d k)) := by
  have h9 : d % 9 < 9 := Nat.mod_lt _ (by decide)
  have hl2 : xs.length ≤ 4611686018427387904 := by omega
  unfold K.doL K.doE K.doK K.doY
  rcases (by omega : d % 9 = 0 ∨ d % 9 = 1 ∨ d % 9 = 2 ∨ d % 9 = 3 ∨ d % 9 = 4 ∨ d % 9 = 5 ∨ d % 9 = 6 ∨ d % 9 = 7 ∨ d % 9 = 8) with e | e | e | e | e | e | e | e | e <;> rw [e]
  · cases hG : K.fo xs k
    · simpa using k_do_add0 w v xs h hl d k hd e hG
    · have e2 : K.add xs k = xs := by unfold K.add; rw [if_pos hG]
      rw [e2]
      simpa using k_do_add_exists0 w v xs h hl2 d k hd e hG
  · cases hG : K.fo xs k
    · simpa using k_do_add1 w v xs h hl d k hd e hG
    · have e2 : K.add xs k = xs := by unfold K.add; rw [if_pos hG]
      rw [e2]
      simpa using k_do_add_exists1 w v xs h hl2 d k hd e hG
  · cases hG : K.fo xs k
    · have e2 : K.drop xs k = xs := by unfold K.drop; rw [hG]; rfl
      rw [e2]
      simpa using k_do_drop_none w v xs h hl2 d k hd e hG
    · simpa using k_do_drop w v xs h hl d k hd e hG
  · simpa using k_do_has w v xs h hl2 d k hd e
  · simpa using k_do_next w v xs h hl2 d k hd e
  · simpa using k_do_prev w v xs h hl2 d k hd e
  · simpa using k_do_min w v xs h hl2 d k hd e
  · simpa using k_do_max w v xs h hl2 d k hd e
  · simpa using k_do_clear w v xs h hl2 d k hd e
namespace K
/-- The list rises. -/
def Up (xs : List Nat) : Prop := xs.Pairwise (· < ·)
theorem up_tail {x : Nat} {xs : List Nat} (h : Up (x :: xs)) : Up xs := (List.pairwise_cons.1 h).2
theorem up_lt {xs : List Nat} (h : Up xs) {i j : Nat} (hij : i < j) (hj : j < xs.length) : xs[i]'(by omega) < xs[j] := (List.pairwise_iff_getElem.1 h) i j (by omega) hj hij
theorem fo_mem {xs : List Nat} (h : Up xs) (k : Nat) : fo xs k = true ↔ k ∈ xs := by
  constructor
  · intro h1
    obtain ⟨h2, h3⟩ := fo_lt h1
    rw [← h3]
    exact List.getElem_mem h2
  · intro hm
    obtain ⟨i, hi, rfl⟩ := List.getElem_of_mem hm
    have h1 : fi xs xs[i] = i := by
      rcases Nat.lt_trichotomy (fi xs xs[i]) i with h1 | h1 | h1
      · have h2 := fi_at (xs := xs) (k := xs[i]) (by omega)
        have h3 := up_lt h h1 hi
        omega
      · exact h1
      · obtain ⟨_, h3⟩ := fi_lt h1
        omega
    unfold fo
    rw [h1, List.getElem?_eq_getElem hi]
    simp
theorem take_lt {xs : List Nat} (k : Nat) : ∀ x ∈ xs.take (fi xs k), x < k := by
  intro x hx
  obtain ⟨j, hj, rfl⟩ := List.getElem_of_mem hx
  rw [List.length_take] at hj
  rw [List.getElem_take]
  exact (fi_lt (k := k) (by omega)).2
theorem drop_le {xs : List Nat} (h : Up xs) (k : Nat) : ∀ x ∈ xs.drop (fi xs k), k ≤ x := by
  intro x hx
  obtain ⟨j, hj, rfl⟩ := List.getElem_of_mem hx
  rw [List.length_drop] at hj
  rw [List.getElem_drop]
  have h1 := fi_at (xs := xs) (k := k) (by omega)
  rcases Nat.eq_zero_or_pos j with rfl | hp
  · simpa using h1
  · exact Nat.le_of_lt (Nat.lt_of_le_of_lt h1 (up_lt h (i := fi xs k) (j := fi xs k + j) (by omega) (by omega)))
theorem drop_ne {xs : List Nat} (h : Up xs) {k : Nat} (hf : fo xs k = false) : ∀ x ∈ xs.drop (fi xs k), k < x := by
  intro x hx
  have h1 := drop_le h k x hx
  have h2 : x ∈ xs := List.mem_of_mem_drop hx
  have h3 : x ≠ k := by
    rintro rfl
    rw [(fo_mem h x).2 h2] at hf
    cases hf
  omega
theorem add_up {xs : List Nat} (h : Up xs) (k : Nat) : Up (add xs k) := by
  unfold add
  split
  · exact h
  · rename_i hf
    have hf : fo xs k = false := by simpa using hf
    refine List.pairwise_append.2 ⟨h.sublist (List.take_sublist _ _), List.pairwise_cons.2 ⟨drop_ne h hf, h.sublist (List.drop_sublist _ _)⟩, fun a ha b hb => ?_⟩
    have h1 := take_lt k a ha
    rcases List.mem_cons.1 hb with rfl | hb
    · exact h1
    · exact Nat.lt_trans h1 (drop_ne h hf b hb)
theorem add_mem {xs : List Nat} (h : Up xs) (k x : Nat) : x ∈ add xs k ↔ x = k ∨ x ∈ xs := by
  unfold add
  split
  · rename_i hf
    have := (fo_mem h k).1 hf
    constructor
    · exact .inr
    · rintro (rfl | h1)
      · exact this
      · exact h1
  · have e : x ∈ xs ↔ x ∈ xs.take (fi xs k) ∨ x ∈ xs.drop (fi xs k) := by rw [← List.mem_append, List.take_append_drop]
    rw [List.mem_append, List.mem_cons, e]
    constructor
    · rintro (h | h | h)
      · exact .inr (.inl h)
      · exact .inl h
      · exact .inr (.inr h)
    · rintro (h | h | h)
      · exact .inr (.inl h)
      · exact .inl h
      · exact .inr (.inr h)
theorem drop_up {xs : List Nat} (h : Up xs) (k : Nat) : Up (drop xs k) := by
  unfold drop
  split
  · refine h.sublist ?_
    have := (List.Sublist.refl (xs.take (fi xs k))).append (List.drop_sublist_drop_left xs (Nat.le_succ (fi xs k)))
    rwa [List.take_append_drop] at this
  · exact h
theorem drop_mem {xs : List Nat} (h : Up xs) (k x : Nat) : x ∈ drop xs k ↔ x ≠ k ∧ x ∈ xs := by
  unfold drop
  split
  · rename_i hf
    obtain ⟨h1, h2⟩ := fo_lt hf
    have e : xs = xs.take (fi xs k) ++ k :: xs.drop (fi xs k + 1) := by
      have := List.take_append_drop (fi xs k) xs
      rw [List.drop_eq_getElem_cons h1, h2] at this
      exact this.symm
    have hu : Up (xs.take (fi xs k) ++ k :: xs.drop (fi xs k + 1)) := e ▸ h
    obtain ⟨_, hu2, hu3⟩ := List.pairwise_append.1 hu
    have hu4 := (List.pairwise_cons.1 hu2).1
    have e2 : x ∈ xs ↔ x ∈ xs.take (fi xs k) ∨ x = k ∨ x ∈ xs.drop (fi xs k + 1) := by
      constructor
      · intro hx; rw [e] at hx; simpa using hx
      · intro hx; rw [e]; simpa using hx
    rw [List.mem_append, e2]
    constructor
    · rintro (h5 | h5)
      · exact ⟨Nat.ne_of_lt (hu3 x h5 k (by simp)), .inl h5⟩
      · exact ⟨(Nat.ne_of_lt (hu4 x h5)).symm, .inr (.inr h5)⟩
    · rintro ⟨h5, h6 | h6 | h6⟩
      · exact .inl h6
      · exact absurd h6 h5
      · exact .inr h6
  · rename_i hf
    constructor
    · intro hx
      refine ⟨?_, hx⟩
      rintro rfl
      exact hf ((fo_mem h x).2 hx)
    · exact fun h => h.2
end K
end Go.Proofs.Ytiinefdpaiincaa
end
