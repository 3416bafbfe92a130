
/- What the document's Do answers (stepstoneref11): what changes nothing; the text walked. -/
import Derived.Test.YtndielncleohlaaDoorK7
namespace Go.Proofs.YtndielncleohlaaDoor
set_option maxRecDepth 4000
open Go.RowKit
set_option maxHeartbeats 1000000 in
theorem k_do_has (w : World) (v : Value) (xs : List Nat) (h : KX w v xs) (hl : xs.length ≤ 4611686018427387904) (d k : Nat) (hd : d < 256) (hk : d % 9 = 3) :
    Calls Tryd.prog 11 #[v, kactv d k] w (KDo w v xs 0 0 (K.fo xs k)) := by
  have hfd := Lib.hid (k_find_do w v xs h hl d k)
  obtain ⟨e1, e2⟩ := mod9 d hd 3 hk
  have hvo := Lib.hid (kx_own h)
  clear h hk hd
  generalize K.fi xs k = F at *
  generalize K.fo xs k = G at *
  go_enter Tryd.func11, Tryd.ntmps11
  go_wp2_with (go_at_call 34; (with_reducible refine hfd.out.mono ?_); rintro e w2 ⟨rfl, hD⟩; have HD2 := Lib.hid hD; have c0 := hD.c0; have c1 := hD.c1; have sz1 : w.heap.size < w2.heap.size := (by have := hD.size; omega); have sz2 : w.heap.size + 1 < w2.heap.size := (by have := hD.size; omega); clear hD)
  have hW0 : (w2.alloc (.cells #[.int .i64 0, .int .u64 0, .bool G] 34)).heap[w.heap.size + 1]? = some kanso := (Below.heap_alloc _ _ _ sz2).trans HD2.out.a0
  have hW1 := K.alloc_top w2 (.cells #[.int .i64 0, .int .u64 0, .bool G] 34)
  have hWL : Below w.heap.size w (w2.alloc (.cells #[.int .i64 0, .int .u64 0, .bool G] 34)) := HD2.out.low.alloc HD2.out.low.size _
  have hWK : KX (w2.alloc (.cells #[.int .i64 0, .int .u64 0, .bool G] 34)) v xs := HD2.out.kx.below ((Below.refl _ _).alloc (Nat.le_refl _) _)
  clear c0 c1
  generalize (w2.alloc (.cells #[.int .i64 0, .int .u64 0, .bool G] 34)) = W at *
  have x0 : W.cell? ⟨w2.heap.size, 0, none⟩ = some (.int .i64 0) := cell_of_row _ _ 0 _ _ (0, 0) hW1
  have x1 : W.cell? ⟨w2.heap.size, 1, none⟩ = some (.int .u64 0) := cell_of_row _ _ 1 _ _ (0, 0) hW1
  have x2 : W.cell? ⟨w2.heap.size, 2, none⟩ = some (.bool G) := cell_of_row _ _ 2 _ _ (0, 0) hW1
  have y0 : W.cell? ⟨w.heap.size + 1, 0, none⟩ = some (.int .i64 0) := cell_of_row _ _ 0 _ _ (0, 0) hW0
  have y1 : W.cell? ⟨w.heap.size + 1, 1, none⟩ = some (.int .u64 0) := cell_of_row _ _ 1 _ _ (0, 0) hW0
  have y2 : W.cell? ⟨w.heap.size + 1, 2, none⟩ = some (.bool false) := cell_of_row _ _ 2 _ _ (0, 0) hW0
  have f0 : W.frozen? ⟨w.heap.size + 1, 0, none⟩ = false := frozen_of_row _ _ _ _ _ hW0
  have f1 : W.frozen? ⟨w.heap.size + 1, 1, none⟩ = false := frozen_of_row _ _ _ _ _ hW0
  have f2 : W.frozen? ⟨w.heap.size + 1, 2, none⟩ = false := frozen_of_row _ _ _ _ _ hW0
  go_region
  all_goals
    go_wp2
    obtain ⟨hr, hx, hb⟩ := k_end (a' := .int .i64 0) (b' := .int .u64 0) (c' := .bool G) hW0 hWL hWK hvo.out 1
    refine bodyPost_ret (k_res rfl _ _ (w.heap.size + 1) _ _ _ _ _ rfl hr) rfl ?_
    exact ⟨v, rfl, hx, hb, .inl rfl⟩
set_option maxHeartbeats 1000000 in
theorem k_do_next (w : World) (v : Value) (xs : List Nat) (h : KX w v xs) (hl : xs.length ≤ 4611686018427387904) (d k : Nat) (hd : d < 256) (hk : d % 9 = 4) :
    Calls Tryd.prog 11 #[v, kactv d k] w (KDo w v xs 0 (K.nx xs k) (K.nxb xs k)) := by
  have hfd := Lib.hid (k_find_do w v xs h hl d k)
  obtain ⟨e1, e2⟩ := mod9 d hd 4 hk
  have hvo := Lib.hid (kx_own h)
  have hvl := Lib.hid (fun (j : Nat) (e : v.ownBlock = some j) => (K.own_lt h e).1)
  have hnx : Hid (∀ W : World, KX W v xs → Calls Tryd.prog 39 #[v, .int .u64 (k : Int)] W fun e w' => e = .returned (.tuple #[.int .u64 ((K.nx xs k : Nat) : Int), .bool (K.nxb xs k)]) ∧ Below W.heap.size W w') := Lib.hid (fun W hW => k_next W v xs hW hl k)
  clear h hk hd
  generalize K.fi xs k = F at *
  generalize K.fo xs k = G at *
  generalize K.nx xs k = X at *
  generalize K.nxb xs k = Y at *
  go_enter Tryd.func11, Tryd.ntmps11
  go_wp2_with (first
    | (go_at_call 34; (with_reducible refine hfd.out.mono ?_); rintro e w2 ⟨rfl, hD⟩; have HD2 := Lib.hid hD; have c0 := hD.c0; have c1 := hD.c1; have sz1 : w.heap.size < w2.heap.size := (by have := hD.size; omega); have sz2 : w.heap.size + 1 < w2.heap.size := (by have := hD.size; omega); clear hD)
    | (go_at_call 39; (with_reducible refine (hnx.out _ (HD2.out.kx.below ((Below.refl _ _).alloc (Nat.le_refl _) _))).mono ?_); rintro e w4 ⟨rfl, hb4⟩; have HE := Lib.hid (KE.of HD2.out hb4); clear hb4 c0 c1; have x0 := cell_of_row w4 _ 0 _ _ (0, 0) HE.out.x0; have x1 := cell_of_row w4 _ 1 _ _ (0, 0) HE.out.x0; have x2 := cell_of_row w4 _ 2 _ _ (0, 0) HE.out.x0; have g1 := frozen_of_row w4 _ 1 _ _ HE.out.x0; have g2 := frozen_of_row w4 _ 2 _ _ HE.out.x0; simp at x0 x1 x2))
  have hW0 : ((w4.setCell ⟨w2.heap.size, 1, none⟩ (.int .u64 (X : Int))).setCell ⟨w2.heap.size, 2, none⟩ (.bool Y)).heap[w.heap.size + 1]? = some kanso := (Go.heap_setCell_other _ _ _ _ (by simp; omega)).trans ((Go.heap_setCell_other _ _ _ _ (by simp; omega)).trans HE.out.a0)
  have hW1 := K.set_one (b' := .int .u64 (X : Int)) (c' := .bool Y) HE.out.x0
  have hWL : Below w.heap.size w ((w4.setCell ⟨w2.heap.size, 1, none⟩ (.int .u64 (X : Int))).setCell ⟨w2.heap.size, 2, none⟩ (.bool Y)) := (HE.out.low.setCell (p := ⟨w2.heap.size, 1, none⟩) (by simp; omega) _).setCell (p := ⟨w2.heap.size, 2, none⟩) (by simp; omega) _
  have hWK : KX ((w4.setCell ⟨w2.heap.size, 1, none⟩ (.int .u64 (X : Int))).setCell ⟨w2.heap.size, 2, none⟩ (.bool Y)) v xs := K.kx_set (K.kx_set HE.out.kx _ _ (fun e => absurd (hvl.out w2.heap.size e) (by omega))) _ _ (fun e => absurd (hvl.out w2.heap.size e) (by omega))
  clear x0 x1 x2 g1 g2
  generalize ((w4.setCell ⟨w2.heap.size, 1, none⟩ (.int .u64 (X : Int))).setCell ⟨w2.heap.size, 2, none⟩ (.bool Y)) = W at *
  have x0 : W.cell? ⟨w2.heap.size, 0, none⟩ = some (.int .i64 0) := cell_of_row _ _ 0 _ _ (0, 0) hW1
  have x1 : W.cell? ⟨w2.heap.size, 1, none⟩ = some (.int .u64 (X : Int)) := cell_of_row _ _ 1 _ _ (0, 0) hW1
  have x2 : W.cell? ⟨w2.heap.size, 2, none⟩ = some (.bool Y) := cell_of_row _ _ 2 _ _ (0, 0) hW1
  have y0 : W.cell? ⟨w.heap.size + 1, 0, none⟩ = some (.int .i64 0) := cell_of_row _ _ 0 _ _ (0, 0) hW0
  have y1 : W.cell? ⟨w.heap.size + 1, 1, none⟩ = some (.int .u64 0) := cell_of_row _ _ 1 _ _ (0, 0) hW0
  have y2 : W.cell? ⟨w.heap.size + 1, 2, none⟩ = some (.bool false) := cell_of_row _ _ 2 _ _ (0, 0) hW0
  have f0 : W.frozen? ⟨w.heap.size + 1, 0, none⟩ = false := frozen_of_row _ _ _ _ _ hW0
  have f1 : W.frozen? ⟨w.heap.size + 1, 1, none⟩ = false := frozen_of_row _ _ _ _ _ hW0
  have f2 : W.frozen? ⟨w.heap.size + 1, 2, none⟩ = false := frozen_of_row _ _ _ _ _ hW0
  go_region
  all_goals
    go_wp2
    obtain ⟨hr, hx, hb⟩ := k_end (a' := .int .i64 0) (b' := .int .u64 (X : Int)) (c' := .bool Y) hW0 hWL hWK hvo.out 1
    refine bodyPost_ret (k_res rfl _ _ (w.heap.size + 1) _ _ _ _ _ rfl hr) rfl ?_
    exact ⟨v, rfl, hx, hb, .inl rfl⟩
set_option maxHeartbeats 1000000 in
theorem k_do_prev (w : World) (v : Value) (xs : List Nat) (h : KX w v xs) (hl : xs.length ≤ 4611686018427387904) (d k : Nat) (hd : d < 256) (hk : d % 9 = 5) :
    Calls Tryd.prog 11 #[v, kactv d k] w (KDo w v xs 0 (K.pv xs k) (K.pvb xs k)) := by
  have hfd := Lib.hid (k_find_do w v xs h hl d k)
  obtain ⟨e1, e2⟩ := mod9 d hd 5 hk
  have hvo := Lib.hid (kx_own h)
  have hvl := Lib.hid (fun (j : Nat) (e : v.ownBlock = some j) => (K.own_lt h e).1)
  have hnx : Hid (∀ W : World, KX W v xs → Calls Tryd.prog 40 #[v, .int .u64 (k : Int)] W fun e w' => e = .returned (.tuple #[.int .u64 ((K.pv xs k : Nat) : Int), .bool (K.pvb xs k)]) ∧ Below W.heap.size W w') := Lib.hid (fun W hW => k_prev W v xs hW hl k)
  clear h hk hd
  generalize K.fi xs k = F at *
  generalize K.fo xs k = G at *
  generalize K.pv xs k = X at *
  generalize K.pvb xs k = Y at *
  go_enter Tryd.func11, Tryd.ntmps11
  go_wp2_with (first
    | (go_at_call 34; (with_reducible refine hfd.out.mono ?_); rintro e w2 ⟨rfl, hD⟩; have HD2 := Lib.hid hD; have c0 := hD.c0; have c1 := hD.c1; have sz1 : w.heap.size < w2.heap.size := (by have := hD.size; omega); have sz2 : w.heap.size + 1 < w2.heap.size := (by have := hD.size; omega); clear hD)
    | (go_at_call 40; (with_reducible refine (hnx.out _ (HD2.out.kx.below ((Below.refl _ _).alloc (Nat.le_refl _) _))).mono ?_); rintro e w4 ⟨rfl, hb4⟩; have HE := Lib.hid (KE.of HD2.out hb4); clear hb4 c0 c1; have x0 := cell_of_row w4 _ 0 _ _ (0, 0) HE.out.x0; have x1 := cell_of_row w4 _ 1 _ _ (0, 0) HE.out.x0; have x2 := cell_of_row w4 _ 2 _ _ (0, 0) HE.out.x0; have g1 := frozen_of_row w4 _ 1 _ _ HE.out.x0; have g2 := frozen_of_row w4 _ 2 _ _ HE.out.x0; simp at x0 x1 x2))
  have hW0 : ((w4.setCell ⟨w2.heap.size, 1, none⟩ (.int .u64 (X : Int))).setCell ⟨w2.heap.size, 2, none⟩ (.bool Y)).heap[w.heap.size + 1]? = some kanso := (Go.heap_setCell_other _ _ _ _ (by simp; omega)).trans ((Go.heap_setCell_other _ _ _ _ (by simp; omega)).trans HE.out.a0)
  have hW1 := K.set_one (b' := .int .u64 (X : Int)) (c' := .bool Y) HE.out.x0
  have hWL : Below w.heap.size w ((w4.setCell ⟨w2.heap.size, 1, none⟩ (.int .u64 (X : Int))).setCell ⟨w2.heap.size, 2, none⟩ (.bool Y)) := (HE.out.low.setCell (p := ⟨w2.heap.size, 1, none⟩) (by simp; omega) _).setCell (p := ⟨w2.heap.size, 2, none⟩) (by simp; omega) _
  have hWK : KX ((w4.setCell ⟨w2.heap.size, 1, none⟩ (.int .u64 (X : Int))).setCell ⟨w2.heap.size, 2, none⟩ (.bool Y)) v xs := K.kx_set (K.kx_set HE.out.kx _ _ (fun e => absurd (hvl.out w2.heap.size e) (by omega))) _ _ (fun e => absurd (hvl.out w2.heap.size e) (by omega))
  clear x0 x1 x2 g1 g2
  generalize ((w4.setCell ⟨w2.heap.size, 1, none⟩ (.int .u64 (X : Int))).setCell ⟨w2.heap.size, 2, none⟩ (.bool Y)) = W at *
  have x0 : W.cell? ⟨w2.heap.size, 0, none⟩ = some (.int .i64 0) := cell_of_row _ _ 0 _ _ (0, 0) hW1
  have x1 : W.cell? ⟨w2.heap.size, 1, none⟩ = some (.int .u64 (X : Int)) := cell_of_row _ _ 1 _ _ (0, 0) hW1
  have x2 : W.cell? ⟨w2.heap.size, 2, none⟩ = some (.bool Y) := cell_of_row _ _ 2 _ _ (0, 0) hW1
  have y0 : W.cell? ⟨w.heap.size + 1, 0, none⟩ = some (.int .i64 0) := cell_of_row _ _ 0 _ _ (0, 0) hW0
  have y1 : W.cell? ⟨w.heap.size + 1, 1, none⟩ = some (.int .u64 0) := cell_of_row _ _ 1 _ _ (0, 0) hW0
  have y2 : W.cell? ⟨w.heap.size + 1, 2, none⟩ = some (.bool false) := cell_of_row _ _ 2 _ _ (0, 0) hW0
  have f0 : W.frozen? ⟨w.heap.size + 1, 0, none⟩ = false := frozen_of_row _ _ _ _ _ hW0
  have f1 : W.frozen? ⟨w.heap.size + 1, 1, none⟩ = false := frozen_of_row _ _ _ _ _ hW0
  have f2 : W.frozen? ⟨w.heap.size + 1, 2, none⟩ = false := frozen_of_row _ _ _ _ _ hW0
  go_region
  all_goals
    go_wp2
    obtain ⟨hr, hx, hb⟩ := k_end (a' := .int .i64 0) (b' := .int .u64 (X : Int)) (c' := .bool Y) hW0 hWL hWK hvo.out 1
    refine bodyPost_ret (k_res rfl _ _ (w.heap.size + 1) _ _ _ _ _ rfl hr) rfl ?_
    exact ⟨v, rfl, hx, hb, .inl rfl⟩
set_option maxHeartbeats 1000000 in
theorem k_do_min (w : World) (v : Value) (xs : List Nat) (h : KX w v xs) (hl : xs.length ≤ 4611686018427387904) (d k : Nat) (hd : d < 256) (hk : d % 9 = 6) :
    Calls Tryd.prog 11 #[v, kactv d k] w (KDo w v xs 0 (K.nx xs 0) (K.nxb xs 0)) := by
  have hfd := Lib.hid (k_find_do w v xs h hl d k)
  obtain ⟨e1, e2⟩ := mod9 d hd 6 hk
  have hvo := Lib.hid (kx_own h)
  have hvl := Lib.hid (fun (j : Nat) (e : v.ownBlock = some j) => (K.own_lt h e).1)
  have hnx : Hid (∀ W : World, KX W v xs → Calls Tryd.prog 39 #[v, .int .u64 0] W fun e w' => e = .returned (.tuple #[.int .u64 ((K.nx xs 0 : Nat) : Int), .bool (K.nxb xs 0)]) ∧ Below W.heap.size W w') := Lib.hid (fun W hW => k_next W v xs hW hl 0)
  clear h hk hd
  generalize K.fi xs k = F at *
  generalize K.fo xs k = G at *
  generalize K.nx xs 0 = X at *
  generalize K.nxb xs 0 = Y at *
  go_enter Tryd.func11, Tryd.ntmps11
  go_wp2_with (first
    | (go_at_call 34; (with_reducible refine hfd.out.mono ?_); rintro e w2 ⟨rfl, hD⟩; have HD2 := Lib.hid hD; have c0 := hD.c0; have c1 := hD.c1; have sz1 : w.heap.size < w2.heap.size := (by have := hD.size; omega); have sz2 : w.heap.size + 1 < w2.heap.size := (by have := hD.size; omega); clear hD)
    | (go_at_call 39; (with_reducible refine (hnx.out _ (HD2.out.kx.below ((Below.refl _ _).alloc (Nat.le_refl _) _))).mono ?_); rintro e w4 ⟨rfl, hb4⟩; have HE := Lib.hid (KE.of HD2.out hb4); clear hb4 c0 c1; have x0 := cell_of_row w4 _ 0 _ _ (0, 0) HE.out.x0; have x1 := cell_of_row w4 _ 1 _ _ (0, 0) HE.out.x0; have x2 := cell_of_row w4 _ 2 _ _ (0, 0) HE.out.x0; have g1 := frozen_of_row w4 _ 1 _ _ HE.out.x0; have g2 := frozen_of_row w4 _ 2 _ _ HE.out.x0; simp at x0 x1 x2))
  have hW0 : ((w4.setCell ⟨w2.heap.size, 1, none⟩ (.int .u64 (X : Int))).setCell ⟨w2.heap.size, 2, none⟩ (.bool Y)).heap[w.heap.size + 1]? = some kanso := (Go.heap_setCell_other _ _ _ _ (by simp; omega)).trans ((Go.heap_setCell_other _ _ _ _ (by simp; omega)).trans HE.out.a0)
  have hW1 := K.set_one (b' := .int .u64 (X : Int)) (c' := .bool Y) HE.out.x0
  have hWL : Below w.heap.size w ((w4.setCell ⟨w2.heap.size, 1, none⟩ (.int .u64 (X : Int))).setCell ⟨w2.heap.size, 2, none⟩ (.bool Y)) := (HE.out.low.setCell (p := ⟨w2.heap.size, 1, none⟩) (by simp; omega) _).setCell (p := ⟨w2.heap.size, 2, none⟩) (by simp; omega) _
  have hWK : KX ((w4.setCell ⟨w2.heap.size, 1, none⟩ (.int .u64 (X : Int))).setCell ⟨w2.heap.size, 2, none⟩ (.bool Y)) v xs := K.kx_set (K.kx_set HE.out.kx _ _ (fun e => absurd (hvl.out w2.heap.size e) (by omega))) _ _ (fun e => absurd (hvl.out w2.heap.size e) (by omega))
  clear x0 x1 x2 g1 g2
  generalize ((w4.setCell ⟨w2.heap.size, 1, none⟩ (.int .u64 (X : Int))).setCell ⟨w2.heap.size, 2, none⟩ (.bool Y)) = W at *
  have x0 : W.cell? ⟨w2.heap.size, 0, none⟩ = some (.int .i64 0) := cell_of_row _ _ 0 _ _ (0, 0) hW1
  have x1 : W.cell? ⟨w2.heap.size, 1, none⟩ = some (.int .u64 (X : Int)) := cell_of_row _ _ 1 _ _ (0, 0) hW1
  have x2 : W.cell? ⟨w2.heap.size, 2, none⟩ = some (.bool Y) := cell_of_row _ _ 2 _ _ (0, 0) hW1
  have y0 : W.cell? ⟨w.heap.size + 1, 0, none⟩ = some (.int .i64 0) := cell_of_row _ _ 0 _ _ (0, 0) hW0
  have y1 : W.cell? ⟨w.heap.size + 1, 1, none⟩ = some (.int .u64 0) := cell_of_row _ _ 1 _ _ (0, 0) hW0
  have y2 : W.cell? ⟨w.heap.size + 1, 2, none⟩ = some (.bool false) := cell_of_row _ _ 2 _ _ (0, 0) hW0
  have f0 : W.frozen? ⟨w.heap.size + 1, 0, none⟩ = false := frozen_of_row _ _ _ _ _ hW0
  have f1 : W.frozen? ⟨w.heap.size + 1, 1, none⟩ = false := frozen_of_row _ _ _ _ _ hW0
  have f2 : W.frozen? ⟨w.heap.size + 1, 2, none⟩ = false := frozen_of_row _ _ _ _ _ hW0
  go_region
  all_goals
    go_wp2
    obtain ⟨hr, hx, hb⟩ := k_end (a' := .int .i64 0) (b' := .int .u64 (X : Int)) (c' := .bool Y) hW0 hWL hWK hvo.out 1
    refine bodyPost_ret (k_res rfl _ _ (w.heap.size + 1) _ _ _ _ _ rfl hr) rfl ?_
    exact ⟨v, rfl, hx, hb, .inl rfl⟩
set_option maxHeartbeats 1000000 in
theorem k_do_max (w : World) (v : Value) (xs : List Nat) (h : KX w v xs) (hl : xs.length ≤ 4611686018427387904) (d k : Nat) (hd : d < 256) (hk : d % 9 = 7) :
    Calls Tryd.prog 11 #[v, kactv d k] w (KDo w v xs 0 (K.pv xs 18446744073709551615) (K.pvb xs 18446744073709551615)) := by
  have hfd := Lib.hid (k_find_do w v xs h hl d k)
  obtain ⟨e1, e2⟩ := mod9 d hd 7 hk
  have hvo := Lib.hid (kx_own h)
  have hvl := Lib.hid (fun (j : Nat) (e : v.ownBlock = some j) => (K.own_lt h e).1)
  have hnx : Hid (∀ W : World, KX W v xs → Calls Tryd.prog 40 #[v, .int .u64 18446744073709551615] W fun e w' => e = .returned (.tuple #[.int .u64 ((K.pv xs 18446744073709551615 : Nat) : Int), .bool (K.pvb xs 18446744073709551615)]) ∧ Below W.heap.size W w') := Lib.hid (fun W hW => k_prev W v xs hW hl 18446744073709551615)
  clear h hk hd
  generalize K.fi xs k = F at *
  generalize K.fo xs k = G at *
  generalize K.pv xs 18446744073709551615 = X at *
  generalize K.pvb xs 18446744073709551615 = Y at *
  go_enter Tryd.func11, Tryd.ntmps11
  go_wp2_with (first
    | (go_at_call 34; (with_reducible refine hfd.out.mono ?_); rintro e w2 ⟨rfl, hD⟩; have HD2 := Lib.hid hD; have c0 := hD.c0; have c1 := hD.c1; have sz1 : w.heap.size < w2.heap.size := (by have := hD.size; omega); have sz2 : w.heap.size + 1 < w2.heap.size := (by have := hD.size; omega); clear hD)
    | (go_at_call 40; (with_reducible refine (hnx.out _ (HD2.out.kx.below ((Below.refl _ _).alloc (Nat.le_refl _) _))).mono ?_); rintro e w4 ⟨rfl, hb4⟩; have HE := Lib.hid (KE.of HD2.out hb4); clear hb4 c0 c1; have x0 := cell_of_row w4 _ 0 _ _ (0, 0) HE.out.x0; have x1 := cell_of_row w4 _ 1 _ _ (0, 0) HE.out.x0; have x2 := cell_of_row w4 _ 2 _ _ (0, 0) HE.out.x0; have g1 := frozen_of_row w4 _ 1 _ _ HE.out.x0; have g2 := frozen_of_row w4 _ 2 _ _ HE.out.x0; simp at x0 x1 x2))
  have hW0 : ((w4.setCell ⟨w2.heap.size, 1, none⟩ (.int .u64 (X : Int))).setCell ⟨w2.heap.size, 2, none⟩ (.bool Y)).heap[w.heap.size + 1]? = some kanso := (Go.heap_setCell_other _ _ _ _ (by simp; omega)).trans ((Go.heap_setCell_other _ _ _ _ (by simp; omega)).trans HE.out.a0)
  have hW1 := K.set_one (b' := .int .u64 (X : Int)) (c' := .bool Y) HE.out.x0
  have hWL : Below w.heap.size w ((w4.setCell ⟨w2.heap.size, 1, none⟩ (.int .u64 (X : Int))).setCell ⟨w2.heap.size, 2, none⟩ (.bool Y)) := (HE.out.low.setCell (p := ⟨w2.heap.size, 1, none⟩) (by simp; omega) _).setCell (p := ⟨w2.heap.size, 2, none⟩) (by simp; omega) _
  have hWK : KX ((w4.setCell ⟨w2.heap.size, 1, none⟩ (.int .u64 (X : Int))).setCell ⟨w2.heap.size, 2, none⟩ (.bool Y)) v xs := K.kx_set (K.kx_set HE.out.kx _ _ (fun e => absurd (hvl.out w2.heap.size e) (by omega))) _ _ (fun e => absurd (hvl.out w2.heap.size e) (by omega))
  clear x0 x1 x2 g1 g2
  generalize ((w4.setCell ⟨w2.heap.size, 1, none⟩ (.int .u64 (X : Int))).setCell ⟨w2.heap.size, 2, none⟩ (.bool Y)) = W at *
  have x0 : W.cell? ⟨w2.heap.size, 0, none⟩ = some (.int .i64 0) := cell_of_row _ _ 0 _ _ (0, 0) hW1
  have x1 : W.cell? ⟨w2.heap.size, 1, none⟩ = some (.int .u64 (X : Int)) := cell_of_row _ _ 1 _ _ (0, 0) hW1
  have x2 : W.cell? ⟨w2.heap.size, 2, none⟩ = some (.bool Y) := cell_of_row _ _ 2 _ _ (0, 0) hW1
  have y0 : W.cell? ⟨w.heap.size + 1, 0, none⟩ = some (.int .i64 0) := cell_of_row _ _ 0 _ _ (0, 0) hW0
  have y1 : W.cell? ⟨w.heap.size + 1, 1, none⟩ = some (.int .u64 0) := cell_of_row _ _ 1 _ _ (0, 0) hW0
  have y2 : W.cell? ⟨w.heap.size + 1, 2, none⟩ = some (.bool false) := cell_of_row _ _ 2 _ _ (0, 0) hW0
  have f0 : W.frozen? ⟨w.heap.size + 1, 0, none⟩ = false := frozen_of_row _ _ _ _ _ hW0
  have f1 : W.frozen? ⟨w.heap.size + 1, 1, none⟩ = false := frozen_of_row _ _ _ _ _ hW0
  have f2 : W.frozen? ⟨w.heap.size + 1, 2, none⟩ = false := frozen_of_row _ _ _ _ _ hW0
  go_region
  all_goals
    go_wp2
    obtain ⟨hr, hx, hb⟩ := k_end (a' := .int .i64 0) (b' := .int .u64 (X : Int)) (c' := .bool Y) hW0 hWL hWK hvo.out 1
    refine bodyPost_ret (k_res rfl _ _ (w.heap.size + 1) _ _ _ _ _ rfl hr) rfl ?_
    exact ⟨v, rfl, hx, hb, .inl rfl⟩
end Go.Proofs.YtndielncleohlaaDoor
