
/- What the document's Do answers (stepstoneref11): what errs, clears, adds and drops; the text walked. -/
import Derived.Test.YtndielncleohlaaDoorK7
namespace Go.Proofs.YtndielncleohlaaDoor
set_option maxRecDepth 4000
open Go.RowKit
theorem k_end2 {w W : World} {v : Value} {ys : List Nat} {a b c a' b' c' : Value} {T : TypeId} (hW0 : W.heap[w.heap.size + 1]? = some (.cells #[a, b, c] T (0, 0))) (hL : Below w.heap.size w W) (hK : KX W v ys) (hne : v.ownBlock ≠ some (w.heap.size + 1)) (o : Obj) :
    ((((W.setCell ⟨w.heap.size + 1, 0, none⟩ a').setCell ⟨w.heap.size + 1, 1, none⟩ b').setCell ⟨w.heap.size + 1, 2, none⟩ c').alloc o).heap[w.heap.size + 1]? = some (.cells #[a', b', c'] T (0, 0)) ∧
    KX ((((W.setCell ⟨w.heap.size + 1, 0, none⟩ a').setCell ⟨w.heap.size + 1, 1, none⟩ b').setCell ⟨w.heap.size + 1, 2, none⟩ c').alloc o) v ys ∧
    Below w.heap.size w ((((W.setCell ⟨w.heap.size + 1, 0, none⟩ a').setCell ⟨w.heap.size + 1, 1, none⟩ b').setCell ⟨w.heap.size + 1, 2, none⟩ c').alloc o) := by
  obtain ⟨h1, h2, h3⟩ := k_end (a' := a') (b' := b') (c' := c') hW0 hL hK hne 0
  exact ⟨(Below.heap_alloc _ _ _ (Array.getElem?_eq_some_iff.1 h1).1).trans h1, h2.below ((Below.refl _ _).alloc (Nat.le_refl _) _), h3.alloc h3.size _⟩
set_option maxHeartbeats 1000000 in
theorem k_do_add_exists0 (w : World) (v : Value) (xs : List Nat) (h : KX w v xs) (hl : xs.length ≤ 4611686018427387904) (d k : Nat) (hd : d < 256) (hk : d % 9 = 0) (hG : K.fo xs k = true) :
    Calls Tryd.prog 11 #[v, kactv d k] w (KDo w v xs 4 0 false) := by
  have hfd := Lib.hid (k_find_do w v xs h hl d k)
  obtain ⟨e1, e2⟩ := mod9 d hd 0 hk
  have hvo := Lib.hid (kx_own h)
  rw [hG] at hfd
  clear h hk hd hG
  generalize K.fi xs k = F at *
  go_enter Tryd.func11, Tryd.ntmps11
  go_wp2_with (go_at_call 34; (with_reducible refine hfd.out.mono ?_); rintro e w2 ⟨rfl, hD⟩; have HD2 := Lib.hid hD; have c0 := hD.c0; have c1 := hD.c1; have sz1 : w.heap.size < w2.heap.size := (by have := hD.size; omega); have sz2 : w.heap.size + 1 < w2.heap.size := (by have := hD.size; omega); have y0 := cell_of_row w2 _ 0 _ _ (0, 0) hD.a0; have y1 := cell_of_row w2 _ 1 _ _ (0, 0) hD.a0; have y2 := cell_of_row w2 _ 2 _ _ (0, 0) hD.a0; have f0 := frozen_of_row w2 _ 0 _ _ hD.a0; have f1 := frozen_of_row w2 _ 1 _ _ hD.a0; have f2 := frozen_of_row w2 _ 2 _ _ hD.a0; simp at y0 y1 y2; clear hD)
  obtain ⟨hr, hx, hb⟩ := k_end2 (a' := .int .i64 4) (b' := .int .u64 0) (c' := .bool false) HD2.out.a0 HD2.out.low HD2.out.kx hvo.out kanso
  refine bodyPost_ret (k_res rfl _ _ (w.heap.size + 1) _ _ _ _ _ rfl hr) rfl ?_
  exact ⟨v, rfl, hx, hb, .inl rfl⟩
set_option maxHeartbeats 1000000 in
theorem k_do_add_exists1 (w : World) (v : Value) (xs : List Nat) (h : KX w v xs) (hl : xs.length ≤ 4611686018427387904) (d k : Nat) (hd : d < 256) (hk : d % 9 = 1) (hG : K.fo xs k = true) :
    Calls Tryd.prog 11 #[v, kactv d k] w (KDo w v xs 4 0 false) := by
  have hfd := Lib.hid (k_find_do w v xs h hl d k)
  obtain ⟨e1, e2⟩ := mod9 d hd 1 hk
  have hvo := Lib.hid (kx_own h)
  rw [hG] at hfd
  clear h hk hd hG
  generalize K.fi xs k = F at *
  go_enter Tryd.func11, Tryd.ntmps11
  go_wp2_with (go_at_call 34; (with_reducible refine hfd.out.mono ?_); rintro e w2 ⟨rfl, hD⟩; have HD2 := Lib.hid hD; have c0 := hD.c0; have c1 := hD.c1; have sz1 : w.heap.size < w2.heap.size := (by have := hD.size; omega); have sz2 : w.heap.size + 1 < w2.heap.size := (by have := hD.size; omega); have y0 := cell_of_row w2 _ 0 _ _ (0, 0) hD.a0; have y1 := cell_of_row w2 _ 1 _ _ (0, 0) hD.a0; have y2 := cell_of_row w2 _ 2 _ _ (0, 0) hD.a0; have f0 := frozen_of_row w2 _ 0 _ _ hD.a0; have f1 := frozen_of_row w2 _ 1 _ _ hD.a0; have f2 := frozen_of_row w2 _ 2 _ _ hD.a0; simp at y0 y1 y2; clear hD)
  obtain ⟨hr, hx, hb⟩ := k_end2 (a' := .int .i64 4) (b' := .int .u64 0) (c' := .bool false) HD2.out.a0 HD2.out.low HD2.out.kx hvo.out kanso
  refine bodyPost_ret (k_res rfl _ _ (w.heap.size + 1) _ _ _ _ _ rfl hr) rfl ?_
  exact ⟨v, rfl, hx, hb, .inl rfl⟩
set_option maxHeartbeats 1000000 in
theorem k_do_drop_none (w : World) (v : Value) (xs : List Nat) (h : KX w v xs) (hl : xs.length ≤ 4611686018427387904) (d k : Nat) (hd : d < 256) (hk : d % 9 = 2) (hG : K.fo xs k = false) :
    Calls Tryd.prog 11 #[v, kactv d k] w (KDo w v xs 3 0 false) := by
  have hfd := Lib.hid (k_find_do w v xs h hl d k)
  obtain ⟨e1, e2⟩ := mod9 d hd 2 hk
  have hvo := Lib.hid (kx_own h)
  rw [hG] at hfd
  clear h hk hd hG
  generalize K.fi xs k = F at *
  go_enter Tryd.func11, Tryd.ntmps11
  go_wp2_with (go_at_call 34; (with_reducible refine hfd.out.mono ?_); rintro e w2 ⟨rfl, hD⟩; have HD2 := Lib.hid hD; have c0 := hD.c0; have c1 := hD.c1; have sz1 : w.heap.size < w2.heap.size := (by have := hD.size; omega); have sz2 : w.heap.size + 1 < w2.heap.size := (by have := hD.size; omega); have y0 := cell_of_row w2 _ 0 _ _ (0, 0) hD.a0; have y1 := cell_of_row w2 _ 1 _ _ (0, 0) hD.a0; have y2 := cell_of_row w2 _ 2 _ _ (0, 0) hD.a0; have f0 := frozen_of_row w2 _ 0 _ _ hD.a0; have f1 := frozen_of_row w2 _ 1 _ _ hD.a0; have f2 := frozen_of_row w2 _ 2 _ _ hD.a0; simp at y0 y1 y2; clear hD)
  obtain ⟨hr, hx, hb⟩ := k_end2 (a' := .int .i64 3) (b' := .int .u64 0) (c' := .bool false) HD2.out.a0 HD2.out.low HD2.out.kx hvo.out kanso
  refine bodyPost_ret (k_res rfl _ _ (w.heap.size + 1) _ _ _ _ _ rfl hr) rfl ?_
  exact ⟨v, rfl, hx, hb, .inl rfl⟩
set_option maxHeartbeats 1000000 in
theorem k_do_clear (w : World) (v : Value) (xs : List Nat) (h : KX w v xs) (hl : xs.length ≤ 4611686018427387904) (d k : Nat) (hd : d < 256) (hk : d % 9 = 8) :
    Calls Tryd.prog 11 #[v, kactv d k] w (KDo w v [] 0 0 false) := by
  have hfd := Lib.hid (k_find_do w v xs h hl d k)
  obtain ⟨e1, e2⟩ := mod9 d hd 8 hk
  clear h hk hd
  generalize K.fi xs k = F at *
  generalize K.fo xs k = G at *
  go_enter Tryd.func11, Tryd.ntmps11
  go_wp2_with (go_at_call 34; (with_reducible refine hfd.out.mono ?_); rintro e w2 ⟨rfl, hD⟩; have HD2 := Lib.hid hD; have c0 := hD.c0; have c1 := hD.c1; have sz1 : w.heap.size < w2.heap.size := (by have := hD.size; omega); have sz2 : w.heap.size + 1 < w2.heap.size := (by have := hD.size; omega); clear hD)
  have hW0 : (w2.alloc kanso).heap[w.heap.size + 1]? = some kanso := (Below.heap_alloc _ _ _ sz2).trans HD2.out.a0
  have hWL : Below w.heap.size w (w2.alloc kanso) := HD2.out.low.alloc HD2.out.low.size _
  have hW1 := K.alloc_top w2 kanso
  have hWK : KX (w2.alloc kanso) (.slice none 0 0) [] := KX.nil _
  clear c0 c1
  generalize (w2.alloc kanso) = W at *
  have x0 : W.cell? ⟨w2.heap.size, 0, none⟩ = some (.int .i64 0) := cell_of_row _ _ 0 _ _ (0, 0) hW1
  have x1 : W.cell? ⟨w2.heap.size, 1, none⟩ = some (.int .u64 0) := cell_of_row _ _ 1 _ _ (0, 0) hW1
  have x2 : W.cell? ⟨w2.heap.size, 2, none⟩ = some (.bool false) := cell_of_row _ _ 2 _ _ (0, 0) hW1
  have y0 : W.cell? ⟨w.heap.size + 1, 0, none⟩ = some (.int .i64 0) := cell_of_row _ _ 0 _ _ (0, 0) hW0
  have y1 : W.cell? ⟨w.heap.size + 1, 1, none⟩ = some (.int .u64 0) := cell_of_row _ _ 1 _ _ (0, 0) hW0
  have y2 : W.cell? ⟨w.heap.size + 1, 2, none⟩ = some (.bool false) := cell_of_row _ _ 2 _ _ (0, 0) hW0
  have f0 : W.frozen? ⟨w.heap.size + 1, 0, none⟩ = false := frozen_of_row _ _ _ _ _ hW0
  have f1 : W.frozen? ⟨w.heap.size + 1, 1, none⟩ = false := frozen_of_row _ _ _ _ _ hW0
  have f2 : W.frozen? ⟨w.heap.size + 1, 2, none⟩ = false := frozen_of_row _ _ _ _ _ hW0
  go_region
  all_goals
    go_wp2
    obtain ⟨hr, hx, hb⟩ := k_end (a' := .int .i64 0) (b' := .int .u64 0) (c' := .bool false) hW0 hWL hWK (by simp [Value.ownBlock]) 1
    refine bodyPost_ret (k_res rfl _ _ (w.heap.size + 1) _ _ _ _ _ rfl hr) rfl ?_
    exact ⟨_, rfl, hx, hb, .inr fun g e => by simp [Value.ownBlock] at e⟩
set_option maxRecDepth 100000 in
set_option maxHeartbeats 1000000 in
theorem k_do_add0 (w : World) (v : Value) (xs : List Nat) (h : KX w v xs) (hl : xs.length ≤ 1000000) (d k : Nat) (hd : d < 256) (hk : d % 9 = 0) (hG : K.fo xs k = false) :
    Calls Tryd.prog 11 #[v, kactv d k] w (KDo w v (K.add xs k) 0 0 false) := by
  have hfd := Lib.hid (k_find_do w v xs h (by omega) d k)
  obtain ⟨e1, e2⟩ := mod9 d hd 0 hk
  have hvl := Lib.hid (fun (j : Nat) (e : v.ownBlock = some j) => (K.own_lt h e).1)
  have hadd := Lib.hid (fun (W : World) (hW : KX W v xs) => k_add W v xs hW hl k)
  rw [hG] at hfd
  clear h hk hd hG
  generalize K.fi xs k = F at *
  generalize K.add xs k = ys at *
  go_enter Tryd.func11, Tryd.ntmps11
  go_wp2_with (go_at_call 34; (with_reducible refine hfd.out.mono ?_); rintro e w2 ⟨rfl, hD⟩; have HD2 := Lib.hid hD; have c0 := hD.c0; have c1 := hD.c1; have sz1 : w.heap.size < w2.heap.size := (by have := hD.size; omega); have sz2 : w.heap.size + 1 < w2.heap.size := (by have := hD.size; omega); clear hD)
  have hW0 : (w2.alloc kanso).heap[w.heap.size + 1]? = some kanso := (Below.heap_alloc _ _ _ sz2).trans HD2.out.a0
  have hWL : Below w.heap.size w (w2.alloc kanso) := HD2.out.low.alloc HD2.out.low.size _
  have hW1 := K.alloc_top w2 kanso
  have hWK : KX (w2.alloc kanso) v xs := HD2.out.kx.below ((Below.refl _ _).alloc (Nat.le_refl _) _)
  have hWS : (w2.alloc kanso).heap.size = w2.heap.size + 1 := by simp
  have hc1 : (w2.alloc kanso).cell? ⟨w.heap.size, 1, none⟩ = some (.int .u64 (k : Int)) := (((Below.refl w2.heap.size w2).alloc (Nat.le_refl _) kanso).cell (p := ⟨w.heap.size, 1, none⟩) sz1).trans c1
  clear c0 c1
  generalize (w2.alloc kanso) = W at *
  have c1 := hc1
  have x0 : W.cell? ⟨w2.heap.size, 0, none⟩ = some (.int .i64 0) := cell_of_row _ _ 0 _ _ (0, 0) hW1
  have x1 : W.cell? ⟨w2.heap.size, 1, none⟩ = some (.int .u64 0) := cell_of_row _ _ 1 _ _ (0, 0) hW1
  have x2 : W.cell? ⟨w2.heap.size, 2, none⟩ = some (.bool false) := cell_of_row _ _ 2 _ _ (0, 0) hW1
  have y0 : W.cell? ⟨w.heap.size + 1, 0, none⟩ = some (.int .i64 0) := cell_of_row _ _ 0 _ _ (0, 0) hW0
  have y1 : W.cell? ⟨w.heap.size + 1, 1, none⟩ = some (.int .u64 0) := cell_of_row _ _ 1 _ _ (0, 0) hW0
  have y2 : W.cell? ⟨w.heap.size + 1, 2, none⟩ = some (.bool false) := cell_of_row _ _ 2 _ _ (0, 0) hW0
  have f0 : W.frozen? ⟨w.heap.size + 1, 0, none⟩ = false := frozen_of_row _ _ _ _ _ hW0
  have f1 : W.frozen? ⟨w.heap.size + 1, 1, none⟩ = false := frozen_of_row _ _ _ _ _ hW0
  have f2 : W.frozen? ⟨w.heap.size + 1, 2, none⟩ = false := frozen_of_row _ _ _ _ _ hW0
  have hin0 : ∀ W' : World, W'.heap[w2.heap.size]? = some kanso → W'.heap[w.heap.size + 1]? = some kanso → W'.cell? ⟨w.heap.size, 1, none⟩ = some (.int .u64 (k : Int)) → W'.cell? ⟨w2.heap.size, 0, none⟩ = some (.int .i64 0) ∧ W'.cell? ⟨w2.heap.size, 1, none⟩ = some (.int .u64 0) ∧ W'.cell? ⟨w2.heap.size, 2, none⟩ = some (.bool false) ∧ W'.cell? ⟨w.heap.size + 1, 0, none⟩ = some (.int .i64 0) ∧ W'.cell? ⟨w.heap.size + 1, 1, none⟩ = some (.int .u64 0) ∧ W'.cell? ⟨w.heap.size + 1, 2, none⟩ = some (.bool false) ∧ W'.frozen? ⟨w.heap.size + 1, 0, none⟩ = false ∧ W'.frozen? ⟨w.heap.size + 1, 1, none⟩ = false ∧ W'.frozen? ⟨w.heap.size + 1, 2, none⟩ = false ∧ W'.cell? ⟨w.heap.size, 1, none⟩ = some (.int .u64 (k : Int)) := fun W' h1 h2 h3 =>
    ⟨cell_of_row _ _ 0 _ _ (0, 0) h1, cell_of_row _ _ 1 _ _ (0, 0) h1, cell_of_row _ _ 2 _ _ (0, 0) h1, cell_of_row _ _ 0 _ _ (0, 0) h2, cell_of_row _ _ 1 _ _ (0, 0) h2, cell_of_row _ _ 2 _ _ (0, 0) h2, frozen_of_row _ _ _ _ _ h2, frozen_of_row _ _ _ _ _ h2, frozen_of_row _ _ _ _ _ h2, h3⟩
  have hin : Hid (∀ W', Below W.heap.size W W' → W'.cell? ⟨w2.heap.size, 0, none⟩ = some (.int .i64 0) ∧ W'.cell? ⟨w2.heap.size, 1, none⟩ = some (.int .u64 0) ∧ W'.cell? ⟨w2.heap.size, 2, none⟩ = some (.bool false) ∧ W'.cell? ⟨w.heap.size + 1, 0, none⟩ = some (.int .i64 0) ∧ W'.cell? ⟨w.heap.size + 1, 1, none⟩ = some (.int .u64 0) ∧ W'.cell? ⟨w.heap.size + 1, 2, none⟩ = some (.bool false) ∧ W'.frozen? ⟨w.heap.size + 1, 0, none⟩ = false ∧ W'.frozen? ⟨w.heap.size + 1, 1, none⟩ = false ∧ W'.frozen? ⟨w.heap.size + 1, 2, none⟩ = false ∧ W'.cell? ⟨w.heap.size, 1, none⟩ = some (.int .u64 (k : Int))) := fun W' hB =>
    hin0 W' ((hB.block w2.heap.size (by omega)).trans hW1) ((hB.block (w.heap.size + 1) (by omega)).trans hW0) ((hB.cell (p := ⟨w.heap.size, 1, none⟩) (by simp; omega)).trans c1)
  have hin3 : Hid (∀ W0, Below W.heap.size W W0 → ∀ W', W' = (((W0.setCell ⟨w.heap.size + 1, 0, none⟩ (.int .i64 0)).setCell ⟨w.heap.size + 1, 1, none⟩ (.int .u64 0)).setCell ⟨w.heap.size + 1, 2, none⟩ (.bool false)) → W'.cell? ⟨w2.heap.size, 0, none⟩ = some (.int .i64 0) ∧ W'.cell? ⟨w2.heap.size, 1, none⟩ = some (.int .u64 0) ∧ W'.cell? ⟨w2.heap.size, 2, none⟩ = some (.bool false) ∧ W'.cell? ⟨w.heap.size + 1, 0, none⟩ = some (.int .i64 0) ∧ W'.cell? ⟨w.heap.size + 1, 1, none⟩ = some (.int .u64 0) ∧ W'.cell? ⟨w.heap.size + 1, 2, none⟩ = some (.bool false) ∧ W'.frozen? ⟨w.heap.size + 1, 0, none⟩ = false ∧ W'.frozen? ⟨w.heap.size + 1, 1, none⟩ = false ∧ W'.frozen? ⟨w.heap.size + 1, 2, none⟩ = false ∧ W'.cell? ⟨w.heap.size, 1, none⟩ = some (.int .u64 (k : Int))) := fun W0 hB W' hE => by
    subst hE
    refine hin0 _ ?_ (K.set_all ((hB.block (w.heap.size + 1) (by omega)).trans hW0)) ?_
    · exact (Go.heap_setCell_other _ _ _ _ (by simp; omega)).trans ((Go.heap_setCell_other _ _ _ _ (by simp; omega)).trans ((Go.heap_setCell_other _ _ _ _ (by simp; omega)).trans ((hB.block w2.heap.size (by omega)).trans hW1)))
    · have e : ∀ (V : World) (p : Addr) (u : Value), p.block = w.heap.size + 1 → (V.setCell p u).heap[w.heap.size]? = V.heap[w.heap.size]? := fun V p u hp => Go.heap_setCell_other _ _ _ _ (by omega)
      have e2 : ∀ (V V' : World), V.heap[w.heap.size]? = V'.heap[w.heap.size]? → V.cell? ⟨w.heap.size, 1, none⟩ = V'.cell? ⟨w.heap.size, 1, none⟩ := fun V V' h => by simp [World.cell?, h]
      exact (e2 _ _ ((e _ _ _ rfl).trans ((e _ _ _ rfl).trans (e _ _ _ rfl)))).trans ((hB.cell (p := ⟨w.heap.size, 1, none⟩) (by simp; omega)).trans c1)
  clear hin0
  have B0 := Lib.hid (Below.refl W.heap.size W)
  have B0d : Hid (Below W.heap.size W W.drew) := below_drewN (Below.refl W.heap.size W) 1
  have HWd : Hid (KX W.drew v xs) := K.kx_drewN hWK 1
  go_region_held3 (fun W' => W'.cell? ⟨w2.heap.size, 0, none⟩ = some (.int .i64 0) ∧ W'.cell? ⟨w2.heap.size, 1, none⟩ = some (.int .u64 0) ∧ W'.cell? ⟨w2.heap.size, 2, none⟩ = some (.bool false) ∧ W'.cell? ⟨w.heap.size + 1, 0, none⟩ = some (.int .i64 0) ∧ W'.cell? ⟨w.heap.size + 1, 1, none⟩ = some (.int .u64 0) ∧ W'.cell? ⟨w.heap.size + 1, 2, none⟩ = some (.bool false) ∧ W'.frozen? ⟨w.heap.size + 1, 0, none⟩ = false ∧ W'.frozen? ⟨w.heap.size + 1, 1, none⟩ = false ∧ W'.frozen? ⟨w.heap.size + 1, 2, none⟩ = false ∧ W'.cell? ⟨w.heap.size, 1, none⟩ = some (.int .u64 (k : Int))) (first | exact hin3.out _ HB5.out _ rfl | exact hin.out _ HB5.out | exact hin.out _ B0d.out | exact hin.out _ B0.out | go_keep) (first
    | (go_at_call 37; (with_reducible refine (hadd.out _ HWd.out).mono ?_); rintro e w5 ⟨v5, rfl, hk5, hb5, hv5⟩; have HB5 := Lib.hid (Below.trans B0d.out hb5); have HK5 := Lib.hid hk5; have HV5 := Lib.hid hv5; clear hk5 hb5 hv5))
  all_goals
    go_wp2
    have hne : v5.ownBlock ≠ some (w.heap.size + 1) := by
      intro e
      rcases HV5.out with rfl | h5
      · have := hvl.out _ e; omega
      · have := h5 _ e; simp at this; omega
    obtain ⟨hr, hx, hb⟩ := k_end (a' := .int .i64 0) (b' := .int .u64 0) (c' := .bool false) ((HB5.out.block (w.heap.size + 1) (by omega)).trans hW0) (hWL.trans (HB5.out.mono (by omega))) HK5.out hne 0
    refine bodyPost_ret (k_res rfl _ _ (w.heap.size + 1) _ _ _ _ _ rfl hr) rfl ?_
    exact ⟨v5, rfl, hx, hb, HV5.out.elim .inl (fun h => .inr fun g e => by have := h g e; simp at this; omega)⟩
set_option maxRecDepth 100000 in
set_option maxHeartbeats 1000000 in
theorem k_do_add1 (w : World) (v : Value) (xs : List Nat) (h : KX w v xs) (hl : xs.length ≤ 1000000) (d k : Nat) (hd : d < 256) (hk : d % 9 = 1) (hG : K.fo xs k = false) :
    Calls Tryd.prog 11 #[v, kactv d k] w (KDo w v (K.add xs k) 0 0 false) := by
  have hfd := Lib.hid (k_find_do w v xs h (by omega) d k)
  obtain ⟨e1, e2⟩ := mod9 d hd 1 hk
  have hvl := Lib.hid (fun (j : Nat) (e : v.ownBlock = some j) => (K.own_lt h e).1)
  have hadd := Lib.hid (fun (W : World) (hW : KX W v xs) => k_add W v xs hW hl k)
  rw [hG] at hfd
  clear h hk hd hG
  generalize K.fi xs k = F at *
  generalize K.add xs k = ys at *
  go_enter Tryd.func11, Tryd.ntmps11
  go_wp2_with (go_at_call 34; (with_reducible refine hfd.out.mono ?_); rintro e w2 ⟨rfl, hD⟩; have HD2 := Lib.hid hD; have c0 := hD.c0; have c1 := hD.c1; have sz1 : w.heap.size < w2.heap.size := (by have := hD.size; omega); have sz2 : w.heap.size + 1 < w2.heap.size := (by have := hD.size; omega); clear hD)
  have hW0 : (w2.alloc kanso).heap[w.heap.size + 1]? = some kanso := (Below.heap_alloc _ _ _ sz2).trans HD2.out.a0
  have hWL : Below w.heap.size w (w2.alloc kanso) := HD2.out.low.alloc HD2.out.low.size _
  have hW1 := K.alloc_top w2 kanso
  have hWK : KX (w2.alloc kanso) v xs := HD2.out.kx.below ((Below.refl _ _).alloc (Nat.le_refl _) _)
  have hWS : (w2.alloc kanso).heap.size = w2.heap.size + 1 := by simp
  have hc1 : (w2.alloc kanso).cell? ⟨w.heap.size, 1, none⟩ = some (.int .u64 (k : Int)) := (((Below.refl w2.heap.size w2).alloc (Nat.le_refl _) kanso).cell (p := ⟨w.heap.size, 1, none⟩) sz1).trans c1
  clear c0 c1
  generalize (w2.alloc kanso) = W at *
  have c1 := hc1
  have x0 : W.cell? ⟨w2.heap.size, 0, none⟩ = some (.int .i64 0) := cell_of_row _ _ 0 _ _ (0, 0) hW1
  have x1 : W.cell? ⟨w2.heap.size, 1, none⟩ = some (.int .u64 0) := cell_of_row _ _ 1 _ _ (0, 0) hW1
  have x2 : W.cell? ⟨w2.heap.size, 2, none⟩ = some (.bool false) := cell_of_row _ _ 2 _ _ (0, 0) hW1
  have y0 : W.cell? ⟨w.heap.size + 1, 0, none⟩ = some (.int .i64 0) := cell_of_row _ _ 0 _ _ (0, 0) hW0
  have y1 : W.cell? ⟨w.heap.size + 1, 1, none⟩ = some (.int .u64 0) := cell_of_row _ _ 1 _ _ (0, 0) hW0
  have y2 : W.cell? ⟨w.heap.size + 1, 2, none⟩ = some (.bool false) := cell_of_row _ _ 2 _ _ (0, 0) hW0
  have f0 : W.frozen? ⟨w.heap.size + 1, 0, none⟩ = false := frozen_of_row _ _ _ _ _ hW0
  have f1 : W.frozen? ⟨w.heap.size + 1, 1, none⟩ = false := frozen_of_row _ _ _ _ _ hW0
  have f2 : W.frozen? ⟨w.heap.size + 1, 2, none⟩ = false := frozen_of_row _ _ _ _ _ hW0
  have hin0 : ∀ W' : World, W'.heap[w2.heap.size]? = some kanso → W'.heap[w.heap.size + 1]? = some kanso → W'.cell? ⟨w.heap.size, 1, none⟩ = some (.int .u64 (k : Int)) → W'.cell? ⟨w2.heap.size, 0, none⟩ = some (.int .i64 0) ∧ W'.cell? ⟨w2.heap.size, 1, none⟩ = some (.int .u64 0) ∧ W'.cell? ⟨w2.heap.size, 2, none⟩ = some (.bool false) ∧ W'.cell? ⟨w.heap.size + 1, 0, none⟩ = some (.int .i64 0) ∧ W'.cell? ⟨w.heap.size + 1, 1, none⟩ = some (.int .u64 0) ∧ W'.cell? ⟨w.heap.size + 1, 2, none⟩ = some (.bool false) ∧ W'.frozen? ⟨w.heap.size + 1, 0, none⟩ = false ∧ W'.frozen? ⟨w.heap.size + 1, 1, none⟩ = false ∧ W'.frozen? ⟨w.heap.size + 1, 2, none⟩ = false ∧ W'.cell? ⟨w.heap.size, 1, none⟩ = some (.int .u64 (k : Int)) := fun W' h1 h2 h3 =>
    ⟨cell_of_row _ _ 0 _ _ (0, 0) h1, cell_of_row _ _ 1 _ _ (0, 0) h1, cell_of_row _ _ 2 _ _ (0, 0) h1, cell_of_row _ _ 0 _ _ (0, 0) h2, cell_of_row _ _ 1 _ _ (0, 0) h2, cell_of_row _ _ 2 _ _ (0, 0) h2, frozen_of_row _ _ _ _ _ h2, frozen_of_row _ _ _ _ _ h2, frozen_of_row _ _ _ _ _ h2, h3⟩
  have hin : Hid (∀ W', Below W.heap.size W W' → W'.cell? ⟨w2.heap.size, 0, none⟩ = some (.int .i64 0) ∧ W'.cell? ⟨w2.heap.size, 1, none⟩ = some (.int .u64 0) ∧ W'.cell? ⟨w2.heap.size, 2, none⟩ = some (.bool false) ∧ W'.cell? ⟨w.heap.size + 1, 0, none⟩ = some (.int .i64 0) ∧ W'.cell? ⟨w.heap.size + 1, 1, none⟩ = some (.int .u64 0) ∧ W'.cell? ⟨w.heap.size + 1, 2, none⟩ = some (.bool false) ∧ W'.frozen? ⟨w.heap.size + 1, 0, none⟩ = false ∧ W'.frozen? ⟨w.heap.size + 1, 1, none⟩ = false ∧ W'.frozen? ⟨w.heap.size + 1, 2, none⟩ = false ∧ W'.cell? ⟨w.heap.size, 1, none⟩ = some (.int .u64 (k : Int))) := fun W' hB =>
    hin0 W' ((hB.block w2.heap.size (by omega)).trans hW1) ((hB.block (w.heap.size + 1) (by omega)).trans hW0) ((hB.cell (p := ⟨w.heap.size, 1, none⟩) (by simp; omega)).trans c1)
  have hin3 : Hid (∀ W0, Below W.heap.size W W0 → ∀ W', W' = (((W0.setCell ⟨w.heap.size + 1, 0, none⟩ (.int .i64 0)).setCell ⟨w.heap.size + 1, 1, none⟩ (.int .u64 0)).setCell ⟨w.heap.size + 1, 2, none⟩ (.bool false)) → W'.cell? ⟨w2.heap.size, 0, none⟩ = some (.int .i64 0) ∧ W'.cell? ⟨w2.heap.size, 1, none⟩ = some (.int .u64 0) ∧ W'.cell? ⟨w2.heap.size, 2, none⟩ = some (.bool false) ∧ W'.cell? ⟨w.heap.size + 1, 0, none⟩ = some (.int .i64 0) ∧ W'.cell? ⟨w.heap.size + 1, 1, none⟩ = some (.int .u64 0) ∧ W'.cell? ⟨w.heap.size + 1, 2, none⟩ = some (.bool false) ∧ W'.frozen? ⟨w.heap.size + 1, 0, none⟩ = false ∧ W'.frozen? ⟨w.heap.size + 1, 1, none⟩ = false ∧ W'.frozen? ⟨w.heap.size + 1, 2, none⟩ = false ∧ W'.cell? ⟨w.heap.size, 1, none⟩ = some (.int .u64 (k : Int))) := fun W0 hB W' hE => by
    subst hE
    refine hin0 _ ?_ (K.set_all ((hB.block (w.heap.size + 1) (by omega)).trans hW0)) ?_
    · exact (Go.heap_setCell_other _ _ _ _ (by simp; omega)).trans ((Go.heap_setCell_other _ _ _ _ (by simp; omega)).trans ((Go.heap_setCell_other _ _ _ _ (by simp; omega)).trans ((hB.block w2.heap.size (by omega)).trans hW1)))
    · have e : ∀ (V : World) (p : Addr) (u : Value), p.block = w.heap.size + 1 → (V.setCell p u).heap[w.heap.size]? = V.heap[w.heap.size]? := fun V p u hp => Go.heap_setCell_other _ _ _ _ (by omega)
      have e2 : ∀ (V V' : World), V.heap[w.heap.size]? = V'.heap[w.heap.size]? → V.cell? ⟨w.heap.size, 1, none⟩ = V'.cell? ⟨w.heap.size, 1, none⟩ := fun V V' h => by simp [World.cell?, h]
      exact (e2 _ _ ((e _ _ _ rfl).trans ((e _ _ _ rfl).trans (e _ _ _ rfl)))).trans ((hB.cell (p := ⟨w.heap.size, 1, none⟩) (by simp; omega)).trans c1)
  clear hin0
  have B0 := Lib.hid (Below.refl W.heap.size W)
  have B0d : Hid (Below W.heap.size W W.drew) := below_drewN (Below.refl W.heap.size W) 1
  have HWd : Hid (KX W.drew v xs) := K.kx_drewN hWK 1
  go_region_held3 (fun W' => W'.cell? ⟨w2.heap.size, 0, none⟩ = some (.int .i64 0) ∧ W'.cell? ⟨w2.heap.size, 1, none⟩ = some (.int .u64 0) ∧ W'.cell? ⟨w2.heap.size, 2, none⟩ = some (.bool false) ∧ W'.cell? ⟨w.heap.size + 1, 0, none⟩ = some (.int .i64 0) ∧ W'.cell? ⟨w.heap.size + 1, 1, none⟩ = some (.int .u64 0) ∧ W'.cell? ⟨w.heap.size + 1, 2, none⟩ = some (.bool false) ∧ W'.frozen? ⟨w.heap.size + 1, 0, none⟩ = false ∧ W'.frozen? ⟨w.heap.size + 1, 1, none⟩ = false ∧ W'.frozen? ⟨w.heap.size + 1, 2, none⟩ = false ∧ W'.cell? ⟨w.heap.size, 1, none⟩ = some (.int .u64 (k : Int))) (first | exact hin3.out _ HB5.out _ rfl | exact hin.out _ HB5.out | exact hin.out _ B0d.out | exact hin.out _ B0.out | go_keep) (first
    | (go_at_call 37; (with_reducible refine (hadd.out _ HWd.out).mono ?_); rintro e w5 ⟨v5, rfl, hk5, hb5, hv5⟩; have HB5 := Lib.hid (Below.trans B0d.out hb5); have HK5 := Lib.hid hk5; have HV5 := Lib.hid hv5; clear hk5 hb5 hv5))
  all_goals
    go_wp2
    have hne : v5.ownBlock ≠ some (w.heap.size + 1) := by
      intro e
      rcases HV5.out with rfl | h5
      · have := hvl.out _ e; omega
      · have := h5 _ e; simp at this; omega
    obtain ⟨hr, hx, hb⟩ := k_end (a' := .int .i64 0) (b' := .int .u64 0) (c' := .bool false) ((HB5.out.block (w.heap.size + 1) (by omega)).trans hW0) (hWL.trans (HB5.out.mono (by omega))) HK5.out hne 0
    refine bodyPost_ret (k_res rfl _ _ (w.heap.size + 1) _ _ _ _ _ rfl hr) rfl ?_
    exact ⟨v5, rfl, hx, hb, HV5.out.elim .inl (fun h => .inr fun g e => by have := h g e; simp at this; omega)⟩
set_option maxRecDepth 100000 in
set_option maxHeartbeats 1000000 in
theorem k_do_drop (w : World) (v : Value) (xs : List Nat) (h : KX w v xs) (hl : xs.length ≤ 1000000) (d k : Nat) (hd : d < 256) (hk : d % 9 = 2) (hG : K.fo xs k = true) :
    Calls Tryd.prog 11 #[v, kactv d k] w (KDo w v (K.drop xs k) 0 0 false) := by
  have hfd := Lib.hid (k_find_do w v xs h (by omega) d k)
  obtain ⟨e1, e2⟩ := mod9 d hd 2 hk
  have hvl := Lib.hid (fun (j : Nat) (e : v.ownBlock = some j) => (K.own_lt h e).1)
  have hadd := Lib.hid (fun (W : World) (hW : KX W v xs) => k_drop W v xs hW hl k)
  rw [hG] at hfd
  clear h hk hd hG
  generalize K.fi xs k = F at *
  generalize K.drop xs k = ys at *
  go_enter Tryd.func11, Tryd.ntmps11
  go_wp2_with (go_at_call 34; (with_reducible refine hfd.out.mono ?_); rintro e w2 ⟨rfl, hD⟩; have HD2 := Lib.hid hD; have c0 := hD.c0; have c1 := hD.c1; have sz1 : w.heap.size < w2.heap.size := (by have := hD.size; omega); have sz2 : w.heap.size + 1 < w2.heap.size := (by have := hD.size; omega); clear hD)
  have hW0 : (w2.alloc kanso).heap[w.heap.size + 1]? = some kanso := (Below.heap_alloc _ _ _ sz2).trans HD2.out.a0
  have hWL : Below w.heap.size w (w2.alloc kanso) := HD2.out.low.alloc HD2.out.low.size _
  have hW1 := K.alloc_top w2 kanso
  have hWK : KX (w2.alloc kanso) v xs := HD2.out.kx.below ((Below.refl _ _).alloc (Nat.le_refl _) _)
  have hWS : (w2.alloc kanso).heap.size = w2.heap.size + 1 := by simp
  have hc1 : (w2.alloc kanso).cell? ⟨w.heap.size, 1, none⟩ = some (.int .u64 (k : Int)) := (((Below.refl w2.heap.size w2).alloc (Nat.le_refl _) kanso).cell (p := ⟨w.heap.size, 1, none⟩) sz1).trans c1
  clear c0 c1
  generalize (w2.alloc kanso) = W at *
  have c1 := hc1
  have x0 : W.cell? ⟨w2.heap.size, 0, none⟩ = some (.int .i64 0) := cell_of_row _ _ 0 _ _ (0, 0) hW1
  have x1 : W.cell? ⟨w2.heap.size, 1, none⟩ = some (.int .u64 0) := cell_of_row _ _ 1 _ _ (0, 0) hW1
  have x2 : W.cell? ⟨w2.heap.size, 2, none⟩ = some (.bool false) := cell_of_row _ _ 2 _ _ (0, 0) hW1
  have y0 : W.cell? ⟨w.heap.size + 1, 0, none⟩ = some (.int .i64 0) := cell_of_row _ _ 0 _ _ (0, 0) hW0
  have y1 : W.cell? ⟨w.heap.size + 1, 1, none⟩ = some (.int .u64 0) := cell_of_row _ _ 1 _ _ (0, 0) hW0
  have y2 : W.cell? ⟨w.heap.size + 1, 2, none⟩ = some (.bool false) := cell_of_row _ _ 2 _ _ (0, 0) hW0
  have f0 : W.frozen? ⟨w.heap.size + 1, 0, none⟩ = false := frozen_of_row _ _ _ _ _ hW0
  have f1 : W.frozen? ⟨w.heap.size + 1, 1, none⟩ = false := frozen_of_row _ _ _ _ _ hW0
  have f2 : W.frozen? ⟨w.heap.size + 1, 2, none⟩ = false := frozen_of_row _ _ _ _ _ hW0
  have hin0 : ∀ W' : World, W'.heap[w2.heap.size]? = some kanso → W'.heap[w.heap.size + 1]? = some kanso → W'.cell? ⟨w.heap.size, 1, none⟩ = some (.int .u64 (k : Int)) → W'.cell? ⟨w2.heap.size, 0, none⟩ = some (.int .i64 0) ∧ W'.cell? ⟨w2.heap.size, 1, none⟩ = some (.int .u64 0) ∧ W'.cell? ⟨w2.heap.size, 2, none⟩ = some (.bool false) ∧ W'.cell? ⟨w.heap.size + 1, 0, none⟩ = some (.int .i64 0) ∧ W'.cell? ⟨w.heap.size + 1, 1, none⟩ = some (.int .u64 0) ∧ W'.cell? ⟨w.heap.size + 1, 2, none⟩ = some (.bool false) ∧ W'.frozen? ⟨w.heap.size + 1, 0, none⟩ = false ∧ W'.frozen? ⟨w.heap.size + 1, 1, none⟩ = false ∧ W'.frozen? ⟨w.heap.size + 1, 2, none⟩ = false ∧ W'.cell? ⟨w.heap.size, 1, none⟩ = some (.int .u64 (k : Int)) := fun W' h1 h2 h3 =>
    ⟨cell_of_row _ _ 0 _ _ (0, 0) h1, cell_of_row _ _ 1 _ _ (0, 0) h1, cell_of_row _ _ 2 _ _ (0, 0) h1, cell_of_row _ _ 0 _ _ (0, 0) h2, cell_of_row _ _ 1 _ _ (0, 0) h2, cell_of_row _ _ 2 _ _ (0, 0) h2, frozen_of_row _ _ _ _ _ h2, frozen_of_row _ _ _ _ _ h2, frozen_of_row _ _ _ _ _ h2, h3⟩
  have hin : Hid (∀ W', Below W.heap.size W W' → W'.cell? ⟨w2.heap.size, 0, none⟩ = some (.int .i64 0) ∧ W'.cell? ⟨w2.heap.size, 1, none⟩ = some (.int .u64 0) ∧ W'.cell? ⟨w2.heap.size, 2, none⟩ = some (.bool false) ∧ W'.cell? ⟨w.heap.size + 1, 0, none⟩ = some (.int .i64 0) ∧ W'.cell? ⟨w.heap.size + 1, 1, none⟩ = some (.int .u64 0) ∧ W'.cell? ⟨w.heap.size + 1, 2, none⟩ = some (.bool false) ∧ W'.frozen? ⟨w.heap.size + 1, 0, none⟩ = false ∧ W'.frozen? ⟨w.heap.size + 1, 1, none⟩ = false ∧ W'.frozen? ⟨w.heap.size + 1, 2, none⟩ = false ∧ W'.cell? ⟨w.heap.size, 1, none⟩ = some (.int .u64 (k : Int))) := fun W' hB =>
    hin0 W' ((hB.block w2.heap.size (by omega)).trans hW1) ((hB.block (w.heap.size + 1) (by omega)).trans hW0) ((hB.cell (p := ⟨w.heap.size, 1, none⟩) (by simp; omega)).trans c1)
  have hin3 : Hid (∀ W0, Below W.heap.size W W0 → ∀ W', W' = (((W0.setCell ⟨w.heap.size + 1, 0, none⟩ (.int .i64 0)).setCell ⟨w.heap.size + 1, 1, none⟩ (.int .u64 0)).setCell ⟨w.heap.size + 1, 2, none⟩ (.bool false)) → W'.cell? ⟨w2.heap.size, 0, none⟩ = some (.int .i64 0) ∧ W'.cell? ⟨w2.heap.size, 1, none⟩ = some (.int .u64 0) ∧ W'.cell? ⟨w2.heap.size, 2, none⟩ = some (.bool false) ∧ W'.cell? ⟨w.heap.size + 1, 0, none⟩ = some (.int .i64 0) ∧ W'.cell? ⟨w.heap.size + 1, 1, none⟩ = some (.int .u64 0) ∧ W'.cell? ⟨w.heap.size + 1, 2, none⟩ = some (.bool false) ∧ W'.frozen? ⟨w.heap.size + 1, 0, none⟩ = false ∧ W'.frozen? ⟨w.heap.size + 1, 1, none⟩ = false ∧ W'.frozen? ⟨w.heap.size + 1, 2, none⟩ = false ∧ W'.cell? ⟨w.heap.size, 1, none⟩ = some (.int .u64 (k : Int))) := fun W0 hB W' hE => by
    subst hE
    refine hin0 _ ?_ (K.set_all ((hB.block (w.heap.size + 1) (by omega)).trans hW0)) ?_
    · exact (Go.heap_setCell_other _ _ _ _ (by simp; omega)).trans ((Go.heap_setCell_other _ _ _ _ (by simp; omega)).trans ((Go.heap_setCell_other _ _ _ _ (by simp; omega)).trans ((hB.block w2.heap.size (by omega)).trans hW1)))
    · have e : ∀ (V : World) (p : Addr) (u : Value), p.block = w.heap.size + 1 → (V.setCell p u).heap[w.heap.size]? = V.heap[w.heap.size]? := fun V p u hp => Go.heap_setCell_other _ _ _ _ (by omega)
      have e2 : ∀ (V V' : World), V.heap[w.heap.size]? = V'.heap[w.heap.size]? → V.cell? ⟨w.heap.size, 1, none⟩ = V'.cell? ⟨w.heap.size, 1, none⟩ := fun V V' h => by simp [World.cell?, h]
      exact (e2 _ _ ((e _ _ _ rfl).trans ((e _ _ _ rfl).trans (e _ _ _ rfl)))).trans ((hB.cell (p := ⟨w.heap.size, 1, none⟩) (by simp; omega)).trans c1)
  clear hin0
  have B0 := Lib.hid (Below.refl W.heap.size W)
  have B0d : Hid (Below W.heap.size W W.drew) := below_drewN (Below.refl W.heap.size W) 1
  have HWd : Hid (KX W.drew v xs) := K.kx_drewN hWK 1
  go_region_held3 (fun W' => W'.cell? ⟨w2.heap.size, 0, none⟩ = some (.int .i64 0) ∧ W'.cell? ⟨w2.heap.size, 1, none⟩ = some (.int .u64 0) ∧ W'.cell? ⟨w2.heap.size, 2, none⟩ = some (.bool false) ∧ W'.cell? ⟨w.heap.size + 1, 0, none⟩ = some (.int .i64 0) ∧ W'.cell? ⟨w.heap.size + 1, 1, none⟩ = some (.int .u64 0) ∧ W'.cell? ⟨w.heap.size + 1, 2, none⟩ = some (.bool false) ∧ W'.frozen? ⟨w.heap.size + 1, 0, none⟩ = false ∧ W'.frozen? ⟨w.heap.size + 1, 1, none⟩ = false ∧ W'.frozen? ⟨w.heap.size + 1, 2, none⟩ = false ∧ W'.cell? ⟨w.heap.size, 1, none⟩ = some (.int .u64 (k : Int))) (first | exact hin3.out _ HB5.out _ rfl | exact hin.out _ HB5.out | exact hin.out _ B0d.out | exact hin.out _ B0.out | go_keep) (first
    | (go_at_call 24; (with_reducible refine (hadd.out _ HWd.out).mono ?_); rintro e w5 ⟨v5, rfl, hk5, hb5, hv5⟩; have HB5 := Lib.hid (Below.trans B0d.out hb5); have HK5 := Lib.hid hk5; have HV5 := Lib.hid hv5; clear hk5 hb5 hv5))
  all_goals
    go_wp2
    have hne : v5.ownBlock ≠ some (w.heap.size + 1) := by
      intro e
      rcases HV5.out with rfl | h5
      · have := hvl.out _ e; omega
      · have := h5 _ e; simp at this; omega
    obtain ⟨hr, hx, hb⟩ := k_end (a' := .int .i64 0) (b' := .int .u64 0) (c' := .bool false) ((HB5.out.block (w.heap.size + 1) (by omega)).trans hW0) (hWL.trans (HB5.out.mono (by omega))) HK5.out hne 0
    refine bodyPost_ret (k_res rfl _ _ (w.heap.size + 1) _ _ _ _ _ rfl hr) rfl ?_
    exact ⟨v5, rfl, hx, hb, HV5.out.elim .inl (fun h => .inr fun g e => by have := h g e; simp at this; omega)⟩
end Go.Proofs.YtndielncleohlaaDoor
