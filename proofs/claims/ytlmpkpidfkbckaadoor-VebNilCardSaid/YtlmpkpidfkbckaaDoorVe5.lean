
/- Insert, Next, Prev and Len of a tree of a key or two; the texts walked. -/
import Derived.Test.YtlmpkpidfkbckaaDoorVe4
namespace Go.Proofs.YtlmpkpidfkbckaaDoor
set_option maxRecDepth 40000
open Go.RowKit
/-- A tree somewhere that has just these nodes. -/
def VX (w : World) (P : Nat) (ns : List (Nd × Bool)) (keys o0 : Int) (b : Nat) : Prop := ∃ N G T An cn Af cf tk, tk < 100 ∧ VS w P N G T An cn Af cf ns tk keys o0 b
section
variable {w : World} {P b : Nat} {keys o0 : Int}
set_option maxHeartbeats 4000000 in
theorem ins_any {ns ns' : List (Nd × Bool)} {o1 : Int} (k : Nat) (n : Nat) (hn : n < 1000) (h : VX w P ns (n : Int) o0 b)
    (hput : ∀ W N G T An cn Af cf, VS W P N G T An cn Af cf ns 0 (n : Int) o0 b → Calls Tryd.prog 25 #[.pointer (some ⟨P, 0, none⟩), .int .i64 0, .int .i64 0, .int .u64 (k : Int), .int .i64 0] W fun e w' => e = .returned (.tuple #[.int .i64 0, .int .i64 0]) ∧ ∃ An' cn' Af' cf' tk', tk' < 100 ∧ VS w' P N G T An' cn' Af' cf' ns' tk' (n : Int) o1 b ∧ Below b W w') :
    Calls Tryd.prog 11 #[.pointer (some ⟨P, 0, none⟩), .int .u64 (k : Int)] w fun e w' => e = .returned (.int .i64 0) ∧ VX w' P ns' ((n : Int) + 1) o1 b ∧ Below b w w' := by
  obtain ⟨N, G, T, An, cn, Af, cf, tk, htk, hv⟩ := h
  have c0 : w.cell? ⟨P, 0, none⟩ = some (.pointer (some ⟨G, 0, none⟩)) := hv.c 0
  have HST := Lib.hid (v_start hv)
  have HPU := Lib.hid hput
  have e1 : IntKind.i64.wrap ((n : Int) + 1) = (n : Int) + 1 := IntWalk.i64_in _ (by omega)
  clear hput hv
  go_enter Tryd.func11, Tryd.ntmps11
  go_wp2_with (first
    | (go_at_call 24; (with_reducible refine HST.out.mono ?_); rintro e w1 ⟨rfl, h1, b1⟩
       have d3 : w1.cell? ⟨P, 3, none⟩ = some (.int .i64 0) := h1.c 3
       have HP1 := Lib.hid (HPU.out w1 N G T An cn Af cf h1)
       have B1 := Lib.hid b1
       clear h1 b1)
    | (go_at_call 25; (with_reducible refine HP1.out.mono ?_); rintro e w2 ⟨rfl, An', cn', Af', cf', tk', htk', h2, b2⟩
       have m3 : w2.cell? ⟨P, 3, none⟩ = some (.int .i64 0) := h2.c 3
       have m4 : w2.cell? ⟨P, 4, none⟩ = some (.int .i64 (n : Int)) := h2.c 4
       have f3 := frozen_of_row w2 P 3 _ _ h2.v
       have f4 := frozen_of_row w2 P 4 _ _ h2.v
       have H2 := Lib.hid h2
       have B2 := Lib.hid b2
       clear h2 b2))
  go_ret
  obtain ⟨h3, b3⟩ := H2.out.keyed ((n : Int) + 1)
  exact ⟨rfl, ⟨N, G, T, An', cn', Af', cf', tk', htk', h3⟩, (B1.out.trans B2.out).trans b3⟩
theorem ins_first (k : Nat) (h : VX w P [] 0 0 b) : Calls Tryd.prog 11 #[.pointer (some ⟨P, 0, none⟩), .int .u64 (k : Int)] w fun e w' => e = .returned (.int .i64 0) ∧ VX w' P [(nd0 k k, true)] 1 1 b ∧ Below b w w' :=
  ins_any k 0 (by decide) h (fun W N G T An cn Af cf hW => (put_new k hW).mono fun e w' ⟨he, An', cn', Af', cf', h1, h2⟩ => ⟨he, An', cn', Af', cf', 0, by decide, h1, h2⟩)
theorem ins_second (a k : Nat) (hk : a < k) (h : VX w P [(nd0 a a, true)] 1 1 b) : Calls Tryd.prog 11 #[.pointer (some ⟨P, 0, none⟩), .int .u64 (k : Int)] w fun e w' => e = .returned (.int .i64 0) ∧ VX w' P [(nd0 a k, true)] 2 1 b ∧ Below b w w' :=
  ins_any k 1 (by decide) h (fun W N G T An cn Af cf hW => (put_second a k hk hW (by decide)).mono fun e w' ⟨he, An', cn', Af', cf', h1, h2⟩ => ⟨he, An', cn', Af', cf', 1, by decide, h1, h2⟩)
set_option maxHeartbeats 4000000 in
theorem ins_there (a c k : Nat) (hk : k = a ∨ k = c) (h : VX w P [(nd0 a c, true)] keys o0 b) : Calls Tryd.prog 11 #[.pointer (some ⟨P, 0, none⟩), .int .u64 (k : Int)] w fun e w' => e = .returned (.int .i64 4) ∧ VX w' P [(nd0 a c, true)] keys o0 b ∧ Below b w w' := by
  obtain ⟨N, G, T, An, cn, Af, cf, tk, htk, hv⟩ := h
  have c0 : w.cell? ⟨P, 0, none⟩ = some (.pointer (some ⟨G, 0, none⟩)) := hv.c 0
  have HST := Lib.hid (v_start hv)
  clear hv
  go_enter Tryd.func11, Tryd.ntmps11
  go_wp2_with (first
    | (go_at_call 24; (with_reducible refine HST.out.mono ?_); rintro e w1 ⟨rfl, h1, b1⟩
       have d3 : w1.cell? ⟨P, 3, none⟩ = some (.int .i64 0) := h1.c 3
       have HP1 := Lib.hid (put_there a c k hk h1 (by decide))
       have B1 := Lib.hid b1
       clear h1 b1)
    | (go_at_call 25; (with_reducible refine HP1.out.mono ?_); rintro e w2 ⟨rfl, h2, b2⟩; have H2 := Lib.hid h2; have B2 := Lib.hid b2; clear h2 b2))
  go_ret
  exact ⟨rfl, ⟨N, G, T, An, cn, Af, cf, 0 + 1, by decide, H2.out⟩, B1.out.trans B2.out⟩
theorem len_any {ns : List (Nd × Bool)} (h : VX w P ns keys o0 b) : Calls Tryd.prog 14 #[.pointer (some ⟨P, 0, none⟩)] w fun e w' => e = .returned (.int .i64 keys) ∧ w = w' := by
  obtain ⟨N, G, T, An, cn, Af, cf, tk, htk, hv⟩ := h
  have c4 : w.cell? ⟨P, 4, none⟩ = some (.int .i64 keys) := hv.c 4
  clear hv
  go_enter Tryd.func14, Tryd.ntmps14
  go_wp2
  go_ret
  exact ⟨rfl, rfl⟩
set_option maxHeartbeats 8000000 in
theorem beside_up (w : World) (Q a c k : Nat) (h1 : a < k) (h2 : k < c) : Calls Tryd.prog 35 #[.pointer (some ⟨Q, 0, none⟩), spv a c, .int .u64 (k : Int), .bool true] w fun e w' => e = .returned (.int .u64 (c : Int)) ∧ Below w.heap.size w w' := by
  have HU := fun W => Lib.hid (end_up W a c)
  have HD := fun W => Lib.hid (end_down W a c)
  have HPA := fun W => Lib.hid (past_up W k a true (decide_eq_true h1))
  have g1 : (k == c) = false := by rw [beq_eq_false_iff_ne]; omega
  have g2 : ((k : Int) == (c : Int)) = false := by rw [beq_eq_false_iff_ne]; omega
  have hSF : Hid (∀ W : World, W.heap[w.heap.size]? = some (spo a c) → W.cell? ⟨w.heap.size, 0, none⟩ = some (.int .i64 0) ∧ W.cell? ⟨w.heap.size, 1, none⟩ = some (.int .u64 0) ∧ W.cell? ⟨w.heap.size, 2, none⟩ = some (.int .u64 (a : Int)) ∧ W.cell? ⟨w.heap.size, 3, none⟩ = some (.int .u64 (c : Int)) ∧ W.cell? ⟨w.heap.size, 4, none⟩ = some (.int .i64 (-1))) := Lib.hid (fun W z => ⟨cell_of_row W _ 0 _ _ (0, 0) z, cell_of_row W _ 1 _ _ (0, 0) z, cell_of_row W _ 2 _ _ (0, 0) z, cell_of_row W _ 3 _ _ (0, 0) z, cell_of_row W _ 4 _ _ (0, 0) z⟩)
  have hS1 : Hid ((w.alloc (spo a c)).cell? ⟨w.heap.size, 0, none⟩ = some (.int .i64 0) ∧ (w.alloc (spo a c)).cell? ⟨w.heap.size, 1, none⟩ = some (.int .u64 0) ∧ (w.alloc (spo a c)).cell? ⟨w.heap.size, 2, none⟩ = some (.int .u64 (a : Int)) ∧ (w.alloc (spo a c)).cell? ⟨w.heap.size, 3, none⟩ = some (.int .u64 (c : Int)) ∧ (w.alloc (spo a c)).cell? ⟨w.heap.size, 4, none⟩ = some (.int .i64 (-1))) := Lib.hid (hSF.out _ (K.alloc_top w (spo a c)))
  have Z := Lib.hid (K.alloc_top w (spo a c))
  have HB := Lib.hid ((Below.refl _ w).alloc (Nat.le_refl _) (spo a c))
  clear h1 h2
  go_enter Tryd.func35, Tryd.ntmps35
  go_wp2
  go_region_held3 (fun Y => Y.cell? ⟨w.heap.size, 0, none⟩ = some (.int .i64 0) ∧ Y.cell? ⟨w.heap.size, 1, none⟩ = some (.int .u64 0) ∧ Y.cell? ⟨w.heap.size, 2, none⟩ = some (.int .u64 (a : Int)) ∧ Y.cell? ⟨w.heap.size, 3, none⟩ = some (.int .u64 (c : Int)) ∧ Y.cell? ⟨w.heap.size, 4, none⟩ = some (.int .i64 (-1))) (first | (exact hS1.out) | (with_reducible exact hS2.out) | (with_reducible exact hS3.out)) (first
    | (go_at_call 34; (with_reducible refine HD1.out.mono ?_); rintro e w6 ⟨rfl, hb6⟩
       have z6 := (hb6.block _ (row_lt Z5.out)).trans Z5.out
       have hS3 : Hid (w6.cell? ⟨w.heap.size, 0, none⟩ = some (.int .i64 0) ∧ w6.cell? ⟨w.heap.size, 1, none⟩ = some (.int .u64 0) ∧ w6.cell? ⟨w.heap.size, 2, none⟩ = some (.int .u64 (a : Int)) ∧ w6.cell? ⟨w.heap.size, 3, none⟩ = some (.int .u64 (c : Int)) ∧ w6.cell? ⟨w.heap.size, 4, none⟩ = some (.int .i64 (-1))) := Lib.hid (hSF.out w6 z6)
       have B6 := Lib.hid (B5.out.trans (hb6.mono B5.out.size))
       clear hb6 z6)
    | (go_at_call 34; (with_reducible refine HU1.out.mono ?_); rintro e w6 ⟨rfl, hb6⟩
       have z6 := (hb6.block _ (row_lt Z5.out)).trans Z5.out
       have hS3 : Hid (w6.cell? ⟨w.heap.size, 0, none⟩ = some (.int .i64 0) ∧ w6.cell? ⟨w.heap.size, 1, none⟩ = some (.int .u64 0) ∧ w6.cell? ⟨w.heap.size, 2, none⟩ = some (.int .u64 (a : Int)) ∧ w6.cell? ⟨w.heap.size, 3, none⟩ = some (.int .u64 (c : Int)) ∧ w6.cell? ⟨w.heap.size, 4, none⟩ = some (.int .i64 (-1))) := Lib.hid (hSF.out w6 z6)
       have B6 := Lib.hid (B5.out.trans (hb6.mono B5.out.size))
       clear hb6 z6)
    | (go_at_call 34; (with_reducible refine (HU _).out.mono ?_); rintro e w5 ⟨rfl, hb5⟩
       have hb5 : Below (w.alloc (spo a c)).heap.size (w.alloc (spo a c)) w5 := by first | exact below_ud hb5 | exact hb5
       have z5 := (hb5.block _ (row_lt Z.out)).trans Z.out
       have hS2 : Hid (w5.cell? ⟨w.heap.size, 0, none⟩ = some (.int .i64 0) ∧ w5.cell? ⟨w.heap.size, 1, none⟩ = some (.int .u64 0) ∧ w5.cell? ⟨w.heap.size, 2, none⟩ = some (.int .u64 (a : Int)) ∧ w5.cell? ⟨w.heap.size, 3, none⟩ = some (.int .u64 (c : Int)) ∧ w5.cell? ⟨w.heap.size, 4, none⟩ = some (.int .i64 (-1))) := Lib.hid (hSF.out w5 z5)
       have HD1 := Lib.hid (HD w5).out
       have B5 := Lib.hid (HB.out.trans (hb5.mono HB.out.size))
       have Z5 := Lib.hid z5
       clear hb5 z5)
    | (go_at_call 34; (with_reducible refine (HD _).out.mono ?_); rintro e w5 ⟨rfl, hb5⟩
       have hb5 : Below (w.alloc (spo a c)).heap.size (w.alloc (spo a c)) w5 := by first | exact below_ud hb5 | exact hb5
       have z5 := (hb5.block _ (row_lt Z.out)).trans Z.out
       have hS2 : Hid (w5.cell? ⟨w.heap.size, 0, none⟩ = some (.int .i64 0) ∧ w5.cell? ⟨w.heap.size, 1, none⟩ = some (.int .u64 0) ∧ w5.cell? ⟨w.heap.size, 2, none⟩ = some (.int .u64 (a : Int)) ∧ w5.cell? ⟨w.heap.size, 3, none⟩ = some (.int .u64 (c : Int)) ∧ w5.cell? ⟨w.heap.size, 4, none⟩ = some (.int .i64 (-1))) := Lib.hid (hSF.out w5 z5)
       have HU1 := Lib.hid (HU w5).out
       have B5 := Lib.hid (HB.out.trans (hb5.mono HB.out.size))
       have Z5 := Lib.hid z5
       clear hb5 z5))
  all_goals
    obtain ⟨j0, j1, j2, j3, j4⟩ := hS3.out
    go_wp2_with (go_at_call 33; (with_reducible refine (HPA _).out.mono ?_); rintro e w7 ⟨rfl, rfl⟩)
    go_ret
    exact ⟨rfl, B6.out⟩
set_option maxHeartbeats 8000000 in
theorem beside_down (w : World) (Q a c k : Nat) (h1 : a < k) (h2 : k < c) : Calls Tryd.prog 35 #[.pointer (some ⟨Q, 0, none⟩), spv a c, .int .u64 (k : Int), .bool false] w fun e w' => e = .returned (.int .u64 (a : Int)) ∧ Below w.heap.size w w' := by
  have HU := fun W => Lib.hid (end_up W a c)
  have HD := fun W => Lib.hid (end_down W a c)
  have HPA := fun W => Lib.hid (past_down W k c true (decide_eq_true h2))
  have g1 : (k == a) = false := by rw [beq_eq_false_iff_ne]; omega
  have g2 : ((k : Int) == (a : Int)) = false := by rw [beq_eq_false_iff_ne]; omega
  have hSF : Hid (∀ W : World, W.heap[w.heap.size]? = some (spo a c) → W.cell? ⟨w.heap.size, 0, none⟩ = some (.int .i64 0) ∧ W.cell? ⟨w.heap.size, 1, none⟩ = some (.int .u64 0) ∧ W.cell? ⟨w.heap.size, 2, none⟩ = some (.int .u64 (a : Int)) ∧ W.cell? ⟨w.heap.size, 3, none⟩ = some (.int .u64 (c : Int)) ∧ W.cell? ⟨w.heap.size, 4, none⟩ = some (.int .i64 (-1))) := Lib.hid (fun W z => ⟨cell_of_row W _ 0 _ _ (0, 0) z, cell_of_row W _ 1 _ _ (0, 0) z, cell_of_row W _ 2 _ _ (0, 0) z, cell_of_row W _ 3 _ _ (0, 0) z, cell_of_row W _ 4 _ _ (0, 0) z⟩)
  have hS1 : Hid ((w.alloc (spo a c)).cell? ⟨w.heap.size, 0, none⟩ = some (.int .i64 0) ∧ (w.alloc (spo a c)).cell? ⟨w.heap.size, 1, none⟩ = some (.int .u64 0) ∧ (w.alloc (spo a c)).cell? ⟨w.heap.size, 2, none⟩ = some (.int .u64 (a : Int)) ∧ (w.alloc (spo a c)).cell? ⟨w.heap.size, 3, none⟩ = some (.int .u64 (c : Int)) ∧ (w.alloc (spo a c)).cell? ⟨w.heap.size, 4, none⟩ = some (.int .i64 (-1))) := Lib.hid (hSF.out _ (K.alloc_top w (spo a c)))
  have Z := Lib.hid (K.alloc_top w (spo a c))
  have HB := Lib.hid ((Below.refl _ w).alloc (Nat.le_refl _) (spo a c))
  clear h1 h2
  go_enter Tryd.func35, Tryd.ntmps35
  go_wp2
  go_region_held3 (fun Y => Y.cell? ⟨w.heap.size, 0, none⟩ = some (.int .i64 0) ∧ Y.cell? ⟨w.heap.size, 1, none⟩ = some (.int .u64 0) ∧ Y.cell? ⟨w.heap.size, 2, none⟩ = some (.int .u64 (a : Int)) ∧ Y.cell? ⟨w.heap.size, 3, none⟩ = some (.int .u64 (c : Int)) ∧ Y.cell? ⟨w.heap.size, 4, none⟩ = some (.int .i64 (-1))) (first | (exact hS1.out) | (with_reducible exact hS2.out) | (with_reducible exact hS3.out)) (first
    | (go_at_call 34; (with_reducible refine HD1.out.mono ?_); rintro e w6 ⟨rfl, hb6⟩
       have z6 := (hb6.block _ (row_lt Z5.out)).trans Z5.out
       have hS3 : Hid (w6.cell? ⟨w.heap.size, 0, none⟩ = some (.int .i64 0) ∧ w6.cell? ⟨w.heap.size, 1, none⟩ = some (.int .u64 0) ∧ w6.cell? ⟨w.heap.size, 2, none⟩ = some (.int .u64 (a : Int)) ∧ w6.cell? ⟨w.heap.size, 3, none⟩ = some (.int .u64 (c : Int)) ∧ w6.cell? ⟨w.heap.size, 4, none⟩ = some (.int .i64 (-1))) := Lib.hid (hSF.out w6 z6)
       have B6 := Lib.hid (B5.out.trans (hb6.mono B5.out.size))
       clear hb6 z6)
    | (go_at_call 34; (with_reducible refine HU1.out.mono ?_); rintro e w6 ⟨rfl, hb6⟩
       have z6 := (hb6.block _ (row_lt Z5.out)).trans Z5.out
       have hS3 : Hid (w6.cell? ⟨w.heap.size, 0, none⟩ = some (.int .i64 0) ∧ w6.cell? ⟨w.heap.size, 1, none⟩ = some (.int .u64 0) ∧ w6.cell? ⟨w.heap.size, 2, none⟩ = some (.int .u64 (a : Int)) ∧ w6.cell? ⟨w.heap.size, 3, none⟩ = some (.int .u64 (c : Int)) ∧ w6.cell? ⟨w.heap.size, 4, none⟩ = some (.int .i64 (-1))) := Lib.hid (hSF.out w6 z6)
       have B6 := Lib.hid (B5.out.trans (hb6.mono B5.out.size))
       clear hb6 z6)
    | (go_at_call 34; (with_reducible refine (HU _).out.mono ?_); rintro e w5 ⟨rfl, hb5⟩
       have hb5 : Below (w.alloc (spo a c)).heap.size (w.alloc (spo a c)) w5 := by first | exact below_ud hb5 | exact hb5
       have z5 := (hb5.block _ (row_lt Z.out)).trans Z.out
       have hS2 : Hid (w5.cell? ⟨w.heap.size, 0, none⟩ = some (.int .i64 0) ∧ w5.cell? ⟨w.heap.size, 1, none⟩ = some (.int .u64 0) ∧ w5.cell? ⟨w.heap.size, 2, none⟩ = some (.int .u64 (a : Int)) ∧ w5.cell? ⟨w.heap.size, 3, none⟩ = some (.int .u64 (c : Int)) ∧ w5.cell? ⟨w.heap.size, 4, none⟩ = some (.int .i64 (-1))) := Lib.hid (hSF.out w5 z5)
       have HD1 := Lib.hid (HD w5).out
       have B5 := Lib.hid (HB.out.trans (hb5.mono HB.out.size))
       have Z5 := Lib.hid z5
       clear hb5 z5)
    | (go_at_call 34; (with_reducible refine (HD _).out.mono ?_); rintro e w5 ⟨rfl, hb5⟩
       have hb5 : Below (w.alloc (spo a c)).heap.size (w.alloc (spo a c)) w5 := by first | exact below_ud hb5 | exact hb5
       have z5 := (hb5.block _ (row_lt Z.out)).trans Z.out
       have hS2 : Hid (w5.cell? ⟨w.heap.size, 0, none⟩ = some (.int .i64 0) ∧ w5.cell? ⟨w.heap.size, 1, none⟩ = some (.int .u64 0) ∧ w5.cell? ⟨w.heap.size, 2, none⟩ = some (.int .u64 (a : Int)) ∧ w5.cell? ⟨w.heap.size, 3, none⟩ = some (.int .u64 (c : Int)) ∧ w5.cell? ⟨w.heap.size, 4, none⟩ = some (.int .i64 (-1))) := Lib.hid (hSF.out w5 z5)
       have HU1 := Lib.hid (HU w5).out
       have B5 := Lib.hid (HB.out.trans (hb5.mono HB.out.size))
       have Z5 := Lib.hid z5
       clear hb5 z5))
  all_goals
    obtain ⟨j0, j1, j2, j3, j4⟩ := hS3.out
    go_wp2_with (go_at_call 33; (with_reducible refine (HPA _).out.mono ?_); rintro e w7 ⟨rfl, rfl⟩)
    go_ret
    exact ⟨rfl, B6.out⟩
end
end Go.Proofs.YtlmpkpidfkbckaaDoor
