
/- put at the root: into none, beside one, and where the key is; the texts walked. -/
import Derived.Test.YtlmpkpidfkbckaaDoorVe3
namespace Go.Proofs.YtlmpkpidfkbckaaDoor
set_option maxRecDepth 40000
open Go.RowKit
section
variable {w w' : World} {P N G T cn cf tk b : Nat} {An Af : Option Addr} {ns : List (Nd × Bool)} {keys o0 : Int}
theorem VS.low (h : VS w P N G T An cn Af cf ns tk keys o0 b) (hb : Below w.heap.size w w') : Below b w w' := hb.mono h.lo.2.2.2
set_option maxHeartbeats 8000000 in
theorem put_new (k : Nat) (h : VS w P N G T An cn Af cf [] tk keys 0 b) : Calls Tryd.prog 25 #[.pointer (some ⟨P, 0, none⟩), .int .i64 0, .int .i64 0, .int .u64 (k : Int), .int .i64 0] w fun e w' => e = .returned (.tuple #[.int .i64 0, .int .i64 0]) ∧ ∃ An' cn' Af' cf', VS w' P N G T An' cn' Af' cf' [(nd0 k k, true)] tk keys 1 b ∧ Below b w w' := by
  have HAT := Lib.hid (at_no h)
  have H := Lib.hid h
  have w1e : IntKind.i64.wrap (0 + 1) = 1 := by decide
  clear h
  go_enter Tryd.func25, Tryd.ntmps25
  go_wp2_with (first
    | (go_at_call 32; (with_reducible refine HAT.out.mono ?_); rintro e w1 ⟨rfl, h1, b1⟩
       have hb2 := (Below.refl _ w1).alloc (Nat.le_refl _) zso
       have h2 := h1.below hb2
       have c1 : (w1.alloc zso).cell? ⟨P, 1, none⟩ = some (.pointer (some ⟨N, 0, none⟩)) := h2.c 1
       have HRO : Hid (Calls Tryd.prog 39 #[.pointer (some ⟨N, 0, none⟩), .int .i64 1] (w1.alloc zso) fun e w' => e = .returned (.bool true) ∧ ∃ n, w' = (w1.alloc zso).drewN n) := Lib.hid (q_room _ N G 4000 cn cf An Af [] [] h2.q 1)
       have HMK := Lib.hid (fun m => make_first k (h2.below (below_dr (Below.refl _ _) m)))
       have H2 := Lib.hid h2
       have B2 := Lib.hid (b1.trans (h1.low hb2))
       clear h1 b1 hb2 h2)
    | (go_at_call 39; (with_reducible refine HRO.out.mono ?_); rintro e w2 ⟨rfl, m, rfl⟩)
    | (go_at_call 42; (refine (HMK.out _).mono ?_); rintro e w3 ⟨rfl, An', cn', Af', cf', h3, b3⟩; have H3 := Lib.hid h3; have B3 := Lib.hid (below_ud b3); clear h3 b3))
  go_ret2
  exact ⟨rfl, An', cn', Af', cf', H3.out, B2.out.trans B3.out⟩
set_option maxHeartbeats 8000000 in
theorem put_there (a c k : Nat) (hk : k = a ∨ k = c) (h : VS w P N G T An cn Af cf [(nd0 a c, true)] tk keys o0 b) (htk : tk < 1000) : Calls Tryd.prog 25 #[.pointer (some ⟨P, 0, none⟩), .int .i64 0, .int .i64 0, .int .u64 (k : Int), .int .i64 0] w fun e w' => e = .returned (.tuple #[.int .i64 0, .int .i64 4]) ∧ VS w' P N G T An cn Af cf [(nd0 a c, true)] (tk + 1) keys o0 b ∧ Below b w w' := by
  have HAT := Lib.hid (at_yes a c h htk)
  have hh : ((((k : Int) == (a : Int))) || ((k : Int) == (c : Int))) = true := by
    rw [Bool.or_eq_true, beq_iff_eq, beq_iff_eq]; omega
  have HHA : ∀ W, Hid (Calls Tryd.prog 36 #[nv0 a c, .int .u64 (k : Int)] W fun e w' => e = .returned (.bool true) ∧ Below W.heap.size W w') := fun W => Lib.hid (by have := has_any W a c k _ _ rfl rfl; rw [hh] at this; exact this)
  have H := Lib.hid h
  clear h hh hk
  go_enter Tryd.func25, Tryd.ntmps25
  go_wp2_with (first
    | (go_at_call 32; (with_reducible refine HAT.out.mono ?_); rintro e w1 ⟨rfl, h1, b1⟩
       have hb2 := (Below.refl _ w1).alloc (Nat.le_refl _) (spo a c)
       have H2 := Lib.hid (h1.below hb2)
       have B2 := Lib.hid (b1.trans (h1.low hb2))
       clear h1 b1 hb2)
    | (go_at_call 36; (with_reducible refine (HHA _).out.mono ?_); rintro e w2 ⟨rfl, hb3⟩; have H3 := Lib.hid (H2.out.below hb3); have B3 := Lib.hid (B2.out.trans (H2.out.low hb3)); clear hb3))
  go_ret2
  exact ⟨rfl, H3.out, B3.out⟩
set_option maxHeartbeats 8000000 in
theorem put_second (a k : Nat) (hk : a < k) (h : VS w P N G T An cn Af cf [(nd0 a a, true)] tk keys o0 b) (htk : tk < 1000) : Calls Tryd.prog 25 #[.pointer (some ⟨P, 0, none⟩), .int .i64 0, .int .i64 0, .int .u64 (k : Int), .int .i64 0] w fun e w' => e = .returned (.tuple #[.int .i64 0, .int .i64 0]) ∧ ∃ An' cn' Af' cf', VS w' P N G T An' cn' Af' cf' [(nd0 a k, true)] (tk + 1) keys o0 b ∧ Below b w w' := by
  have HAT := Lib.hid (at_yes a a h htk)
  have hh : ((((k : Int) == (a : Int))) || ((k : Int) == (a : Int))) = false := by
    rw [Bool.or_eq_false_iff, beq_eq_false_iff_ne, ne_eq]; omega
  have HHA : ∀ W, Hid (Calls Tryd.prog 36 #[nv0 a a, .int .u64 (k : Int)] W fun e w' => e = .returned (.bool false) ∧ Below W.heap.size W w') := fun W => Lib.hid (by have := has_any W a a k _ _ rfl rfl; rw [hh] at this; exact this)
  have HTA := fun W => Lib.hid (takes_any W a a true (by simp))
  have HWI := fun W => Lib.hid (with_up W a k hk)
  have H := Lib.hid h
  clear h hh hk
  go_enter Tryd.func25, Tryd.ntmps25
  go_wp2_with (first
    | (go_at_call 32; (with_reducible refine HAT.out.mono ?_); rintro e w1 ⟨rfl, h1, b1⟩
       have hb2 := (Below.refl _ w1).alloc (Nat.le_refl _) (spo a a)
       have H2 := Lib.hid (h1.below hb2)
       have B2 := Lib.hid (b1.trans (h1.low hb2))
       have Z2 := Lib.hid (K.alloc_top w1 (spo a a))
       clear h1 b1 hb2)
    | (go_at_call 36; (with_reducible refine (HHA _).out.mono ?_); rintro e w2 ⟨rfl, hb3⟩
       have H3 := Lib.hid (H2.out.below hb3)
       have B3 := Lib.hid (B2.out.trans (H2.out.low hb3))
       have z3 := (hb3.block _ (row_lt Z2.out)).trans Z2.out
       have k0 := cell_of_row _ _ 0 _ _ (0, 0) z3
       have k1 := cell_of_row _ _ 1 _ _ (0, 0) z3
       have k2 := cell_of_row _ _ 2 _ _ (0, 0) z3
       have k3 := cell_of_row _ _ 3 _ _ (0, 0) z3
       have k4 := cell_of_row _ _ 4 _ _ (0, 0) z3
       simp at k0 k1 k2 k3 k4
       have Z3 := Lib.hid z3
       clear hb3 z3)
    | (go_at_call 37; (with_reducible refine (HTA _).out.mono ?_); rintro e w3 ⟨rfl, hb4⟩
       have h4 := H3.out.below hb4
       have H4 := Lib.hid h4
       have B4 := Lib.hid (B3.out.trans (H3.out.low hb4))
       have c1 : w3.cell? ⟨P, 1, none⟩ = some (.pointer (some ⟨N, 0, none⟩)) := h4.c 1
       have HRO : Hid (Calls Tryd.prog 39 #[.pointer (some ⟨N, 0, none⟩), .int .i64 0] w3 fun e w' => e = .returned (.bool true) ∧ ∃ n, w' = w3.drewN n) := Lib.hid (q_room _ N G 4000 cn cf An Af [(nd0 a a, true)] [] h4.q 0)
       have Z4 := Lib.hid ((hb4.block _ (row_lt Z3.out)).trans Z3.out)
       clear hb4 h4)
    | (go_at_call 39; (with_reducible refine HRO.out.mono ?_); rintro e w4 ⟨rfl, m, rfl⟩))
  have hSF : Hid (∀ W, VS W P N G T An cn Af cf [(nd0 a a, true)] (tk + 1) keys o0 b → W.heap[w1.heap.size]? = some (spo a a) → W.cell? ⟨P, 1, none⟩ = some (.pointer (some ⟨N, 0, none⟩)) ∧ W.cell? ⟨w1.heap.size, 0, none⟩ = some (.int .i64 0) ∧ W.cell? ⟨w1.heap.size, 1, none⟩ = some (.int .u64 0) ∧ W.cell? ⟨w1.heap.size, 2, none⟩ = some (.int .u64 (a : Int)) ∧ W.cell? ⟨w1.heap.size, 3, none⟩ = some (.int .u64 (a : Int)) ∧ W.cell? ⟨w1.heap.size, 4, none⟩ = some (.int .i64 (-1))) := Lib.hid (fun W hW hz => ⟨hW.c 1, cell_of_row W _ 0 _ _ (0, 0) hz, cell_of_row W _ 1 _ _ (0, 0) hz, cell_of_row W _ 2 _ _ (0, 0) hz, cell_of_row W _ 3 _ _ (0, 0) hz, cell_of_row W _ 4 _ _ (0, 0) hz⟩)
  have hS1 : Hid (w3.cell? ⟨P, 1, none⟩ = some (.pointer (some ⟨N, 0, none⟩)) ∧ w3.cell? ⟨w1.heap.size, 0, none⟩ = some (.int .i64 0) ∧ w3.cell? ⟨w1.heap.size, 1, none⟩ = some (.int .u64 0) ∧ w3.cell? ⟨w1.heap.size, 2, none⟩ = some (.int .u64 (a : Int)) ∧ w3.cell? ⟨w1.heap.size, 3, none⟩ = some (.int .u64 (a : Int)) ∧ w3.cell? ⟨w1.heap.size, 4, none⟩ = some (.int .i64 (-1))) := Lib.hid (hSF.out w3 H4.out Z4.out)
  clear k0 k1 k2 k3 k4 c1
  go_region_held3 (fun Y => Y.cell? ⟨P, 1, none⟩ = some (.pointer (some ⟨N, 0, none⟩)) ∧ Y.cell? ⟨w1.heap.size, 0, none⟩ = some (.int .i64 0) ∧ Y.cell? ⟨w1.heap.size, 1, none⟩ = some (.int .u64 0) ∧ Y.cell? ⟨w1.heap.size, 2, none⟩ = some (.int .u64 (a : Int)) ∧ Y.cell? ⟨w1.heap.size, 3, none⟩ = some (.int .u64 (a : Int)) ∧ Y.cell? ⟨w1.heap.size, 4, none⟩ = some (.int .i64 (-1))) (first | (exact hS1.out) | (with_reducible exact hS2.out) | (with_reducible exact hS3.out)) (first
    | (go_at_call 41; (with_reducible refine (HWI _).out.mono ?_); rintro e w5 ⟨rfl, hb5⟩
       have hb5' : Below w3.heap.size w3 w5 := by first | exact below_ud hb5 | exact below_ud (below_ud hb5)
       have h5 := H4.out.below hb5'
       have z5 := (hb5'.block _ (row_lt Z4.out)).trans Z4.out
       have hS2 : Hid (w5.cell? ⟨P, 1, none⟩ = some (.pointer (some ⟨N, 0, none⟩)) ∧ w5.cell? ⟨w1.heap.size, 0, none⟩ = some (.int .i64 0) ∧ w5.cell? ⟨w1.heap.size, 1, none⟩ = some (.int .u64 0) ∧ w5.cell? ⟨w1.heap.size, 2, none⟩ = some (.int .u64 (a : Int)) ∧ w5.cell? ⟨w1.heap.size, 3, none⟩ = some (.int .u64 (a : Int)) ∧ w5.cell? ⟨w1.heap.size, 4, none⟩ = some (.int .i64 (-1))) := Lib.hid (hSF.out w5 h5 z5)
       have HPU := Lib.hid (v_put a k h5)
       have B5 := Lib.hid (B4.out.trans (H4.out.low hb5'))
       have Z5 := Lib.hid z5
       clear hb5 hb5' h5 z5)
    | (go_at_call 40; (refine HPU.out.mono ?_); rintro e w6 ⟨rfl, ⟨An', cn', Af', cf', h6, b6⟩, hk6⟩
       have hz6 : w6.heap[w1.heap.size]? = some (spo a a) := hk6 _ _ Z5.out
       have hS3 : Hid (w6.cell? ⟨P, 1, none⟩ = some (.pointer (some ⟨N, 0, none⟩)) ∧ w6.cell? ⟨w1.heap.size, 0, none⟩ = some (.int .i64 0) ∧ w6.cell? ⟨w1.heap.size, 1, none⟩ = some (.int .u64 0) ∧ w6.cell? ⟨w1.heap.size, 2, none⟩ = some (.int .u64 (a : Int)) ∧ w6.cell? ⟨w1.heap.size, 3, none⟩ = some (.int .u64 (a : Int)) ∧ w6.cell? ⟨w1.heap.size, 4, none⟩ = some (.int .i64 (-1))) := Lib.hid ⟨h6.c 1, cell_of_row w6 _ 0 _ _ (0, 0) hz6, cell_of_row w6 _ 1 _ _ (0, 0) hz6, cell_of_row w6 _ 2 _ _ (0, 0) hz6, cell_of_row w6 _ 3 _ _ (0, 0) hz6, cell_of_row w6 _ 4 _ _ (0, 0) hz6⟩
       have H6 := Lib.hid h6
       have B6 := Lib.hid b6
       clear h6 b6 hz6 hk6))
  all_goals
    go_wp2
    go_ret2
    exact ⟨rfl, An', cn', Af', cf', H6.out, B5.out.trans B6.out⟩
end
end Go.Proofs.YtlmpkpidfkbckaaDoor
