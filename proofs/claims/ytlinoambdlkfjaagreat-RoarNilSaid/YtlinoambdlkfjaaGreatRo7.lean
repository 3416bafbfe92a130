
/- What a part uses; a block of one part; the first part is put in; the texts walked. -/
import Derived.Test.YtlinoambdlkfjaaGreatRo6
import Derived.Deep.AppendLies
import Derived.Deep.RegionLaw
namespace Go.Proofs.YtlinoambdlkfjaaGreat
open Go.RowKit
theorem use_zero (w : World) (X : Nat) (q : Value) (hx : w.heap[X]? = some (pto 0 q)) : Calls Tryz.prog 47 #[.pointer (some ⟨X, 0, none⟩)] w fun e w' => e = .returned (.int .i64 0) ∧ w = w' := by
  have c1 : w.cell? ⟨X, 1, none⟩ = some (.int .i64 0) := cell_of_row w X 1 _ _ (0, 0) hx
  clear hx
  go_enter Tryz.func47, Tryz.ntmps47
  go_wp2
  go_ret
  exact ⟨rfl, rfl⟩
theorem use_some (w : World) (X Q : Nat) (xs : List Int) (hx : w.heap[X]? = some (pto (xs.length : Nat) (.pointer (some ⟨Q, 0, none⟩)))) (b : Ba w Q xs) (h0 : 0 < xs.length) (few : xs.length ≤ 100) : Calls Tryz.prog 47 #[.pointer (some ⟨X, 0, none⟩)] w fun e w' => e = .returned (.int .i64 ((xs.length : Nat) + 1)) ∧ Below w.heap.size w w' := by
  have c1 : w.cell? ⟨X, 1, none⟩ = some (.int .i64 (xs.length : Nat)) := cell_of_row w X 1 _ _ (0, 0) hx
  have c2 : w.cell? ⟨X, 2, none⟩ = some (.pointer (some ⟨Q, 0, none⟩)) := cell_of_row w X 2 _ _ (0, 0) hx
  have HC := Lib.hid (ba_Cost w Q xs b)
  generalize xs.length = n at *
  have g : ((n : Int) == 0) = false := by rw [beq_eq_false_iff_ne]; omega
  have e1 : IntKind.i64.wrap (1 + (n : Int)) = (n : Int) + 1 := by rw [IntWalk.i64_in _ (by omega)]; omega
  clear hx b
  go_enter Tryz.func47, Tryz.ntmps47
  go_wp2_with (go_at_call 64; (with_reducible refine HC.out.mono ?_); rintro e w1 ⟨rfl, hb⟩; replace hb := Lib.hid hb)
  go_ret
  exact ⟨rfl, hb.out⟩
theorem more_zero (w : World) (X : Nat) (q : Value) (hx : w.heap[X]? = some (pto 0 q)) : Calls Tryz.prog 34 #[.pointer (some ⟨X, 0, none⟩), .int .i64 1] w fun e w' => e = .returned (.int .i64 2) ∧ w = w' := by
  have c1 : w.cell? ⟨X, 1, none⟩ = some (.int .i64 0) := cell_of_row w X 1 _ _ (0, 0) hx
  have HU := Lib.hid (use_zero w X q hx)
  have HP : Hid (Calls Tryz.prog 46 #[.int .i64 1] w fun e w' => e = .returned (.int .i64 2) ∧ w = w') := Lib.hid (pu_any w 1 (by decide) (by decide))
  clear hx
  go_enter Tryz.func34, Tryz.ntmps34
  go_wp2_with (first
    | (go_at_call 46; (with_reducible refine HP.out.mono ?_); rintro e w1 ⟨rfl, rfl⟩)
    | (go_at_call 47; (with_reducible refine HU.out.mono ?_); rintro e w1 ⟨rfl, rfl⟩))
  go_ret
  exact ⟨rfl, rfl⟩
theorem more_some (w : World) (X Q : Nat) (xs : List Int) (hx : w.heap[X]? = some (pto (xs.length : Nat) (.pointer (some ⟨Q, 0, none⟩)))) (b : Ba w Q xs) (h0 : 0 < xs.length) (few : xs.length ≤ 100) : Calls Tryz.prog 34 #[.pointer (some ⟨X, 0, none⟩), .int .i64 1] w fun e w' => e = .returned (.int .i64 1) ∧ Below w.heap.size w w' := by
  have c1 : w.cell? ⟨X, 1, none⟩ = some (.int .i64 (xs.length : Nat)) := cell_of_row w X 1 _ _ (0, 0) hx
  have HU := Lib.hid (use_some w X Q xs hx b h0 few)
  generalize xs.length = n at *
  have HP : Hid (Calls Tryz.prog 46 #[.int .i64 ((n : Int) + 1)] w fun e w' => e = .returned (.int .i64 ((n : Int) + 1 + 1)) ∧ w = w') := Lib.hid (pu_any w (n + 1) (by omega) (by omega))
  have e1 : IntKind.i64.wrap ((n : Int) + 1) = (n : Int) + 1 := IntWalk.i64_in _ (by omega)
  have e2 : IntKind.i64.wrap ((n : Int) + 1 + 1 - ((n : Int) + 1)) = 1 := by rw [IntWalk.i64_in _ (by omega)]; omega
  clear hx b
  go_enter Tryz.func34, Tryz.ntmps34
  go_wp2_with (first
    | (go_at_call 46; (with_reducible refine HP.out.mono ?_); rintro e w1 ⟨rfl, rfl⟩)
    | (go_at_call 47; (with_reducible refine HU.out.mono ?_); rintro e w1 ⟨rfl, hb⟩; replace hb := Lib.hid hb))
  go_ret
  exact ⟨by go_num, hb.out⟩
theorem end_any (w : World) (P : Nat) (cs : Array Value) (T : TypeId) (hr : w.heap[P]? = some (.cells cs T (0, 0))) (n c : Nat) (A : Option Addr) (hc : cs[1]? = some (.slice A n c)) : Calls Tryz.prog 31 #[.pointer (some ⟨P, 1, none⟩)] w fun e w' => e = .returned (plv (n : Int) 0) ∧ Below w.heap.size w w' := by
  have hb := (Below.refl _ w).alloc (Nat.le_refl _) (plo 0 0)
  have c1 : (w.alloc (plo 0 0)).cell? ⟨P, 1, none⟩ = some (.slice A n c) := (cell_of_row _ P 1 _ _ (0, 0) (al_keep hr _)).trans hc
  clear hr hc
  go_enter Tryz.func31, Tryz.ntmps31
  go_wp2
  exact bodyPost_ret (place_res1 rfl _ _ w.heap.size _ _ rfl (alloc_top _ _)) rfl ⟨rfl, bel_al (Below.refl _ w) (Nat.le_refl _) _⟩
theorem join_less (w : World) (P : Value) : Calls Tryz.prog 66 #[P, .int .i64 (-1)] w fun e w' => e = .returned (.tuple #[]) ∧ w = w' := by
  go_enter Tryz.func66, Tryz.ntmps66
  go_wp2
  refine bodyPost_ret (results_none rfl _ _ _) rfl ?_
  exact ⟨rfl, rfl⟩
theorem block_res1 {fn : Func} {u : Tmp} (h : fn.results = #[.cell u 80]) (tmps : Array Value) (w : World) (g : Nat) (a b : Value) (hu : tmps.getD u undef = .pointer (some ⟨g, 0, none⟩))
    (hc : w.heap[g]? = some (.cells #[a, b] 80 (0, 0))) : (results fn tmps).run Tryz.prog w = .ok (.agg #[a, b]) w := by
  have hp' : tmps[u]?.getD undef = .pointer (some ⟨g, 0, none⟩) := by simpa using hu
  have hr := run_loadVar_row (P := Tryz.prog) w g 80 80 _ (0, 0) _ hc Tryz.underlying80 (by kernel_rfl) (by kernel_rfl)
  simp [results, h, hp', asAddr, hr]
abbrev blo (a : Value) (n : Int) : Obj := .cells #[a, .int .i64 n] 80
set_option maxHeartbeats 4000000 in
theorem block_of (w : World) (L X : Nat) (n : Nat) (q : Value) (hl : w.heap[L]? = some (.cells #[.pointer (some ⟨X, 0, none⟩)] 46 (0, 0))) (hx : w.heap[X]? = some (pto n q)) (hn : n ≤ 100) :
    Calls Tryz.prog 65 #[.slice (some ⟨L, 0, none⟩) 1 1] w fun e w' => e = .returned (.agg #[.slice (some ⟨L, 0, none⟩) 1 1, .int .i64 n]) ∧ Below w.heap.size w w' := by
  have hb2 := bel_al (bel_al (Below.refl _ w) (Nat.le_refl _) (blo (.slice none 0 0) 0)) (Nat.le_refl _) (blo (.slice (some ⟨L, 0, none⟩) 1 1) 0)
  obtain ⟨W2, hW2⟩ : ∃ W2, W2 = (w.alloc (blo (.slice none 0 0) 0)).alloc (blo (.slice (some ⟨L, 0, none⟩) 1 1) 0) := ⟨_, rfl⟩
  have r0 : W2.heap[w.heap.size]? = some (blo (.slice none 0 0) 0) := by rw [hW2]; exact al_keep (alloc_top w _) _
  have r1 : W2.heap[w.heap.size + 1]? = some (blo (.slice (some ⟨L, 0, none⟩) 1 1) 0) := by
    rw [hW2]
    have := alloc_top (w.alloc (blo (.slice none 0 0) 0)) (blo (.slice (some ⟨L, 0, none⟩) 1 1) 0)
    simpa only [World.size_alloc] using this
  have rl : W2.heap[L]? = some (.cells #[.pointer (some ⟨X, 0, none⟩)] 46 (0, 0)) := by rw [hW2]; exact al_keep (al_keep hl _) _
  have rx : W2.heap[X]? = some (pto n q) := by rw [hW2]; exact al_keep (al_keep hx _) _
  rw [← hW2] at hb2
  have l0 : W2.cell? ⟨L, 0, none⟩ = some (.pointer (some ⟨X, 0, none⟩)) := cell_of_row _ _ 0 _ _ (0, 0) rl
  have x1 : W2.cell? ⟨X, 1, none⟩ = some (.int .i64 n) := cell_of_row _ _ 1 _ _ (0, 0) rx
  have s1 : W2.cell? ⟨w.heap.size + 1, 1, none⟩ = some (.int .i64 0) := cell_of_row _ _ 1 _ _ (0, 0) r1
  have f1 := frozen_of_row W2 (w.heap.size + 1) 1 _ _ r1
  have e1 : IntKind.i64.wrap (0 + (n : Int)) = n := by rw [IntWalk.i64_in _ (by omega)]; omega
  have e2 : IntKind.i64.wrap (n : Int) = n := IntWalk.i64_in _ (by omega)
  have HR0 := Lib.hid r0
  have HR1 := Lib.hid r1
  have HB2 := Lib.hid hb2
  have HW2 := Lib.hid hW2
  clear hl hx r0 r1 rl rx hb2
  go_enter Tryz.func65, Tryz.ntmps65
  clear hW2
  go_wp2_with (fail)
  rw [show (w.alloc (Obj.cells #[.slice none 0 0, .int .i64 0] 80)).alloc (Obj.cells #[.slice (some ⟨L, 0, none⟩) 1 1, .int .i64 0] 80) = W2 from HW2.out.symm]
  go_loopw [5, 10] (fun _ vi wr => (vi = .int .i64 0 ∧ wr = W2) ∨ (vi = .int .i64 1 ∧ Hid (∃ k, wr = (W2.setCell ⟨w.heap.size + 1, 1, none⟩ (.int .i64 n)).drewN k))) (fun _ vi _ => (1 - intOf vi).toNat)
  case atStart => exact .inl ⟨rfl, rfl⟩
  case round =>
    rcases hrel with ⟨rfl, rfl⟩ | ⟨rfl, hk⟩
    · go_wp2
      go_region
      all_goals
        go_wp2
        go_roundw
        case rel => exact .inr ⟨rfl, Lib.hid ⟨_, rfl⟩⟩
        case measure => simp [intOf]
    · obtain ⟨k, hk⟩ := hk.out
      subst hk
      have hs : ButS W2 (W2.setCell ⟨w.heap.size + 1, 1, none⟩ (.int .i64 (n : Int))) (· = w.heap.size + 1) := but_set' W2 _ 1 _ (· = w.heap.size + 1) rfl
      have p1 : (W2.setCell ⟨w.heap.size + 1, 1, none⟩ (.int .i64 (n : Int))).heap[w.heap.size + 1]? = some (blo (.slice (some ⟨L, 0, none⟩) 1 1) n) := by
        have := row_set HR1.out 1 (.int .i64 (n : Int))
        simpa using this
      have p0 : (W2.setCell ⟨w.heap.size + 1, 1, none⟩ (.int .i64 (n : Int))).heap[w.heap.size]? = some (blo (.slice none 0 0) 0) := (hs.block _ (row_lt HR0.out) (fun e => by have e2 : w.heap.size = w.heap.size + 1 := e; omega)).trans HR0.out
      obtain ⟨W3, hW3⟩ : ∃ W3, W3 = W2.setCell ⟨w.heap.size + 1, 1, none⟩ (.int .i64 (n : Int)) := ⟨_, rfl⟩
      rw [← hW3] at p0 p1 hs ⊢
      have a0 : W3.cell? ⟨w.heap.size + 1, 0, none⟩ = some (.slice (some ⟨L, 0, none⟩) 1 1) := cell_of_row _ _ 0 _ _ (0, 0) p1
      have a1 : W3.cell? ⟨w.heap.size + 1, 1, none⟩ = some (.int .i64 n) := cell_of_row _ _ 1 _ _ (0, 0) p1
      have b0 : W3.cell? ⟨w.heap.size, 0, none⟩ = some (.slice none 0 0) := cell_of_row _ _ 0 _ _ (0, 0) p0
      have b1 : W3.cell? ⟨w.heap.size, 1, none⟩ = some (.int .i64 0) := cell_of_row _ _ 1 _ _ (0, 0) p0
      have g0 := frozen_of_row _ _ 0 _ _ p0
      have g1 := frozen_of_row _ _ 1 _ _ p0
      have P0 := Lib.hid p0
      have HS := Lib.hid hs
      clear p0 p1 hs hW3 s1 f1 l0 x1
      go_wp2
      have h3 : Below w.heap.size w W3 := ((ButS.of_below (S := (· = w.heap.size + 1)) HB2.out (Nat.le_refl _)).trans HS.out).below (Nat.le_refl _) (fun j e => by have e2 : j = w.heap.size + 1 := e; omega)
      exact bodyPost_ret (block_res1 rfl _ _ w.heap.size _ _ rfl (row_two (w := W3.drewN k) P0.out _ _)) rfl ⟨rfl, below_two (w' := W3.drewN k) (below_dr h3 k) (Nat.le_refl _) _ _⟩
end Go.Proofs.YtlinoambdlkfjaaGreat
