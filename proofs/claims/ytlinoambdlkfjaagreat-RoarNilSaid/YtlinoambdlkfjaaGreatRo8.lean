
/- The first part is put in; the text walked. -/
import Derived.Test.YtlinoambdlkfjaaGreatRo7
namespace Go.Proofs.YtlinoambdlkfjaaGreat
open Go.RowKit
theorem info_parts3 {o : Option TypeInfo} {z : Option Value} {s b : Nat} (h : o.map (fun i => (i.zero, i.size, i.bytes)) = some (z, s, b)) : ∃ i, o = some i ∧ i.zero = z ∧ i.size = s ∧ i.bytes = b := by
  cases o with
  | none => simp at h
  | some i =>
    simp only [Option.map_some, Option.some.injEq, Prod.mk.injEq] at h
    exact ⟨i, rfl, h.1, h.2.1, h.2.2⟩
theorem block_info : (Tryz.prog.info? 80).map (fun i => (i.zero, i.size, i.bytes)) = some (some (.agg #[.slice none 0 0, .int .i64 0]), 2, 32) := by kernel_rfl
theorem own_blk {w : World} {g c : Nat} {a b : Value} (h : w.ownsRow 0 80 2 (.slice (some ⟨g, 0, none⟩) (0 + 1) c) (0 + 1) ([] ++ [a, b])) : ∃ cs, w.heap[g]? = some (.cells cs 80 (0, 0)) ∧ cs[0]? = some a ∧ cs[1]? = some b := by
  rcases h.2 with ⟨h, _⟩ | ⟨g', cap, cur, hv, _, hg, h1, _, hsz, ht⟩
  · cases h
  · simp only [Value.slice.injEq, Option.some.injEq, Addr.mk.injEq, true_and, and_true] at hv
    obtain ⟨rfl, rfl⟩ := hv
    refine ⟨cur, hg, ?_, ?_⟩
    · have e : (cur.toList.take ((0 + 1) * 2))[0]? = some a := by rw [ht]; rfl
      rw [List.getElem?_take] at e
      simpa using e
    · have e : (cur.toList.take ((0 + 1) * 2))[1]? = some b := by rw [ht]; rfl
      rw [List.getElem?_take] at e
      simpa using e
theorem blk_one {a : Option Addr} {l c : Nat} {n : Int} (u : Value) (h : u ∈ [Value.slice a l c, Value.int .i64 n]) : u.oneCell' = true := by
  simp at h
  rcases h with rfl | rfl <;> rfl
set_option maxHeartbeats 8000000 in
theorem ins_none (w : World) (P G X : Nat) (keys used : Int) (n : Nat) (q : Value) (hp : w.heap[P]? = some (ro G (.slice none 0 0) 0 keys used)) (hx : w.heap[X]? = some (pto n q)) (hn : n ≤ 100) :
    Calls Tryz.prog 48 #[.pointer (some ⟨P, 1, none⟩), plv 0 0, .pointer (some ⟨X, 0, none⟩)] w fun e w' => e = .returned (.tuple #[]) ∧ ∃ B L c, w'.heap[P]? = some (ro G (.slice (some ⟨B, 0, none⟩) 1 c) 1 keys used) ∧ (∃ cs, w'.heap[B]? = some (.cells cs 80 (0, 0)) ∧ cs[0]? = some (.slice (some ⟨L, 0, none⟩) 1 1) ∧ cs[1]? = some (.int .i64 n)) ∧ w'.heap[L]? = some (.cells #[.pointer (some ⟨X, 0, none⟩)] 46 (0, 0)) ∧ ButS w w' (· = P) ∧ w.heap.size ≤ B := by
  have y := al_keep hp (plo 0 0)
  have k2 : w.cell? ⟨P, 2, none⟩ = some (.int .i64 0) := cell_of_row _ _ 2 _ _ (0, 0) hp
  have f2 := frozen_of_row _ _ 2 _ _ hp
  have hne : P ≠ w.heap.size := Nat.ne_of_lt (row_lt hp)
  have hne2 := Ne.symm hne
  have k3 : (w.alloc (plo 0 0)).cell? ⟨P, 2, none⟩ = some (.int .i64 0) := cell_of_row _ _ 2 _ _ (0, 0) y
  have f3 := frozen_of_row _ _ 2 _ _ y
  have HP := Lib.hid hp
  have HX := Lib.hid hx
  clear hp hx y
  go_enter Tryz.func48, Tryz.ntmps48
  go_wp2
  obtain ⟨W1, hW1⟩ : ∃ W1, W1 = (w.alloc (plo 0 0)).setCell ⟨P, 2, none⟩ (.int .i64 1) := ⟨_, rfl⟩
  rw [show (w.alloc (Obj.cells #[.int .i64 0, .int .i64 0] 45)).setCell ⟨P, 2, none⟩ (.int .i64 1) = W1 from hW1.symm]
  have hs : ButS (w.alloc (plo 0 0)) W1 (· = P) := by rw [hW1]; exact but_set' _ P 2 _ (· = P) rfl
  have p1 : W1.heap[P]? = some (ro G (.slice none 0 0) 1 keys used) := by
    rw [hW1]
    have := row_set (al_keep HP.out (plo 0 0)) 2 (.int .i64 1)
    simpa using this
  have z1 : W1.heap[w.heap.size]? = some (plo 0 0) := (hs.block _ (by simp) (fun e => hne2 e)).trans (alloc_top w _)
  have x1 : W1.heap[X]? = some (pto n q) := (hs.block _ (row_lt (al_keep HX.out _)) (fun e => row_ne HX.out HP.out (by decide) e)).trans (al_keep HX.out _)
  have HBS := Lib.hid ((but_alloc' w (plo 0 0) (· = P)).trans hs)
  have HE : Hid (∀ m, Calls Tryz.prog 31 #[.pointer (some ⟨P, 1, none⟩)] (W1.drewN m) fun e w' => e = .returned (plv 0 0) ∧ Below W1.heap.size W1 w') := Lib.hid (fun m => (end_any (W1.drewN m) P _ _ p1 0 0 none rfl).mono (fun e w' h => ⟨h.1, below_ud h.2⟩))
  have q0 : W1.cell? ⟨w.heap.size, 0, none⟩ = some (.int .i64 0) := cell_of_row _ _ 0 _ _ (0, 0) z1
  have q1 : W1.cell? ⟨w.heap.size, 1, none⟩ = some (.int .i64 0) := cell_of_row _ _ 1 _ _ (0, 0) z1
  have hS1 : Hid (W1.drew.cell? ⟨w.heap.size, 0, none⟩ = some (.int .i64 0) ∧ W1.drew.cell? ⟨w.heap.size, 1, none⟩ = some (.int .i64 0)) := Lib.hid ⟨q0, q1⟩
  have P1 := Lib.hid p1
  have Z1 := Lib.hid z1
  have X1 := Lib.hid x1
  have hPz := Lib.hid hne2
  clear hW1 hs p1 z1 x1 q0 q1 k2 f2 k3 f3 hne hne2
  go_region_held3 (fun Y => Y.cell? ⟨w.heap.size, 0, none⟩ = some (.int .i64 0) ∧ Y.cell? ⟨w.heap.size, 1, none⟩ = some (.int .i64 0)) (first | (with_reducible exact hS1.out) | (with_reducible exact hS2.out) | go_keep) (first
    | (go_at_call 31; (refine (HE.out _).mono ?_); rintro e w2 ⟨rfl, hb⟩
       have z2 := (hb.block _ (row_lt Z1.out)).trans Z1.out
       have hS2 : Hid (w2.cell? ⟨w.heap.size, 0, none⟩ = some (.int .i64 0) ∧ w2.cell? ⟨w.heap.size, 1, none⟩ = some (.int .i64 0)) := Lib.hid ⟨cell_of_row _ _ 0 _ _ (0, 0) z2, cell_of_row _ _ 1 _ _ (0, 0) z2⟩
       have HB2 := Lib.hid hb
       clear z2 hb))
  have p2 := (HB2.out.block _ (row_lt P1.out)).trans P1.out
  have x2 := (HB2.out.block _ (row_lt X1.out)).trans X1.out
  have z2 := (HB2.out.block _ (row_lt Z1.out)).trans Z1.out
  have ba := (Below.refl _ w2).alloc (Nat.le_refl _) (.cells #[.pointer (some ⟨X, 0, none⟩)] 46)
  have pa := al_keep p2 (.cells #[.pointer (some ⟨X, 0, none⟩)] 46)
  have HBO := fun m => Lib.hid (block_of ((w2.alloc (.cells #[.pointer (some ⟨X, 0, none⟩)] 46)).drewN m) w2.heap.size X n q (alloc_top w2 _) (al_keep x2 _) hn)
  have k0 : w2.cell? ⟨P, 1, none⟩ = some (.slice none 0 0) := cell_of_row _ _ 1 _ _ (0, 0) p2
  have ka : (w2.alloc (.cells #[.pointer (some ⟨X, 0, none⟩)] 46)).cell? ⟨P, 1, none⟩ = some (.slice none 0 0) := cell_of_row _ _ 1 _ _ (0, 0) pa
  have z0 : w2.cell? ⟨w.heap.size, 0, none⟩ = some (.int .i64 0) := cell_of_row _ _ 0 _ _ (0, 0) z2
  obtain ⟨i0, hi, hz0, hz1, hz2⟩ := info_parts3 block_info
  have PA := Lib.hid pa
  have LA := Lib.hid (alloc_top w2 (.cells #[.pointer (some ⟨X, 0, none⟩)] 46))
  have ZA := Lib.hid (al_keep z2 (.cells #[.pointer (some ⟨X, 0, none⟩)] 46))
  have BA := Lib.hid ba
  have m1 : 0 + 1 ≤ maxLen := by decide
  have m2 : (0 + 1) * 32 ≤ 140737488355328 := by decide
  clear p2 x2 z2 ba pa
  go_wp2
  go_region_law (first
    | (go_simp; go_at_call 65; (refine (HBO _).out.mono ?_); rintro e w3 ⟨rfl, hb3⟩
       have p3 := ((below_ud hb3).block _ (row_lt PA.out)).trans PA.out
       have l3 := ((below_ud hb3).block _ (row_lt LA.out)).trans LA.out
       have z3 := ((below_ud hb3).block _ (row_lt ZA.out)).trans ZA.out
       have k3 : w3.cell? ⟨P, 1, none⟩ = some (.slice none 0 0) := cell_of_row _ _ 1 _ _ (0, 0) p3
       have k4 : (w3.alloc (blo (.slice (some ⟨w2.heap.size, 0, none⟩) 1 1) n)).cell? ⟨P, 1, none⟩ = some (.slice none 0 0) := cell_of_row _ _ 1 _ _ (0, 0) (al_keep p3 _)
       have HN := Lib.hid (alloc_top w3 (blo (.slice (some ⟨w2.heap.size, 0, none⟩) 1 1) n))
       have P3 := Lib.hid p3
       have L3 := Lib.hid l3
       have Z3 := Lib.hid z3
       have HB3 := Lib.hid (below_ud hb3)
       clear p3 l3 z3 hb3)
    | (refine step_append_lies _ rfl (.tmp 22) (.tmp 26) 39 rfl 0 80 i0 _ 2 32 Tryz.underlying39 hi hz0 hz1 hz2 rfl (by decide) (.slice none 0 0) 0 [] (by rfl) (World.ownsRow_nil _ _ _ _) ⟨w3.heap.size, 0, none⟩ 1 1 [.slice (some ⟨w2.heap.size, 0, none⟩) 1 1, .int .i64 n] (by rfl) (by rfl) (World.news_of_block HN.out) (fun u hu => blk_one u hu) Nat.one_pos m1 m2 (Nat.zero_le _) _ rfl ?_
       intro g5 c5 w5 hown hgrow hat hlt5
       have p5 : w5.heap[P]? = some (ro G (.slice none 0 0) 1 keys used) := (hgrow.block P (row_lt (al_keep P3.out _)) (by intro h; cases h)).trans (al_keep P3.out _)
       have l5 : w5.heap[w2.heap.size]? = some (.cells #[.pointer (some ⟨X, 0, none⟩)] 46 (0, 0)) := (hgrow.block _ (row_lt (al_keep L3.out _)) (by intro h; cases h)).trans (al_keep L3.out _)
       have z5 : w5.heap[w.heap.size]? = some (plo 0 0) := (hgrow.block _ (row_lt (al_keep Z3.out _)) (by intro h; cases h)).trans (al_keep Z3.out _)
       have k5 : w5.cell? ⟨P, 1, none⟩ = some (.slice none 0 0) := cell_of_row _ _ 1 _ _ (0, 0) p5
       have k6 : w5.cell? ⟨w.heap.size, 0, none⟩ = some (.int .i64 0) := cell_of_row _ _ 0 _ _ (0, 0) z5
       have f5 := frozen_of_row _ _ 1 _ _ p5
       have B5 : Hid (ButS w2 w5 (fun _ => False)) := Lib.hid (((ButS.of_below (S := fun _ => False) (BA.out.trans (HB3.out.mono BA.out.size)) (Nat.le_refl _)).trans (but_alloc' w3 (blo (.slice (some ⟨w2.heap.size, 0, none⟩) 1 1) n) _)).trans (ButS.of_grown (by exact hgrow) (fun j e => by cases e)))
       have P5 := Lib.hid p5
       have L5 := Lib.hid l5
       have HOW := Lib.hid hown
       have hg5 : Hid (w2.heap.size ≤ g5) := Lib.hid (by
         rcases hat with h | h
         · cases h
         · rw [h]; exact Nat.le_trans (Nat.le_trans BA.out.size HB3.out.size) (but_alloc' w3 (blo (.slice (some ⟨w2.heap.size, 0, none⟩) 1 1) n) (fun _ => False)).size)
       have hPz2 := hPz.out
       have hPz3 := Ne.symm hPz.out
       clear p5 l5 z5 hown hgrow hat))
  all_goals
    go_wp2_with (go_at_call 66; (with_reducible refine (join_less _ _).mono ?_); rintro e w6 ⟨rfl, rfl⟩)
    obtain ⟨cs, hg, ha, hb⟩ := own_blk HOW.out
    have hs : ButS w5 (w5.setCell ⟨P, 1, none⟩ (.slice (some ⟨g5, 0, none⟩) 1 c5)) (· = P) := but_set' w5 P 1 _ (· = P) rfl
    have hp6 := row_set P5.out 1 (.slice (some ⟨g5, 0, none⟩) 1 c5)
    have hB : ButS w (w5.setCell ⟨P, 1, none⟩ (.slice (some ⟨g5, 0, none⟩) 1 c5)) (· = P) := ((HBS.out.trans (ButS.of_below HB2.out (Nat.le_refl _))).trans (B5.out.mono (fun _ _ h => h.elim))).trans hs
    refine bodyPost_ret (results_none rfl _ _ _) rfl ⟨rfl, g5, w2.heap.size, c5, ?_, ⟨cs, (hs.block _ (row_lt hg) (row_ne hg P5.out (by decide))).trans hg, ha, hb⟩, (hs.block _ (row_lt L5.out) (row_ne L5.out P5.out (by decide))).trans L5.out, ⟨hB.os, hB.tape, hB.output, hB.size, hB.block⟩, Nat.le_trans HBS.out.size (Nat.le_trans HB2.out.size hg5.out)⟩
    simpa using hp6
end Go.Proofs.YtlinoambdlkfjaaGreat
