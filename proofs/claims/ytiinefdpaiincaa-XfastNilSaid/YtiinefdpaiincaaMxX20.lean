/- A nil x-fast trie; a new one of any limit; the texts walked. -/
import Derived.Test.YtiinefdpaiincaaMxX19
namespace Go.Proofs.Ytiinefdpaiincaa
open Go.RowKit Go.Shelf
attribute [local go_sem] Oper.semAt_some
attribute [local simp] wide_fn
theorem xf_new_no (w : World) (sd n : Int) (hn : ¬ (0 ≤ n ∧ n ≤ 1048576)) : Calls Try.prog 8 #[.int .u64 sd, .int .i64 n] w fun e w' => e = .returned (.tuple #[.pointer none, .int .i64 1]) ∧ w = w' := by
  have hc := Lib.hid (c_new_no w n hn)
  clear hn
  go_enter Try.func8, Try.ntmps8
  go_wp2_with (go_at_call 35; (with_reducible refine hc.out.mono ?_); rintro e w1 ⟨rfl, rfl⟩)
  go_ret2
  exact ⟨rfl, rfl⟩
set_option maxHeartbeats 1000000 in
theorem xf_new_any (w : World) (sd n : Nat) (hn : n ≤ 1048576) : Calls Try.prog 8 #[.int .u64 (sd : Int), .int .i64 (n : Int)] w fun e w' => ∃ Xb, e = .returned (.tuple #[.pointer (some ⟨Xb, 0, none⟩), .int .i64 0]) ∧ Below w.heap.size w w' := by
  have hc := Lib.hid (c_new w n hn)
  clear hn
  go_enter Try.func8, Try.ntmps8
  go_wp2_with (first
    | (go_at_call 35; (with_reducible refine hc.out.mono ?_); rintro e w1 ⟨C, Q, M, rfl, hch, hmx, a1, a2, a3, hb1⟩
       have hd : CW w1.drew C Q M n none 0 none 0 [] [] [] := hch.chg ((chg_refl w1 (fun _ => False)).drewN 1) (fun _ _ h => h)
       have HS1 := Lib.hid hd.cb.c0
       have HD := Lib.hid hd
       have HB1 : Hid (Below w.heap.size w w1.drew) := Lib.hid hb1.drew
       have HN := Lib.hid (Hs.tab_new_nil w1.drew sd)
       clear hch hmx a1 a2 a3 hb1 hd))
  go_region_held3 (fun Y => Y.cell? ⟨C, 0, none⟩ = some (.pointer (some ⟨M, 0, none⟩))) (first | (with_reducible exact HS1.out) | (with_reducible exact HS2.out) | (with_reducible exact HS3.out _) | go_keep)
    ((go_at_call 36; (with_reducible refine HN.out.mono ?_); rintro e w2 ⟨Pt, Qt, Mt, rfl, ht, hb2, p1, p2, p3⟩
      have hs2 : w2.cell? ⟨C, 0, none⟩ = some (.pointer (some ⟨M, 0, none⟩)) := (HD.out.chg (K.Chg.of_below (O := fun _ => False) hb2) (fun _ _ h => h)).cb.c0
      have HS2 := Lib.hid hs2
      have HS3 := Lib.hid (fun o => cell_more hs2 o)
      have HB2 := Lib.hid hb2
      clear ht hb2 p1 p2 p3 hs2))
  all_goals
    go_wp2
    go_ret2
    have hz1 := HB1.out.size
    exact ⟨_, rfl, HB1.out.trans ((HB2.out.alloc HB2.out.size _).mono hz1)⟩
theorem xf_len_nil (w : World) : Calls Try.prog 30 #[.pointer none] w fun e w' => e = .returned (.int .i64 0) ∧ Below w.heap.size w w' := by
  go_enter Try.func30, Try.ntmps30
  go_wp2
  go_ret
  first
  | exact ⟨rfl, Below.refl _ w⟩
  | exact ⟨rfl, (Below.refl _ w).alloc (Nat.le_refl _) _⟩
theorem xf_used_nil (w : World) : Calls Try.prog 12 #[.pointer none] w fun e w' => e = .returned (.int .i64 0) ∧ Below w.heap.size w w' := by
  go_enter Try.func12, Try.ntmps12
  go_wp2
  go_ret
  first
  | exact ⟨rfl, Below.refl _ w⟩
  | exact ⟨rfl, (Below.refl _ w).alloc (Nat.le_refl _) _⟩
theorem xf_limit_nil (w : World) : Calls Try.prog 18 #[.pointer none] w fun e w' => e = .returned (.int .i64 0) ∧ Below w.heap.size w w' := by
  go_enter Try.func18, Try.ntmps18
  go_wp2
  go_ret
  first
  | exact ⟨rfl, Below.refl _ w⟩
  | exact ⟨rfl, (Below.refl _ w).alloc (Nat.le_refl _) _⟩
theorem xf_insert_nil (w : World) (k : Int) : Calls Try.prog 21 #[.pointer none, .int .u64 k] w fun e w' => e = .returned (.int .i64 3) ∧ Below w.heap.size w w' := by
  go_enter Try.func21, Try.ntmps21
  go_wp2
  go_ret
  first
  | exact ⟨rfl, Below.refl _ w⟩
  | exact ⟨rfl, (Below.refl _ w).alloc (Nat.le_refl _) _⟩
theorem xf_delete_nil (w : World) (k : Int) : Calls Try.prog 23 #[.pointer none, .int .u64 k] w fun e w' => e = .returned (.int .i64 3) ∧ Below w.heap.size w w' := by
  go_enter Try.func23, Try.ntmps23
  go_wp2
  go_ret
  first
  | exact ⟨rfl, Below.refl _ w⟩
  | exact ⟨rfl, (Below.refl _ w).alloc (Nat.le_refl _) _⟩
theorem xf_has_nil (w : World) (k : Int) : Calls Try.prog 24 #[.pointer none, .int .u64 k] w fun e w' => e = .returned (.bool false) ∧ Below w.heap.size w w' := by
  go_enter Try.func24, Try.ntmps24
  go_wp2
  go_ret
  first
  | exact ⟨rfl, Below.refl _ w⟩
  | exact ⟨rfl, (Below.refl _ w).alloc (Nat.le_refl _) _⟩
theorem xf_min_nil (w : World) : Calls Try.prog 25 #[.pointer none] w fun e w' => e = .returned (.tuple #[.int .u64 0, .bool false]) ∧ Below w.heap.size w w' := by
  go_enter Try.func25, Try.ntmps25
  go_wp2
  go_ret2
  first
  | exact ⟨rfl, Below.refl _ w⟩
  | exact ⟨rfl, (Below.refl _ w).alloc (Nat.le_refl _) _⟩
theorem xf_max_nil (w : World) : Calls Try.prog 26 #[.pointer none] w fun e w' => e = .returned (.tuple #[.int .u64 0, .bool false]) ∧ Below w.heap.size w w' := by
  go_enter Try.func26, Try.ntmps26
  go_wp2
  go_ret2
  first
  | exact ⟨rfl, Below.refl _ w⟩
  | exact ⟨rfl, (Below.refl _ w).alloc (Nat.le_refl _) _⟩
theorem xf_clear_nil (w : World) : Calls Try.prog 29 #[.pointer none] w fun e w' => e = .returned (.tuple #[]) ∧ Below w.heap.size w w' := by
  go_enter Try.func29, Try.ntmps29
  go_wp2
  refine bodyPost_ret (results_none rfl _ _ _) rfl ?_
  first
  | exact ⟨rfl, Below.refl _ w⟩
  | exact ⟨rfl, (Below.refl _ w).alloc (Nat.le_refl _) _⟩
theorem xf_near_above_nil (w : World) (k : Int) : Calls Try.prog 55 #[.pointer none, .int .u64 k, .func (.func 56) #[.pointer none] #[]] w fun e w' => e = .returned (.tuple #[.int .u64 0, .bool false]) ∧ w = w' := by
  go_enter Try.func55, Try.ntmps55
  go_wp2
  go_ret2
  exact ⟨rfl, rfl⟩
theorem xf_next_nil (w : World) (k : Int) : Calls Try.prog 27 #[.pointer none, .int .u64 k] w fun e w' => e = .returned (.tuple #[.int .u64 0, .bool false]) ∧ w = w' := by
  have hn := Lib.hid (xf_near_above_nil w k)
  go_enter Try.func27, Try.ntmps27
  go_wp2_with (go_at_call 55; (with_reducible refine hn.out.mono ?_); rintro e w1 ⟨rfl, rfl⟩)
  go_ret2
  exact ⟨rfl, rfl⟩
theorem xf_near_below_nil (w : World) (k : Int) : Calls Try.prog 55 #[.pointer none, .int .u64 k, .func (.func 49) #[.pointer none] #[]] w fun e w' => e = .returned (.tuple #[.int .u64 0, .bool false]) ∧ w = w' := by
  go_enter Try.func55, Try.ntmps55
  go_wp2
  go_ret2
  exact ⟨rfl, rfl⟩
theorem xf_prev_nil (w : World) (k : Int) : Calls Try.prog 28 #[.pointer none, .int .u64 k] w fun e w' => e = .returned (.tuple #[.int .u64 0, .bool false]) ∧ w = w' := by
  have hn := Lib.hid (xf_near_below_nil w k)
  go_enter Try.func28, Try.ntmps28
  go_wp2_with (go_at_call 55; (with_reducible refine hn.out.mono ?_); rintro e w1 ⟨rfl, rfl⟩)
  go_ret2
  exact ⟨rfl, rfl⟩
set_option maxRecDepth 100000 in
theorem xf_all_seq_nil (W0 : World) (Z : Nat → Prop) (n Bn : Nat) (hBn : Bn < W0.heap.size) (hc : W0.cell? ⟨Bn, 0, none⟩ = some (.pointer none)) :
    SeqW Fence.wide n Try.prog 62 #[.pointer (some ⟨Bn, 0, none⟩)] (fun x : Nat => #[Value.int .u64 ((x : Nat) : Int)]) Z (fun ys => ys = []) (fun pre => pre <+: []) (fun pre => pre <+: []) W0 := by
  intro l J Jx W hW hJ hJx hY h0
  have hBl : Bn < W.heap.size := Nat.lt_of_lt_of_le hBn hW.size
  have hBc := (hW.cell (p := ⟨Bn, 0, none⟩) hBn).trans hc
  have hyb : Below W.heap.size W (W.alloc (.cells #[.func (.yield l) #[] #[]] 55)) := (Below.refl _ W).alloc (Nat.le_refl _) _
  have x0 := (hyb.cell (p := ⟨Bn, 0, none⟩) hBl).trans hBc
  have HJ := Lib.hid (hJ _ _ (fun _ => False) _ _ h0 (ButS.of_below hyb (Nat.le_refl _)) (fun j hj => hj.elim))
  clear hY hJ hJx h0 hBc hc hyb
  refine callsIn_wide.2 ((callsIn_wide (n := 9)).1 ?_)
  refine callsIn_of_wp Try.func62 rfl trivial ?_ rfl
  simp only [Try.ntmps62, List.size_toArray, List.length_cons, List.length_nil, Nat.reduceAdd, Nat.reduceSub, Array.replicate_succ, Array.replicate_zero, List.push_toArray, List.append_toArray, List.nil_append, List.cons_append]
  gi_wp2
  refine bodyPost_ret (results_none rfl _ _ _) rfl ?_
  exact ⟨⟨_, rfl⟩, .inl ⟨_, _, rfl, HJ.out⟩⟩
theorem law_all_nil (w : World) : Calls Try.prog 17 #[.pointer none, .int .i64 9] w fun e w' => (∃ A c, e = .returned (.slice A 0 c)) ∧ Below w.heap.size w w' := by
  refine (all_law w none [] 9 (by decide) (by decide) (by decide) (fun Bn W _ _ hBn hc => xf_all_seq_nil W _ 8 Bn hBn hc)).mono ?_
  rintro e w' ⟨v, rfl, hk, hb⟩
  rcases hk.form with ⟨rfl, _⟩ | ⟨g, c, rfl, _⟩
  · exact ⟨⟨none, 0, rfl⟩, hb⟩
  · exact ⟨⟨_, c, rfl⟩, hb⟩
end Go.Proofs.Ytiinefdpaiincaa
