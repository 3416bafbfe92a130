
/- A nil tree; all of it; awake and the law VebNil; the texts walked. -/
import Derived.Test.YtlmpkpidfkbckaaDoorVe6
import Derived.Test.YtlmpkpidfkbckaaDoorRangeW
namespace Go.Proofs.YtlmpkpidfkbckaaDoor
set_option maxRecDepth 40000
open Go.RowKit Go.Shelf
attribute [local go_sem] Oper.semAt_some
theorem wide_fn (f : Nat) : Fence.wide.fn f := trivial
attribute [local simp] wide_fn
theorem near_nil (w : World) (k : Int) (s : Bool) : Calls Tryd.prog 20 #[.pointer none, .int .u64 k, .bool s] w fun e w' => e = .returned (.tuple #[.int .u64 0, .bool false]) ∧ w = w' := by
  go_enter Tryd.func20, Tryd.ntmps20
  go_wp2
  go_ret2
  exact ⟨rfl, rfl⟩
theorem n_next (w : World) (k : Int) : Calls Tryd.prog 6 #[.pointer none, .int .u64 k] w fun e w' => e = .returned (.tuple #[.int .u64 0, .bool false]) ∧ w = w' := by
  go_enter Tryd.func6, Tryd.ntmps6
  go_wp2_with (go_at_call 20; (with_reducible refine (near_nil _ _ _).mono ?_); rintro e w' ⟨rfl, rfl⟩)
  go_ret2
  exact ⟨rfl, rfl⟩
theorem n_prev (w : World) (k : Int) : Calls Tryd.prog 7 #[.pointer none, .int .u64 k] w fun e w' => e = .returned (.tuple #[.int .u64 0, .bool false]) ∧ w = w' := by
  go_enter Tryd.func7, Tryd.ntmps7
  go_wp2_with (go_at_call 20; (with_reducible refine (near_nil _ _ _).mono ?_); rintro e w' ⟨rfl, rfl⟩)
  go_ret2
  exact ⟨rfl, rfl⟩
theorem end_nil (w : World) (s : Bool) : Calls Tryd.prog 21 #[.pointer none, .bool s] w fun e w' => e = .returned (.tuple #[.int .u64 0, .bool false]) ∧ w = w' := by
  go_enter Tryd.func21, Tryd.ntmps21
  go_wp2
  go_ret2
  exact ⟨rfl, rfl⟩
theorem n_min (w : World) : Calls Tryd.prog 8 #[.pointer none] w fun e w' => e = .returned (.tuple #[.int .u64 0, .bool false]) ∧ w = w' := by
  go_enter Tryd.func8, Tryd.ntmps8
  go_wp2_with (go_at_call 21; (with_reducible refine (end_nil _ _).mono ?_); rintro e w' ⟨rfl, rfl⟩)
  go_ret2
  exact ⟨rfl, rfl⟩
theorem n_max (w : World) : Calls Tryd.prog 9 #[.pointer none] w fun e w' => e = .returned (.tuple #[.int .u64 0, .bool false]) ∧ w = w' := by
  go_enter Tryd.func9, Tryd.ntmps9
  go_wp2_with (go_at_call 21; (with_reducible refine (end_nil _ _).mono ?_); rintro e w' ⟨rfl, rfl⟩)
  go_ret2
  exact ⟨rfl, rfl⟩
theorem n_insert (w : World) (k : Int) : Calls Tryd.prog 11 #[.pointer none, .int .u64 k] w fun e w' => e = .returned (.int .i64 3) ∧ w = w' := by
  go_enter Tryd.func11, Tryd.ntmps11
  go_wp2
  go_ret
  exact ⟨rfl, rfl⟩
theorem n_delete (w : World) (k : Int) : Calls Tryd.prog 12 #[.pointer none, .int .u64 k] w fun e w' => e = .returned (.int .i64 3) ∧ w = w' := by
  go_enter Tryd.func12, Tryd.ntmps12
  go_wp2
  go_ret
  exact ⟨rfl, rfl⟩
theorem n_has (w : World) (k : Int) : Calls Tryd.prog 13 #[.pointer none, .int .u64 k] w fun e w' => e = .returned (.bool false) ∧ w = w' := by
  go_enter Tryd.func13, Tryd.ntmps13
  go_wp2
  go_ret
  exact ⟨rfl, rfl⟩
theorem n_clear (w : World) : Calls Tryd.prog 10 #[.pointer none] w fun e w' => e = .returned (.tuple #[]) ∧ w = w' := by
  go_enter Tryd.func10, Tryd.ntmps10
  go_wp2
  refine bodyPost_ret (results_none rfl _ _ _) rfl ?_
  exact ⟨rfl, rfl⟩
theorem n_len (w : World) : Calls Tryd.prog 14 #[.pointer none] w fun e w' => e = .returned (.int .i64 0) ∧ w = w' := by
  go_enter Tryd.func14, Tryd.ntmps14
  go_wp2
  go_ret
  exact ⟨rfl, rfl⟩
theorem n_used (w : World) : Calls Tryd.prog 15 #[.pointer none] w fun e w' => e = .returned (.int .i64 0) ∧ w = w' := by
  go_enter Tryd.func15, Tryd.ntmps15
  go_wp2
  go_ret
  exact ⟨rfl, rfl⟩
theorem n_limit (w : World) : Calls Tryd.prog 16 #[.pointer none] w fun e w' => e = .returned (.int .i64 0) ∧ w = w' := by
  go_enter Tryd.func16, Tryd.ntmps16
  go_wp2
  go_ret
  exact ⟨rfl, rfl⟩
theorem all_any (w : World) : Calls Tryd.prog 30 #[.pointer none] w fun e w' => e = .returned (.func (.func 48) #[] #[.pointer (some ⟨w.heap.size, 0, none⟩)]) ∧ w' = w.alloc (.cells #[.pointer none] 24) := by
  go_enter Tryd.func30, Tryd.ntmps30
  go_wp2
  go_ret
  exact ⟨rfl, rfl⟩
theorem all1_nil (w : World) (y : Value) (Bn : Nat) (hr : w.heap[Bn]? = some (.cells #[.pointer none] 24 (0, 0))) : Calls Tryd.prog 48 #[y, .pointer (some ⟨Bn, 0, none⟩)] w fun e w' => e = .returned (.tuple #[]) ∧ w = w' := by
  have c0 : w.cell? ⟨Bn, 0, none⟩ = some (.pointer none) := cell_of_row _ _ 0 _ _ (0, 0) hr
  clear hr
  go_enter Tryd.func48, Tryd.ntmps48
  go_wp2
  go_end0
  exact ⟨rfl, rfl⟩
theorem all1_seq (W0 : World) (Z : Nat → Prop) (n Bn : Nat) (hr : W0.heap[Bn]? = some (.cells #[.pointer none] 24 (0, 0))) :
    SeqW Fence.wide n Tryd.prog 48 #[.pointer (some ⟨Bn, 0, none⟩)] (fun x : Nat => #[Value.int .u64 ((x : Nat) : Int)]) Z (fun ys => ys = []) (fun _ => False) (fun _ => False) W0 := by
  intro l J Jx W hW hJ hJx hY h0
  refine (callsIn_wide.2 (all1_nil W (.func (.yield l) #[] #[]) Bn ((hW.block _ (row_lt hr)).trans hr))).mono ?_
  rintro e W' ⟨rfl, rfl⟩
  exact ⟨⟨_, rfl⟩, .inl ⟨[], fun _ => False, rfl, h0⟩⟩
set_option maxRecDepth 100000 in
set_option maxHeartbeats 4000000 in
theorem law_all_nil (w : World) (most : Int) : Calls Tryd.prog 17 #[.pointer none, .int .i64 most] w fun e w' => e = .returned (.slice none 0 0) ∧ Below w.heap.size w w' := by
  refine (callsIn_wide (n := 9)).1 ?_
  refine callsIn_of_wp_marks Tryd.func17 rfl trivial ?_ rfl
  simp only [Tryd.ntmps17, List.size_toArray, List.length_cons, List.length_nil, Nat.reduceAdd, Nat.reduceSub, Array.replicate_succ, Array.replicate_zero, List.push_toArray, List.append_toArray, List.nil_append, List.cons_append]
  gi_wp2_with (gi_at_call 30; refine (callsIn_wide.2 (all_any _)).mono ?_; rintro e w' ⟨rfl, rfl⟩)
  have hb3 := below_al (below_al (below_al (Below.refl _ w) (Nat.le_refl _) (.cells #[.int .i64 most] 3)) (Nat.le_refl _) (.cells #[.slice none 0 0] 34)) (Nat.le_refl _) (.cells #[.pointer none] 24)
  have t2 := al_keep (K.alloc_top (w.alloc (.cells #[.int .i64 most] 3)) (.cells #[.slice none 0 0] 34)) (.cells #[.pointer none] 24)
  have t3 := K.alloc_top ((w.alloc (.cells #[.int .i64 most] 3)).alloc (.cells #[.slice none 0 0] 34)) (.cells #[.pointer none] 24)
  have hz : (((w.alloc (.cells #[.int .i64 most] 3)).alloc (.cells #[.slice none 0 0] 34)).alloc (.cells #[.pointer none] 24)).heap.size = w.heap.size + 1 + 1 + 1 := by simp
  simp only [World.size_alloc] at t2 t3
  generalize hW0 : ((w.alloc (.cells #[.int .i64 most] 3)).alloc (.cells #[.slice none 0 0] 34)).alloc (.cells #[.pointer none] 24) = W0 at *
  clear hW0
  refine wpIn_rangeW (Q := _) rfl (by decide) (gf := 48) (lb := #[.pointer (some ⟨w.heap.size + 1 + 1, 0, none⟩)]) rfl trivial (enters_of Tryd.func48 (by kernel_rfl) rfl)
    (all1_seq W0 (fun _ => False) _ (w.heap.size + 1 + 1) t3) (fun j hj => hj.elim) (Below.refl _ _) (fun _ => rfl)
    (fun pre O W' => (∀ j, ¬ O j) ∧ ButS W0 W' (fun _ => False)) (fun _ _ _ _ => False) (fun _ _ _ _ => False)
    ?hI ?hIx ?hA ?hlow (fun _ => False) (fun j hj => hj.elim) ⟨fun j h => h, ButS.refl _ _⟩ ?assign ?body ?done ?stop
  case hI =>
    rintro pre O W1 W' R ⟨h1, h2⟩ hw hR
    exact ⟨h1, h2.then hw (fun j hj => .inr (hR j hj).2)⟩
  case hIx => rintro c pre O W1 W' R h _ _; exact h
  case hA => rintro a' s O W1 W' R h _ _; exact h
  case hlow => rintro pre O W1 _ j _ h; exact h
  case assign =>
    rintro L pre x O W1 _ h
    exact h.elim
  case body =>
    rintro L pre x O a1 W1 h
    exact h.elim
  case stop =>
    rintro D c pre O W1 hD hnD hpre h hK
    exact h.elim
  case done =>
    rintro D ys O W1 hD hnD rfl ⟨h1, h2⟩ hK
    have q2 := (h2.block _ (row_lt t2) (fun h => h)).trans t2
    have z1 : W1.cell? ⟨w.heap.size + 1, 0, none⟩ = some (.slice none 0 0) := cell_of_row _ _ 0 _ _ (0, 0) q2
    have hDl := (Array.getElem?_eq_some_iff.1 hK).1
    gi_wp2
    refine ⟨by simp, .inl ⟨_, _, rfl, run_takeDeferred hK, ?_⟩⟩
    refine ⟨_, results_tmp rfl _ _ _, rfl, ?_⟩
    have hb : ButS w (W1.putObj D (.deferred none)) (fun _ => False) := ((ButS.of_below (S := fun _ => False) hb3 (Nat.le_refl _)).trans h2).then (but_put W1 D (.deferred none)) (fun j e => .inr (by have e2 : j = D := e; omega))
    exact hb.below (Nat.le_refl _) (fun j h => h.elim)
set_option maxHeartbeats 8000000 in
theorem awake_any (w : World) : Calls Tryd.prog 4 #[] w fun e w' => e = .returned (.bool true) ∧ Below w.heap.size w w' := by
  have HN : Hid (Calls Tryd.prog 5 #[.int .u64 1, .int .i64 4000] w fun e w' => ∃ P, e = .returned (.tuple #[.pointer (some ⟨P, 0, none⟩), .int .i64 0]) ∧ VX w' P [] 0 0 w.heap.size ∧ Below w.heap.size w w') := Lib.hid ((new_yes w 1 4000 (by decide)).mono (fun e w' ⟨P, he, h1, h2⟩ => ⟨P, he, h1 rfl, h2⟩))
  go_enter Tryd.func4, Tryd.ntmps4
  go_wp2_with (first
    | (go_at_call 5; (with_reducible refine HN.out.mono ?_); rintro e w1 ⟨P, rfl, h1, b1⟩
       have HF : Hid (Calls Tryd.prog 11 #[.pointer (some ⟨P, 0, none⟩), .int .u64 5] w1 fun e w' => e = .returned (.int .i64 0) ∧ VX w' P [(nd0 5 5, true)] 1 1 w.heap.size ∧ Below w.heap.size w1 w') := Lib.hid (ins_first 5 h1)
       have B1 := Lib.hid b1
       clear h1 b1)
    | (go_at_call 11; (with_reducible refine HF.out.mono ?_); rintro e w2 ⟨rfl, h2, b2⟩
       have HG : Hid (Calls Tryd.prog 11 #[.pointer (some ⟨P, 0, none⟩), .int .u64 9] w2 fun e w' => e = .returned (.int .i64 0) ∧ VX w' P [(nd0 5 9, true)] 2 1 w.heap.size ∧ Below w.heap.size w2 w') := Lib.hid (ins_second 5 9 (by decide) h2)
       have B2 := Lib.hid b2
       clear h2 b2)
    | (go_at_call 11; (with_reducible refine HG.out.mono ?_); rintro e w3 ⟨rfl, h3, b3⟩
       have HH : Hid (Calls Tryd.prog 11 #[.pointer (some ⟨P, 0, none⟩), .int .u64 9] w3 fun e w' => e = .returned (.int .i64 4) ∧ VX w' P [(nd0 5 9, true)] 2 1 w.heap.size ∧ Below w.heap.size w3 w') := Lib.hid (ins_there 5 9 9 (.inr rfl) h3)
       have B3 := Lib.hid b3
       clear h3 b3)
    | (go_at_call 11; (with_reducible refine HH.out.mono ?_); rintro e w4 ⟨rfl, h4, b4⟩
       have HX : Hid (Calls Tryd.prog 6 #[.pointer (some ⟨P, 0, none⟩), .int .u64 6] w4 fun e w' => e = .returned (.tuple #[.int .u64 9, .bool true]) ∧ VX w' P [(nd0 5 9, true)] 2 1 w.heap.size ∧ Below w.heap.size w4 w') := Lib.hid (next_some w4 P 5 9 6 w.heap.size 2 1 (by decide) (by decide) h4)
       have B4 := Lib.hid b4
       clear h4 b4)
    | (go_at_call 6; (with_reducible refine HX.out.mono ?_); rintro e w5 ⟨rfl, h5, b5⟩
       have HV : Hid (Calls Tryd.prog 7 #[.pointer (some ⟨P, 0, none⟩), .int .u64 8] w5 fun e w' => e = .returned (.tuple #[.int .u64 5, .bool true]) ∧ VX w' P [(nd0 5 9, true)] 2 1 w.heap.size ∧ Below w.heap.size w5 w') := Lib.hid (prev_some w5 P 5 9 8 w.heap.size 2 1 (by decide) (by decide) h5)
       have B5 := Lib.hid b5
       clear h5 b5)
    | (go_at_call 7; (with_reducible refine HV.out.mono ?_); rintro e w6 ⟨rfl, h6, b6⟩
       have HL := Lib.hid (len_any h6)
       have B6 := Lib.hid b6
       clear h6 b6)
    | (go_at_call 14; (with_reducible refine HL.out.mono ?_); rintro e w7 ⟨rfl, rfl⟩))
  go_ret
  exact ⟨rfl, ((((B1.out.trans B2.out).trans B3.out).trans B4.out).trans B5.out).trans B6.out⟩
set_option maxHeartbeats 4000000 in
theorem law_nil (s k : Nat) (n : Int) (w : World) :
    Calls Tryd.prog 3 #[.int .u64 (s : Int), .int .u64 (k : Int), .int .i64 n] w fun e w' => e = .returned (.bool true) ∧ Below w.heap.size w w' := by
  have HA := fun w => Lib.hid (awake_any w)
  by_cases h0 : 0 ≤ n
  · have g0 : decide (0 ≤ n) = true := decide_eq_true h0
    by_cases h1 : n ≤ 1048576
    · have g1 : decide (n ≤ 1048576) = true := decide_eq_true h1
      have HN : Hid (∀ w, Calls Tryd.prog 5 #[.int .u64 (s : Int), .int .i64 n] w fun e w' => ∃ P, e = .returned (.tuple #[.pointer (some ⟨P, 0, none⟩), .int .i64 0]) ∧ Below w.heap.size w w') := Lib.hid (fun w => by
        obtain ⟨m, rfl⟩ : ∃ m : Nat, n = (m : Int) := ⟨n.toNat, by omega⟩
        exact (new_yes w s m (by omega)).mono (fun e w' ⟨P, he, _, h2⟩ => ⟨P, he, h2⟩))
      have HN := fun w => Lib.hid (HN.out w)
      clear h0 h1
      go_enter Tryd.func3, Tryd.ntmps3
      go_wp2_with (first
        | (go_at_call 4; (with_reducible refine (HA _).out.mono ?_); rintro e w1 ⟨rfl, hb1⟩; have B1 := Lib.hid hb1; clear hb1)
        | (go_at_call 5; (with_reducible refine (HN _).out.mono ?_); rintro e w2 ⟨P, rfl, hb2⟩; have B2 := Lib.hid hb2; clear hb2)
        | (go_at_call 6; (with_reducible refine (n_next _ _).mono ?_); rintro e w' ⟨rfl, rfl⟩)
        | (go_at_call 7; (with_reducible refine (n_prev _ _).mono ?_); rintro e w' ⟨rfl, rfl⟩)
        | (go_at_call 8; (with_reducible refine (n_min _).mono ?_); rintro e w' ⟨rfl, rfl⟩)
        | (go_at_call 9; (with_reducible refine (n_max _).mono ?_); rintro e w' ⟨rfl, rfl⟩)
        | (go_at_call 10; (with_reducible refine (n_clear _).mono ?_); rintro e w' ⟨rfl, rfl⟩)
        | (go_at_call 11; (with_reducible refine (n_insert _ _).mono ?_); rintro e w' ⟨rfl, rfl⟩)
        | (go_at_call 12; (with_reducible refine (n_delete _ _).mono ?_); rintro e w' ⟨rfl, rfl⟩)
        | (go_at_call 13; (with_reducible refine (n_has _ _).mono ?_); rintro e w' ⟨rfl, rfl⟩)
        | (go_at_call 14; (with_reducible refine (n_len _).mono ?_); rintro e w' ⟨rfl, rfl⟩)
        | (go_at_call 15; (with_reducible refine (n_used _).mono ?_); rintro e w' ⟨rfl, rfl⟩)
        | (go_at_call 16; (with_reducible refine (n_limit _).mono ?_); rintro e w' ⟨rfl, rfl⟩)
        | (go_at_call 17; (with_reducible refine (law_all_nil _ _).mono ?_); rintro e w5 ⟨rfl, hb5⟩; have B5 := Lib.hid hb5; clear hb5))
      go_ret
      have c2 := B1.out.trans (B2.out.mono B1.out.size)
      exact ⟨rfl, c2.trans (B5.out.mono c2.size)⟩
    · have g1 : decide (n ≤ 1048576) = false := decide_eq_false h1
      have HN := fun w => Lib.hid ((new_no w s n (fun h => h1 h.2)).mono (fun e w' h => (And.intro h.1 (h.2 ▸ Below.refl _ w) : _ ∧ Below w.heap.size w w')))
      clear h0 h1
      go_enter Tryd.func3, Tryd.ntmps3
      go_wp2_with (first
        | (go_at_call 4; (with_reducible refine (HA _).out.mono ?_); rintro e w1 ⟨rfl, hb1⟩; have B1 := Lib.hid hb1; clear hb1)
        | (go_at_call 5; (with_reducible refine (HN _).out.mono ?_); rintro e w2 ⟨rfl, hb2⟩; have B2 := Lib.hid hb2; clear hb2)
        | (go_at_call 6; (with_reducible refine (n_next _ _).mono ?_); rintro e w' ⟨rfl, rfl⟩)
        | (go_at_call 7; (with_reducible refine (n_prev _ _).mono ?_); rintro e w' ⟨rfl, rfl⟩)
        | (go_at_call 8; (with_reducible refine (n_min _).mono ?_); rintro e w' ⟨rfl, rfl⟩)
        | (go_at_call 9; (with_reducible refine (n_max _).mono ?_); rintro e w' ⟨rfl, rfl⟩)
        | (go_at_call 10; (with_reducible refine (n_clear _).mono ?_); rintro e w' ⟨rfl, rfl⟩)
        | (go_at_call 11; (with_reducible refine (n_insert _ _).mono ?_); rintro e w' ⟨rfl, rfl⟩)
        | (go_at_call 12; (with_reducible refine (n_delete _ _).mono ?_); rintro e w' ⟨rfl, rfl⟩)
        | (go_at_call 13; (with_reducible refine (n_has _ _).mono ?_); rintro e w' ⟨rfl, rfl⟩)
        | (go_at_call 14; (with_reducible refine (n_len _).mono ?_); rintro e w' ⟨rfl, rfl⟩)
        | (go_at_call 15; (with_reducible refine (n_used _).mono ?_); rintro e w' ⟨rfl, rfl⟩)
        | (go_at_call 16; (with_reducible refine (n_limit _).mono ?_); rintro e w' ⟨rfl, rfl⟩)
        | (go_at_call 17; (with_reducible refine (law_all_nil _ _).mono ?_); rintro e w5 ⟨rfl, hb5⟩; have B5 := Lib.hid hb5; clear hb5))
      go_ret
      have c2 := B1.out.trans (B2.out.mono B1.out.size)
      exact ⟨rfl, c2.trans (B5.out.mono c2.size)⟩
  · have g0 : decide (0 ≤ n) = false := decide_eq_false h0
    have HN := fun w => Lib.hid ((new_no w s n (fun h => h0 h.1)).mono (fun e w' h => (And.intro h.1 (h.2 ▸ Below.refl _ w) : _ ∧ Below w.heap.size w w')))
    clear h0
    go_enter Tryd.func3, Tryd.ntmps3
    go_wp2_with (first
      | (go_at_call 4; (with_reducible refine (HA _).out.mono ?_); rintro e w1 ⟨rfl, hb1⟩; have B1 := Lib.hid hb1; clear hb1)
      | (go_at_call 5; (with_reducible refine (HN _).out.mono ?_); rintro e w2 ⟨rfl, hb2⟩; have B2 := Lib.hid hb2; clear hb2)
      | (go_at_call 6; (with_reducible refine (n_next _ _).mono ?_); rintro e w' ⟨rfl, rfl⟩)
      | (go_at_call 7; (with_reducible refine (n_prev _ _).mono ?_); rintro e w' ⟨rfl, rfl⟩)
      | (go_at_call 8; (with_reducible refine (n_min _).mono ?_); rintro e w' ⟨rfl, rfl⟩)
      | (go_at_call 9; (with_reducible refine (n_max _).mono ?_); rintro e w' ⟨rfl, rfl⟩)
      | (go_at_call 10; (with_reducible refine (n_clear _).mono ?_); rintro e w' ⟨rfl, rfl⟩)
      | (go_at_call 11; (with_reducible refine (n_insert _ _).mono ?_); rintro e w' ⟨rfl, rfl⟩)
      | (go_at_call 12; (with_reducible refine (n_delete _ _).mono ?_); rintro e w' ⟨rfl, rfl⟩)
      | (go_at_call 13; (with_reducible refine (n_has _ _).mono ?_); rintro e w' ⟨rfl, rfl⟩)
      | (go_at_call 14; (with_reducible refine (n_len _).mono ?_); rintro e w' ⟨rfl, rfl⟩)
      | (go_at_call 15; (with_reducible refine (n_used _).mono ?_); rintro e w' ⟨rfl, rfl⟩)
      | (go_at_call 16; (with_reducible refine (n_limit _).mono ?_); rintro e w' ⟨rfl, rfl⟩)
      | (go_at_call 17; (with_reducible refine (law_all_nil _ _).mono ?_); rintro e w5 ⟨rfl, hb5⟩; have B5 := Lib.hid hb5; clear hb5))
    go_ret
    have c2 := B1.out.trans (B2.out.mono B1.out.size)
    exact ⟨rfl, c2.trans (B5.out.mono c2.size)⟩
end Go.Proofs.YtlmpkpidfkbckaaDoor
