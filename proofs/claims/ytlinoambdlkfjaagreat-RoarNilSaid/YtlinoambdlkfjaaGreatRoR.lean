
/- All of a nil set: nothing; the texts walked. -/
import Derived.Test.YtlinoambdlkfjaaGreatRo4
import Derived.Test.YtlinoambdlkfjaaGreatRangeW
namespace Go.Proofs.YtlinoambdlkfjaaGreat
open Go.RowKit Go.Shelf
attribute [local go_sem] Oper.semAt_some
theorem wide_fn (f : Nat) : Fence.wide.fn f := trivial
attribute [local simp] wide_fn
theorem at_empty (w : World) (r : Nat) (cs : Array Value) (T : TypeId) (h : w.heap[r]? = some (.cells cs T (0, 0))) (h0 : cs[0]? = some (.slice none 0 0)) : Calls Tryz.prog 42 #[.pointer (some ⟨r, 0, none⟩), plv 0 0] w fun e w' => e = .returned (.pointer none) ∧ Below w.heap.size w w' := by
  have hb := (Below.refl _ w).alloc (Nat.le_refl _) (plo 0 0)
  have c1 : (w.alloc (plo 0 0)).cell? ⟨r, 0, none⟩ = some (.slice none 0 0) := (cell_of_row _ r 0 _ _ (0, 0) (al_keep h _)).trans h0
  clear h h0
  go_enter Tryz.func42, Tryz.ntmps42
  go_wp2
  go_quiet (fail)
  go_wp2
  go_ret
  exact ⟨rfl, below_dr hb _⟩
set_option maxHeartbeats 4000000 in
theorem from1_nil (w : World) (y : Value) (p pr r : Nat) (hp : w.heap[p]? = some (plo 0 0)) (hpr : w.heap[pr]? = some (.cells #[.pointer (some ⟨r, 0, none⟩)] 77 (0, 0))) (cs : Array Value) (T : TypeId) (h : w.heap[r]? = some (.cells cs T (0, 0))) (h0 : cs[0]? = some (.slice none 0 0)) :
    Calls Tryz.prog 95 #[y, .pointer (some ⟨p, 0, none⟩), .pointer (some ⟨pr, 0, none⟩)] w fun e w' => e = .returned (.tuple #[]) ∧ Below w.heap.size w w' := by
  have hb := (Below.refl _ w).alloc (Nat.le_refl _) (plo 0 0)
  have HA := Lib.hid (at_empty (w.alloc (plo 0 0)) r cs T (al_keep h _) h0)
  have c0 : w.cell? ⟨p, 0, none⟩ = some (.int .i64 0) := cell_of_row _ _ 0 _ _ (0, 0) hp
  have c1 : w.cell? ⟨p, 1, none⟩ = some (.int .i64 0) := cell_of_row _ _ 1 _ _ (0, 0) hp
  have c2 : (w.alloc (plo 0 0)).cell? ⟨pr, 0, none⟩ = some (.pointer (some ⟨r, 0, none⟩)) := cell_of_row _ _ 0 _ _ (0, 0) (al_keep hpr _)
  have HB := Lib.hid hb
  clear hp hpr h hb
  go_enter Tryz.func95, Tryz.ntmps95
  go_wp2
  go_loopw [4] (fun v wr => v = .pointer (some ⟨w.heap.size, 0, none⟩) ∧ wr = w.alloc (plo 0 0)) (fun _ _ => 0)
  case atStart => exact ⟨rfl, rfl⟩
  case round =>
    obtain ⟨rfl, rfl⟩ := hrel
    go_wp2_with (first
      | (go_at_call 42; (with_reducible refine HA.out.mono ?_); rintro e w2 ⟨rfl, hb2⟩; replace hb2 := Lib.hid hb2))
    go_end0
    exact ⟨rfl, HB.out.trans (hb2.out.mono HB.out.size)⟩
theorem each_nil (w : World) : Calls Tryz.prog 57 #[.pointer none] w fun e w' => ∃ p pr r, e = .returned (.func (.func 95) #[] #[.pointer (some ⟨p, 0, none⟩), .pointer (some ⟨pr, 0, none⟩)]) ∧ w'.heap[p]? = some (plo 0 0) ∧ w'.heap[pr]? = some (.cells #[.pointer (some ⟨r, 0, none⟩)] 77 (0, 0)) ∧ w'.heap[r]? = some (.cells #[.slice none 0 0, .int .i64 0] 41 (0, 0)) ∧ Below w.heap.size w w' := by
  have HF : Hid (Calls Tryz.prog 80 #[.pointer (some ⟨w.heap.size, 0, none⟩), plv 0 0] (w.alloc (.cells #[.slice none 0 0, .int .i64 0] 41)) fun e w' => e = .returned (.func (.func 95) #[] #[.pointer (some ⟨w.heap.size + 1 + 1, 0, none⟩), .pointer (some ⟨w.heap.size + 1, 0, none⟩)]) ∧ w' = ((w.alloc (.cells #[.slice none 0 0, .int .i64 0] 41)).alloc (.cells #[.pointer (some ⟨w.heap.size, 0, none⟩)] 77)).alloc (plo 0 0)) := Lib.hid (by
    go_enter Tryz.func80, Tryz.ntmps80
    go_wp2
    go_ret
    exact ⟨by simp, rfl⟩)
  go_enter Tryz.func57, Tryz.ntmps57
  go_wp2_with (first
    | (go_at_call 80; (with_reducible refine HF.out.mono ?_); rintro e w' ⟨rfl, rfl⟩))
  go_ret
  have t2 := alloc_top (w.alloc (.cells #[.slice none 0 0, .int .i64 0] 41)) (.cells #[.pointer (some ⟨w.heap.size, 0, none⟩)] 77)
  have t3 := alloc_top ((w.alloc (.cells #[.slice none 0 0, .int .i64 0] 41)).alloc (.cells #[.pointer (some ⟨w.heap.size, 0, none⟩)] 77)) (plo 0 0)
  simp only [World.size_alloc] at t2 t3
  exact ⟨_, _, _, rfl, t3, al_keep t2 _, al_keep (al_keep (alloc_top w _) _) _, bel_al (bel_al (bel_al (Below.refl _ w) (Nat.le_refl _) _) (Nat.le_refl _) _) (Nat.le_refl _) _⟩
theorem from1_seq (W0 : World) (Z : Nat → Prop) (n p pr r : Nat) (hp : W0.heap[p]? = some (plo 0 0)) (hpr : W0.heap[pr]? = some (.cells #[.pointer (some ⟨r, 0, none⟩)] 77 (0, 0))) (h : W0.heap[r]? = some (.cells #[.slice none 0 0, .int .i64 0] 41 (0, 0))) :
    SeqW Fence.wide n Tryz.prog 95 #[.pointer (some ⟨p, 0, none⟩), .pointer (some ⟨pr, 0, none⟩)] (fun x : Nat => #[Value.int .u64 ((x : Nat) : Int)]) Z (fun ys => ys = []) (fun _ => False) (fun _ => False) W0 := by
  intro l J Jx W hW hJ hJx hY h0
  refine (callsIn_wide.2 (from1_nil W (.func (.yield l) #[] #[]) p pr r ((hW.block _ (row_lt hp)).trans hp) ((hW.block _ (row_lt hpr)).trans hpr) _ _ ((hW.block _ (row_lt h)).trans h) rfl)).mono ?_
  rintro e W' ⟨rfl, hb⟩
  exact ⟨⟨_, rfl⟩, .inl ⟨[], fun _ => False, rfl, hJ _ _ _ _ _ h0 (ButS.of_below hb (Nat.le_refl _)) (fun j hj => hj.elim)⟩⟩
set_option maxRecDepth 100000 in
set_option maxHeartbeats 4000000 in
theorem all1_seq (W0 : World) (Z : Nat → Prop) (n Bn : Nat) (hr : W0.heap[Bn]? = some (.cells #[.pointer none] 24 (0, 0))) :
    SeqW Fence.wide n Tryz.prog 56 #[.pointer (some ⟨Bn, 0, none⟩)] (fun x : Nat => #[Value.int .u64 ((x : Nat) : Int)]) Z (fun ys => ys = []) (fun _ => False) (fun _ => False) W0 := by
  intro l J Jx W hW hJ hJx hY h0
  have hb1 := (Below.refl _ W).alloc (Nat.le_refl _) (.cells #[.func (.yield l) #[] #[]] 32)
  have hBc : (W.alloc (.cells #[.func (.yield l) #[] #[]] 32)).cell? ⟨Bn, 0, none⟩ = some (.pointer none) := cell_of_row _ _ 0 _ _ (0, 0) (al_keep ((hW.block _ (row_lt hr)).trans hr) _)
  refine callsIn_wide.2 ((callsIn_wide (n := 9)).1 ?_)
  have HJ := Lib.hid hJ
  have H0 := Lib.hid h0
  have HB1 := Lib.hid hb1
  have HE := fun W => Lib.hid (each_nil W)
  clear hY hJ hJx h0 hW hr hb1
  refine callsIn_of_wp_marks Tryz.func56 rfl trivial ?_ rfl
  simp only [Tryz.ntmps56, List.size_toArray, List.length_cons, List.length_nil, Nat.reduceAdd, Nat.reduceSub, Array.replicate_succ, Array.replicate_zero, List.push_toArray, List.append_toArray, List.nil_append, List.cons_append]
  gi_wp2_with (gi_at_call 57; refine (callsIn_wide.2 (HE _).out).mono ?_; rintro e Wq ⟨p, pr, r, rfl, hp, hpr, hrr, hbq⟩; have HP := Lib.hid hp; have HPR := Lib.hid hpr; have HR := Lib.hid hrr; have HBQ := Lib.hid hbq; clear hp hpr hrr hbq)
  have hBW : Below W.heap.size W Wq := HB1.out.trans (HBQ.out.mono HB1.out.size)
  refine wpIn_rangeW (Q := _) rfl (by decide) (gf := 95) (lb := #[.pointer (some ⟨p, 0, none⟩), .pointer (some ⟨pr, 0, none⟩)]) rfl trivial (enters_of Tryz.func95 (by kernel_rfl) rfl)
    (from1_seq Wq (fun _ => False) _ p pr r HP.out HPR.out HR.out) (fun j hj => hj.elim) (Below.refl _ _) (fun _ => rfl)
    (fun pre O W' => (∀ j, ¬ O j) ∧ ButS W W' (fun _ => False)) (fun _ _ _ _ => False) (fun _ _ _ _ => False)
    ?hI ?hIx ?hA ?hlow (fun _ => False) (fun j hj => hj.elim) ⟨fun j h => h, ButS.of_below hBW (Nat.le_refl _)⟩ ?assign ?body ?done ?stop
  case hI =>
    rintro pre O W1 W' R ⟨h1, h2⟩ hw hR
    exact ⟨h1, h2.then hw (fun j hj => .inr (Nat.le_trans hBW.size (hR j hj).2))⟩
  case hIx => rintro c pre O W1 W' R h _ _; exact h
  case hA => rintro a' s O W1 W' R h _ _; exact h
  case hlow => rintro pre O W1 _ j _ h; exact h
  case assign =>
    rintro L pre x O W1 _ h
    exact h.elim
  case body =>
    rintro L pre x O a1 W1 h
    exact h.elim
  case stop =>
    rintro D c pre O W1 hD hnD hpre h hK
    exact h.elim
  case done =>
    rintro D ys O W1 hD hnD rfl ⟨h1, h2⟩ hK
    have hDl := (Array.getElem?_eq_some_iff.1 hK).1
    gi_wp2
    refine ⟨by simp, .inl ⟨_, _, rfl, run_takeDeferred hK, ?_⟩⟩
    refine ⟨_, results_none rfl _ _ _, ⟨_, rfl⟩, .inl ⟨[], fun _ => False, rfl, HJ.out _ _ _ _ _ H0.out (h2.then (but_put W1 D (.deferred none)) (fun j e => .inr ?_)) (fun j hj => hj.elim)⟩⟩
    have e2 : j = D := e
    have := hBW.size
    omega
end Go.Proofs.YtlinoambdlkfjaaGreat
