
/- The law's own function 'all' of a nil set: nothing; the text walked. -/
import Derived.Test.YtlinoambdlkfjaaGreatRoR
namespace Go.Proofs.YtlinoambdlkfjaaGreat
open Go.RowKit Go.Shelf
attribute [local go_sem] Oper.semAt_some
attribute [local simp] wide_fn
theorem all_any (w : World) : Calls Tryz.prog 40 #[.pointer none] w fun e w' => e = .returned (.func (.func 56) #[] #[.pointer (some ⟨w.heap.size, 0, none⟩)]) ∧ w' = w.alloc (.cells #[.pointer none] 24) := by
  go_enter Tryz.func40, Tryz.ntmps40
  go_wp2
  go_ret
  exact ⟨rfl, rfl⟩
set_option maxRecDepth 100000 in
set_option maxHeartbeats 4000000 in
theorem law_all_nil (w : World) (most : Int) : Calls Tryz.prog 17 #[.pointer none, .int .i64 most] w fun e w' => e = .returned (.slice none 0 0) ∧ Below w.heap.size w w' := by
  refine (callsIn_wide (n := 9)).1 ?_
  refine callsIn_of_wp_marks Tryz.func17 rfl trivial ?_ rfl
  simp only [Tryz.ntmps17, List.size_toArray, List.length_cons, List.length_nil, Nat.reduceAdd, Nat.reduceSub, Array.replicate_succ, Array.replicate_zero, List.push_toArray, List.append_toArray, List.nil_append, List.cons_append]
  gi_wp2_with (gi_at_call 40; refine (callsIn_wide.2 (all_any _)).mono ?_; rintro e w' ⟨rfl, rfl⟩)
  have hb3 := bel_al (bel_al (bel_al (Below.refl _ w) (Nat.le_refl _) (.cells #[.int .i64 most] 3)) (Nat.le_refl _) (.cells #[.slice none 0 0] 34)) (Nat.le_refl _) (.cells #[.pointer none] 24)
  have t2 := al_keep (alloc_top (w.alloc (.cells #[.int .i64 most] 3)) (.cells #[.slice none 0 0] 34)) (.cells #[.pointer none] 24)
  have t3 := alloc_top ((w.alloc (.cells #[.int .i64 most] 3)).alloc (.cells #[.slice none 0 0] 34)) (.cells #[.pointer none] 24)
  have hz : (((w.alloc (.cells #[.int .i64 most] 3)).alloc (.cells #[.slice none 0 0] 34)).alloc (.cells #[.pointer none] 24)).heap.size = w.heap.size + 1 + 1 + 1 := by simp
  simp only [World.size_alloc] at t2 t3
  generalize hW0 : ((w.alloc (.cells #[.int .i64 most] 3)).alloc (.cells #[.slice none 0 0] 34)).alloc (.cells #[.pointer none] 24) = W0 at *
  clear hW0
  refine wpIn_rangeW (Q := _) rfl (by decide) (gf := 56) (lb := #[.pointer (some ⟨w.heap.size + 1 + 1, 0, none⟩)]) rfl trivial (enters_of Tryz.func56 (by kernel_rfl) rfl)
    (all1_seq W0 (fun _ => False) _ (w.heap.size + 1 + 1) t3) (fun j hj => hj.elim) (Below.refl _ _) (fun _ => rfl)
    (fun pre O W' => (∀ j, ¬ O j) ∧ ButS W0 W' (fun _ => False)) (fun _ _ _ _ => False) (fun _ _ _ _ => False)
    ?hI ?hIx ?hA ?hlow (fun _ => False) (fun j hj => hj.elim) ⟨fun j h => h, ButS.refl _ _⟩ ?assign ?body ?done ?stop
  case hI =>
    rintro pre O W1 W' R ⟨h1, h2⟩ hw hR
    exact ⟨h1, h2.then hw (fun j hj => .inr (hR j hj).2)⟩
  case hIx => rintro c pre O W1 W' R h _ _; exact h
  case hA => rintro a' s O W1 W' R h _ _; exact h
  case hlow => rintro pre O W1 _ j _ h; exact h
  case assign =>
    rintro L pre x O W1 _ h
    exact h.elim
  case body =>
    rintro L pre x O a1 W1 h
    exact h.elim
  case stop =>
    rintro D c pre O W1 hD hnD hpre h hK
    exact h.elim
  case done =>
    rintro D ys O W1 hD hnD rfl ⟨h1, h2⟩ hK
    have q2 := (h2.block _ (row_lt t2) (fun h => h)).trans t2
    have z1 : W1.cell? ⟨w.heap.size + 1, 0, none⟩ = some (.slice none 0 0) := cell_of_row _ _ 0 _ _ (0, 0) q2
    have hDl := (Array.getElem?_eq_some_iff.1 hK).1
    gi_wp2
    refine ⟨by simp, .inl ⟨_, _, rfl, run_takeDeferred hK, ?_⟩⟩
    refine ⟨_, results_tmp rfl _ _ _, rfl, ?_⟩
    have hb : ButS w (W1.putObj D (.deferred none)) (fun _ => False) := ((ButS.of_below (S := fun _ => False) hb3 (Nat.le_refl _)).trans h2).then (but_put W1 D (.deferred none)) (fun j e => .inr (by have e2 : j = D := e; omega))
    exact hb.below (Nat.le_refl _) (fun j h => h.elim)
end Go.Proofs.YtlinoambdlkfjaaGreat
