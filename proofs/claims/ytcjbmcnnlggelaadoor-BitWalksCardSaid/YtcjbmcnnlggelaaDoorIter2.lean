/- What the law's own function 'walk' collects of a word's bits, rising or falling: the first ones of its list. -/
import Derived.Test.YtcjbmcnnlggelaaDoorIter
import Derived.Outline
namespace Go.Proofs.YtcjbmcnnlggelaaDoor
open Go.RowKit Go.Shelf
attribute [local go_sem] Oper.semAt_some

abbrev ivs (xs : List Int) : List Value := xs.map (Value.int .i64)

theorem eq_test (a m : Nat) : ((a : Int) + 1 == (m : Int)) = decide (a + 1 = m) := by
  rw [Bool.eq_iff_iff]; simp; omega
theorem other_cell (w1 : World) (k : Nat) (u v : Value) (h : (w1.setCell ⟨k + 1, 0, none⟩ u).cell? ⟨k, 0, none⟩ = some v) : w1.cell? ⟨k, 0, none⟩ = some v := by
  rwa [World.cell?_setCell_other _ _ _ _ (by simp)] at h
set_option maxRecDepth 100000 in
set_option maxHeartbeats 2000000 in
theorem walk_up (x : Nat) (hx : x < 18446744073709551616) (m : Nat) (hm : 0 < m) (hm2 : m ≤ 100) (w : World) (hT : Tab w) :
    Calls Tryd.prog 33 #[.int .u64 (x : Int), .bool true, .int .i64 (m : Int)] w fun e w' => ∃ v, e = .returned v ∧ w'.ownsRow (w.heap.size + 1) 3 1 v ((M.bz x).take m).length (ivs ((M.bz x).take m)) ∧ Below w.heap.size w w' := by
  refine (callsIn_wide (n := 5)).1 ?_
  obtain ⟨i0, hi, hz0, hz1, hz2⟩ := info_parts int_info
  refine callsIn_of_wp_marks Tryd.func33 rfl trivial ?_ rfl
  simp only [Tryd.ntmps33, List.size_toArray, List.length_cons, List.length_nil, Nat.reduceAdd, Nat.reduceSub, Array.replicate_succ, Array.replicate_zero, List.push_toArray, List.append_toArray, List.nil_append, List.cons_append]
  gi_wp2_with (first
    | (refine ⟨trivial, ?_⟩; gi_at_call 45; refine (callsIn_wide.2 (falling_any x _)).mono ?_; rintro e w' ⟨rfl, rfl⟩)
    | (refine ⟨trivial, ?_⟩; gi_at_call 46; refine (callsIn_wide.2 (rising_any x _)).mono ?_; rintro e w' ⟨rfl, rfl⟩))
  have hb1 : Below w.heap.size w (w.alloc (.cells #[.int .i64 (m : Int)] 3)) := (Below.refl _ w).alloc (Nat.le_refl _) _
  have hcm : (w.alloc (.cells #[.int .i64 (m : Int)] 3)).cell? ⟨w.heap.size, 0, none⟩ = some (.int .i64 (m : Int)) := by simp
  have bO := Boxed.new (w.alloc (.cells #[.int .i64 (m : Int)] 3)) 24 (.slice none 0 0)
  rw [World.size_alloc] at bO
  have hB0 : Below (w.heap.size + 1) (w.alloc (.cells #[.int .i64 (m : Int)] 3)) ((((w.alloc (.cells #[.int .i64 (m : Int)] 3)).alloc (.cells #[.slice none 0 0] 24)).alloc (.cells #[.int .u64 (x : Int)] 22)).alloc (.cells #[.int .u64 (x : Int)] 22)) :=
    ((((Below.refl _ _).alloc (by simp) _).alloc (by simp) _).alloc (by simp) _)
  have hTl := hT.below (hb1.trans (hB0.mono (by omega))) hT.pos
  have hpos := hT.pos
  have bR := Boxed.new (((w.alloc (.cells #[.int .i64 (m : Int)] 3)).alloc (.cells #[.slice none 0 0] 24)).alloc (.cells #[.int .u64 (x : Int)] 22)) 22 (.int .u64 (x : Int))
  rw [World.size_alloc, World.size_alloc, World.size_alloc] at bR
  refine wpIn_rangeFunc_ownG rfl (by decide) (gf := 48) (lb := #[.pointer (some ⟨w.heap.size + 1 + 1 + 1, 0, none⟩)]) rfl trivial (enters_of Tryd.func48 (by kernel_rfl) rfl)
    (rising_stops (5 - 1) (by decide) (w.heap.size + 1 + 1 + 1) (w.heap.size + 1) (by omega) x hx _ (by simp) hTl bR.cell) belowK_t (belowK_b (by simp)) (Below.refl _ _) (fun _ => rfl)
    (fun pre W => (∃ v, Boxed W (w.heap.size + 1) 24 v ∧ W.ownsRow (w.heap.size + 1) 3 1 v pre.length (ivs pre) ∧ pre.length < m) ∧ Below (w.heap.size + 1) (w.alloc (.cells #[.int .i64 (m : Int)] 3)) W)
    (fun c pre W => (∃ v, Boxed W (w.heap.size + 1) 24 v ∧ W.ownsRow (w.heap.size + 1) 3 1 v pre.length (ivs pre) ∧ (pre.length = m ∧ c = .exit 0)) ∧ Below (w.heap.size + 1) (w.alloc (.cells #[.int .i64 (m : Int)] 3)) W)
    (OwnFrom.and (Own.from (holdsRow_own (w.heap.size + 1) (w.heap.size + 1) 24 3 1 (fun pre => pre.length) (fun pre => ivs pre) (fun pre _ => pre.length < m)) _) (ownFrom_below (by simp) (by simp)))
    (fun c => OwnFrom.and (Own.from (holdsRow_own (w.heap.size + 1) (w.heap.size + 1) 24 3 1 (fun pre => pre.length) (fun pre => ivs pre) (fun pre _ => pre.length = m ∧ c = .exit 0)) _) (ownFrom_below (by simp) (by simp)))
    ⟨⟨_, (bO.alloc _).alloc _, World.ownsRow_nil _ _ _ _, hm⟩, hB0⟩
    (fun y => { tmps := #[.int .u64 (x : Int), .bool true, .int .i64 (m : Int), undef, undef, .pointer (some ⟨w.heap.size, 0, none⟩), .slice none 0 0, .pointer (some ⟨w.heap.size + 1, 0, none⟩), .func (.func 48) #[] #[.pointer (some ⟨w.heap.size + 1 + 1 + 1, 0, none⟩)], .int .i64 y, .int .u64 (x : Int), .func (.func 47) #[] #[.pointer (some ⟨w.heap.size + 1 + 1, 0, none⟩)], .bool true, .int .u64 (x : Int), .func (.func 48) #[] #[.pointer (some ⟨w.heap.size + 1 + 1 + 1, 0, none⟩)], .func (.func 48) #[] #[.pointer (some ⟨w.heap.size + 1 + 1 + 1, 0, none⟩)], .int .i64 y, undef, undef, undef, undef, undef, undef, undef, undef, undef], defers := [] }) ?assign ?body ?done ?stop
  case assign =>
    intro l y W K hK
    gi_wp2
    exact hK
  case body =>
    rintro l pre y W ⟨⟨v, hv, hrow, hlt⟩, hB⟩ _
    have hc := hv.cell
    have hmc : W.cell? ⟨w.heap.size, 0, none⟩ = some (.int .i64 (m : Int)) := (hB.cell (p := ⟨w.heap.size, 0, none⟩) (by show w.heap.size < w.heap.size + 1; omega)).trans hcm
    by_cases he : pre.length + 1 = m
    all_goals
      gi_wp2_with (gi_at_builtin; refine wpListIn_append_own _ rfl _ _ 24 rfl (w.heap.size + 1) 3 i0 (.int .i64 0) 1 8 Tryd.underlying24 hi hz0 hz1 hz2 rfl (by decide) _ _ _ rfl (hrow.alloc _) ⟨W.heap.size, 0, none⟩ 1 1 [.int .i64 y] rfl rfl (cell_one_new _ _ _) (by simp [Value.oneCell']) (by unfold maxLen; omega) (by omega) (by have := hB.size; simp at *; omega) ?_; intro v' w1 hown' hgrow _; obtain ⟨g', cap', rfl⟩ := ownsRow_succ hown'; obtain ⟨hv1, hv2, hr2, hk2, hb2⟩ := hv.appended (by decide) hrow (by have := hB.size; simp at *; omega) (Nat.le_refl _) hown' hgrow; have hc1 := hv1.cell; have hf1 := hv1.frozen; have hc2 := hv2.cell; have hmc2 := (hb2.cell (p := ⟨w.heap.size, 0, none⟩) (by show w.heap.size < w.heap.size + 1; omega)).trans hmc; have hm1 := other_cell _ _ _ _ hmc2; have eqb : ((pre.length : Int) + 1 == (m : Int)) = decide (pre.length + 1 = m) := eq_test _ _)
    · rw [he] at hk2 hv2 hb2 hr2
      exact ⟨hk2.from _, ⟨_, hv2, by simpa [ivs, he] using hr2, by simpa using he, rfl⟩, hB.trans hb2⟩
    · exact ⟨hk2.from _, hb2, ⟨_, hv2, by simpa [ivs] using hr2, by simp; omega⟩, hB.trans hb2⟩
  case done =>
    rintro D ys W hD rfl ⟨⟨v, hv, hrow, hlt⟩, hB⟩ hK
    have hc := hv.cell
    have e : (M.bz x).take m = M.bz x := List.take_of_length_le (by omega)
    gi_wp2
    refine ⟨by simp, .inl ⟨_, _, rfl, run_takeDeferred hK, ?_⟩⟩
    exact ⟨_, results_tmp rfl _ _ _, v, rfl, by rw [e]; exact ownsRow_putObj hrow _ hK rfl, (hb1.trans (hB.mono (by omega))).trans (belowK_b (w := w) (Nat.le_refl _) W D _ _ (by simp at hD; omega) hK rfl rfl)⟩
  case stop =>
    rintro D c pre W hD hpre ⟨⟨v, hv, hrow, hlen, rfl⟩, hB⟩ hK
    have hc := hv.cell
    have e : (M.bz x).take m = pre := by rw [← hlen]; exact (List.prefix_iff_eq_take.1 hpre).symm
    gi_wp2
    refine ⟨by simp, .inl ⟨_, _, rfl, run_takeDeferred hK, ?_⟩⟩
    exact ⟨_, results_tmp rfl _ _ _, v, rfl, by rw [e]; exact ownsRow_putObj hrow _ hK rfl, (hb1.trans (hB.mono (by omega))).trans (belowK_b (w := w) (Nat.le_refl _) W D _ _ (by simp at hD; omega) hK rfl rfl)⟩
set_option maxRecDepth 100000 in
set_option maxHeartbeats 2000000 in
theorem walk_down (x : Nat) (hx : x < 18446744073709551616) (m : Nat) (hm : 0 < m) (hm2 : m ≤ 100) (w : World) (hT : Tab w) :
    Calls Tryd.prog 33 #[.int .u64 (x : Int), .bool false, .int .i64 (m : Int)] w fun e w' => ∃ v, e = .returned v ∧ w'.ownsRow (w.heap.size + 1) 3 1 v ((M.bz x).reverse.take m).length (ivs ((M.bz x).reverse.take m)) ∧ Below w.heap.size w w' := by
  refine (callsIn_wide (n := 5)).1 ?_
  obtain ⟨i0, hi, hz0, hz1, hz2⟩ := info_parts int_info
  refine callsIn_of_wp_marks Tryd.func33 rfl trivial ?_ rfl
  simp only [Tryd.ntmps33, List.size_toArray, List.length_cons, List.length_nil, Nat.reduceAdd, Nat.reduceSub, Array.replicate_succ, Array.replicate_zero, List.push_toArray, List.append_toArray, List.nil_append, List.cons_append]
  gi_wp2_with (refine ⟨trivial, ?_⟩; gi_at_call 45; refine (callsIn_wide.2 (falling_any x _)).mono ?_; rintro e w' ⟨rfl, rfl⟩)
  have hb1 : Below w.heap.size w (w.alloc (.cells #[.int .i64 (m : Int)] 3)) := (Below.refl _ w).alloc (Nat.le_refl _) _
  have hcm : (w.alloc (.cells #[.int .i64 (m : Int)] 3)).cell? ⟨w.heap.size, 0, none⟩ = some (.int .i64 (m : Int)) := by simp
  have bO := Boxed.new (w.alloc (.cells #[.int .i64 (m : Int)] 3)) 24 (.slice none 0 0)
  rw [World.size_alloc] at bO
  have hB0 : Below (w.heap.size + 1) (w.alloc (.cells #[.int .i64 (m : Int)] 3)) (((w.alloc (.cells #[.int .i64 (m : Int)] 3)).alloc (.cells #[.slice none 0 0] 24)).alloc (.cells #[.int .u64 (x : Int)] 22)) :=
    (((Below.refl _ _).alloc (by simp) _).alloc (by simp) _)
  have hTl := hT.below (hb1.trans (hB0.mono (by omega))) hT.pos
  have hpos := hT.pos
  have bR := Boxed.new ((w.alloc (.cells #[.int .i64 (m : Int)] 3)).alloc (.cells #[.slice none 0 0] 24)) 22 (.int .u64 (x : Int))
  rw [World.size_alloc, World.size_alloc] at bR
  refine wpIn_rangeFunc_ownG rfl (by decide) (gf := 47) (lb := #[.pointer (some ⟨w.heap.size + 1 + 1, 0, none⟩)]) rfl trivial (enters_of Tryd.func47 (by kernel_rfl) rfl)
    (falling_stops (5 - 1) (by decide) (w.heap.size + 1 + 1) (w.heap.size + 1) (by omega) x hx _ (by simp) hTl bR.cell) belowK_t (belowK_b (by simp)) (Below.refl _ _) (fun _ => rfl)
    (fun pre W => (∃ v, Boxed W (w.heap.size + 1) 24 v ∧ W.ownsRow (w.heap.size + 1) 3 1 v pre.length (ivs pre) ∧ pre.length < m) ∧ Below (w.heap.size + 1) (w.alloc (.cells #[.int .i64 (m : Int)] 3)) W)
    (fun c pre W => (∃ v, Boxed W (w.heap.size + 1) 24 v ∧ W.ownsRow (w.heap.size + 1) 3 1 v pre.length (ivs pre) ∧ (pre.length = m ∧ c = .exit 0)) ∧ Below (w.heap.size + 1) (w.alloc (.cells #[.int .i64 (m : Int)] 3)) W)
    (OwnFrom.and (Own.from (holdsRow_own (w.heap.size + 1) (w.heap.size + 1) 24 3 1 (fun pre => pre.length) (fun pre => ivs pre) (fun pre _ => pre.length < m)) _) (ownFrom_below (by simp) (by simp)))
    (fun c => OwnFrom.and (Own.from (holdsRow_own (w.heap.size + 1) (w.heap.size + 1) 24 3 1 (fun pre => pre.length) (fun pre => ivs pre) (fun pre _ => pre.length = m ∧ c = .exit 0)) _) (ownFrom_below (by simp) (by simp)))
    ⟨⟨_, bO.alloc _, World.ownsRow_nil _ _ _ _, hm⟩, hB0⟩
    (fun y => { tmps := #[.int .u64 (x : Int), .bool false, .int .i64 (m : Int), undef, undef, .pointer (some ⟨w.heap.size, 0, none⟩), .slice none 0 0, .pointer (some ⟨w.heap.size + 1, 0, none⟩), .func (.func 47) #[] #[.pointer (some ⟨w.heap.size + 1 + 1, 0, none⟩)], .int .i64 y, .int .u64 (x : Int), .func (.func 47) #[] #[.pointer (some ⟨w.heap.size + 1 + 1, 0, none⟩)], .bool false, undef, undef, .func (.func 47) #[] #[.pointer (some ⟨w.heap.size + 1 + 1, 0, none⟩)], .int .i64 y, undef, undef, undef, undef, undef, undef, undef, undef, undef], defers := [] }) ?assign ?body ?done ?stop
  case assign =>
    intro l y W K hK
    gi_wp2
    exact hK
  case body =>
    rintro l pre y W ⟨⟨v, hv, hrow, hlt⟩, hB⟩ _
    have hc := hv.cell
    have hmc : W.cell? ⟨w.heap.size, 0, none⟩ = some (.int .i64 (m : Int)) := (hB.cell (p := ⟨w.heap.size, 0, none⟩) (by show w.heap.size < w.heap.size + 1; omega)).trans hcm
    by_cases he : pre.length + 1 = m
    all_goals
      gi_wp2_with (gi_at_builtin; refine wpListIn_append_own _ rfl _ _ 24 rfl (w.heap.size + 1) 3 i0 (.int .i64 0) 1 8 Tryd.underlying24 hi hz0 hz1 hz2 rfl (by decide) _ _ _ rfl (hrow.alloc _) ⟨W.heap.size, 0, none⟩ 1 1 [.int .i64 y] rfl rfl (cell_one_new _ _ _) (by simp [Value.oneCell']) (by unfold maxLen; omega) (by omega) (by have := hB.size; simp at *; omega) ?_; intro v' w1 hown' hgrow _; obtain ⟨g', cap', rfl⟩ := ownsRow_succ hown'; obtain ⟨hv1, hv2, hr2, hk2, hb2⟩ := hv.appended (by decide) hrow (by have := hB.size; simp at *; omega) (Nat.le_refl _) hown' hgrow; have hc1 := hv1.cell; have hf1 := hv1.frozen; have hc2 := hv2.cell; have hmc2 := (hb2.cell (p := ⟨w.heap.size, 0, none⟩) (by show w.heap.size < w.heap.size + 1; omega)).trans hmc; have hm1 := other_cell _ _ _ _ hmc2; have eqb : ((pre.length : Int) + 1 == (m : Int)) = decide (pre.length + 1 = m) := eq_test _ _)
    · rw [he] at hk2 hv2 hb2 hr2
      exact ⟨hk2.from _, ⟨_, hv2, by simpa [ivs, he] using hr2, by simpa using he, rfl⟩, hB.trans hb2⟩
    · exact ⟨hk2.from _, hb2, ⟨_, hv2, by simpa [ivs] using hr2, by simp; omega⟩, hB.trans hb2⟩
  case done =>
    rintro D ys W hD rfl ⟨⟨v, hv, hrow, hlt⟩, hB⟩ hK
    have hc := hv.cell
    have e : (M.bz x).reverse.take m = (M.bz x).reverse := List.take_of_length_le (by omega)
    gi_wp2
    refine ⟨by simp, .inl ⟨_, _, rfl, run_takeDeferred hK, ?_⟩⟩
    exact ⟨_, results_tmp rfl _ _ _, v, rfl, by rw [e]; exact ownsRow_putObj hrow _ hK rfl, (hb1.trans (hB.mono (by omega))).trans (belowK_b (w := w) (Nat.le_refl _) W D _ _ (by simp at hD; omega) hK rfl rfl)⟩
  case stop =>
    rintro D c pre W hD hpre ⟨⟨v, hv, hrow, hlen, rfl⟩, hB⟩ hK
    have hc := hv.cell
    have e : (M.bz x).reverse.take m = pre := by rw [← hlen]; exact (List.prefix_iff_eq_take.1 hpre).symm
    gi_wp2
    refine ⟨by simp, .inl ⟨_, _, rfl, run_takeDeferred hK, ?_⟩⟩
    exact ⟨_, results_tmp rfl _ _ _, v, rfl, by rw [e]; exact ownsRow_putObj hrow _ hK rfl, (hb1.trans (hB.mono (by omega))).trans (belowK_b (w := w) (Nat.le_refl _) W D _ _ (by simp at hD; omega) hK rfl rfl)⟩
end Go.Proofs.YtcjbmcnnlggelaaDoor
