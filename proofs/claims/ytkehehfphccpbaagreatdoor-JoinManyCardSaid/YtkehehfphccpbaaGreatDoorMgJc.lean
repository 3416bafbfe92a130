/- The document's Join of two sets, for each of the four ways; the text walked. -/
import Derived.Deep.RegionHeld3
import Derived.Test.YtkehehfphccpbaaGreatDoorMgGb
namespace Go.Proofs.YtkehehfphccpbaaGreatDoor
set_option maxRecDepth 40000
open Go.RowKit Go.Shelf
theorem below_grown_atJ {w w' : World} {B h : Nat} (g : w.grownBy w' (some h)) (hB : B ≤ w.heap.size) (hh : B ≤ h) : Below B w w' :=
  ⟨g.os, g.tape, g.output, g.size, fun k hk => g.block k (by omega) (by intro e; cases e; omega)⟩
def mixB (f : Bool → Bool → Bool) (xs ys cs : List Bool) (j : Nat) : List Bool := List.zipWith f (xs.take j) (ys.take j) ++ cs.drop j
theorem mixB_zero (f : Bool → Bool → Bool) (xs ys cs : List Bool) : mixB f xs ys cs 0 = cs := by simp [mixB]
theorem mixB_all (f : Bool → Bool → Bool) {xs ys cs : List Bool} {j : Nat} (h : xs.length ≤ j) (h2 : ys.length ≤ j) (h3 : cs.length ≤ j) : mixB f xs ys cs j = List.zipWith f xs ys := by
  unfold mixB
  rw [List.take_of_length_le h, List.take_of_length_le h2, List.drop_of_length_le h3, List.append_nil]
theorem mixB_set (f : Bool → Bool → Bool) {xs ys cs : List Bool} {j : Nat} (h : j < xs.length) (h2 : j < ys.length) (h3 : j < cs.length) : (mixB f xs ys cs j).set j (f xs[j] ys[j]) = mixB f xs ys cs (j + 1) := by
  unfold mixB
  have hl : (List.zipWith f (xs.take j) (ys.take j)).length = j := by rw [List.length_zipWith, List.length_take, List.length_take]; omega
  rw [List.set_append, if_neg (by omega), hl, Nat.sub_self, List.drop_eq_getElem_cons h3, List.set_cons_zero, List.take_succ_eq_append_getElem h, List.take_succ_eq_append_getElem h2,
    List.zipWith_append (by rw [List.length_take, List.length_take]; omega), List.append_assoc]
  rfl
set_option maxRecDepth 100000 in
set_option maxHeartbeats 4000000 in
theorem f_join0 (w : World) (ga gb na nb : Nat) (xs ys : List Bool) (ha : Bs w ga na xs) (hb : Bs w gb nb ys) :
    Calls Tryz.prog 11 #[.slice (some ⟨ga, 0, none⟩) na na, .slice (some ⟨gb, 0, none⟩) nb nb, .int .i64 0] w fun e w' => ∃ g n, e = .returned (.slice (some ⟨g, 0, none⟩) n n) ∧ Bs w' g n (List.zipWith (fun a b => a || b) xs ys) ∧ Below w.heap.size w w' ∧ w.heap.size ≤ g := by
  have a1 := ha.top_le
  have a2 := ha.top_ge
  have b1 := hb.top_le
  have b2 := hb.top_ge
  have la := ha.lt
  have lb := hb.lt
  have LA := Lib.hid ha.len
  have LB := Lib.hid hb.len
  have HA := Lib.hid ha
  have HB := Lib.hid hb
  clear ha hb
  go_enter Tryz.func11, Tryz.ntmps11
  go_wp2_with (go_at_call 20; (with_reducible refine (f_new _).mono ?_); rintro e w2 ⟨g, n, rfl, hs, hg, hge⟩; have HS := Lib.hid hs; have HG := Lib.hid (below_grown hg); have n1 := hs.top_le; have n2 := hs.top_ge; clear hs hg)
  obtain ⟨cs, hcs⟩ : ∃ cs, List.replicate n false = cs := ⟨_, rfl⟩
  have hcl : cs.length = n := by rw [← hcs, List.length_replicate]
  rw [hcs] at HS
  have HCL := Lib.hid hcl
  clear hcs hcl
  go_loopw [12] (fun i wr => ∃ j : Nat, j ≤ n ∧ i = .int .i64 (j : Int) ∧ Hid (Bs wr g n (mixB (fun a b => a || b) xs ys cs j) ∧ Below w.heap.size w wr)) (fun i _ => n - (intOf i).toNat)
  case atStart => exact ⟨0, by omega, rfl, by rw [mixB_zero]; exact HS.out, HG.out⟩
  case round =>
    obtain ⟨j, hj, rfl, HJ⟩ := hrel
    clear HS
    obtain ⟨wi, hwi⟩ : ∃ wi, wi = wr := ⟨_, rfl⟩
    subst hwi
    by_cases hlt : j < n
    · have hj1 : j < xs.length := by rw [LA.out]; omega
      have hj2 : j < ys.length := by rw [LB.out]; omega
      have hj3 : j < cs.length := by rw [HCL.out]; omega
      have hca : wi.cell? ⟨ga, j, none⟩ = some (.bool xs[j]) := (HJ.out.2.cell (p := ⟨ga, j, none⟩) la).trans (HA.out.cell j (by omega))
      have hcb : wi.cell? ⟨gb, j, none⟩ = some (.bool ys[j]) := (HJ.out.2.cell (p := ⟨gb, j, none⟩) lb).trans (HB.out.cell j (by omega))
      have hcg : wi.cell? ⟨g, j, none⟩ = some (.bool _) := HJ.out.1.cell j hlt
      have hfz := HJ.out.1.frozen j
      have hset := Lib.hid (mixB_set (fun a b => a || b) hj1 hj2 hj3)
      have hja : j < na := by omega
      have hjb : j < nb := by omega
      have nga : g ≠ ga := by omega
      have ngb : g ≠ gb := by omega
      have nga' : ga ≠ g := by omega
      have ngb' : gb ≠ g := by omega
      have hst : ∀ v, Hid (Bs (wi.setCell ⟨g, j, none⟩ (.bool v)) g n ((mixB (fun a b => a || b) xs ys cs j).set j v) ∧ Below w.heap.size w (wi.setCell ⟨g, j, none⟩ (.bool v))) := fun v => ⟨HJ.out.1.store j v, HJ.out.2.trans (below_grown_atJ (set_grown wi g j _) HJ.out.2.size hge)⟩
      generalize (mixB (fun a b => a || b) xs ys cs j)[j]'(by have := HJ.out.1.len; omega) = old at *
      generalize xs[j] = x at *
      generalize ys[j] = y at *
      clear hj1 hj2 hj3
      cases x <;> cases y
      all_goals
        go_wp2
        go_roundw
        case rel =>
          refine ⟨j + 1, by omega, by go_num, ?_⟩
          rw [← hset.out]
          exact (hst _).out
        case measure => simp [intOf]; omega
    · obtain rfl : j = n := by omega
      have hend : Hid (mixB (fun a b => a || b) xs ys cs j = List.zipWith (fun a b => a || b) xs ys) := mixB_all _ (by rw [LA.out]; omega) (by rw [LB.out]; omega) (by rw [HCL.out]; exact Nat.le_refl _)
      rw [hend.out] at HJ
      go_wp2
      go_ret
      exact ⟨g, j, rfl, HJ.out.1, HJ.out.2, hge⟩
set_option maxRecDepth 100000 in
set_option maxHeartbeats 4000000 in
theorem f_join1 (w : World) (ga gb na nb : Nat) (xs ys : List Bool) (ha : Bs w ga na xs) (hb : Bs w gb nb ys) :
    Calls Tryz.prog 11 #[.slice (some ⟨ga, 0, none⟩) na na, .slice (some ⟨gb, 0, none⟩) nb nb, .int .i64 1] w fun e w' => ∃ g n, e = .returned (.slice (some ⟨g, 0, none⟩) n n) ∧ Bs w' g n (List.zipWith (fun a b => a && b) xs ys) ∧ Below w.heap.size w w' ∧ w.heap.size ≤ g := by
  have a1 := ha.top_le
  have a2 := ha.top_ge
  have b1 := hb.top_le
  have b2 := hb.top_ge
  have la := ha.lt
  have lb := hb.lt
  have LA := Lib.hid ha.len
  have LB := Lib.hid hb.len
  have HA := Lib.hid ha
  have HB := Lib.hid hb
  clear ha hb
  go_enter Tryz.func11, Tryz.ntmps11
  go_wp2_with (go_at_call 20; (with_reducible refine (f_new _).mono ?_); rintro e w2 ⟨g, n, rfl, hs, hg, hge⟩; have HS := Lib.hid hs; have HG := Lib.hid (below_grown hg); have n1 := hs.top_le; have n2 := hs.top_ge; clear hs hg)
  obtain ⟨cs, hcs⟩ : ∃ cs, List.replicate n false = cs := ⟨_, rfl⟩
  have hcl : cs.length = n := by rw [← hcs, List.length_replicate]
  rw [hcs] at HS
  have HCL := Lib.hid hcl
  clear hcs hcl
  go_loopw [12] (fun i wr => ∃ j : Nat, j ≤ n ∧ i = .int .i64 (j : Int) ∧ Hid (Bs wr g n (mixB (fun a b => a && b) xs ys cs j) ∧ Below w.heap.size w wr)) (fun i _ => n - (intOf i).toNat)
  case atStart => exact ⟨0, by omega, rfl, by rw [mixB_zero]; exact HS.out, HG.out⟩
  case round =>
    obtain ⟨j, hj, rfl, HJ⟩ := hrel
    clear HS
    obtain ⟨wi, hwi⟩ : ∃ wi, wi = wr := ⟨_, rfl⟩
    subst hwi
    by_cases hlt : j < n
    · have hj1 : j < xs.length := by rw [LA.out]; omega
      have hj2 : j < ys.length := by rw [LB.out]; omega
      have hj3 : j < cs.length := by rw [HCL.out]; omega
      have hca : wi.cell? ⟨ga, j, none⟩ = some (.bool xs[j]) := (HJ.out.2.cell (p := ⟨ga, j, none⟩) la).trans (HA.out.cell j (by omega))
      have hcb : wi.cell? ⟨gb, j, none⟩ = some (.bool ys[j]) := (HJ.out.2.cell (p := ⟨gb, j, none⟩) lb).trans (HB.out.cell j (by omega))
      have hcg : wi.cell? ⟨g, j, none⟩ = some (.bool _) := HJ.out.1.cell j hlt
      have hfz := HJ.out.1.frozen j
      have hset := Lib.hid (mixB_set (fun a b => a && b) hj1 hj2 hj3)
      have hja : j < na := by omega
      have hjb : j < nb := by omega
      have nga : g ≠ ga := by omega
      have ngb : g ≠ gb := by omega
      have nga' : ga ≠ g := by omega
      have ngb' : gb ≠ g := by omega
      have hst : ∀ v, Hid (Bs (wi.setCell ⟨g, j, none⟩ (.bool v)) g n ((mixB (fun a b => a && b) xs ys cs j).set j v) ∧ Below w.heap.size w (wi.setCell ⟨g, j, none⟩ (.bool v))) := fun v => ⟨HJ.out.1.store j v, HJ.out.2.trans (below_grown_atJ (set_grown wi g j _) HJ.out.2.size hge)⟩
      generalize (mixB (fun a b => a && b) xs ys cs j)[j]'(by have := HJ.out.1.len; omega) = old at *
      generalize xs[j] = x at *
      generalize ys[j] = y at *
      clear hj1 hj2 hj3
      cases x <;> cases y
      all_goals
        go_wp2
        go_roundw
        case rel =>
          refine ⟨j + 1, by omega, by go_num, ?_⟩
          rw [← hset.out]
          exact (hst _).out
        case measure => simp [intOf]; omega
    · obtain rfl : j = n := by omega
      have hend : Hid (mixB (fun a b => a && b) xs ys cs j = List.zipWith (fun a b => a && b) xs ys) := mixB_all _ (by rw [LA.out]; omega) (by rw [LB.out]; omega) (by rw [HCL.out]; exact Nat.le_refl _)
      rw [hend.out] at HJ
      go_wp2
      go_ret
      exact ⟨g, j, rfl, HJ.out.1, HJ.out.2, hge⟩
set_option maxRecDepth 100000 in
set_option maxHeartbeats 4000000 in
theorem f_join2 (w : World) (ga gb na nb : Nat) (xs ys : List Bool) (ha : Bs w ga na xs) (hb : Bs w gb nb ys) :
    Calls Tryz.prog 11 #[.slice (some ⟨ga, 0, none⟩) na na, .slice (some ⟨gb, 0, none⟩) nb nb, .int .i64 2] w fun e w' => ∃ g n, e = .returned (.slice (some ⟨g, 0, none⟩) n n) ∧ Bs w' g n (List.zipWith (fun a b => a && !b) xs ys) ∧ Below w.heap.size w w' ∧ w.heap.size ≤ g := by
  have a1 := ha.top_le
  have a2 := ha.top_ge
  have b1 := hb.top_le
  have b2 := hb.top_ge
  have la := ha.lt
  have lb := hb.lt
  have LA := Lib.hid ha.len
  have LB := Lib.hid hb.len
  have HA := Lib.hid ha
  have HB := Lib.hid hb
  clear ha hb
  go_enter Tryz.func11, Tryz.ntmps11
  go_wp2_with (go_at_call 20; (with_reducible refine (f_new _).mono ?_); rintro e w2 ⟨g, n, rfl, hs, hg, hge⟩; have HS := Lib.hid hs; have HG := Lib.hid (below_grown hg); have n1 := hs.top_le; have n2 := hs.top_ge; clear hs hg)
  obtain ⟨cs, hcs⟩ : ∃ cs, List.replicate n false = cs := ⟨_, rfl⟩
  have hcl : cs.length = n := by rw [← hcs, List.length_replicate]
  rw [hcs] at HS
  have HCL := Lib.hid hcl
  clear hcs hcl
  go_loopw [12] (fun i wr => ∃ j : Nat, j ≤ n ∧ i = .int .i64 (j : Int) ∧ Hid (Bs wr g n (mixB (fun a b => a && !b) xs ys cs j) ∧ Below w.heap.size w wr)) (fun i _ => n - (intOf i).toNat)
  case atStart => exact ⟨0, by omega, rfl, by rw [mixB_zero]; exact HS.out, HG.out⟩
  case round =>
    obtain ⟨j, hj, rfl, HJ⟩ := hrel
    clear HS
    obtain ⟨wi, hwi⟩ : ∃ wi, wi = wr := ⟨_, rfl⟩
    subst hwi
    by_cases hlt : j < n
    · have hj1 : j < xs.length := by rw [LA.out]; omega
      have hj2 : j < ys.length := by rw [LB.out]; omega
      have hj3 : j < cs.length := by rw [HCL.out]; omega
      have hca : wi.cell? ⟨ga, j, none⟩ = some (.bool xs[j]) := (HJ.out.2.cell (p := ⟨ga, j, none⟩) la).trans (HA.out.cell j (by omega))
      have hcb : wi.cell? ⟨gb, j, none⟩ = some (.bool ys[j]) := (HJ.out.2.cell (p := ⟨gb, j, none⟩) lb).trans (HB.out.cell j (by omega))
      have hcg : wi.cell? ⟨g, j, none⟩ = some (.bool _) := HJ.out.1.cell j hlt
      have hfz := HJ.out.1.frozen j
      have hset := Lib.hid (mixB_set (fun a b => a && !b) hj1 hj2 hj3)
      have hja : j < na := by omega
      have hjb : j < nb := by omega
      have nga : g ≠ ga := by omega
      have ngb : g ≠ gb := by omega
      have nga' : ga ≠ g := by omega
      have ngb' : gb ≠ g := by omega
      have hst : ∀ v, Hid (Bs (wi.setCell ⟨g, j, none⟩ (.bool v)) g n ((mixB (fun a b => a && !b) xs ys cs j).set j v) ∧ Below w.heap.size w (wi.setCell ⟨g, j, none⟩ (.bool v))) := fun v => ⟨HJ.out.1.store j v, HJ.out.2.trans (below_grown_atJ (set_grown wi g j _) HJ.out.2.size hge)⟩
      generalize (mixB (fun a b => a && !b) xs ys cs j)[j]'(by have := HJ.out.1.len; omega) = old at *
      generalize xs[j] = x at *
      generalize ys[j] = y at *
      clear hj1 hj2 hj3
      cases x <;> cases y
      all_goals
        go_wp2
        go_roundw
        case rel =>
          refine ⟨j + 1, by omega, by go_num, ?_⟩
          rw [← hset.out]
          exact (hst _).out
        case measure => simp [intOf]; omega
    · obtain rfl : j = n := by omega
      have hend : Hid (mixB (fun a b => a && !b) xs ys cs j = List.zipWith (fun a b => a && !b) xs ys) := mixB_all _ (by rw [LA.out]; omega) (by rw [LB.out]; omega) (by rw [HCL.out]; exact Nat.le_refl _)
      rw [hend.out] at HJ
      go_wp2
      go_ret
      exact ⟨g, j, rfl, HJ.out.1, HJ.out.2, hge⟩
set_option maxRecDepth 100000 in
set_option maxHeartbeats 4000000 in
theorem f_join3 (w : World) (ga gb na nb : Nat) (xs ys : List Bool) (ha : Bs w ga na xs) (hb : Bs w gb nb ys) :
    Calls Tryz.prog 11 #[.slice (some ⟨ga, 0, none⟩) na na, .slice (some ⟨gb, 0, none⟩) nb nb, .int .i64 3] w fun e w' => ∃ g n, e = .returned (.slice (some ⟨g, 0, none⟩) n n) ∧ Bs w' g n (List.zipWith (fun a b => a != b) xs ys) ∧ Below w.heap.size w w' ∧ w.heap.size ≤ g := by
  have a1 := ha.top_le
  have a2 := ha.top_ge
  have b1 := hb.top_le
  have b2 := hb.top_ge
  have la := ha.lt
  have lb := hb.lt
  have LA := Lib.hid ha.len
  have LB := Lib.hid hb.len
  have HA := Lib.hid ha
  have HB := Lib.hid hb
  clear ha hb
  go_enter Tryz.func11, Tryz.ntmps11
  go_wp2_with (go_at_call 20; (with_reducible refine (f_new _).mono ?_); rintro e w2 ⟨g, n, rfl, hs, hg, hge⟩; have HS := Lib.hid hs; have HG := Lib.hid (below_grown hg); have n1 := hs.top_le; have n2 := hs.top_ge; clear hs hg)
  obtain ⟨cs, hcs⟩ : ∃ cs, List.replicate n false = cs := ⟨_, rfl⟩
  have hcl : cs.length = n := by rw [← hcs, List.length_replicate]
  rw [hcs] at HS
  have HCL := Lib.hid hcl
  clear hcs hcl
  go_loopw [12] (fun i wr => ∃ j : Nat, j ≤ n ∧ i = .int .i64 (j : Int) ∧ Hid (Bs wr g n (mixB (fun a b => a != b) xs ys cs j) ∧ Below w.heap.size w wr)) (fun i _ => n - (intOf i).toNat)
  case atStart => exact ⟨0, by omega, rfl, by rw [mixB_zero]; exact HS.out, HG.out⟩
  case round =>
    obtain ⟨j, hj, rfl, HJ⟩ := hrel
    clear HS
    obtain ⟨wi, hwi⟩ : ∃ wi, wi = wr := ⟨_, rfl⟩
    subst hwi
    by_cases hlt : j < n
    · have hj1 : j < xs.length := by rw [LA.out]; omega
      have hj2 : j < ys.length := by rw [LB.out]; omega
      have hj3 : j < cs.length := by rw [HCL.out]; omega
      have hca : wi.cell? ⟨ga, j, none⟩ = some (.bool xs[j]) := (HJ.out.2.cell (p := ⟨ga, j, none⟩) la).trans (HA.out.cell j (by omega))
      have hcb : wi.cell? ⟨gb, j, none⟩ = some (.bool ys[j]) := (HJ.out.2.cell (p := ⟨gb, j, none⟩) lb).trans (HB.out.cell j (by omega))
      have hcg : wi.cell? ⟨g, j, none⟩ = some (.bool _) := HJ.out.1.cell j hlt
      have hfz := HJ.out.1.frozen j
      have hset := Lib.hid (mixB_set (fun a b => a != b) hj1 hj2 hj3)
      have hja : j < na := by omega
      have hjb : j < nb := by omega
      have nga : g ≠ ga := by omega
      have ngb : g ≠ gb := by omega
      have nga' : ga ≠ g := by omega
      have ngb' : gb ≠ g := by omega
      have hst : ∀ v, Hid (Bs (wi.setCell ⟨g, j, none⟩ (.bool v)) g n ((mixB (fun a b => a != b) xs ys cs j).set j v) ∧ Below w.heap.size w (wi.setCell ⟨g, j, none⟩ (.bool v))) := fun v => ⟨HJ.out.1.store j v, HJ.out.2.trans (below_grown_atJ (set_grown wi g j _) HJ.out.2.size hge)⟩
      generalize (mixB (fun a b => a != b) xs ys cs j)[j]'(by have := HJ.out.1.len; omega) = old at *
      generalize xs[j] = x at *
      generalize ys[j] = y at *
      clear hj1 hj2 hj3
      have hst2 : ∀ v, Hid (Bs (wi.drew.setCell ⟨g, j, none⟩ (.bool v)) g n ((mixB (fun a b => a != b) xs ys cs j).set j v) ∧ Below w.heap.size w (wi.drew.setCell ⟨g, j, none⟩ (.bool v))) := fun v => ⟨(HJ.out.1.drew 1).store j v, (below_drewN HJ.out.2 1).trans (below_grown_atJ (set_grown (wi.drewN 1) g j _) HJ.out.2.size hge)⟩
      cases x with
      | false =>
        cases y with
        | false =>
          go_wp2
          go_region_held3 (fun W => W.cell? ⟨ga, j, none⟩ = some (.bool false) ∧ W.cell? ⟨gb, j, none⟩ = some (.bool false)) (first | exact ⟨hca, hcb⟩ | exact ⟨(World.cell?_setCell_far _ _ _ _ nga).trans hca, (World.cell?_setCell_far _ _ _ _ ngb).trans hcb⟩ | go_keep) (fail)
          go_wp2
          go_roundw
          case rel =>
            refine ⟨j + 1, by omega, by go_num, ?_⟩
            rw [← hset.out]
            exact (hst2 _).out
          case measure => simp [intOf]; omega
        | true =>
          go_wp2
          go_region_held3 (fun W => W.cell? ⟨ga, j, none⟩ = some (.bool false) ∧ W.cell? ⟨gb, j, none⟩ = some (.bool true)) (first | exact ⟨hca, hcb⟩ | exact ⟨(World.cell?_setCell_far _ _ _ _ nga).trans hca, (World.cell?_setCell_far _ _ _ _ ngb).trans hcb⟩ | go_keep) (fail)
          go_wp2
          go_roundw
          case rel =>
            refine ⟨j + 1, by omega, by go_num, ?_⟩
            rw [← hset.out]
            exact (hst2 _).out
          case measure => simp [intOf]; omega
      | true =>
        cases y with
        | false =>
          go_wp2
          go_region_held3 (fun W => W.cell? ⟨ga, j, none⟩ = some (.bool true) ∧ W.cell? ⟨gb, j, none⟩ = some (.bool false)) (first | exact ⟨hca, hcb⟩ | exact ⟨(World.cell?_setCell_far _ _ _ _ nga).trans hca, (World.cell?_setCell_far _ _ _ _ ngb).trans hcb⟩ | go_keep) (fail)
          go_wp2
          go_roundw
          case rel =>
            refine ⟨j + 1, by omega, by go_num, ?_⟩
            rw [← hset.out]
            exact (hst2 _).out
          case measure => simp [intOf]; omega
        | true =>
          go_wp2
          go_region_held3 (fun W => W.cell? ⟨ga, j, none⟩ = some (.bool true) ∧ W.cell? ⟨gb, j, none⟩ = some (.bool true)) (first | exact ⟨hca, hcb⟩ | exact ⟨(World.cell?_setCell_far _ _ _ _ nga).trans hca, (World.cell?_setCell_far _ _ _ _ ngb).trans hcb⟩ | go_keep) (fail)
          go_wp2
          go_roundw
          case rel =>
            refine ⟨j + 1, by omega, by go_num, ?_⟩
            rw [← hset.out]
            exact (hst2 _).out
          case measure => simp [intOf]; omega
    · obtain rfl : j = n := by omega
      have hend : Hid (mixB (fun a b => a != b) xs ys cs j = List.zipWith (fun a b => a != b) xs ys) := mixB_all _ (by rw [LA.out]; omega) (by rw [LB.out]; omega) (by rw [HCL.out]; exact Nat.le_refl _)
      rw [hend.out] at HJ
      go_wp2
      go_ret
      exact ⟨g, j, rfl, HJ.out.1, HJ.out.2, hge⟩
end Go.Proofs.YtkehehfphccpbaaGreatDoor
