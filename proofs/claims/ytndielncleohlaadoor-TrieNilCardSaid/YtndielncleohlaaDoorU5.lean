
/- A node with a key more, with one less; the texts walked. -/
import Derived.Test.YtndielncleohlaaDoorU4
import Derived.Test.YtndielncleohlaaDoorLateB
namespace Go.Proofs.YtndielncleohlaaDoor
set_option maxRecDepth 40000
open Go.RowKit
theorem heap_alloc' (w : World) (o : Obj) : (w.alloc o).heap = w.heap.push o := rfl
theorem heap_drewN' (w : World) (n : Nat) : (w.drewN n).heap = w.heap := by simp
/-- What a changed node is. -/
def NdP (w : World) (A : Option Addr) (W ks le gr : Nat) (zs : List Nat) (e : Ending) (w' : World) : Prop :=
  ∃ A' c', e = .returned (ndv W A' zs.length c' ks le gr) ∧ w'.ownsRow 0 3 1 (.slice A' zs.length c') zs.length (iw zs) ∧ K.Chg w w' (fun j => A.map (·.block) = some j) ∧ ∀ j, A'.map (·.block) = some j → A.map (·.block) = some j ∨ w.heap.size ≤ j
/-- The world behind a node's box, its result's, and the box of what is put in. -/
abbrev wIns (w : World) (W : Nat) (A : Option Addr) (n c ks le gr pc : Nat) : World := ((w.alloc (ndo W A n c ks le gr)).alloc ndzo).alloc (.cells #[.int .i64 (pc : Int)] 3)
def InsB (w : World) (W : Nat) (A : Option Addr) (n c ks le gr : Nat) (zs : List Nat) (V : World) (e : Ending) (w3 : World) : Prop :=
  ∃ A3 c3, e = .returned (.slice A3 zs.length c3) ∧ Hid (w3.ownsRow 0 3 1 (.slice A3 zs.length c3) zs.length (iw zs)) ∧ w3.heap[w.heap.size]? = some (ndo W A n c ks le gr) ∧ w3.heap[w.heap.size + 1]? = some ndzo ∧ Hid (K.Chg V w3 (fun j => A.map (·.block) = some j)) ∧ Hid (w.heap.size + 3 ≤ w3.heap.size ∧ ∀ j, A3.map (·.block) = some j → A.map (·.block) = some j ∨ w.heap.size + 3 ≤ j)
theorem ins_boxed (w : World) (W : Nat) (A : Option Addr) (ch : List Nat) (c ks le gr pc : Nat) (hown : w.ownsRow 0 3 1 (.slice A ch.length c) ch.length (iw ch)) (r : Nat) (hr : r ≤ ch.length) (hcl : ch.length ≤ 64) (V : World) (hV : V.heap = (wIns w W A ch.length c ks le gr pc).heap) :
    Calls Tryd.prog 89 #[.slice A ch.length c, .int .i64 (r : Int), .slice (some ⟨w.heap.size + 2, 0, none⟩) 1 1] V (InsB w W A ch.length c ks le gr (ch.take r ++ pc :: ch.drop r) V) := by
  have HA : ∀ j, A.map (·.block) = some j → j < w.heap.size := fun j hj => (own_block_lt hown hj).1
  have HW1 : Below w.heap.size w (wIns w W A ch.length c ks le gr pc) := (((Below.refl _ w).alloc (Nat.le_refl _) _).alloc (by simp) _).alloc (by simp; omega) _
  have hsz : V.heap.size = w.heap.size + 3 := by rw [hV]; simp [wIns]
  have h1 : V.ownsRow 0 3 1 (.slice A ch.length c) ch.length (iw ch) := by
    have := (K.Chg.of_below (O := fun _ => False) HW1).own hown (fun _ _ h => h)
    unfold World.ownsRow at *
    rw [hV]
    exact this
  have h2 : V.heap[w.heap.size + 2]? = some (.cells #[.int .i64 (pc : Int)] 3 (0, 0)) := by
    rw [hV]
    have := K.alloc_top ((w.alloc (ndo W A ch.length c ks le gr)).alloc ndzo) (.cells #[.int .i64 (pc : Int)] 3)
    rw [show ((w.alloc (ndo W A ch.length c ks le gr)).alloc ndzo).heap.size = w.heap.size + 2 by simp] at this
    exact this
  have h3 : V.heap[w.heap.size]? = some (ndo W A ch.length c ks le gr) := by
    rw [hV]
    exact (Below.heap_alloc _ _ _ (by simp; omega)).trans ((Below.heap_alloc _ _ _ (by simp)).trans (K.alloc_top _ _))
  have h4 : V.heap[w.heap.size + 1]? = some ndzo := by
    rw [hV]
    refine (Below.heap_alloc _ _ _ (by simp)).trans ?_
    have := K.alloc_top (w.alloc (ndo W A ch.length c ks le gr)) ndzo
    rw [show (w.alloc (ndo W A ch.length c ks le gr)).heap.size = w.heap.size + 1 by simp] at this
    exact this
  refine (ins_int V A c ch h1 r hr hcl pc (w.heap.size + 2) h2 (fun e => by have := HA _ e; omega)).mono ?_
  rintro e w3 ⟨A3, c3, rfl, ho, hc, hb⟩
  refine ⟨A3, c3, rfl, ho, (hc.block _ (by omega) (fun e => by have := HA _ e; omega)).trans h3, (hc.block _ (by omega) (fun e => by have := HA _ e; omega)).trans h4, hc, ?_, fun j hj => ?_⟩
  · have := hc.size; omega
  · rcases hb j hj with h | h
    · exact .inl h
    · exact .inr (by omega)
theorem nd_fin {w V w3 X : World} {A A3 : Option Addr} {zs : List Nat} {c3 : Nat} {e : Ending} (W ks le gr : Nat) (he : e = .returned (ndv W A3 zs.length c3 ks le gr)) (hV : K.Chg w V (fun j => A.map (·.block) = some j)) (ho : w3.ownsRow 0 3 1 (.slice A3 zs.length c3) zs.length (iw zs))
    (hc : K.Chg V w3 (fun j => A.map (·.block) = some j)) (hb : w.heap.size + 3 ≤ w3.heap.size ∧ ∀ j, A3.map (·.block) = some j → A.map (·.block) = some j ∨ w.heap.size + 3 ≤ j) (hA : ∀ j, A.map (·.block) = some j → j < w.heap.size)
    (hx : K.Chg w3 X (fun j => j = w.heap.size ∨ j = w.heap.size + 1)) : NdP w A W ks le gr zs e X := by
  refine ⟨A3, c3, he, hx.own ho (fun b h1 h2 => ?_), (hV.same hc).trans hx (fun j h => .inr (by omega)), fun j h => ?_⟩
  · rcases hb.2 b (own_of_map h1) with h | h
    · have := hA b h; omega
    · omega
  · rcases hb.2 j h with h | h
    · exact .inl h
    · exact .inr (by omega)
set_option maxHeartbeats 4000000 in
theorem nd_with_ins (w : World) (W : Nat) (A : Option Addr) (ch : List Nat) (c ks le gr k l pc : Nat) (hW : W < 18446744073709551616) (hk : k < 18446744073709551616) (hl : l < 10) (hd : T.dig l k ∉ M.bl W) (hown : w.ownsRow 0 3 1 (.slice A ch.length c) ch.length (iw ch)) (hr : K.fi (M.bl W) (T.dig l k) ≤ ch.length) (hcl : ch.length ≤ 64) (hks : ks < 1000000000) :
    Calls Tryd.prog 72 #[ndv W A ch.length c ks le gr, .int .u64 (k : Int), .int .i64 (l : Int), .int .i64 (pc : Int)] w (NdP w A (W ||| M.one (T.dig l k)) (ks + 1) (min le k) (max gr k) (ch.take (K.fi (M.bl W) (T.dig l k)) ++ pc :: ch.drop (K.fi (M.bl W) (T.dig l k)))) := by
  have hdl := T.dig_lt l k
  have d1 : decide ((l : Int) < 10) = true := decide_eq_true (by omega)
  have d2 : decide (l < 10) = true := decide_eq_true hl
  have hget := fun V => Lib.hid (bit_get W hW ((T.dig l k : Nat) : Int) V)
  rw [T.has_bl W _ hdl, decide_eq_false hd] at hget
  have hdg := fun V => Lib.hid (t_digit V k l hk (by omega))
  have hrk := fun V => Lib.hid (bit_rank W hW ((T.dig l k : Nat) : Int) V)
  rw [T.rank_fi] at hrk
  have hset := fun V => Lib.hid (bit_set W hW ((T.dig l k : Nat) : Int) V)
  have q1 : IntKind.i64.wrap ((ks : Int) + 1) = (ks : Int) + 1 := IntWalk.i64_in _ (by omega)
  have HR := Lib.hid hr
  have HA : ∀ j, A.map (·.block) = some j → j < w.heap.size := fun j hj => (own_block_lt hown hj).1
  have hins := ins_boxed w W A ch c ks le gr pc hown (K.fi (M.bl W) (T.dig l k)) hr hcl
  clear hr hd hown
  have e1 : ((min le k : Nat) : Int) = min (le : Int) (k : Int) := by omega
  have e2 : ((max gr k : Nat) : Int) = max (gr : Int) (k : Int) := by omega
  obtain ⟨zs, hzs⟩ : ∃ zs, ch.take (K.fi (M.bl W) (T.dig l k)) ++ pc :: ch.drop (K.fi (M.bl W) (T.dig l k)) = zs := ⟨_, rfl⟩
  rw [hzs] at hins ⊢
  clear hzs
  generalize W ||| M.one (T.dig l k) = W2 at *
  generalize K.fi (M.bl W) (T.dig l k) = r at *
  generalize T.dig l k = d at *
  go_enter Tryd.func72, Tryd.ntmps72
  go_wp2_with (first
    | (go_at_call 64; (with_reducible refine (hdg _).out.mono ?_); rintro e w' ⟨rfl, rfl⟩)
    | (go_at_call 68; (with_reducible refine (hget _).out.mono ?_); rintro e w' ⟨rfl, rfl⟩))
  refine wp_region_late (S := fun X => X.cell? ⟨w.heap.size, 0, none⟩ = some (.int .u64 (W : Int)) ∧ X.cell? ⟨w.heap.size, 1, none⟩ = some (.slice A ch.length c)) (N := [8]) (by kernel_rfl) (by (try dsimp only); go_keep) (fun hHeld => ?_)
  refine late_pure (i := 0) (v := ?_) rfl (by kernel_rfl) (by kernel_rfl) (by kernel_rfl) (by kernel_rfl) (fun _ _ _ h => h) (by assumption) (by rfl) ?_ ?_
  rotate_left
  · intro w
    go_simp
    try (with_reducible rfl)
  try simp only [Act.put, List.setIfInBounds_toArray, List.set_cons_zero, List.set_cons_succ]
  refine late_take (i := 1) (v := ?_) rfl (by kernel_rfl) (by kernel_rfl) (by kernel_rfl) (by kernel_rfl) (by kernel_rfl) (by kernel_rfl) (fun _ _ _ h => h) (by assumption) (by rfl) ?_ ?_
  rotate_left
  · intro w hSw
    try dsimp only at hSw
    go_simp
    try (with_reducible rfl)
  try simp only [Act.put, List.setIfInBounds_toArray, List.set_cons_zero, List.set_cons_succ]
  refine late_pure (i := 2) (v := ?_) rfl (by kernel_rfl) (by kernel_rfl) (by kernel_rfl) (by kernel_rfl) (fun _ _ _ h => h) (by assumption) (by rfl) ?_ ?_
  rotate_left
  · intro w
    go_simp
    try (with_reducible rfl)
  try simp only [Act.put, List.setIfInBounds_toArray, List.set_cons_zero, List.set_cons_succ]
  refine late_pure (i := 4) (v := ?_) rfl (by kernel_rfl) (by kernel_rfl) (by kernel_rfl) (by kernel_rfl) (fun _ _ _ h => h) (by assumption) (by rfl) ?_ ?_
  rotate_left
  · intro w
    go_simp
    try (with_reducible rfl)
  try simp only [Act.put, List.setIfInBounds_toArray, List.set_cons_zero, List.set_cons_succ]
  refine late_pure (i := 6) (v := ?_) rfl (by kernel_rfl) (by kernel_rfl) (by kernel_rfl) (by kernel_rfl) (fun _ _ _ h => h) (by assumption) (by rfl) ?_ ?_
  rotate_left
  · intro w
    go_simp
    try (with_reducible rfl)
  try simp only [Act.put, List.setIfInBounds_toArray, List.set_cons_zero, List.set_cons_succ]
  refine wpAnyM_ready (rs := [3, 7]) (by kernel_rfl) (by simp) ?_
  refine AllReadyM.cons (At.out rfl) (fun K hK => ?_) ?_
  ·
    go_simp
    refine hK.out _ _ (by first | assumption | ((try dsimp only); go_keep)) (fun hHeld => ?_)
    clear hK K
    try simp only [Act.put, List.setIfInBounds_toArray, List.set_cons_zero, List.set_cons_succ]
    refine wpAnyM_ready (rs := [5, 7]) (by kernel_rfl) (by simp) ?_
    refine AllReadyM.cons (At.out rfl) (fun K hK => ?_) ?_
    ·
      go_simp
      (go_at_call 63; (with_reducible refine (hrk _).out.mono ?_); rintro e w' ⟨rfl, N, rfl⟩)
      refine hK.out _ _ (by first | assumption | ((try dsimp only); go_keep)) (fun hHeld => ?_)
      clear hK K
      try simp only [Act.put, List.setIfInBounds_toArray, List.set_cons_zero, List.set_cons_succ]
      refine wpAnyM_ready (rs := [7]) (by kernel_rfl) (by simp) ?_
      refine AllReadyM.cons (At.out rfl) (fun K hK => ?_) ?_
      ·
        go_simp
        refine hK.out _ _ (by first | assumption | ((try dsimp only); go_keep)) (fun hHeld => ?_)
        clear hK K
        try simp only [Act.put, List.setIfInBounds_toArray, List.set_cons_zero, List.set_cons_succ]
        refine wpAnyM_ready (rs := [8]) (by kernel_rfl) (by simp) ?_
        refine AllReadyM.consN (At.out rfl) (by rfl) (fun K hK => ?_) AllReadyM.nil
        ·
          go_simp
          (go_at_call 89; skip)
          (with_reducible refine (hins _ ?_).mono ?_)
          · first | (simp [wIns]; done) | (simp only [wIns, heap_alloc', heap_drewN']; done)
          rintro e w3 ⟨A3, c3, rfl, HO3, hr3, hz3, HC3, HB3⟩
          obtain ⟨y0, y1, y2, y3, y4⟩ := nd_cells hr3
          obtain ⟨z0, z1, z2, z3, z4⟩ := nd_cells hz3
          have f0 := frozen_of_row w3 _ 0 _ _ hr3
          have f1 := frozen_of_row w3 _ 1 _ _ hr3
          have f2 := frozen_of_row w3 _ 2 _ _ hr3
          have f3 := frozen_of_row w3 _ 3 _ _ hr3
          have f4 := frozen_of_row w3 _ 4 _ _ hr3
          have g0 := frozen_of_row w3 _ 0 _ _ hz3
          have g1 := frozen_of_row w3 _ 1 _ _ hz3
          have g2 := frozen_of_row w3 _ 2 _ _ hz3
          have g3 := frozen_of_row w3 _ 3 _ _ hz3
          have g4 := frozen_of_row w3 _ 4 _ _ hz3
          have HR3 := Lib.hid hr3
          have HZ3 := Lib.hid hz3
          clear hr3 hz3
          refine hK.out _ _ ?_
          clear hK K
          try simp only [Act.put, List.setIfInBounds_toArray, List.set_cons_zero, List.set_cons_succ]
          refine late_tail (i := 9) (v := ?_) rfl (by kernel_rfl) (by kernel_rfl) (by kernel_rfl) (fun _ _ _ h => h) (by rfl) ?_ ?_
          rotate_left
          · intro w
            go_simp
            try (with_reducible rfl)
          try simp only [Act.put, List.setIfInBounds_toArray, List.set_cons_zero, List.set_cons_succ]
          refine Go.wpAny_ready (rs := [10]) (by kernel_rfl) (by simp) ?_
          refine AllReady.cons (At.out rfl) (fun K hK => ?_) AllReady.nil
          go_simp
          refine hK _ _ ?_
          clear hK K
          try simp only [Act.put, List.setIfInBounds_toArray, List.set_cons_zero, List.set_cons_succ]
          refine wpAny_done (by kernel_rfl) ?_ _
          go_wp2_with (go_at_call 90; (with_reducible refine (hset _).out.mono ?_); rintro e w' ⟨rfl, rfl⟩)
          have hbx := chg_five w3 w.heap.size 1 0 2 3 4 (.slice A3 zs.length c3) (.int .u64 (W2 : Int)) (.int .i64 ((ks : Int) + 1)) (.int .u64 (min (le : Int) (k : Int))) (.int .u64 (max (gr : Int) (k : Int))) (fun j => j = w.heap.size) rfl
          have hz5 := (hbx.block (w.heap.size + 1) (by have := HB3.out.1; omega) (by omega)).trans HZ3.out
          have hr := row_z5 hz5 (.int .u64 (W2 : Int)) (.slice A3 zs.length c3) (.int .i64 ((ks : Int) + 1)) (.int .u64 (min (le : Int) (k : Int))) (.int .u64 (max (gr : Int) (k : Int)))
          have hx := (hbx.mono (O' := fun j => j = w.heap.size ∨ j = w.heap.size + 1) (fun j h => .inl h)).same (chg_five _ (w.heap.size + 1) 0 1 2 3 4 (.int .u64 (W2 : Int)) (.slice A3 zs.length c3) (.int .i64 ((ks : Int) + 1)) (.int .u64 (min (le : Int) (k : Int))) (.int .u64 (max (gr : Int) (k : Int))) (fun j => j = w.heap.size ∨ j = w.heap.size + 1) (.inr rfl))
          refine bodyPost_ret (results_cell_row rfl _ _ (w.heap.size + 1) _ _ _ _ rfl hr Tryd.underlying72 (by kernel_rfl) (by kernel_rfl)) rfl ?_
          exact nd_fin W2 (ks + 1) (min le k) (max gr k) (by show _ = Ending.returned (Value.agg #[_, _, _, .int .u64 ((min le k : Nat) : Int), .int .u64 ((max gr k : Nat) : Int)]); rw [e1, e2]; rfl) (by repeat (first | exact chg_refl _ _ | refine K.Chg.drewN ?_ _ | refine K.Chg.drewN (n := 1) ?_ | refine K.Chg.same ?_ (chg_alloc _ _ _))) HO3.out HC3.out HB3.out HA hx
      exact AllReadyM.nil
    refine AllReadyM.cons (At.out rfl) (fun K hK => ?_) ?_
    ·
      go_simp
      refine hK.out _ _ (by first | assumption | ((try dsimp only); go_keep)) (fun hHeld => ?_)
      clear hK K
      try simp only [Act.put, List.setIfInBounds_toArray, List.set_cons_zero, List.set_cons_succ]
      refine wpAnyM_ready (rs := [5]) (by kernel_rfl) (by simp) ?_
      refine AllReadyM.cons (At.out rfl) (fun K hK => ?_) ?_
      ·
        go_simp
        (go_at_call 63; (with_reducible refine (hrk _).out.mono ?_); rintro e w' ⟨rfl, N, rfl⟩)
        refine hK.out _ _ (by first | assumption | ((try dsimp only); go_keep)) (fun hHeld => ?_)
        clear hK K
        try simp only [Act.put, List.setIfInBounds_toArray, List.set_cons_zero, List.set_cons_succ]
        refine wpAnyM_ready (rs := [8]) (by kernel_rfl) (by simp) ?_
        refine AllReadyM.consN (At.out rfl) (by rfl) (fun K hK => ?_) AllReadyM.nil
        ·
          go_simp
          (go_at_call 89; skip)
          (with_reducible refine (hins _ ?_).mono ?_)
          · first | (simp [wIns]; done) | (simp only [wIns, heap_alloc', heap_drewN']; done)
          rintro e w3 ⟨A3, c3, rfl, HO3, hr3, hz3, HC3, HB3⟩
          obtain ⟨y0, y1, y2, y3, y4⟩ := nd_cells hr3
          obtain ⟨z0, z1, z2, z3, z4⟩ := nd_cells hz3
          have f0 := frozen_of_row w3 _ 0 _ _ hr3
          have f1 := frozen_of_row w3 _ 1 _ _ hr3
          have f2 := frozen_of_row w3 _ 2 _ _ hr3
          have f3 := frozen_of_row w3 _ 3 _ _ hr3
          have f4 := frozen_of_row w3 _ 4 _ _ hr3
          have g0 := frozen_of_row w3 _ 0 _ _ hz3
          have g1 := frozen_of_row w3 _ 1 _ _ hz3
          have g2 := frozen_of_row w3 _ 2 _ _ hz3
          have g3 := frozen_of_row w3 _ 3 _ _ hz3
          have g4 := frozen_of_row w3 _ 4 _ _ hz3
          have HR3 := Lib.hid hr3
          have HZ3 := Lib.hid hz3
          clear hr3 hz3
          refine hK.out _ _ ?_
          clear hK K
          try simp only [Act.put, List.setIfInBounds_toArray, List.set_cons_zero, List.set_cons_succ]
          refine late_tail (i := 9) (v := ?_) rfl (by kernel_rfl) (by kernel_rfl) (by kernel_rfl) (fun _ _ _ h => h) (by rfl) ?_ ?_
          rotate_left
          · intro w
            go_simp
            try (with_reducible rfl)
          try simp only [Act.put, List.setIfInBounds_toArray, List.set_cons_zero, List.set_cons_succ]
          refine Go.wpAny_ready (rs := [10]) (by kernel_rfl) (by simp) ?_
          refine AllReady.cons (At.out rfl) (fun K hK => ?_) AllReady.nil
          go_simp
          refine hK _ _ ?_
          clear hK K
          try simp only [Act.put, List.setIfInBounds_toArray, List.set_cons_zero, List.set_cons_succ]
          refine wpAny_done (by kernel_rfl) ?_ _
          go_wp2_with (go_at_call 90; (with_reducible refine (hset _).out.mono ?_); rintro e w' ⟨rfl, rfl⟩)
          have hbx := chg_five w3 w.heap.size 1 0 2 3 4 (.slice A3 zs.length c3) (.int .u64 (W2 : Int)) (.int .i64 ((ks : Int) + 1)) (.int .u64 (min (le : Int) (k : Int))) (.int .u64 (max (gr : Int) (k : Int))) (fun j => j = w.heap.size) rfl
          have hz5 := (hbx.block (w.heap.size + 1) (by have := HB3.out.1; omega) (by omega)).trans HZ3.out
          have hr := row_z5 hz5 (.int .u64 (W2 : Int)) (.slice A3 zs.length c3) (.int .i64 ((ks : Int) + 1)) (.int .u64 (min (le : Int) (k : Int))) (.int .u64 (max (gr : Int) (k : Int)))
          have hx := (hbx.mono (O' := fun j => j = w.heap.size ∨ j = w.heap.size + 1) (fun j h => .inl h)).same (chg_five _ (w.heap.size + 1) 0 1 2 3 4 (.int .u64 (W2 : Int)) (.slice A3 zs.length c3) (.int .i64 ((ks : Int) + 1)) (.int .u64 (min (le : Int) (k : Int))) (.int .u64 (max (gr : Int) (k : Int))) (fun j => j = w.heap.size ∨ j = w.heap.size + 1) (.inr rfl))
          refine bodyPost_ret (results_cell_row rfl _ _ (w.heap.size + 1) _ _ _ _ rfl hr Tryd.underlying72 (by kernel_rfl) (by kernel_rfl)) rfl ?_
          exact nd_fin W2 (ks + 1) (min le k) (max gr k) (by show _ = Ending.returned (Value.agg #[_, _, _, .int .u64 ((min le k : Nat) : Int), .int .u64 ((max gr k : Nat) : Int)]); rw [e1, e2]; rfl) (by repeat (first | exact chg_refl _ _ | refine K.Chg.drewN ?_ _ | refine K.Chg.drewN (n := 1) ?_ | refine K.Chg.same ?_ (chg_alloc _ _ _))) HO3.out HC3.out HB3.out HA hx
      exact AllReadyM.nil
    exact AllReadyM.nil
  refine AllReadyM.cons (At.out rfl) (fun K hK => ?_) ?_
  ·
    go_simp
    refine hK.out _ _ (by first | assumption | ((try dsimp only); go_keep)) (fun hHeld => ?_)
    clear hK K
    try simp only [Act.put, List.setIfInBounds_toArray, List.set_cons_zero, List.set_cons_succ]
    refine wpAnyM_ready (rs := [3]) (by kernel_rfl) (by simp) ?_
    refine AllReadyM.cons (At.out rfl) (fun K hK => ?_) ?_
    ·
      go_simp
      refine hK.out _ _ (by first | assumption | ((try dsimp only); go_keep)) (fun hHeld => ?_)
      clear hK K
      try simp only [Act.put, List.setIfInBounds_toArray, List.set_cons_zero, List.set_cons_succ]
      refine wpAnyM_ready (rs := [5]) (by kernel_rfl) (by simp) ?_
      refine AllReadyM.cons (At.out rfl) (fun K hK => ?_) ?_
      ·
        go_simp
        (go_at_call 63; (with_reducible refine (hrk _).out.mono ?_); rintro e w' ⟨rfl, N, rfl⟩)
        refine hK.out _ _ (by first | assumption | ((try dsimp only); go_keep)) (fun hHeld => ?_)
        clear hK K
        try simp only [Act.put, List.setIfInBounds_toArray, List.set_cons_zero, List.set_cons_succ]
        refine wpAnyM_ready (rs := [8]) (by kernel_rfl) (by simp) ?_
        refine AllReadyM.consN (At.out rfl) (by rfl) (fun K hK => ?_) AllReadyM.nil
        ·
          go_simp
          (go_at_call 89; skip)
          (with_reducible refine (hins _ ?_).mono ?_)
          · first | (simp [wIns]; done) | (simp only [wIns, heap_alloc', heap_drewN']; done)
          rintro e w3 ⟨A3, c3, rfl, HO3, hr3, hz3, HC3, HB3⟩
          obtain ⟨y0, y1, y2, y3, y4⟩ := nd_cells hr3
          obtain ⟨z0, z1, z2, z3, z4⟩ := nd_cells hz3
          have f0 := frozen_of_row w3 _ 0 _ _ hr3
          have f1 := frozen_of_row w3 _ 1 _ _ hr3
          have f2 := frozen_of_row w3 _ 2 _ _ hr3
          have f3 := frozen_of_row w3 _ 3 _ _ hr3
          have f4 := frozen_of_row w3 _ 4 _ _ hr3
          have g0 := frozen_of_row w3 _ 0 _ _ hz3
          have g1 := frozen_of_row w3 _ 1 _ _ hz3
          have g2 := frozen_of_row w3 _ 2 _ _ hz3
          have g3 := frozen_of_row w3 _ 3 _ _ hz3
          have g4 := frozen_of_row w3 _ 4 _ _ hz3
          have HR3 := Lib.hid hr3
          have HZ3 := Lib.hid hz3
          clear hr3 hz3
          refine hK.out _ _ ?_
          clear hK K
          try simp only [Act.put, List.setIfInBounds_toArray, List.set_cons_zero, List.set_cons_succ]
          refine late_tail (i := 9) (v := ?_) rfl (by kernel_rfl) (by kernel_rfl) (by kernel_rfl) (fun _ _ _ h => h) (by rfl) ?_ ?_
          rotate_left
          · intro w
            go_simp
            try (with_reducible rfl)
          try simp only [Act.put, List.setIfInBounds_toArray, List.set_cons_zero, List.set_cons_succ]
          refine Go.wpAny_ready (rs := [10]) (by kernel_rfl) (by simp) ?_
          refine AllReady.cons (At.out rfl) (fun K hK => ?_) AllReady.nil
          go_simp
          refine hK _ _ ?_
          clear hK K
          try simp only [Act.put, List.setIfInBounds_toArray, List.set_cons_zero, List.set_cons_succ]
          refine wpAny_done (by kernel_rfl) ?_ _
          go_wp2_with (go_at_call 90; (with_reducible refine (hset _).out.mono ?_); rintro e w' ⟨rfl, rfl⟩)
          have hbx := chg_five w3 w.heap.size 1 0 2 3 4 (.slice A3 zs.length c3) (.int .u64 (W2 : Int)) (.int .i64 ((ks : Int) + 1)) (.int .u64 (min (le : Int) (k : Int))) (.int .u64 (max (gr : Int) (k : Int))) (fun j => j = w.heap.size) rfl
          have hz5 := (hbx.block (w.heap.size + 1) (by have := HB3.out.1; omega) (by omega)).trans HZ3.out
          have hr := row_z5 hz5 (.int .u64 (W2 : Int)) (.slice A3 zs.length c3) (.int .i64 ((ks : Int) + 1)) (.int .u64 (min (le : Int) (k : Int))) (.int .u64 (max (gr : Int) (k : Int)))
          have hx := (hbx.mono (O' := fun j => j = w.heap.size ∨ j = w.heap.size + 1) (fun j h => .inl h)).same (chg_five _ (w.heap.size + 1) 0 1 2 3 4 (.int .u64 (W2 : Int)) (.slice A3 zs.length c3) (.int .i64 ((ks : Int) + 1)) (.int .u64 (min (le : Int) (k : Int))) (.int .u64 (max (gr : Int) (k : Int))) (fun j => j = w.heap.size ∨ j = w.heap.size + 1) (.inr rfl))
          refine bodyPost_ret (results_cell_row rfl _ _ (w.heap.size + 1) _ _ _ _ rfl hr Tryd.underlying72 (by kernel_rfl) (by kernel_rfl)) rfl ?_
          exact nd_fin W2 (ks + 1) (min le k) (max gr k) (by show _ = Ending.returned (Value.agg #[_, _, _, .int .u64 ((min le k : Nat) : Int), .int .u64 ((max gr k : Nat) : Int)]); rw [e1, e2]; rfl) (by repeat (first | exact chg_refl _ _ | refine K.Chg.drewN ?_ _ | refine K.Chg.drewN (n := 1) ?_ | refine K.Chg.same ?_ (chg_alloc _ _ _))) HO3.out HC3.out HB3.out HA hx
      exact AllReadyM.nil
    exact AllReadyM.nil
  exact AllReadyM.nil
end Go.Proofs.YtndielncleohlaaDoor
