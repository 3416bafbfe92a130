/- A pool of nodes is cleared; the text walked. The trie's Clear; the text walked. top, Min, Max: what they answer, and leave; the texts walked. -/
import Derived.Lib.SliceRun
import Derived.Deep.RegionHeld3
import Derived.Test.YtbiingpdchoppaaDoorMgI
import Derived.Test.YtbiingpdchoppaaDoorMgN
import Derived.Test.YtbiingpdchoppaaDoorMgU
section
namespace Go.Proofs.YtbiingpdchoppaaDoor
set_option maxRecDepth 40000
open Go.RowKit
section
variable {P : Program}
theorem run_clear_any (w : World) (t e ty : TypeId) (z : Value) (ht : P.underlying t = some (.slice e)) (hv : ∀ w, (zeroValue e).run P w = .ok z w) (b n c : Nat)
    (h1 : ∀ v ∈ (Builtin.zeroCells z.cells (n + 1)).toList, v.oneCell' = true)
    (hc : ∀ j, j < (Builtin.zeroCells z.cells (n + 1)).toList.length → (w.cell? ⟨b, j, none⟩).isSome = true) (hf : ∀ j, w.frozen? ⟨b, j, none⟩ = false) :
    (Builtin.clear_ #[t] ty #[.slice (some ⟨b, 0, none⟩) (n + 1) c]).run P w = .ok (.tuple #[]) (w.setCells b 0 (Builtin.zeroCells z.cells (n + 1)).toList) := by
  have hst := run_storeCells_cells (P := P) b 0 (Builtin.zeroCells z.cells (n + 1)).toList 0 w (by simpa using hc) (by intro j _; exact hf _) h1
  simp only [Nat.add_zero] at hst
  simp [Builtin.clear_, run_underlying ht, hv, hst]
theorem wp_clear {o : Oper} {a : Act} {K : Act → World → Prop} {Q : Exit → Act → World → Prop} (w : World) (s : Operand) (t : TypeId)
    (ho : o.op = .call { callee := .builtin .clear, args := #[s], argTypes := #[t] }) (v : Value) (hs : a.eval s = v) (w' : World)
    (hrun : (Builtin.clear_ #[t] o.type #[v]).run P w = .ok (.tuple #[]) w') (h : K (a.put o.dst (.tuple #[])) w') : o.wp P a w K Q := by
  unfold Oper.wp execOp
  simp only [ho, resolve, invoke, builtin, Sem.run_bind, Sem.run_pure, Result.andThen_ok, List.map_toArray, List.map_cons, List.map_nil, hs, hrun]
  exact h
theorem wpList_clear {ops : Array Oper} {rest : List Oper} {o : Oper} {a : Act} {Q : Exit → Act → World → Prop} (w : World) (hgd : o.guard = none) (s : Operand) (t : TypeId)
    (ho : o.op = .call { callee := .builtin .clear, args := #[s], argTypes := #[t] }) (v : Value) (hs : a.eval s = v) (w' : World)
    (hrun : (Builtin.clear_ #[t] o.type #[v]).run P w = .ok (.tuple #[]) w') (h : wpList P ops Q rest (a.put o.dst (.tuple #[])) w') : wpList P ops Q (o :: rest) a w :=
  wpList_plain hgd fun _ hK => wp_clear w s t ho v hs w' hrun (hK _ _ h)
end
theorem own_cells {base : Nat} {e : TypeId} {size n c g : Nat} : ∀ (L : List Value) (o : Nat) (w : World) (xs : List Value), w.ownsRow base e size (.slice (some ⟨g, 0, none⟩) n c) n xs →
    (∃ ys, (w.setCells g o L).ownsRow base e size (.slice (some ⟨g, 0, none⟩) n c) n ys) ∧ K.Chg w (w.setCells g o L) (fun j => j = g)
  | [], _, w, xs, h => ⟨⟨xs, h⟩, chg_refl w _⟩
  | v :: r, o, w, xs, h => by
    have h1 := (h.stored o v).1
    obtain ⟨h2, h3⟩ := own_cells r (o + 1) (w.setCell ⟨g, o, none⟩ v) _ h1
    exact ⟨h2, (chg_set w g o v (fun j => j = g) rfl).same h3⟩
theorem own_none {w : World} {base : Nat} {e : TypeId} {size n c : Nat} {xs : List Value} (h : w.ownsRow base e size (.slice none n c) n xs) : n = 0 ∧ c = 0 := by
  rcases h.2 with ⟨hv, rfl⟩ | ⟨g, cap, cur, hv, _⟩
  · simp at hv; exact ⟨rfl, hv⟩
  · simp at hv
abbrev pzv : Value := .agg #[.int .u64 0, .slice none 0 0, .int .i64 0, .int .u64 0, .int .u64 0, .bool false]
theorem zc : pzv.cells = #[.int .u64 0, .slice none 0 0, .int .i64 0, .int .u64 0, .int .u64 0, .bool false] := by kernel_rfl
theorem zc1 (m : Nat) : ∀ v ∈ (Builtin.zeroCells pzv.cells (m + 1)).toList, v.oneCell' = true := by
  rw [zc]
  intro v hv
  simp [Builtin.zeroCells] at hv
  obtain ⟨i, _, rfl⟩ := hv
  rcases (by omega : i % 6 = 0 ∨ i % 6 = 1 ∨ i % 6 = 2 ∨ i % 6 = 3 ∨ i % 6 = 4 ∨ i % 6 = 5) with h | h | h | h | h | h <;> rw [h] <;> rfl
theorem run_clear_zero {P : Program} (w : World) (t e ty : TypeId) (ht : P.underlying t = some (.slice e)) (A : Option Addr) (c : Nat) : (Builtin.clear_ #[t] ty #[.slice A 0 c]).run P w = .ok (.tuple #[]) w := by
  cases A <;> simp [Builtin.clear_, run_underlying ht]
theorem own_ne {w : World} {base : Nat} {e : TypeId} {size n : Nat} {v : Value} {xs : List Value} (h : w.ownsRow base e size v n xs) {g : Nat} {cs : Array Value} {T : TypeId} (hg : w.heap[g]? = some (.cells cs T (0, 0))) (hT : e ≠ T) : ∀ k, v.ownBlock = some k → k ≠ g := by
  intro k hk
  rcases h.2 with ⟨rfl, _⟩ | ⟨b, cap, cur, rfl, _, hb, _⟩
  · simp [Value.ownBlock] at hk
  · simp [Value.ownBlock] at hk
    subst hk
    exact row_ne hb hg hT
theorem own_apart {w : World} {base : Nat} {e e' : TypeId} {size n size' n' : Nat} {v v' : Value} {xs xs' : List Value} (h : w.ownsRow base e size v n xs) (h' : w.ownsRow base e' size' v' n' xs') (hT : e ≠ e') : ∀ k, v.ownBlock = some k → v'.ownBlock ≠ some k := by
  intro k hk e2
  rcases h'.2 with ⟨rfl, _⟩ | ⟨b, cap, cur, rfl, _, hb, _⟩
  · simp [Value.ownBlock] at e2
  · simp [Value.ownBlock] at e2
    subst e2
    exact own_ne h hb hT _ hk rfl
section
variable {w : World} {Q M lim cn cf : Nat} {An Af : Option Addr} {ns : List (Nd × Bool)} {fs : List Nat} {x y : Value}
theorem qo_emptied (hrow : w.heap[Q]? = some (.cells #[.pointer (some ⟨M, 0, none⟩), .int .i64 (lim : Int), x, y] 75 (0, 0)))
    (hn : w.ownsRow 0 114 6 (.slice An 0 cn) 0 []) (hf : w.ownsRow 0 3 1 (.slice Af 0 cf) 0 []) (hl : lim ≤ 1048576) :
    Qo ((w.setCell ⟨Q, 2, none⟩ (.slice An 0 cn)).setCell ⟨Q, 3, none⟩ (.slice Af 0 cf)) Q M lim An cn Af cf [] [] ∧ Qo ((w.setCell ⟨Q, 3, none⟩ (.slice Af 0 cf)).setCell ⟨Q, 2, none⟩ (.slice An 0 cn)) Q M lim An cn Af cf [] [] := by
  have hA := own_ne hn hrow (by decide)
  have hF := own_ne hf hrow (by decide)
  have b1 := (chg_set w Q 2 (.slice An 0 cn) (· = Q) rfl).same (chg_set _ Q 3 (.slice Af 0 cf) (· = Q) rfl)
  have b2 := (chg_set w Q 3 (.slice Af 0 cf) (· = Q) rfl).same (chg_set _ Q 2 (.slice An 0 cn) (· = Q) rfl)
  refine ⟨⟨?_, b1.own hn hA, b1.own hf hF, fun i hi => by simp at hi, by simp, hl, by simp, by simp⟩, ⟨?_, b2.own hn hA, b2.own hf hF, fun i hi => by simp at hi, by simp, hl, by simp, by simp⟩⟩
  · have := row_set (row_set hrow 2 (.slice An 0 cn)) 3 (.slice Af 0 cf)
    simpa using this
  · have := row_set (row_set hrow 3 (.slice Af 0 cf)) 2 (.slice An 0 cn)
    simpa using this
set_option maxRecDepth 20000 in
theorem q_clear (a : Qo w Q M lim An cn Af cf ns fs) :
    Calls Tryd.prog 56 #[.pointer (some ⟨Q, 0, none⟩)] w fun e w' => e = .returned (.tuple #[]) ∧ QStep w Q M lim An Af [] [] w' := by
  have hfin : ∀ wc : World, K.Chg w wc (fun j => An.map (·.block) = some j) → (∃ ys, wc.ownsRow 0 114 6 (.slice An ns.length cn) ns.length ys) →
      wc.cell? ⟨Q, 2, none⟩ = some (.slice An ns.length cn) ∧ wc.cell? ⟨Q, 3, none⟩ = some (.slice Af fs.length cf) ∧ wc.frozen? ⟨Q, 2, none⟩ = false ∧ wc.frozen? ⟨Q, 3, none⟩ = false ∧
      Hid (∀ N, QStep w Q M lim An Af [] [] (((wc.setCell ⟨Q, 2, none⟩ (.slice An 0 cn)).setCell ⟨Q, 3, none⟩ (.slice Af 0 cf)).drewN N) ∧ QStep w Q M lim An Af [] [] (((wc.setCell ⟨Q, 3, none⟩ (.slice Af 0 cf)).setCell ⟨Q, 2, none⟩ (.slice An 0 cn)).drewN N)) := by
    intro wc b ⟨ys, hy⟩
    have hmap : ∀ {A : Option Addr} {n c k : Nat}, (Value.slice A n c).ownBlock = some k ↔ A.map (·.block) = some k := by
      intro A n c k
      cases A <;> simp [Value.ownBlock]
    have hrow := (b.block Q (row_lt a.row) (fun e => own_ne a.nodes a.row (by decide) _ (hmap.2 e) rfl)).trans a.row
    have hn := own_cut hy (k := 0) (by omega)
    have hf := own_cut (b.own a.freed (fun k hk e => own_apart a.nodes a.freed (by decide) k (hmap.2 e) hk)) (k := 0) (by omega)
    rw [Nat.zero_mul, List.take_zero] at hn hf
    have hp := qo_emptied hrow hn hf a.lim_le
    have bb : K.Chg w wc (QB Q An Af) := b.mono (fun j h => .inr (.inl h))
    refine ⟨cell_of_row wc Q 2 _ _ (0, 0) hrow, cell_of_row wc Q 3 _ _ (0, 0) hrow, by simp [World.frozen?, hrow], by simp [World.frozen?, hrow], fun N => ⟨⟨An, cn, Af, cf, hp.1.chg ((chg_refl _ (fun _ => False)).drewN N) (fun _ _ h => h), ?_, fun j hj => .inl hj⟩, ⟨An, cn, Af, cf, hp.2.chg ((chg_refl _ (fun _ => False)).drewN N) (fun _ _ h => h), ?_, fun j hj => .inl hj⟩⟩⟩
    · exact ((bb.same (chg_set _ _ _ _ _ (.inl rfl))).same (chg_set _ _ _ _ _ (.inl rfl))).drewN N
    · exact ((bb.same (chg_set _ _ _ _ _ (.inl rfl))).same (chg_set _ _ _ _ _ (.inl rfl))).drewN N
  have hc2 := a.c2
  have hns := a.ns_le
  have hfs := a.fs_le
  have hcapN := own_cap a.nodes
  have hcapF := own_cap a.freed
  have own_noneH : Hid (Af = none → fs.length = 0 ∧ cf = 0) := fun e => by
    have := a.freed
    rw [e] at this
    exact own_none this
  have own_someH : Hid (∀ f, Af = some f → ∃ fb, f = ⟨fb, 0, none⟩) := fun f e => by
    have := a.freed
    rw [e] at this
    rcases this.2 with ⟨hv, _⟩ | ⟨gg, cap, cur, hv, _⟩
    · simp at hv
    · simp at hv; exact ⟨gg, hv.1⟩
  rcases Nat.eq_zero_or_pos ns.length with h0 | h0
  · obtain ⟨x2, x3, f2, f3, hend⟩ := hfin w (chg_refl w _) ⟨nv ns, a.nodes⟩
    rw [h0] at x2 hc2
    have hrun := Lib.hid (run_clear_zero (P := Tryd.prog) w 73 114 0 Tryd.underlying73 An cn)
    have an_someH : Hid (∀ f, An = some f → ∃ fb, f = ⟨fb, 0, none⟩) := fun f e => by
      have := a.nodes
      rw [e] at this
      rcases this.2 with ⟨hv, _⟩ | ⟨gg, cap, cur, hv, _⟩
      · simp at hv
      · simp at hv; exact ⟨gg, hv.1⟩
    have an_noneH : Hid (An = none → cn = 0) := fun e => by
      have := a.nodes
      rw [e] at this
      exact (own_none this).2
    have hendH := hend
    clear hend hfin a h0
    generalize fs.length = q at *
    have hqH := Lib.hid hcapF
    go_enter Tryd.func56, Tryd.ntmps56
    go_wp2_with (refine wpList_clear _ rfl (.tmp 7) 73 rfl _ rfl _ hrun.out ?_)
    rcases An with _ | ga
    · obtain rfl := an_noneH.out rfl
      dsimp only [Act.put]
      rcases Af with _ | f
      · obtain ⟨rfl, rfl⟩ := own_noneH.out rfl
        go_region
        all_goals
          go_wp2
          go_end0
          first
          | exact ⟨rfl, (hendH.out _).1⟩
          | exact ⟨rfl, (hendH.out _).2⟩
      · have hf0 := own_someH.out f rfl
        obtain ⟨fb, rfl⟩ := hf0
        go_region
        all_goals
          go_wp2
          go_end0
          first
          | exact ⟨rfl, (hendH.out _).1⟩
          | exact ⟨rfl, (hendH.out _).2⟩
    · obtain ⟨gb, rfl⟩ := an_someH.out ga rfl
      dsimp only [Act.put]
      rcases Af with _ | f
      · obtain ⟨rfl, rfl⟩ := own_noneH.out rfl
        go_region
        all_goals
          go_wp2
          go_end0
          first
          | exact ⟨rfl, (hendH.out _).1⟩
          | exact ⟨rfl, (hendH.out _).2⟩
      · have hf0 := own_someH.out f rfl
        obtain ⟨fb, rfl⟩ := hf0
        go_region
        all_goals
          go_wp2
          go_end0
          first
          | exact ⟨rfl, (hendH.out _).1⟩
          | exact ⟨rfl, (hendH.out _).2⟩
  · obtain ⟨g, rfl⟩ := own_some a.nodes h0
    obtain ⟨m, hm⟩ : ∃ m, ns.length = m + 1 := ⟨ns.length - 1, by omega⟩
    rw [hm] at hc2
    have hnod := a.nodes
    obtain ⟨hy, hb⟩ := own_cells (Builtin.zeroCells pzv.cells (m + 1)).toList 0 w (nv ns) hnod
    obtain ⟨x2, x3, f2, f3, hend⟩ := hfin _ (hb.mono (fun j h => by rw [h]; rfl)) hy
    have hzl : (Builtin.zeroCells pzv.cells (m + 1)).toList.length = (m + 1) * 6 := by rw [zc]; simp [Builtin.zeroCells]
    have hrun := Lib.hid (run_clear_any (P := Tryd.prog) w 73 114 0 pzv Tryd.underlying73 (fun w => by kernel_rfl) g m cn (zc1 m) (fun j hj => by
      rw [hzl] at hj
      have e := hnod.cellAt j (by omega)
      rw [e, List.getElem?_eq_getElem (by rw [nv_len]; omega)]
      rfl) (fun j => hnod.frozenAt j))
    obtain ⟨wc, hwc⟩ : ∃ wc, w.setCells g 0 (Builtin.zeroCells pzv.cells (m + 1)).toList = wc := ⟨_, rfl⟩
    rw [hwc] at x2 x3 f2 f3 hend hrun
    rw [hm] at x2
    have hm1 : m + 1 ≤ cn := by omega
    have hendH := hend
    clear hwc hb hy hnod hend hfin hzl hm a
    generalize fs.length = q at *
    have hqH := Lib.hid hcapF
    go_enter Tryd.func56, Tryd.ntmps56
    go_wp2_with (refine wpList_clear _ rfl (.tmp 7) 73 rfl _ rfl _ hrun.out ?_)
    dsimp only [Act.put]
    rcases Af with _ | f
    · obtain ⟨rfl, rfl⟩ := own_noneH.out rfl
      go_region
      all_goals
        go_wp2
        go_end0
        first
        | exact ⟨rfl, (hendH.out _).1⟩
        | exact ⟨rfl, (hendH.out _).2⟩
    · have hf0 := own_someH.out f rfl
      obtain ⟨fb, rfl⟩ := hf0
      go_region
      all_goals
        go_wp2
        go_end0
        first
        | exact ⟨rfl, (hendH.out _).1⟩
        | exact ⟨rfl, (hendH.out _).2⟩
end
end Go.Proofs.YtbiingpdchoppaaDoor
end
section
namespace Go.Proofs.YtbiingpdchoppaaDoor
set_option maxRecDepth 40000
open Go.RowKit
theorem t_clear (w : World) (P Q m0 lim tk root cn cf : Nat) (An Af : Option Addr) (ns : List (Nd × Bool)) (fs xs : List Nat) (pl : Nat → Nat → Nat) (h : TW w P Q m0 lim tk An cn Af cf ns fs root pl xs) :
    Calls Tryd.prog 31 #[.pointer (some ⟨P, 0, none⟩)] w fun e w' => e = .returned (.tuple #[]) ∧ TWs w w' P Q m0 lim (TBk P Q m0 An Af ns) [] tk := by
  have hP1 := cell_of_row w P 1 _ _ (0, 0) h.row
  simp at hP1
  have hq := Lib.hid (q_clear h.po)
  have H := Lib.hid h
  clear h
  go_enter Tryd.func31, Tryd.ntmps31
  go_wp2_with (go_at_call 56; (with_reducible refine hq.out.mono ?_); rintro e w1 ⟨rfl, hs⟩; have HS := Lib.hid hs; clear hs)
  go_end0
  obtain ⟨An', cn', Af', cf', hpo, hC, hB⟩ := HS.out
  have h := H.out
  have hPn : ¬ QB Q An Af P := by
    rintro (h1 | h1 | h1)
    · exact row_ne h.row h.po.row (by decide) h1
    · obtain ⟨_, cur, hc⟩ := own_block_lt h.po.nodes h1
      exact row_ne h.row hc (by decide) rfl
    · obtain ⟨_, cur, hc⟩ := own_block_lt h.po.freed h1
      exact row_ne h.row hc (by decide) rfl
  refine ⟨rfl, An', cn', Af', cf', [], [], root, pl, ⟨(hC.block P (row_lt h.row) hPn).trans h.row, h.mx.chg hC (fun hq => h.ne_m.1 m0 hq rfl), hpo, ⟨fun i hi => by simp at hi, fun i j hi => by simp at hi, fun i hi => by simp at hi⟩, tr_nil _ _, fun h => absurd rfl h, by decide, List.Pairwise.nil, by simp, h.rl⟩, hC.mono (fun j hj => .inr (.inr (.inl hj))), fun b hb => ?_⟩
  rcases hb with h1 | h1 | h1 | ⟨i, hi, _⟩
  · exact .inl (.inl h1)
  · exact .inl (.inr (.inl h1))
  · rcases hB b h1 with h2 | h2
    · exact .inl (.inr (.inr (.inl h2)))
    · exact .inr h2
  · simp at hi
end Go.Proofs.YtbiingpdchoppaaDoor
end
section
namespace Go.Proofs.YtbiingpdchoppaaDoor
set_option maxRecDepth 40000
open Go.RowKit
section
variable (w : World) (P Q m0 lim tk root cn cf : Nat) (An Af : Option Addr) (ns : List (Nd × Bool)) (fs xs : List Nat) (pl : Nat → Nat → Nat)
set_option maxHeartbeats 4000000 in
theorem t_top_of (h : TW w P Q m0 lim tk An cn Af cf ns fs root pl xs) (W : Nat) (A : Option Addr) (n c ks le gr : Nat) (b : Bool)
    (hat : ∀ V, K.Chg w V (· = m0) → Mx V m0 0 → Calls Tryd.prog 47 #[.pointer (some ⟨Q, 0, none⟩), .int .i64 (root : Int)] V (LookP V m0 1 (.tuple #[ndv W A n c ks le gr, .bool b]))) :
    Calls Tryd.prog 52 #[.pointer (some ⟨P, 0, none⟩)] w (LookP w m0 1 (.tuple #[ndv W A n c ks le gr, .bool b])) := by
  have ha := chg_alloc w ndzo (fun _ => False)
  have hrow := K.alloc_top w ndzo
  have hsz : (w.alloc ndzo).heap.size = w.heap.size + 1 := by simp
  have hml := h.mx.lt
  have hst := Lib.hid (x_start (w.alloc ndzo) m0 tk (h.mx.chg ha (fun h => h)))
  have hPr := Lib.hid ((ha.block P (row_lt h.row) (fun h => h)).trans h.row)
  have hP0 := cell_of_row (w.alloc ndzo) P 0 _ _ (0, 0) hPr.out
  simp at hP0
  have HPL := Lib.hid (row_lt h.row)
  have HNE := Lib.hid h.ne_m.2.1
  have HAT := Lib.hid hat
  have HR := Lib.hid hrow
  have HSZ := Lib.hid hsz
  have HA := Lib.hid ha
  clear h hat ha hrow hsz
  go_enter Tryd.func52, Tryd.ntmps52
  go_wp2_with (go_at_call 45; (with_reducible refine hst.out.mono ?_); rintro e w1 ⟨rfl, hm1, hc1⟩
               have hp1 := HPL.out
               have hne := HNE.out
               have hs := HSZ.out
               have hs1 := hc1.size
               have rowP := (hc1.block P (by omega) hne).trans hPr.out
               have k1 := cell_of_row w1 P 1 _ _ (0, 0) rowP
               have k2 := cell_of_row w1 P 2 _ _ (0, 0) rowP
               simp at k1 k2
               have HS1 := Lib.hid (show w1.drew.cell? ⟨P, 1, none⟩ = some (.pointer (some ⟨Q, 0, none⟩)) ∧ w1.drew.cell? ⟨P, 2, none⟩ = some (.int .i64 (root : Int)) from ⟨k1, k2⟩)
               have zz := (hc1.block w.heap.size (by omega) (by omega)).trans HR.out
               have ZZ1 := Lib.hid zz
               have HC1 : Hid (K.Chg w w1.drew (fun j => j = m0)) := Lib.hid (((HA.out.mono (O' := fun j => j = m0) (fun _ h => h.elim)).same hc1).drewN 1)
               have HM1 : Hid (Mx w1.drew m0 0) := Lib.hid hm1
               clear hm1 hc1 rowP zz k1 k2)
  go_region_held3 (fun X => X.cell? ⟨P, 1, none⟩ = some (.pointer (some ⟨Q, 0, none⟩)) ∧ X.cell? ⟨P, 2, none⟩ = some (.int .i64 (root : Int))) (first | (with_reducible exact HS1.out) | (with_reducible exact HS2.out) | (with_reducible exact HS5.out _ _ _ _ _) | go_keep)
    ((go_at_call 47; (with_reducible refine (HAT.out w1.drew HC1.out HM1.out).mono ?_); rintro e w2 ⟨rfl, tk', ht, hm2, hc2⟩
      have hs2 : w1.heap.size ≤ w2.heap.size := hc2.size
      have zz := (hc2.block w.heap.size (show w.heap.size < w1.heap.size by omega) (by omega)).trans ZZ1.out
      obtain ⟨t0, t1, t2, t3, t4⟩ := nd_cells zz
      have f0 := frozen_of_row _ _ 0 _ _ zz
      have f1 := frozen_of_row _ _ 1 _ _ zz
      have f2 := frozen_of_row _ _ 2 _ _ zz
      have f3 := frozen_of_row _ _ 3 _ _ zz
      have f4 := frozen_of_row _ _ 4 _ _ zz
      have hS2 : w2.cell? ⟨P, 1, none⟩ = some (.pointer (some ⟨Q, 0, none⟩)) ∧ w2.cell? ⟨P, 2, none⟩ = some (.int .i64 (root : Int)) := ⟨(hc2.cell (show P < w1.heap.size by omega) hne 1).trans HS1.out.1, (hc2.cell (show P < w1.heap.size by omega) hne 2).trans HS1.out.2⟩
      have HS2 := Lib.hid hS2
      have HS5 := Lib.hid (fun a b c d e => show (((((w2.setCell ⟨w.heap.size, 0, none⟩ a).setCell ⟨w.heap.size, 1, none⟩ b).setCell ⟨w.heap.size, 2, none⟩ c).setCell ⟨w.heap.size, 3, none⟩ d).setCell ⟨w.heap.size, 4, none⟩ e).cell? ⟨P, 1, none⟩ = some (.pointer (some ⟨Q, 0, none⟩)) ∧ (((((w2.setCell ⟨w.heap.size, 0, none⟩ a).setCell ⟨w.heap.size, 1, none⟩ b).setCell ⟨w.heap.size, 2, none⟩ c).setCell ⟨w.heap.size, 3, none⟩ d).setCell ⟨w.heap.size, 4, none⟩ e).cell? ⟨P, 2, none⟩ = some (.int .i64 (root : Int)) from ⟨((chg_five w2 w.heap.size 0 1 2 3 4 a b c d e (fun j => j = w.heap.size) rfl).cell (by omega) (by omega) 1).trans hS2.1, ((chg_five w2 w.heap.size 0 1 2 3 4 a b c d e (fun j => j = w.heap.size) rfl).cell (by omega) (by omega) 2).trans hS2.2⟩)
      have ZZ := Lib.hid zz
      have HM2 := Lib.hid hm2
      have HC2 := Lib.hid (HC1.out.same hc2)
      have HT := Lib.hid ht
      clear hm2 hc2 zz hS2 ht))
  all_goals
    go_wp2
    refine bodyPost_ret (nd_res rfl _ _ w.heap.size _ _ _ _ _ _ rfl (row_z5 ZZ.out _ _ _ _ _) rfl) rfl ?_
    have hg := chg_five w2 w.heap.size 0 1 2 3 4 (.int .u64 (W : Int)) (.slice A n c) (.int .i64 (ks : Int)) (.int .u64 (le : Int)) (.int .u64 (gr : Int)) (fun j => j = w.heap.size) rfl
    exact ⟨rfl, tk', HT.out, HM2.out.chg hg (by omega), HC2.out.trans hg (fun j hj => .inr (by omega))⟩
theorem t_top_no (h : TW w P Q m0 lim tk An cn Af cf ns fs root pl xs) (hx : xs = []) : Calls Tryd.prog 52 #[.pointer (some ⟨P, 0, none⟩)] w (LookP w m0 1 (.tuple #[ndv 0 none 0 0 0 0 0, .bool false])) := by
  refine t_top_of w P Q m0 lim tk root cn cf An Af ns fs xs pl h 0 none 0 0 0 0 0 false fun V hc hm => ?_
  refine (q_at_no V Q m0 lim cn cf An Af ns fs (h.po.chg hc h.ne_m.1) (root : Int) (h.none hx)).mono ?_
  rintro e w' ⟨rfl, hb⟩
  exact ⟨rfl, 0, by omega, hm.chg (K.Chg.of_below (O := fun _ => False) hb) (fun h => h), K.Chg.of_below hb⟩
theorem t_top_yes (h : TW w P Q m0 lim tk An cn Af cf ns fs root pl xs) (hx : xs ≠ []) : ∃ (W : Nat) (A : Option Addr) (n c ks le gr : Nat), xs.head? = some le ∧ xs.getLast? = some gr ∧ Calls Tryd.prog 52 #[.pointer (some ⟨P, 0, none⟩)] w (LookP w m0 1 (.tuple #[ndv W A n c ks le gr, .bool true])) := by
  have hz : T.prs xs 0 0 := by
    obtain ⟨x, hm⟩ := List.exists_mem_of_ne_nil _ hx
    exact ⟨x, hm, T.pre_zero (h.lt x hm)⟩
  obtain ⟨hi, hn, hok⟩ := h.node (l := 0) (p := 0) (by omega) hz
  have hle := hok.le
  have hgr := hok.gr
  rw [T.sub_zero h.lt] at hle hgr
  refine ⟨(nat ns (pl 0 0)).W, (nat ns (pl 0 0)).A, (nat ns (pl 0 0)).ch.length, (nat ns (pl 0 0)).c, (nat ns (pl 0 0)).ks, (nat ns (pl 0 0)).le, (nat ns (pl 0 0)).gr, hle, hgr, t_top_of w P Q m0 lim tk root cn cf An Af ns fs xs pl h _ _ _ _ _ _ _ true fun V hc hm => ?_⟩
  have := q_at_yes V Q m0 lim cn cf An Af ns fs (h.po.chg hc h.ne_m.1) (pl 0 0) hi (by rw [hn]) 0 hm (by omega)
  rw [hn, ← h.rt hx] at this
  refine this.mono ?_
  rintro e w' ⟨rfl, h1, h2⟩
  rw [h.rt hx]
  exact ⟨rfl, _, Nat.le_refl _, h1, h2⟩
theorem T.head_nx {xs : List Nat} (h : K.Up xs) {a : Nat} (ha : xs.head? = some a) : K.nx xs 0 = a ∧ K.nxb xs 0 = true := by
  have hm := List.mem_of_head? ha
  by_cases h0 : a = 0
  · subst h0
    exact T.nx_yes h hm
  · exact T.nx_above h (fun h1 => h0 (Nat.le_zero.1 (T.head_le h ha 0 h1))) hm (Nat.pos_of_ne_zero h0) (fun x hx _ => T.head_le h ha x hx)
theorem T.last_pv {xs : List Nat} (h : K.Up xs) (hl : ∀ x ∈ xs, x < 18446744073709551616) {a : Nat} (ha : xs.getLast? = some a) : K.pv xs 18446744073709551615 = a ∧ K.pvb xs 18446744073709551615 = true := by
  have hm := List.mem_of_getLast? ha
  have hal := hl a hm
  by_cases h0 : a = 18446744073709551615
  · subst h0
    exact T.pv_yes h hm
  · exact T.pv_below h (fun h1 => by have := T.last_le h ha _ h1; omega) hm (by omega) (fun x hx _ => T.last_le h ha x hx)
theorem t_min (h : TW w P Q m0 lim tk An cn Af cf ns fs root pl xs) : Calls Tryd.prog 27 #[.pointer (some ⟨P, 0, none⟩)] w (LookP w m0 1 (.tuple #[.int .u64 ((K.nx xs 0 : Nat) : Int), .bool (K.nxb xs 0)])) := by
  have hd : ∀ (W : Nat) (A : Option Addr) (n c ks le gr : Nat) (b : Bool), Calls Tryd.prog 52 #[.pointer (some ⟨P, 0, none⟩)] w (LookP w m0 1 (.tuple #[ndv W A n c ks le gr, .bool b])) → Calls Tryd.prog 27 #[.pointer (some ⟨P, 0, none⟩)] w (LookP w m0 1 (.tuple #[.int .u64 (le : Int), .bool b])) := by
    intro W A n c ks le gr b ht
    have ht := Lib.hid ht
    go_enter Tryd.func27, Tryd.ntmps27
    go_wp2_with (go_at_call 52; (with_reducible refine ht.out.mono ?_); rintro e w1 ⟨rfl, tk', h1, h2, h3⟩; have H1 := Lib.hid h1; have H2 := Lib.hid h2; have H3 := Lib.hid h3; clear h1 h2 h3)
    go_ret2
    exact ⟨rfl, tk', H1.out, H2.out.chg (chg_alloc _ _ (fun _ => False)) (fun h => h), H3.out.same (chg_alloc _ _ _)⟩
  by_cases hx : xs = []
  · have := hd _ _ _ _ _ _ _ _ (t_top_no w P Q m0 lim tk root cn cf An Af ns fs xs pl h hx)
    subst hx
    exact this
  · obtain ⟨W, A, n, c, ks, le, gr, hle, hgr, ht⟩ := t_top_yes w P Q m0 lim tk root cn cf An Af ns fs xs pl h hx
    obtain ⟨e1, e2⟩ := T.head_nx h.up hle
    rw [e1, e2]
    exact hd _ _ _ _ _ _ _ _ ht
theorem t_max (h : TW w P Q m0 lim tk An cn Af cf ns fs root pl xs) : Calls Tryd.prog 28 #[.pointer (some ⟨P, 0, none⟩)] w (LookP w m0 1 (.tuple #[.int .u64 ((K.pv xs 18446744073709551615 : Nat) : Int), .bool (K.pvb xs 18446744073709551615)])) := by
  have hd : ∀ (W : Nat) (A : Option Addr) (n c ks le gr : Nat) (b : Bool), Calls Tryd.prog 52 #[.pointer (some ⟨P, 0, none⟩)] w (LookP w m0 1 (.tuple #[ndv W A n c ks le gr, .bool b])) → Calls Tryd.prog 28 #[.pointer (some ⟨P, 0, none⟩)] w (LookP w m0 1 (.tuple #[.int .u64 (gr : Int), .bool b])) := by
    intro W A n c ks le gr b ht
    have ht := Lib.hid ht
    go_enter Tryd.func28, Tryd.ntmps28
    go_wp2_with (go_at_call 52; (with_reducible refine ht.out.mono ?_); rintro e w1 ⟨rfl, tk', h1, h2, h3⟩; have H1 := Lib.hid h1; have H2 := Lib.hid h2; have H3 := Lib.hid h3; clear h1 h2 h3)
    go_ret2
    exact ⟨rfl, tk', H1.out, H2.out.chg (chg_alloc _ _ (fun _ => False)) (fun h => h), H3.out.same (chg_alloc _ _ _)⟩
  by_cases hx : xs = []
  · have := hd _ _ _ _ _ _ _ _ (t_top_no w P Q m0 lim tk root cn cf An Af ns fs xs pl h hx)
    subst hx
    exact this
  · obtain ⟨W, A, n, c, ks, le, gr, hle, hgr, ht⟩ := t_top_yes w P Q m0 lim tk root cn cf An Af ns fs xs pl h hx
    obtain ⟨e1, e2⟩ := T.last_pv h.up h.lt hgr
    rw [e1, e2]
    exact hd _ _ _ _ _ _ _ _ ht
end
end Go.Proofs.YtbiingpdchoppaaDoor
end
