
/- A pool of nodes is cleared; the text walked. -/
import Derived.Test.YtglhiknkcaglmaaL4
import Derived.Lib.SliceRun
namespace Go.Proofs.Ytglhiknkcaglmaa
open Go.RowKit
section
variable {P : Program}
theorem run_clear_any (w : World) (t e ty : TypeId) (z : Value) (ht : P.underlying t = some (.slice e)) (hv : ∀ w, (zeroValue e).run P w = .ok z w) (b n c : Nat)
    (h1 : ∀ v ∈ (Builtin.zeroCells z.cells (n + 1)).toList, v.oneCell' = true)
    (hc : ∀ j, j < (Builtin.zeroCells z.cells (n + 1)).toList.length → (w.cell? ⟨b, j, none⟩).isSome = true) (hf : ∀ j, w.frozen? ⟨b, j, none⟩ = false) :
    (Builtin.clear_ #[t] ty #[.slice (some ⟨b, 0, none⟩) (n + 1) c]).run P w = .ok (.tuple #[]) (w.setCells b 0 (Builtin.zeroCells z.cells (n + 1)).toList) := by
  have hst := run_storeCells_cells (P := P) b 0 (Builtin.zeroCells z.cells (n + 1)).toList 0 w (by simpa using hc) (by intro j _; exact hf _) h1
  simp only [Nat.add_zero] at hst
  simp [Builtin.clear_, run_underlying ht, hv, hst]
theorem wp_clear {o : Oper} {a : Act} {K : Act → World → Prop} {Q : Exit → Act → World → Prop} (w : World) (s : Operand) (t : TypeId)
    (ho : o.op = .call { callee := .builtin .clear, args := #[s], argTypes := #[t] }) (v : Value) (hs : a.eval s = v) (w' : World)
    (hrun : (Builtin.clear_ #[t] o.type #[v]).run P w = .ok (.tuple #[]) w') (h : K (a.put o.dst (.tuple #[])) w') : o.wp P a w K Q := by
  unfold Oper.wp execOp
  simp only [ho, resolve, invoke, builtin, Sem.run_bind, Sem.run_pure, Result.andThen_ok, List.map_toArray, List.map_cons, List.map_nil, hs, hrun]
  exact h
theorem wpList_clear {ops : Array Oper} {rest : List Oper} {o : Oper} {a : Act} {Q : Exit → Act → World → Prop} (w : World) (hgd : o.guard = none) (s : Operand) (t : TypeId)
    (ho : o.op = .call { callee := .builtin .clear, args := #[s], argTypes := #[t] }) (v : Value) (hs : a.eval s = v) (w' : World)
    (hrun : (Builtin.clear_ #[t] o.type #[v]).run P w = .ok (.tuple #[]) w') (h : wpList P ops Q rest (a.put o.dst (.tuple #[])) w') : wpList P ops Q (o :: rest) a w :=
  wpList_plain hgd fun _ hK => wp_clear w s t ho v hs w' hrun (hK _ _ h)
end
theorem own_cells {base : Nat} {e : TypeId} {size n c g : Nat} : ∀ (L : List Value) (o : Nat) (w : World) (xs : List Value), w.ownsRow base e size (.slice (some ⟨g, 0, none⟩) n c) n xs →
    (∃ ys, (w.setCells g o L).ownsRow base e size (.slice (some ⟨g, 0, none⟩) n c) n ys) ∧ K.Chg w (w.setCells g o L) (fun j => j = g)
  | [], _, w, xs, h => ⟨⟨xs, h⟩, chg_refl w _⟩
  | v :: r, o, w, xs, h => by
    have h1 := (h.stored o v).1
    obtain ⟨h2, h3⟩ := own_cells r (o + 1) (w.setCell ⟨g, o, none⟩ v) _ h1
    exact ⟨h2, (chg_set w g o v (fun j => j = g) rfl).same h3⟩
theorem own_none {w : World} {base : Nat} {e : TypeId} {size n c : Nat} {xs : List Value} (h : w.ownsRow base e size (.slice none n c) n xs) : n = 0 ∧ c = 0 := by
  rcases h.2 with ⟨hv, rfl⟩ | ⟨g, cap, cur, hv, _⟩
  · simp at hv; exact ⟨rfl, hv⟩
  · simp at hv
abbrev pzv : Value := .agg #[.int .u64 0, .int .i64 0, .int .i64 0, .bool false]
theorem zc : pzv.cells = #[.int .u64 0, .int .i64 0, .int .i64 0, .bool false] := by kernel_rfl
theorem zc1 (m : Nat) : ∀ v ∈ (Builtin.zeroCells pzv.cells (m + 1)).toList, v.oneCell' = true := by
  rw [zc]
  intro v hv
  simp [Builtin.zeroCells] at hv
  obtain ⟨i, _, rfl⟩ := hv
  rcases (by omega : i % 4 = 0 ∨ i % 4 = 1 ∨ i % 4 = 2 ∨ i % 4 = 3) with h | h | h | h <;> rw [h] <;> rfl
theorem run_clear_zero {P : Program} (w : World) (t e ty : TypeId) (ht : P.underlying t = some (.slice e)) (A : Option Addr) (c : Nat) : (Builtin.clear_ #[t] ty #[.slice A 0 c]).run P w = .ok (.tuple #[]) w := by
  cases A <;> simp [Builtin.clear_, run_underlying ht]
theorem own_ne {w : World} {base : Nat} {e : TypeId} {size n : Nat} {v : Value} {xs : List Value} (h : w.ownsRow base e size v n xs) {g : Nat} {cs : Array Value} {T : TypeId} (hg : w.heap[g]? = some (.cells cs T (0, 0))) (hT : e ≠ T) : ∀ k, v.ownBlock = some k → k ≠ g := by
  intro k hk
  rcases h.2 with ⟨rfl, _⟩ | ⟨b, cap, cur, rfl, _, hb, _⟩
  · simp [Value.ownBlock] at hk
  · simp [Value.ownBlock] at hk
    subst hk
    exact row_ne hb hg hT
theorem own_apart {w : World} {base : Nat} {e e' : TypeId} {size n size' n' : Nat} {v v' : Value} {xs xs' : List Value} (h : w.ownsRow base e size v n xs) (h' : w.ownsRow base e' size' v' n' xs') (hT : e ≠ e') : ∀ k, v.ownBlock = some k → v'.ownBlock ≠ some k := by
  intro k hk e2
  rcases h'.2 with ⟨rfl, _⟩ | ⟨b, cap, cur, rfl, _, hb, _⟩
  · simp [Value.ownBlock] at e2
  · simp [Value.ownBlock] at e2
    subst e2
    exact own_ne h hb hT _ hk rfl
section
variable {w : World} {Q M lim cn cf : Nat} {An Af : Option Addr} {ns : List (Nd × Bool)} {fs : List Nat} {x y : Value}
theorem qo_emptied (hrow : w.heap[Q]? = some (.cells #[.pointer (some ⟨M, 0, none⟩), .int .i64 (lim : Int), x, y] 53 (0, 0)))
    (hn : w.ownsRow 0 63 4 (.slice An 0 cn) 0 []) (hf : w.ownsRow 0 3 1 (.slice Af 0 cf) 0 []) (hl : lim ≤ 1048576) :
    Qo ((w.setCell ⟨Q, 2, none⟩ (.slice An 0 cn)).setCell ⟨Q, 3, none⟩ (.slice Af 0 cf)) Q M lim An cn Af cf [] [] ∧ Qo ((w.setCell ⟨Q, 3, none⟩ (.slice Af 0 cf)).setCell ⟨Q, 2, none⟩ (.slice An 0 cn)) Q M lim An cn Af cf [] [] := by
  have hA := own_ne hn hrow (by decide)
  have hF := own_ne hf hrow (by decide)
  have b1 := (chg_set w Q 2 (.slice An 0 cn) (· = Q) rfl).same (chg_set _ Q 3 (.slice Af 0 cf) (· = Q) rfl)
  have b2 := (chg_set w Q 3 (.slice Af 0 cf) (· = Q) rfl).same (chg_set _ Q 2 (.slice An 0 cn) (· = Q) rfl)
  refine ⟨⟨?_, b1.own hn hA, b1.own hf hF, fun i hi => by simp at hi, by simp, hl, by simp, by simp⟩, ⟨?_, b2.own hn hA, b2.own hf hF, fun i hi => by simp at hi, by simp, hl, by simp, by simp⟩⟩
  · have := row_set (row_set hrow 2 (.slice An 0 cn)) 3 (.slice Af 0 cf)
    simpa using this
  · have := row_set (row_set hrow 3 (.slice Af 0 cf)) 2 (.slice An 0 cn)
    simpa using this
set_option maxRecDepth 20000 in
theorem q_clear (a : Qo w Q M lim An cn Af cf ns fs) :
    Calls Try.prog 26 #[.pointer (some ⟨Q, 0, none⟩)] w fun e w' => e = .returned (.tuple #[]) ∧ QStep w Q M lim An Af [] [] w' := by
  have hfin : ∀ wc : World, K.Chg w wc (fun j => An.map (·.block) = some j) → (∃ ys, wc.ownsRow 0 63 4 (.slice An ns.length cn) ns.length ys) →
      wc.cell? ⟨Q, 2, none⟩ = some (.slice An ns.length cn) ∧ wc.cell? ⟨Q, 3, none⟩ = some (.slice Af fs.length cf) ∧ wc.frozen? ⟨Q, 2, none⟩ = false ∧ wc.frozen? ⟨Q, 3, none⟩ = false ∧
      Hid (∀ N, QStep w Q M lim An Af [] [] (((wc.setCell ⟨Q, 2, none⟩ (.slice An 0 cn)).setCell ⟨Q, 3, none⟩ (.slice Af 0 cf)).drewN N) ∧ QStep w Q M lim An Af [] [] (((wc.setCell ⟨Q, 3, none⟩ (.slice Af 0 cf)).setCell ⟨Q, 2, none⟩ (.slice An 0 cn)).drewN N)) := by
    intro wc b ⟨ys, hy⟩
    have hmap : ∀ {A : Option Addr} {n c k : Nat}, (Value.slice A n c).ownBlock = some k ↔ A.map (·.block) = some k := by
      intro A n c k
      cases A <;> simp [Value.ownBlock]
    have hrow := (b.block Q (row_lt a.row) (fun e => own_ne a.nodes a.row (by decide) _ (hmap.2 e) rfl)).trans a.row
    have hn := own_cut hy (k := 0) (by omega)
    have hf := own_cut (b.own a.freed (fun k hk e => own_apart a.nodes a.freed (by decide) k (hmap.2 e) hk)) (k := 0) (by omega)
    rw [Nat.zero_mul, List.take_zero] at hn hf
    have hp := qo_emptied hrow hn hf a.lim_le
    have bb : K.Chg w wc (QB Q An Af) := b.mono (fun j h => .inr (.inl h))
    refine ⟨cell_of_row wc Q 2 _ _ (0, 0) hrow, cell_of_row wc Q 3 _ _ (0, 0) hrow, by simp [World.frozen?, hrow], by simp [World.frozen?, hrow], fun N => ⟨⟨An, cn, Af, cf, hp.1.chg ((chg_refl _ (fun _ => False)).drewN N) (fun _ _ h => h), ?_, fun j hj => .inl hj⟩, ⟨An, cn, Af, cf, hp.2.chg ((chg_refl _ (fun _ => False)).drewN N) (fun _ _ h => h), ?_, fun j hj => .inl hj⟩⟩⟩
    · exact ((bb.same (chg_set _ _ _ _ _ (.inl rfl))).same (chg_set _ _ _ _ _ (.inl rfl))).drewN N
    · exact ((bb.same (chg_set _ _ _ _ _ (.inl rfl))).same (chg_set _ _ _ _ _ (.inl rfl))).drewN N
  have hc2 := a.c2
  have hns := a.ns_le
  have hfs := a.fs_le
  have hcapN := own_cap a.nodes
  have hcapF := own_cap a.freed
  have own_noneH : Hid (Af = none → fs.length = 0 ∧ cf = 0) := fun e => by
    have := a.freed
    rw [e] at this
    exact own_none this
  have own_someH : Hid (∀ f, Af = some f → ∃ fb, f = ⟨fb, 0, none⟩) := fun f e => by
    have := a.freed
    rw [e] at this
    rcases this.2 with ⟨hv, _⟩ | ⟨gg, cap, cur, hv, _⟩
    · simp at hv
    · simp at hv; exact ⟨gg, hv.1⟩
  rcases Nat.eq_zero_or_pos ns.length with h0 | h0
  · obtain ⟨x2, x3, f2, f3, hend⟩ := hfin w (chg_refl w _) ⟨nv ns, a.nodes⟩
    rw [h0] at x2 hc2
    have hrun := Lib.hid (run_clear_zero (P := Try.prog) w 50 63 0 Try.underlying50 An cn)
    have an_someH : Hid (∀ f, An = some f → ∃ fb, f = ⟨fb, 0, none⟩) := fun f e => by
      have := a.nodes
      rw [e] at this
      rcases this.2 with ⟨hv, _⟩ | ⟨gg, cap, cur, hv, _⟩
      · simp at hv
      · simp at hv; exact ⟨gg, hv.1⟩
    have an_noneH : Hid (An = none → cn = 0) := fun e => by
      have := a.nodes
      rw [e] at this
      exact (own_none this).2
    have hendH := hend
    clear hend hfin a h0
    generalize fs.length = q at *
    have hqH := Lib.hid hcapF
    go_enter Try.func26, Try.ntmps26
    go_wp2_with (refine wpList_clear _ rfl (.tmp 7) 50 rfl _ rfl _ hrun.out ?_)
    rcases An with _ | ga
    · obtain rfl := an_noneH.out rfl
      dsimp only [Act.put]
      rcases Af with _ | f
      · obtain ⟨rfl, rfl⟩ := own_noneH.out rfl
        go_region
        all_goals
          go_wp2
          go_end0
          first
          | exact ⟨rfl, (hendH.out _).1⟩
          | exact ⟨rfl, (hendH.out _).2⟩
      · have hf0 := own_someH.out f rfl
        obtain ⟨fb, rfl⟩ := hf0
        go_region
        all_goals
          go_wp2
          go_end0
          first
          | exact ⟨rfl, (hendH.out _).1⟩
          | exact ⟨rfl, (hendH.out _).2⟩
    · obtain ⟨gb, rfl⟩ := an_someH.out ga rfl
      dsimp only [Act.put]
      rcases Af with _ | f
      · obtain ⟨rfl, rfl⟩ := own_noneH.out rfl
        go_region
        all_goals
          go_wp2
          go_end0
          first
          | exact ⟨rfl, (hendH.out _).1⟩
          | exact ⟨rfl, (hendH.out _).2⟩
      · have hf0 := own_someH.out f rfl
        obtain ⟨fb, rfl⟩ := hf0
        go_region
        all_goals
          go_wp2
          go_end0
          first
          | exact ⟨rfl, (hendH.out _).1⟩
          | exact ⟨rfl, (hendH.out _).2⟩
  · obtain ⟨g, rfl⟩ := own_some a.nodes h0
    obtain ⟨m, hm⟩ : ∃ m, ns.length = m + 1 := ⟨ns.length - 1, by omega⟩
    rw [hm] at hc2
    have hnod := a.nodes
    obtain ⟨hy, hb⟩ := own_cells (Builtin.zeroCells pzv.cells (m + 1)).toList 0 w (nv ns) hnod
    obtain ⟨x2, x3, f2, f3, hend⟩ := hfin _ (hb.mono (fun j h => by rw [h]; rfl)) hy
    have hzl : (Builtin.zeroCells pzv.cells (m + 1)).toList.length = (m + 1) * 4 := by rw [zc]; simp [Builtin.zeroCells]
    have hrun := Lib.hid (run_clear_any (P := Try.prog) w 50 63 0 pzv Try.underlying50 (fun w => by kernel_rfl) g m cn (zc1 m) (fun j hj => by
      rw [hzl] at hj
      have e := hnod.cellAt j (by omega)
      rw [e, List.getElem?_eq_getElem (by rw [nv_len]; omega)]
      rfl) (fun j => hnod.frozenAt j))
    obtain ⟨wc, hwc⟩ : ∃ wc, w.setCells g 0 (Builtin.zeroCells pzv.cells (m + 1)).toList = wc := ⟨_, rfl⟩
    rw [hwc] at x2 x3 f2 f3 hend hrun
    rw [hm] at x2
    have hm1 : m + 1 ≤ cn := by omega
    have hendH := hend
    clear hwc hb hy hnod hend hfin hzl hm a
    generalize fs.length = q at *
    have hqH := Lib.hid hcapF
    go_enter Try.func26, Try.ntmps26
    go_wp2_with (refine wpList_clear _ rfl (.tmp 7) 50 rfl _ rfl _ hrun.out ?_)
    dsimp only [Act.put]
    rcases Af with _ | f
    · obtain ⟨rfl, rfl⟩ := own_noneH.out rfl
      go_region
      all_goals
        go_wp2
        go_end0
        first
        | exact ⟨rfl, (hendH.out _).1⟩
        | exact ⟨rfl, (hendH.out _).2⟩
    · have hf0 := own_someH.out f rfl
      obtain ⟨fb, rfl⟩ := hf0
      go_region
      all_goals
        go_wp2
        go_end0
        first
        | exact ⟨rfl, (hendH.out _).1⟩
        | exact ⟨rfl, (hendH.out _).2⟩
end
end Go.Proofs.Ytglhiknkcaglmaa
