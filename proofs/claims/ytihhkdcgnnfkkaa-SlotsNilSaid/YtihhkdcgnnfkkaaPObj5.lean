
/- A pool is cleared; the text walked. -/
import Derived.Test.YtihhkdcgnnfkkaaClearAny
namespace Go.Proofs.Ytihhkdcgnnfkkaa.Pp
set_option maxRecDepth 4000
open Go.RowKit
section
variable {w : World} {B P M lim cn cf : Nat} {An Af : Option Addr} {ns : List (Nat × Bool)} {fs : List Nat} {x y : Value}
theorem po_emptied (hrow : w.heap[P]? = some (.cells #[.pointer (some ⟨M, 0, none⟩), .int .i64 (lim : Int), x, y] 76 (0, 0)))
    (hn : w.ownsRow B 84 2 (.slice An 0 cn) 0 []) (hf : w.ownsRow B 3 1 (.slice Af 0 cf) 0 []) (hB : B ≤ P)
    (n1 : ∀ a, An = some a → a.block ≠ P) (n2 : ∀ a, Af = some a → a.block ≠ P) (n3 : ∀ a b, An = some a → Af = some b → a.block ≠ b.block) (hl : lim ≤ 1048576) :
    Po ((w.setCell ⟨P, 2, none⟩ (.slice An 0 cn)).setCell ⟨P, 3, none⟩ (.slice Af 0 cf)) B P M lim An cn Af cf [] [] ∧ Po ((w.setCell ⟨P, 3, none⟩ (.slice Af 0 cf)).setCell ⟨P, 2, none⟩ (.slice An 0 cn)) B P M lim An cn Af cf [] [] := by
  have hA : ∀ k, (Value.slice An 0 cn).ownBlock = some k → ¬ (k = P) := fun k hk => by
    cases An with
    | none => simp [Value.ownBlock] at hk
    | some a => simp [Value.ownBlock] at hk; subst hk; exact n1 a rfl
  have hF : ∀ k, (Value.slice Af 0 cf).ownBlock = some k → ¬ (k = P) := fun k hk => by
    cases Af with
    | none => simp [Value.ownBlock] at hk
    | some a => simp [Value.ownBlock] at hk; subst hk; exact n2 a rfl
  have b1 := (but_set w P 2 (.slice An 0 cn) (· = P) rfl).trans (but_set _ P 3 (.slice Af 0 cf) (· = P) rfl)
  have b2 := (but_set w P 3 (.slice Af 0 cf) (· = P) rfl).trans (but_set _ P 2 (.slice An 0 cn) (· = P) rfl)
  refine ⟨⟨?_, b1.own hn hA, b1.own hf hF, hB, n1, n2, n3, fun i hi => by simp at hi, hl, by simp, by simp⟩, ⟨?_, b2.own hn hA, b2.own hf hF, hB, n1, n2, n3, fun i hi => by simp at hi, hl, by simp, by simp⟩⟩
  · have := set_heap (set_heap hrow 2 (.slice An 0 cn)) 3 (.slice Af 0 cf)
    simpa using this
  · have := set_heap (set_heap hrow 3 (.slice Af 0 cf)) 2 (.slice An 0 cn)
    simpa using this
theorem own_none {w : World} {base : Nat} {e : TypeId} {size n c : Nat} {xs : List Value} (h : w.ownsRow base e size (.slice none n c) n xs) : n = 0 ∧ c = 0 := by
  rcases h.2 with ⟨hv, rfl⟩ | ⟨g, cap, cur, hv, _⟩
  · simp at hv; exact ⟨rfl, hv⟩
  · simp at hv
theorem zc : (Value.agg #[.int .u64 0, .bool false]).cells = #[.int .u64 0, .bool false] := by kernel_rfl
theorem zc1 (m : Nat) : ∀ v ∈ (Builtin.zeroCells (Value.agg #[.int .u64 0, .bool false]).cells (m + 1)).toList, v.oneCell' = true := by
  rw [zc]
  intro v hv
  simp [Builtin.zeroCells] at hv
  obtain ⟨i, _, rfl⟩ := hv
  rcases (by omega : i % 2 = 0 ∨ i % 2 = 1) with h | h <;> rw [h] <;> rfl
theorem run_clear_zero {P : Program} (w : World) (t e ty : TypeId) (ht : P.underlying t = some (.slice e)) (A : Option Addr) (c : Nat) : (Builtin.clear_ #[t] ty #[.slice A 0 c]).run P w = .ok (.tuple #[]) w := by
  cases A <;> simp [Builtin.clear_, run_underlying ht]
set_option maxRecDepth 20000 in
theorem p_clear (a : Po w B P M lim An cn Af cf ns fs) :
    Calls Try.prog 28 #[.pointer (some ⟨P, 0, none⟩)] w fun e w' => e = .returned (.tuple #[]) ∧ PStep w B P M lim An Af [] [] w' := by
  have hfin : ∀ wc : World, ButS w wc (fun j => An.map (·.block) = some j) → (∃ ys, wc.ownsRow B 84 2 (.slice An ns.length cn) ns.length ys) →
      wc.cell? ⟨P, 2, none⟩ = some (.slice An ns.length cn) ∧ wc.cell? ⟨P, 3, none⟩ = some (.slice Af fs.length cf) ∧ wc.frozen? ⟨P, 2, none⟩ = false ∧ wc.frozen? ⟨P, 3, none⟩ = false ∧
      Hid (∀ N, PStep w B P M lim An Af [] [] (((wc.setCell ⟨P, 2, none⟩ (.slice An 0 cn)).setCell ⟨P, 3, none⟩ (.slice Af 0 cf)).drewN N) ∧ PStep w B P M lim An Af [] [] (((wc.setCell ⟨P, 3, none⟩ (.slice Af 0 cf)).setCell ⟨P, 2, none⟩ (.slice An 0 cn)).drewN N)) := by
    intro wc b ⟨ys, hy⟩
    have hrow := (b.block P a.lt (fun e => by
      cases An with
      | none => simp at e
      | some x => simp at e; exact a.n1 x rfl e)).trans a.row
    have hn := own_cut hy (k := 0) (by omega)
    have hf := own_cut (b.own a.freed (fun k hk e => by
      cases Af with
      | none => simp [Value.ownBlock] at hk
      | some x => cases An with
        | none => simp at e
        | some y => simp [Value.ownBlock] at hk; simp at e; exact a.n3 y x rfl rfl (e.trans hk.symm))) (k := 0) (by omega)
    rw [Nat.zero_mul, List.take_zero] at hn hf
    have hp := po_emptied hrow hn hf a.base a.n1 a.n2 a.n3 a.lim_le
    have bb : ButS w wc (PB P An Af) := b.mono (fun j _ h => .inr (.inl h))
    refine ⟨cell_of_row wc P 2 _ _ (0, 0) hrow, cell_of_row wc P 3 _ _ (0, 0) hrow, by simp [World.frozen?, hrow], by simp [World.frozen?, hrow], fun N => ⟨⟨An, cn, Af, cf, hp.1.drew N, ?_, fun j hj => .inl hj⟩, ⟨An, cn, Af, cf, hp.2.drew N, ?_, fun j hj => .inl hj⟩⟩⟩
    · exact ((bb.trans (but_set _ _ _ _ _ (.inl rfl))).trans (but_set _ _ _ _ _ (.inl rfl))).drewN N
    · exact ((bb.trans (but_set _ _ _ _ _ (.inl rfl))).trans (but_set _ _ _ _ _ (.inl rfl))).drewN N
  have hc2 := a.c2
  have hns := a.ns_le
  have hfs := a.fs_le
  have hcapN := own_cap a.nodes
  have hcapF := own_cap a.freed
  have own_noneH : Hid (Af = none → fs.length = 0 ∧ cf = 0) := fun e => by
    have := a.freed
    rw [e] at this
    exact own_none this
  have own_someH : Hid (∀ f, Af = some f → ∃ fb, f = ⟨fb, 0, none⟩) := fun f e => by
    have := a.freed
    rw [e] at this
    rcases this.2 with ⟨hv, _⟩ | ⟨gg, cap, cur, hv, _⟩
    · simp at hv
    · simp at hv; exact ⟨gg, hv.1⟩
  rcases Nat.eq_zero_or_pos ns.length with h0 | h0
  · obtain ⟨x2, x3, f2, f3, hend⟩ := hfin w (ButS.refl w _) ⟨nv ns, a.nodes⟩
    rw [h0] at x2 hc2
    have hrun := Lib.hid (run_clear_zero (P := Try.prog) w 73 84 0 Try.underlying73 An cn)
    have an_someH : Hid (∀ f, An = some f → ∃ fb, f = ⟨fb, 0, none⟩) := fun f e => by
      have := a.nodes
      rw [e] at this
      rcases this.2 with ⟨hv, _⟩ | ⟨gg, cap, cur, hv, _⟩
      · simp at hv
      · simp at hv; exact ⟨gg, hv.1⟩
    have an_noneH : Hid (An = none → cn = 0) := fun e => by
      have := a.nodes
      rw [e] at this
      exact (own_none this).2
    have hendH := hend
    clear hend hfin a h0
    generalize fs.length = q at *
    have hqH := Lib.hid hcapF
    go_enter Try.func28, Try.ntmps28
    go_wp2_with (refine wpList_clear _ rfl (.tmp 7) 73 rfl _ rfl _ hrun.out ?_)
    rcases An with _ | ga
    · obtain rfl := an_noneH.out rfl
      dsimp only [Act.put]
      rcases Af with _ | f
      · obtain ⟨rfl, rfl⟩ := own_noneH.out rfl
        go_region
        all_goals
          go_wp2
          go_end0
          first
          | exact ⟨rfl, (hendH.out _).1⟩
          | exact ⟨rfl, (hendH.out _).2⟩
      · have hf0 := own_someH.out f rfl
        obtain ⟨fb, rfl⟩ := hf0
        go_region
        all_goals
          go_wp2
          go_end0
          first
          | exact ⟨rfl, (hendH.out _).1⟩
          | exact ⟨rfl, (hendH.out _).2⟩
    · obtain ⟨gb, rfl⟩ := an_someH.out ga rfl
      dsimp only [Act.put]
      rcases Af with _ | f
      · obtain ⟨rfl, rfl⟩ := own_noneH.out rfl
        go_region
        all_goals
          go_wp2
          go_end0
          first
          | exact ⟨rfl, (hendH.out _).1⟩
          | exact ⟨rfl, (hendH.out _).2⟩
      · have hf0 := own_someH.out f rfl
        obtain ⟨fb, rfl⟩ := hf0
        go_region
        all_goals
          go_wp2
          go_end0
          first
          | exact ⟨rfl, (hendH.out _).1⟩
          | exact ⟨rfl, (hendH.out _).2⟩
  · obtain ⟨g, rfl⟩ := own_some a.nodes h0
    obtain ⟨m, hm⟩ : ∃ m, ns.length = m + 1 := ⟨ns.length - 1, by omega⟩
    rw [hm] at hc2
    have hnod := a.nodes
    obtain ⟨hy, hb⟩ := own_cells (Builtin.zeroCells (Value.agg #[.int .u64 0, .bool false]).cells (m + 1)).toList 0 w (nv ns) hnod
    obtain ⟨x2, x3, f2, f3, hend⟩ := hfin _ (hb _ rfl) hy
    have hzl : (Builtin.zeroCells (Value.agg #[.int .u64 0, .bool false]).cells (m + 1)).toList.length = (m + 1) * 2 := by rw [zc]; simp [Builtin.zeroCells]
    have hrun := Lib.hid (run_clear_any (P := Try.prog) w 73 84 0 (.agg #[.int .u64 0, .bool false]) Try.underlying73 (fun w => by kernel_rfl) g m cn (zc1 m) (fun j hj => by
      rw [hzl] at hj
      have e := hnod.cellAt j (by omega)
      rw [e, List.getElem?_eq_getElem (by rw [nv_len]; omega)]
      rfl) (fun j => hnod.frozenAt j))
    obtain ⟨wc, hwc⟩ : ∃ wc, w.setCells g 0 (Builtin.zeroCells (Value.agg #[.int .u64 0, .bool false]).cells (m + 1)).toList = wc := ⟨_, rfl⟩
    rw [hwc] at x2 x3 f2 f3 hend hrun
    rw [hm] at x2
    have hm1 : m + 1 ≤ cn := by omega
    have hendH := hend
    clear hwc hb hy hnod hend hfin hzl hm a
    generalize fs.length = q at *
    have hqH := Lib.hid hcapF
    go_enter Try.func28, Try.ntmps28
    go_wp2_with (refine wpList_clear _ rfl (.tmp 7) 73 rfl _ rfl _ hrun.out ?_)
    dsimp only [Act.put]
    rcases Af with _ | f
    · obtain ⟨rfl, rfl⟩ := own_noneH.out rfl
      go_region
      all_goals
        go_wp2
        go_end0
        first
        | exact ⟨rfl, (hendH.out _).1⟩
        | exact ⟨rfl, (hendH.out _).2⟩
    · have hf0 := own_someH.out f rfl
      obtain ⟨fb, rfl⟩ := hf0
      go_region
      all_goals
        go_wp2
        go_end0
        first
        | exact ⟨rfl, (hendH.out _).1⟩
        | exact ⟨rfl, (hendH.out _).2⟩
end
end Go.Proofs.Ytihhkdcgnnfkkaa.Pp
