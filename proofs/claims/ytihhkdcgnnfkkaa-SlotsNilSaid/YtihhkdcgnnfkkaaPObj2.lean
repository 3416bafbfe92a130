
/- A pool is changed: New, next, Alloc; the texts walked. -/
import Derived.Test.YtihhkdcgnnfkkaaPObj
import Derived.Test.YtihhkdcgnnfkkaaAppAny
namespace Go.Proofs.Ytihhkdcgnnfkkaa.Pp
set_option maxRecDepth 4000
open Go.RowKit
theorem below_grown {w w' : World} (g : w.grownBy w' none) : Below w.heap.size w w' := ⟨g.os, g.tape, g.output, g.size, fun k hk => g.block k hk (by simp)⟩
theorem set_grownP (w : World) (h k : Nat) (u : Value) : w.grownBy (w.setCell ⟨h, k, none⟩ u) (some h) :=
  ⟨rfl, rfl, rfl, by simp [World.setCell], fun j _ hne => Below.heap_setCell w _ u j (fun e => hne (by rw [e]))⟩
theorem alloc_top (w : World) (o : Obj) {k : Nat} (hk : k = w.heap.size) : (w.alloc o).heap[k]? = some o := by
  subst hk
  show (w.heap.push o)[w.heap.size]? = some o
  simp
theorem but_alloc (w : World) (o : Obj) (S : Nat → Prop) : ButS w (w.alloc o) S := ButS.of_grown (World.grownBy_alloc w o none) (by simp)
theorem but_set (w : World) (h k : Nat) (u : Value) (S : Nat → Prop) (hS : S h) : ButS w (w.setCell ⟨h, k, none⟩ u) S := ButS.of_grown (set_grownP w h k u) (fun j e => by cases e; exact hS)
/-- What a call that changes a pool leaves. -/
def PStep (w : World) (B P M lim : Nat) (An Af : Option Addr) (ns' : List (Nat × Bool)) (fs' : List Nat) (w' : World) : Prop :=
  ∃ An' cn' Af' cf', Po w' B P M lim An' cn' Af' cf' ns' fs' ∧ ButS w w' (PB P An Af) ∧ ∀ j, PB P An' Af' j → PB P An Af j ∨ w.heap.size ≤ j
section
variable (w : World) (B P M lim cn cf : Nat) (An Af : Option Addr) (ns : List (Nat × Bool)) (fs : List Nat)
theorem p_new (hM : M < w.heap.size) (hlim : lim ≤ 1048576) (hB : B ≤ w.heap.size) :
    Calls Try.prog 21 #[.pointer (some ⟨M, 0, none⟩), .int .i64 (lim : Int)] w fun e w' => e = .returned (.tuple #[.pointer (some ⟨w.heap.size, 0, none⟩), .int .i64 0]) ∧ Po w' B w.heap.size M lim none 0 none 0 [] [] ∧ Below w.heap.size w w' := by
  have g0 : decide ((lim : Int) < 0) = false := decide_eq_false (by omega)
  have g1 : decide (1048576 < (lim : Int)) = false := decide_eq_false (by omega)
  have hMh := Lib.hid hM
  clear hM
  go_enter Try.func21, Try.ntmps21
  go_wp2
  go_ret2
  refine ⟨rfl, ⟨alloc_top _ _ rfl, World.ownsRow_nil _ _ _ _, World.ownsRow_nil _ _ _ _, hB, by simp, by simp, by simp, by simp, hlim, by simp, by simp⟩, (Below.refl _ w).alloc (Nat.le_refl _) _⟩
theorem p_new_nil (hlim : lim ≤ 1048576) (hB : B ≤ w.heap.size) :
    Calls Try.prog 21 #[.pointer none, .int .i64 (lim : Int)] w fun e w' => ∃ P M, e = .returned (.tuple #[.pointer (some ⟨P, 0, none⟩), .int .i64 0]) ∧ Po w' B P M lim none 0 none 0 [] [] ∧ Mt w' M 0 0 0 0 0 ∧ M ≠ P ∧ w.heap.size ≤ P ∧ w.heap.size ≤ M ∧ Below w.heap.size w w' := by
  have g0 : decide ((lim : Int) < 0) = false := decide_eq_false (by omega)
  have g1 : decide (1048576 < (lim : Int)) = false := decide_eq_false (by omega)
  go_enter Try.func21, Try.ntmps21
  go_wp2_with (go_at_call 20; (with_reducible refine (m_new _).mono ?_); rintro e w1 ⟨rfl, hm, hb1⟩; have hmH := Lib.hid hm; clear hm; have hbH := Lib.hid hb1; clear hb1)
  go_ret2
  have hlt := hmH.out.lt
  refine ⟨_, _, rfl, ⟨alloc_top _ _ rfl, World.ownsRow_nil _ _ _ _, World.ownsRow_nil _ _ _ _, by omega, by simp, by simp, by simp, by simp, hlim, by simp, by simp⟩, hmH.out.below ((Below.refl _ w1).alloc (Nat.le_refl _) _) hlt, by omega, by omega, Nat.le_refl _, hbH.out.alloc (by omega) _⟩
theorem p_new_no (n : Int) (p : Option Addr) (hn : ¬ (0 ≤ n ∧ n ≤ 1048576)) :
    Calls Try.prog 21 #[.pointer p, .int .i64 n] w fun e w' => e = .returned (.tuple #[.pointer none, .int .i64 1]) ∧ w = w' := by
  by_cases h0 : n < 0
  · have g0 : decide (n < 0) = true := decide_eq_true h0
    clear hn
    go_enter Try.func21, Try.ntmps21
    go_wp2
    go_ret2
    exact ⟨rfl, rfl⟩
  · have g0 : decide (n < 0) = false := decide_eq_false h0
    have g1 : decide (1048576 < n) = true := decide_eq_true (by omega)
    clear hn
    go_enter Try.func21, Try.ntmps21
    go_wp2
    go_ret2
    exact ⟨rfl, rfl⟩
theorem Po.set3 {w : World} {B P M lim cn cf : Nat} {An Af : Option Addr} {ns : List (Nat × Bool)} {fs : List Nat} (h : Po w B P M lim An cn Af cf ns fs) {Af' : Option Addr} {cf' : Nat} {fs' : List Nat} (hown : w.ownsRow B 3 1 (.slice Af' fs'.length cf') fs'.length (iv fs'))
    (h2 : ∀ a, Af' = some a → a.block ≠ P) (h3 : ∀ a b, An = some a → Af' = some b → a.block ≠ b.block) (hin : ∀ i ∈ fs', i < ns.length) (hle : fs'.length ≤ ns.length) :
    Po (w.setCell ⟨P, 3, none⟩ (.slice Af' fs'.length cf')) B P M lim An cn Af' cf' ns fs' := by
  have b := but_set w P 3 (.slice Af' fs'.length cf') (· = P) rfl
  refine ⟨?_, ?_, ?_, h.base, h.n1, h2, h3, hin, h.lim_le, h.ns_le, hle⟩
  · have := set_heap h.row 3 (.slice Af' fs'.length cf')
    simpa using this
  · exact b.own h.nodes (fun k hk => by
      cases An with
      | none => simp [Value.ownBlock] at hk
      | some a => simp [Value.ownBlock] at hk; subst hk; exact h.n1 a rfl)
  · exact b.own hown (fun k hk => by
      cases Af' with
      | none => simp [Value.ownBlock] at hk
      | some a => simp [Value.ownBlock] at hk; subst hk; exact h2 a rfl)
theorem po_set2 {w : World} {B P M lim cf : Nat} {Af : Option Addr} {x : Value} {fs : List Nat} (hrow : w.heap[P]? = some (.cells #[.pointer (some ⟨M, 0, none⟩), .int .i64 (lim : Int), x, .slice Af fs.length cf] 76 (0, 0)))
    {An' : Option Addr} {cn' : Nat} {ns' : List (Nat × Bool)} (hown : w.ownsRow B 84 2 (.slice An' ns'.length cn') ns'.length (nv ns')) (hf : w.ownsRow B 3 1 (.slice Af fs.length cf) fs.length (iv fs)) (hB : B ≤ P) (n2 : ∀ a, Af = some a → a.block ≠ P)
    (h2 : ∀ a, An' = some a → a.block ≠ P) (h3 : ∀ a b, An' = some a → Af = some b → a.block ≠ b.block) (hin : ∀ i ∈ fs, i < ns'.length) (hlim : lim ≤ 1048576) (hle : fs.length ≤ ns'.length) (hn : ns'.length ≤ 2097152) :
    Po (w.setCell ⟨P, 2, none⟩ (.slice An' ns'.length cn')) B P M lim An' cn' Af cf ns' fs := by
  have b := but_set w P 2 (.slice An' ns'.length cn') (· = P) rfl
  refine ⟨?_, ?_, ?_, hB, h2, n2, h3, hin, hlim, hn, hle⟩
  · have := set_heap hrow 2 (.slice An' ns'.length cn')
    simpa using this
  · exact b.own hown (fun k hk => by
      cases An' with
      | none => simp [Value.ownBlock] at hk
      | some a => simp [Value.ownBlock] at hk; subst hk; exact h2 a rfl)
  · exact b.own hf (fun k hk => by
      cases Af with
      | none => simp [Value.ownBlock] at hk
      | some a => simp [Value.ownBlock] at hk; subst hk; exact n2 a rfl)
theorem own_cap {w : World} {base : Nat} {e : TypeId} {size n c : Nat} {A : Option Addr} {xs : List Value} (h : w.ownsRow base e size (.slice A n c) n xs) : n ≤ c := by
  rcases h.2 with ⟨hv, rfl⟩ | ⟨g, cap, cur, hv, _, _, hnc, _⟩
  · omega
  · simp at hv; omega
theorem p_next_pop (i m : Nat) (a : Po w B P M lim An cn Af cf ns (fs ++ [i])) (hm : fs.length = m) :
    Calls Try.prog 42 #[.pointer (some ⟨P, 0, none⟩)] w fun e w' => e = .returned (.int .i64 (i : Int)) ∧ PStep w B P M lim An Af ns fs w' := by
  have aH := Lib.hid a
  have hl : (fs ++ [i]).length = m + 1 := by simp [hm]
  have hc3 := a.c3
  rw [hl] at hc3
  have hfr := a.fr 3
  have hfre := a.freed
  rw [hl] at hfre
  obtain ⟨g, rfl⟩ := own_some hfre (by omega)
  have hci : w.cell? ⟨g, m, none⟩ = some (.int .i64 (i : Int)) := by
    rw [hfre.cellAt m (by omega)]
    subst hm
    simp
  have hcap := own_cap hfre
  have hcut := own_cut hfre (k := m) (by omega)
  have hm1 : m + 1 ≤ 2097152 := by rw [← hl]; exact Nat.le_trans a.fs_le a.ns_le
  have hmH := Lib.hid hm
  have hcutH := Lib.hid hcut
  clear a hfre hcut hm hl
  have w1 : IntKind.i64.wrap (((m + 1 : Nat) : Int) - 1) = (m : Int) := by rw [IntWalk.i64_in _ (by omega)]; omega
  have w2 : IntKind.i64.wrap ((m : Int) + 1 - 1) = (m : Int) := by rw [IntWalk.i64_in _ (by omega)]; omega
  have g0 : decide (0 ≤ (m : Int)) = true := decide_eq_true (by omega)
  have k1 : (m : Int) < ((m + 1 : Nat) : Int) := by omega
  go_enter Try.func42, Try.ntmps42
  go_wp2
  go_ret
  have hc' : w.ownsRow B 3 1 (.slice (some ⟨g, 0, none⟩) fs.length cf) fs.length (iv fs) := by
    have := hcutH.out
    rw [Nat.mul_one, ← hmH.out] at this
    simpa using this
  have hp := aH.out.set3 hc' (fun a e => aH.out.n2 a e) (fun a b e e' => aH.out.n3 a b e e') (fun j hj => aH.out.inr j (List.mem_append_left _ hj)) (by have := aH.out.fs_le; simp at this; omega)
  rw [hmH.out] at hp
  exact ⟨rfl, An, cn, _, cf, hp, but_set _ _ _ _ _ (.inl rfl), fun j hj => .inl hj⟩
theorem node_info : (Try.prog.info? 84).map (fun i => (i.zero, i.size, i.bytes)) = some (some (.agg #[.int .u64 0, .bool false]), 2, 16) := by kernel_rfl
theorem info_parts' {o : Option TypeInfo} {z : Option Value} {s b : Nat} (h : o.map (fun i => (i.zero, i.size, i.bytes)) = some (z, s, b)) : ∃ i, o = some i ∧ i.zero = z ∧ i.size = s ∧ i.bytes = b := by
  cases o with
  | none => simp at h
  | some i => simp at h; exact ⟨i, rfl, h.1, h.2.1, h.2.2⟩
theorem p_next_new (a : Po w B P M lim An cn Af cf ns []) (hn : ns.length < 2097152) :
    Calls Try.prog 42 #[.pointer (some ⟨P, 0, none⟩)] w fun e w' => e = .returned (.int .i64 (ns.length : Int)) ∧ PStep w B P M lim An Af (ns ++ [(0, false)]) [] w' := by
  have aH := Lib.hid a
  obtain ⟨i0, hi, hz0, hz1, hz2⟩ := info_parts' node_info
  have hc3 := a.c3
  have hc2 := a.c2
  have hnl := a.ns_le
  have hPlt := a.lt
  have hown := Lib.hid (a.nodes.alloc (.cells #[.int .u64 0, .bool false] 84))
  have hrd : Hid (Reads (w.alloc (.cells #[.int .u64 0, .bool false] 84)) (w.heap.size + 1) 2 (some ⟨w.heap.size, 0, none⟩) 1 [.int .u64 0, .bool false]) := by
    refine ⟨rfl, fun _ => ⟨_, rfl, by show w.heap.size < _; omega, fun j u hu => ?_⟩⟩
    have e : (⟨w.heap.size, 0, none⟩ : Addr).add j = ⟨w.heap.size, j, none⟩ := by
      by_cases h : j = 0
      · subst h; rfl
      · simp [Addr.add, h]
    rw [e]
    match j, hu with
    | 0, hu => simp at hu; subst hu; simp
    | 1, hu => simp at hu; subst hu; simp
  have hB : B ≤ (w.alloc (.cells #[.int .u64 0, .bool false] 84)).heap.size := by have := a.base; simp; omega
  have hBH := Lib.hid hB
  clear a hB
  generalize hnn : ns.length = n at *
  have hnH := Lib.hid hnn
  clear hnn
  go_enter Try.func42, Try.ntmps42
  go_wp2_with (at_builtin; refine wpList_append_any _ rfl _ _ 73 rfl B 84 i0 _ 2 16 Try.underlying73 hi hz0 hz1 hz2 rfl (by decide) _ _ _ rfl hown.out (w.heap.size + 1) _ 1 1 _ rfl hrd.out ?c1 ?c2 ?c3 hBH.out ?_)
  case c2 => unfold maxLen; omega
  case c3 => omega
  all_goals try (case c1 => intro u hu; simp at hu; rcases hu with rfl | rfl <;> rfl)
  intro v' w1 hown' hgrow hblk
  obtain ⟨A', c', rfl⟩ := own_form hown'
  have hsl : (w.alloc (.cells #[.int .u64 0, .bool false] 84)).heap.size = w.heap.size + 1 := by simp
  have hPo : Value.ownBlock (.slice An n cn) ≠ some P := by
    intro e
    cases An with
    | none => simp [Value.ownBlock] at e
    | some x => simp [Value.ownBlock] at e; exact aH.out.n1 x rfl e
  have b1 : ButS w w1 (PB P An Af) := (but_alloc w _ _).trans (ButS.of_grown hgrow (fun j e => .inr (.inl (by
    cases An with
    | none => simp [Value.ownBlock] at e
    | some x => simpa [Value.ownBlock] using e))))
  have hrow : w1.heap[P]? = w.heap[P]? := (hgrow.block P (by rw [hsl]; omega) (fun e => hPo e.symm)).trans (Below.heap_alloc _ _ _ hPlt)
  have hrow2 := hrow.trans aH.out.row
  have hcP : w1.cell? ⟨P, 2, none⟩ = some (.slice An n cn) := by
    have := cell_of_row w1 P 2 _ _ (0, 0) hrow2
    rw [hnH.out] at this
    exact this
  have hfP : w1.frozen? ⟨P, 2, none⟩ = false := by simp [World.frozen?, hrow2]
  have hA1 : ∀ a, A' = some a → An.map (·.block) = some a.block ∨ a.block = w.heap.size + 1 := by
    intro a e
    subst e
    rcases hblk with h | h
    · left
      cases An with
      | none => simp [Value.ownBlock] at h
      | some x => simp [Value.ownBlock] at h; simp [h]
    · right
      simp [Value.ownBlock] at h; exact h
  have hA2 : ∀ a, A' = some a → a.block ≠ P := by
    intro a e hh
    rcases hA1 a e with h | h
    · cases An with
      | none => simp at h
      | some x => simp at h; exact aH.out.n1 x rfl (h.trans hh)
    · omega
  have hF1 : w1.ownsRow B 3 1 (.slice Af 0 cf) 0 (iv []) := by
    refine ((aH.out.freed.alloc (.cells #[.int .u64 0, .bool false] 84)).kept hgrow ?_)
    by_cases hA : Value.ownBlock (.slice Af 0 cf) = none
    · exact .inl hA
    · right
      intro e
      cases Af with
      | none => simp [Value.ownBlock] at hA
      | some y =>
        cases An with
        | none => simp [Value.ownBlock] at e
        | some x => simp [Value.ownBlock] at e; exact aH.out.n3 x y rfl rfl e.symm
  have hAf : ∀ a b, A' = some a → Af = some b → a.block ≠ b.block := by
    intro a b e e' hh
    rcases hA1 a e with h | h
    · cases An with
      | none => simp at h
      | some x => simp at h; exact aH.out.n3 x b rfl e' (h.trans hh)
    · have := (aH.out.pb (j := b.block) (.inr (.inr (by simp [e'])))).2
      omega
  have hlen : (ns ++ [(0, false)]).length = n + 1 := by simp [hnH.out]
  have hown2 : w1.ownsRow B 84 2 (.slice A' (ns ++ [(0, false)]).length c') (ns ++ [(0, false)]).length (nv (ns ++ [(0, false)])) := by
    rw [hlen, nv_snoc]
    exact hown'
  have hp := po_set2 hrow2 hown2 hF1 aH.out.base aH.out.n2 hA2 hAf (by simp) aH.out.lim_le (by simp) (by rw [hlen]; omega)
  have hpH := Lib.hid hp
  have hb2 := Lib.hid (b1.trans (but_set w1 P 2 (.slice A' (n + 1) c') (PB P An Af) (.inl rfl)))
  have hc2' := hp.c2
  rw [hlen] at hc2' hpH
  have hA1H := Lib.hid hA1
  clear hp hown' hgrow hblk hPo b1 hrow hrow2 hA1 hA2 hF1 hAf hlen hown2
  have wn : IntKind.i64.wrap (((n + 1 : Nat) : Int) - 1) = (n : Int) := by rw [IntWalk.i64_in _ (by omega)]; omega
  have wn2 : IntKind.i64.wrap ((n : Int) + 1 - 1) = (n : Int) := by rw [IntWalk.i64_in _ (by omega)]; omega
  go_wp2
  go_ret
  refine ⟨rfl, A', c', Af, cf, hpH.out, hb2.out, fun j hj => ?_⟩
  rcases hj with rfl | hj | hj
  · exact .inl (.inl rfl)
  · cases A' with
    | none => simp at hj
    | some a =>
      simp at hj
      rcases hA1H.out a rfl with h | h
      · left; right; left; rw [← hj]; exact h
      · right; omega
  · exact .inl (.inr (.inr hj))
end
end Go.Proofs.Ytihhkdcgnnfkkaa.Pp
