/- The nodes of chain.link in memory; asking a pool of nodes; the texts walked. A pool of nodes: Peek, At, Put; the texts walked. -/
import Derived.Test.YtialjokdaniofaaGreatMq03
section
namespace Go.Proofs.YtialjokdaniofaaGreat
set_option maxRecDepth 20000
open Go.RowKit
set_option linter.unusedSectionVars false
variable [Gh]
/-- A node as it lies. -/
structure Nd where
  key : Nat
  ah : Int
  be : Int
abbrev ndv (key : Nat) (ah : Int) (be : Int) : Value := .agg #[.int .u64 (key : Int), .int .i64 ah, .int .i64 be]
abbrev ndo (key : Nat) (ah : Int) (be : Int) : Obj := .cells #[.int .u64 (key : Int), .int .i64 ah, .int .i64 be] 145
abbrev Nd.v (x : Nd) : Value := ndv x.key x.ah x.be
abbrev Nd.o (x : Nd) : Obj := ndo x.key x.ah x.be
def Nd.z : Nd := ⟨0, 0, 0⟩
/-- The cells of places: a node, and is it taken? -/
def ncl (x : Nd × Bool) : List Value := [.int .u64 (x.1.key : Int), .int .i64 x.1.ah, .int .i64 x.1.be, .bool x.2]
def nv (ns : List (Nd × Bool)) : List Value := ns.flatMap ncl
theorem nv_cons (x : Nd × Bool) (ns : List (Nd × Bool)) : nv (x :: ns) = Value.int .u64 (x.1.key : Int) :: Value.int .i64 x.1.ah :: Value.int .i64 x.1.be :: Value.bool x.2 :: nv ns := rfl
theorem nv_snoc (ns : List (Nd × Bool)) (x : Nd × Bool) : nv (ns ++ [x]) = nv ns ++ ncl x := by simp [nv]
theorem nv_at : ∀ (ns : List (Nd × Bool)) (k : Nat) (h : k < ns.length) (j : Nat), j < 4 → (nv ns)[k * 4 + j]? = (ncl ns[k])[j]?
  | x :: ns, 0, _, j, hj => by
    rw [nv_cons]
    match j, hj with
    | 0, _ => rfl
    | 1, _ => rfl
    | 2, _ => rfl
    | 3, _ => rfl
  | x :: ns, k + 1, h, j, hj => by
    have ih := nv_at ns k (by simpa using h) j hj
    have e1 : (k + 1) * 4 + j = (k * 4 + j) + 1 + 1 + 1 + 1 := by omega
    rw [e1, nv_cons]
    simp only [List.getElem?_cons_succ, List.getElem_cons_succ]
    exact ih
theorem nv_put : ∀ (ns : List (Nd × Bool)) (k : Nat) (y : Nd) (h : k < ns.length), (((nv ns).set (k * 4) (.int .u64 (y.key : Int))).set (k * 4 + 1) (.int .i64 y.ah)).set (k * 4 + 2) (.int .i64 y.be) = nv (ns.set k (y, ns[k].2))
  | x :: ns, 0, y, _ => rfl
  | x :: ns, k + 1, y, h => by
    have ih := nv_put ns k y (by simpa using h)
    have e0 : (k + 1) * 4 = (k * 4) + 1 + 1 + 1 + 1 := by omega
    have e : ∀ j, (k + 1) * 4 + j = (k * 4 + j) + 1 + 1 + 1 + 1 := fun j => by omega
    rw [e 1, e 2, e0, nv_cons]
    simp only [List.set_cons_succ, List.getElem_cons_succ]
    rw [nv_cons, ih]
theorem nv_flag : ∀ (ns : List (Nd × Bool)) (k : Nat) (b : Bool) (h : k < ns.length), (nv ns).set (k * 4 + 3) (.bool b) = nv (ns.set k (ns[k].1, b))
  | x :: ns, 0, b, _ => rfl
  | x :: ns, k + 1, b, h => by
    have ih := nv_flag ns k b (by simpa using h)
    have e : (k + 1) * 4 + 3 = (k * 4 + 3) + 1 + 1 + 1 + 1 := by omega
    rw [e, nv_cons]
    simp only [List.set_cons_succ, List.getElem_cons_succ]
    rw [nv_cons, ih]
theorem nv_set (ns : List (Nd × Bool)) (k : Nat) (y : Nd) (b : Bool) (h : k < ns.length) : ((((nv ns).set (k * 4) (.int .u64 (y.key : Int))).set (k * 4 + 1) (.int .i64 y.ah)).set (k * 4 + 2) (.int .i64 y.be)).set (k * 4 + 3) (.bool b) = nv (ns.set k (y, b)) := by
  rw [nv_put ns k y h, nv_flag _ k b (by simpa using h)]
  simp
abbrev iw (fs : List Nat) : List Value := fs.map fun i : Nat => Value.int .i64 (i : Int)
/-- Block Q is a pool's struct: its meter, its limit, its places, the freed ones. -/
structure Qo (w : World) (Q M lim : Nat) (An : Option Addr) (cn : Nat) (Af : Option Addr) (cf : Nat) (ns : List (Nd × Bool)) (fs : List Nat) : Prop where
  row : w.heap[Q]? = some (.cells #[.pointer (some ⟨M, 0, none⟩), .int .i64 (lim : Int), .slice An ns.length cn, .slice Af fs.length cf] 148 (0, 0))
  nodes : w.ownsRow 0 186 4 (.slice An ns.length cn) ns.length (nv ns)
  freed : w.ownsRow 0 3 1 (.slice Af fs.length cf) fs.length (iw fs)
  inr : ∀ i ∈ fs, ∃ h : i < ns.length, ns[i].2 = false
  nod : fs.Nodup
  lim_le : lim ≤ 1048576
  ns_le : ns.length ≤ lim
  fs_le : fs.length ≤ ns.length
/-- The blocks of a pool. -/
def QB (Q : Nat) (An Af : Option Addr) (j : Nat) : Prop := j = Q ∨ An.map (·.block) = some j ∨ Af.map (·.block) = some j
section
variable {w w' : World} {Q M lim cn cf : Nat} {An Af : Option Addr} {ns : List (Nd × Bool)} {fs : List Nat}
theorem Qo.c0 (h : Qo w Q M lim An cn Af cf ns fs) : w.cell? ⟨Q, 0, none⟩ = some (.pointer (some ⟨M, 0, none⟩)) := cell_of_row w Q 0 _ _ (0, 0) h.row
theorem Qo.c1 (h : Qo w Q M lim An cn Af cf ns fs) : w.cell? ⟨Q, 1, none⟩ = some (.int .i64 (lim : Int)) := cell_of_row w Q 1 _ _ (0, 0) h.row
theorem Qo.c2 (h : Qo w Q M lim An cn Af cf ns fs) : w.cell? ⟨Q, 2, none⟩ = some (.slice An ns.length cn) := cell_of_row w Q 2 _ _ (0, 0) h.row
theorem Qo.c3 (h : Qo w Q M lim An cn Af cf ns fs) : w.cell? ⟨Q, 3, none⟩ = some (.slice Af fs.length cf) := cell_of_row w Q 3 _ _ (0, 0) h.row
theorem Qo.fr (h : Qo w Q M lim An cn Af cf ns fs) (k : Nat) : w.frozen? ⟨Q, k, none⟩ = false := frozen_of_row w Q k _ _ h.row
theorem Qo.lt (h : Qo w Q M lim An cn Af cf ns fs) : Q < w.heap.size := row_lt h.row
theorem own_block_lt {w : World} {base : Nat} {e : TypeId} {size n c : Nat} {A : Option Addr} {xs : List Value} (h : w.ownsRow base e size (.slice A n c) n xs) {j : Nat} (hj : A.map (·.block) = some j) : j < w.heap.size ∧ ∃ cur, w.heap[j]? = some (.cells cur e (0, 0)) := by
  rcases own_addr h with ⟨rfl, _⟩ | ⟨g, rfl, hg, _, cur, hc⟩
  · cases hj
  · cases hj; exact ⟨hg, cur, hc⟩
theorem Qo.qb (h : Qo w Q M lim An cn Af cf ns fs) {j : Nat} (hj : QB Q An Af j) : j < w.heap.size := by
  rcases hj with rfl | hj | hj
  · exact h.lt
  · exact (own_block_lt h.nodes hj).1
  · exact (own_block_lt h.freed hj).1
theorem own_of_map {A : Option Addr} {n c k : Nat} (h : (Value.slice A n c).ownBlock = some k) : A.map (·.block) = some k := by
  cases A with
  | none => simp [Value.ownBlock] at h
  | some a => simpa [Value.ownBlock] using h
theorem Qo.chg {O : Nat → Prop} (h : Qo w Q M lim An cn Af cf ns fs) (b : K.Chg w w' O) (hO : ∀ j, QB Q An Af j → ¬ O j) : Qo w' Q M lim An cn Af cf ns fs :=
  ⟨(b.block Q h.lt (hO Q (.inl rfl))).trans h.row, b.own h.nodes (fun k hk => hO k (.inr (.inl (own_of_map hk)))), b.own h.freed (fun k hk => hO k (.inr (.inr (own_of_map hk)))), h.inr, h.nod, h.lim_le, h.ns_le, h.fs_le⟩
theorem Qo.drew (h : Qo w Q M lim An cn Af cf ns fs) (n : Nat) : Qo (w.drewN n) Q M lim An cn Af cf ns fs := ⟨h.row, h.nodes, h.freed, h.inr, h.nod, h.lim_le, h.ns_le, h.fs_le⟩
/-- The blocks lie apart: their types are unlike. -/
theorem Qo.ne_nodes (h : Qo w Q M lim An cn Af cf ns fs) {g : Nat} (hg : An.map (·.block) = some g) : g ≠ Q := by
  obtain ⟨_, cur, hc⟩ := own_block_lt h.nodes hg
  exact row_ne hc h.row (by decide)
theorem Qo.ne_freed (h : Qo w Q M lim An cn Af cf ns fs) {g : Nat} (hg : Af.map (·.block) = some g) : g ≠ Q := by
  obtain ⟨_, cur, hc⟩ := own_block_lt h.freed hg
  exact row_ne hc h.row (by decide)
theorem Qo.ne_both (h : Qo w Q M lim An cn Af cf ns fs) {g f : Nat} (hg : An.map (·.block) = some g) (hf : Af.map (·.block) = some f) : g ≠ f := by
  obtain ⟨_, cur, hc⟩ := own_block_lt h.nodes hg
  obtain ⟨_, cur', hc'⟩ := own_block_lt h.freed hf
  exact row_ne hc hc' (by decide)
/-- Place i, where it lies. -/
theorem Qo.at (h : Qo w Q M lim An cn Af cf ns fs) {i : Nat} (hi : i < ns.length) : ∃ g, An = some ⟨g, 0, none⟩ ∧ w.cell? ⟨g, i * 4, none⟩ = some (.int .u64 (ns[i].1.key : Int)) ∧ w.cell? ⟨g, i * 4 + 1, none⟩ = some (.int .i64 ns[i].1.ah) ∧ w.cell? ⟨g, i * 4 + 2, none⟩ = some (.int .i64 ns[i].1.be) ∧ w.cell? ⟨g, i * 4 + 3, none⟩ = some (.bool ns[i].2) ∧ ∀ k, w.frozen? ⟨g, k, none⟩ = false := by
  obtain ⟨g, rfl⟩ := own_some h.nodes (by omega)
  have e : ∀ j, j < 4 → w.cell? ⟨g, i * 4 + j, none⟩ = (ncl ns[i])[j]? := fun j hj => (h.nodes.cellAt (i * 4 + j) (by omega)).trans (nv_at ns i hi j hj)
  exact ⟨g, rfl, e 0 (by decide), e 1 (by decide), e 2 (by decide), e 3 (by decide), fun k => h.nodes.frozenAt k⟩
end
section
variable (w : World) (Q M lim cn cf : Nat) (An Af : Option Addr) (ns : List (Nd × Bool)) (fs : List Nat)
theorem q_len (a : Qo w Q M lim An cn Af cf ns fs) :
    Calls Tryz.prog 107 #[.pointer (some ⟨Q, 0, none⟩)] w fun e w' => e = .returned (.int .i64 ((ns.length - fs.length : Nat) : Int)) ∧ ∃ n, w' = w.drewN n := by
  have hc2 := a.c2
  have hc3 := a.c3
  have h1 := a.ns_le
  have h3 := a.lim_le
  have h2 := a.fs_le
  clear a
  generalize ns.length = n at *
  generalize fs.length = m at *
  have ws : IntKind.i64.wrap ((n : Int) - (m : Int)) = (n : Int) - (m : Int) := IntWalk.i64_in _ (by omega)
  go_enter Tryz.func107, Tryz.ntmps107
  go_wp2
  go_quiet (fail)
  go_wp2
  refine bodyPost_ret (results_tmp (t := 2) rfl _ _ _) rfl ?_
  exact ⟨ret_int (by omega), _, rfl⟩
theorem q_room (a : Qo w Q M lim An cn Af cf ns fs) (k : Int) :
    Calls Tryz.prog 175 #[.pointer (some ⟨Q, 0, none⟩), .int .i64 k] w fun e w' => e = .returned (.bool (decide (k ≤ (lim : Int) - ((ns.length - fs.length : Nat) : Int)))) ∧ ∃ n, w' = w.drewN n := by
  have hc1 := a.c1
  have hl := fun N => Lib.hid (q_len (w.drewN N) Q M lim cn cf An Af ns fs (a.drew N))
  have h1 := a.ns_le
  have h3 := a.lim_le
  clear a
  have h2 : ns.length - fs.length ≤ 1048576 := by omega
  generalize ns.length - fs.length = n at *
  have ws : IntKind.i64.wrap ((lim : Int) - (n : Int)) = (lim : Int) - (n : Int) := IntWalk.i64_in _ (by omega)
  go_enter Tryz.func175, Tryz.ntmps175
  go_wp2
  go_quiet ((go_at_call 107; exact Calls.quiet_of (hl _).out))
  go_wp2
  go_ret
  exact ⟨rfl, _, rfl⟩
/-- Is place i taken? -/
def lvq (ns : List (Nd × Bool)) (i : Int) : Bool := decide (0 ≤ i) && ((ns[i.toNat]?).map (·.2)).getD false
theorem q_live (a : Qo w Q M lim An cn Af cf ns fs) (i : Int) :
    Calls Tryz.prog 156 #[.pointer (some ⟨Q, 0, none⟩), .int .i64 i] w fun e w' => e = .returned (.bool (lvq ns i)) ∧ w = w' := by
  have hc2 := a.c2
  have hle := a.ns_le
  have hle2 := a.lim_le
  by_cases h0 : 0 ≤ i
  · obtain ⟨k, rfl⟩ : ∃ k : Nat, i = (k : Int) := ⟨i.toNat, by omega⟩
    have g0 : decide (0 ≤ (k : Int)) = true := decide_eq_true h0
    by_cases hk : k < ns.length
    · obtain ⟨g, rfl, _, _, _, ha, _⟩ := a.at hk
      have hr : Hid (lvq ns (k : Int) = ns[k].2) := by
        show lvq ns (k : Int) = _
        unfold lvq
        simp [hk]
      have g1 : decide ((k : Int) < (ns.length : Int)) = true := decide_eq_true (by omega)
      have k1 : (k : Int) < (ns.length : Int) := by omega
      have k2 : (k : Int).toNat = k := by omega
      clear a
      generalize ns[k].2 = b at *
      go_enter Tryz.func156, Tryz.ntmps156
      go_wp2
      go_ret
      exact ⟨ret_bool hr.out.symm, rfl⟩
    · have hr : Hid (lvq ns (k : Int) = false) := by
        show lvq ns (k : Int) = _
        unfold lvq
        rw [Int.toNat_natCast, List.getElem?_eq_none (by omega)]
        simp
      have g1 : decide ((k : Int) < (ns.length : Int)) = false := decide_eq_false (by omega)
      clear a
      generalize ns.length = n at *
      go_enter Tryz.func156, Tryz.ntmps156
      go_wp2
      go_ret
      exact ⟨ret_bool hr.out.symm, rfl⟩
  · have g0 : decide (0 ≤ i) = false := decide_eq_false h0
    have hr : Hid (lvq ns i = false) := by
      show lvq ns i = _
      unfold lvq
      rw [g0]; rfl
    clear a
    go_enter Tryz.func156, Tryz.ntmps156
    go_wp2
    go_ret
    exact ⟨ret_bool hr.out.symm, rfl⟩
theorem lvq_yes {ns : List (Nd × Bool)} {k : Nat} (hk : k < ns.length) (ht : ns[k].2 = true) : lvq ns (k : Int) = true := by
  unfold lvq
  simp [hk, ht]
end
end Go.Proofs.YtialjokdaniofaaGreat
end
section
namespace Go.Proofs.YtialjokdaniofaaGreat
set_option maxRecDepth 20000
open Go.RowKit
set_option linter.unusedSectionVars false
variable [Gh]
section
variable {w : World} {Q M lim cn cf g : Nat} {An Af : Option Addr} {ns : List (Nd × Bool)} {fs : List Nat}
/-- The cells of a row stored. -/
abbrev set5 (w : World) (g i : Nat) (y : Nd) : World := ((w.setCell ⟨g, i, none⟩ (.int .u64 (y.key : Int))).setCell ⟨g, i + 1, none⟩ (.int .i64 y.ah)).setCell ⟨g, i + 2, none⟩ (.int .i64 y.be)
theorem chg_set5 (w : World) (g i : Nat) (y : Nd) (O : Nat → Prop) (h : O g) : K.Chg w (set5 w g i y) O :=
  ((chg_set w g _ _ O h).same (chg_set _ g _ _ O h)).same (chg_set _ g _ _ O h)
theorem own_set5 {w : World} {n cn : Nat} {xs : List Value} (h : w.ownsRow 0 186 4 (.slice (some ⟨g, 0, none⟩) n cn) n xs) (i : Nat) (y : Nd) :
    (set5 w g i y).ownsRow 0 186 4 (.slice (some ⟨g, 0, none⟩) n cn) n (((xs.set i (.int .u64 (y.key : Int))).set (i + 1) (.int .i64 y.ah)).set (i + 2) (.int .i64 y.be)) :=
  (((h.stored i _).1.stored (i + 1) _).1.stored (i + 2) _).1
/-- A place, once it is put. -/
theorem Qo.put (a : Qo w Q M lim (some ⟨g, 0, none⟩) cn Af cf ns fs) {k : Nat} (hk : k < ns.length) (y : Nd) :
    Qo (set5 w g (k * 4) y) Q M lim (some ⟨g, 0, none⟩) cn Af cf (ns.set k (y, ns[k].2)) fs := by
  have b := chg_set5 w g (k * 4) y (· = g) rfl
  have h1 := own_set5 a.nodes (k * 4) y
  rw [nv_put ns k y hk] at h1
  have hl : (ns.set k (y, ns[k].2)).length = ns.length := List.length_set ..
  refine ⟨?_, by rw [hl]; exact h1, b.own a.freed (fun j hj e => a.ne_both rfl (own_of_map hj) e.symm), fun i hi => ?_, a.nod, a.lim_le, by rw [hl]; exact a.ns_le, by rw [hl]; exact a.fs_le⟩
  · rw [b.block Q a.lt (fun e => a.ne_nodes rfl e.symm), a.row, hl]
  · obtain ⟨h2, h3⟩ := a.inr i hi
    refine ⟨by rw [hl]; exact h2, ?_⟩
    rw [List.getElem_set]
    split
    · rename_i e; subst e; exact h3
    · exact h3
/-- What a call that changes a pool leaves. -/
def QStep (w : World) (Q M lim : Nat) (An Af : Option Addr) (ns' : List (Nd × Bool)) (fs' : List Nat) (w' : World) : Prop :=
  ∃ An' cn' Af' cf', Qo w' Q M lim An' cn' Af' cf' ns' fs' ∧ K.Chg w w' (QB Q An Af) ∧ ∀ j, QB Q An' Af' j → QB Q An Af j ∨ w.heap.size ≤ j
end
section
variable (w : World) (Q M lim cn cf : Nat) (An Af : Option Addr) (ns : List (Nd × Bool)) (fs : List Nat)
def PeekP (w : World) (v : Value) (b : Bool) (e : Ending) (w' : World) : Prop := e = .returned (.tuple #[v, .bool b]) ∧ Below w.heap.size w w'
theorem nd_res {fn : Func} {u t : Tmp} (h : fn.results = #[.cell u 145, .tmp t]) (tmps : Array Value) (w : World) (g : Nat) (a b c : Value) (z : Value) (hu : tmps.getD u undef = .pointer (some ⟨g, 0, none⟩))
    (hc : w.heap[g]? = some (.cells #[a, b, c] 145 (0, 0))) (hb : tmps.getD t undef = z) : (results fn tmps).run Tryz.prog w = .ok (.tuple #[.agg #[a, b, c], z]) w := by
  have hp' : tmps[u]?.getD undef = .pointer (some ⟨g, 0, none⟩) := by simpa using hu
  have hb' : tmps[t]?.getD undef = z := by simpa using hb
  have hr := run_loadVar_row (P := Tryz.prog) w g 145 145 _ (0, 0) _ hc Tryz.underlying145 (by kernel_rfl) (by kernel_rfl)
  simp [results, h, hp', hb', asAddr, hr]
abbrev ndzo : Obj := .cells #[.int .u64 0, .int .i64 0, .int .i64 0] 145
abbrev ndzv : Value := .agg #[.int .u64 0, .int .i64 0, .int .i64 0]
theorem q_peek_yes (a : Qo w Q M lim An cn Af cf ns fs) (k : Nat) (hk : k < ns.length) (ht : ns[k].2 = true) :
    Calls Tryz.prog 141 #[.pointer (some ⟨Q, 0, none⟩), .int .i64 (k : Int)] w (PeekP w ns[k].1.v true) := by
  have hQ := a.lt
  have hb : Below w.heap.size w (w.alloc ndzo) := (Below.refl _ w).alloc (Nat.le_refl _) _
  have a1 := a.chg (K.Chg.of_below (O := fun _ => False) hb) (fun _ _ h => h)
  have hl := Lib.hid (q_live _ Q M lim cn cf An Af ns fs a1 k)
  rw [lvq_yes hk ht] at hl
  have hc2 := a1.c2
  have hle := a.ns_le
  have hle2 := a.lim_le
  obtain ⟨g, rfl, h0, h1, h2, hlv, _⟩ := a1.at hk
  have k1 : (k : Int) < (ns.length : Int) := by omega
  clear a a1 ht hlv
  generalize ns[k].1 = x at *
  obtain ⟨key, ah, be⟩ := x
  dsimp only at *
  show Calls _ _ _ _ (PeekP w (ndv key ah be) true)
  go_enter Tryz.func141, Tryz.ntmps141
  go_wp2_with (go_at_call 156; (with_reducible refine hl.out.mono ?_); rintro e w' ⟨rfl, rfl⟩)
  refine bodyPost_ret (nd_res rfl _ _ w.heap.size _ _ _ _ rfl (K.alloc_top _ _) rfl) rfl ?_
  · exact ⟨rfl, (Below.refl _ w).alloc (Nat.le_refl _) _⟩
theorem q_peek_no (a : Qo w Q M lim An cn Af cf ns fs) (i : Int) (ht : lvq ns i = false) :
    Calls Tryz.prog 141 #[.pointer (some ⟨Q, 0, none⟩), .int .i64 i] w (PeekP w ndzv false) := by
  have hb : Below w.heap.size w (w.alloc ndzo) := (Below.refl _ w).alloc (Nat.le_refl _) _
  have a1 := a.chg (K.Chg.of_below (O := fun _ => False) hb) (fun _ _ h => h)
  have hl := Lib.hid (q_live _ Q M lim cn cf An Af ns fs a1 i)
  rw [ht] at hl
  clear a a1 ht
  go_enter Tryz.func141, Tryz.ntmps141
  go_wp2_with (go_at_call 156; (with_reducible refine hl.out.mono ?_); rintro e w' ⟨rfl, rfl⟩)
  refine bodyPost_ret (nd_res rfl _ _ w.heap.size _ _ _ _ rfl ((Below.heap_alloc _ _ _ (by simp)).trans (K.alloc_top _ _)) rfl) rfl ?_
  · exact ⟨rfl, hb.alloc (by simp) _⟩
theorem row_z5 {w : World} {g : Nat} {z0 z1 z2 : Value} (h : w.heap[g]? = some (.cells #[z0, z1, z2] 145 (0, 0))) (a b c : Value) : (((w.setCell ⟨g, 0, none⟩ (a)).setCell ⟨g, 1, none⟩ (b)).setCell ⟨g, 2, none⟩ (c)).heap[g]? = some (.cells #[a, b, c] 145 (0, 0)) := by
  have h1 := row_set (row_set (row_set h 0 a) 1 b) 2 c
  simpa using h1
theorem chg_five (w : World) (g : Nat) (i0 i1 i2 : Nat) (a b c : Value) (O : Nat → Prop) (h : O g) : K.Chg w (((w.setCell ⟨g, i0, none⟩ a).setCell ⟨g, i1, none⟩ b).setCell ⟨g, i2, none⟩ c) O :=
  ((chg_set w g _ _ O h).same (chg_set _ g _ _ O h)).same (chg_set _ g _ _ O h)
/-- The cells of a node's row. -/
theorem nd_cells {w : World} {g : Nat} {a b c : Value} (h : w.heap[g]? = some (.cells #[a, b, c] 145 (0, 0))) : w.cell? ⟨g, 0, none⟩ = some a ∧ w.cell? ⟨g, 1, none⟩ = some b ∧ w.cell? ⟨g, 2, none⟩ = some c :=
  ⟨cell_of_row w g 0 _ _ (0, 0) h, cell_of_row w g 1 _ _ (0, 0) h, cell_of_row w g 2 _ _ (0, 0) h⟩
def AtP (w : World) (M tk : Nat) (v : Value) (b : Bool) (e : Ending) (w' : World) : Prop := e = .returned (.tuple #[v, .bool b]) ∧ Mx w' M tk ∧ K.Chg w w' (· = M)
set_option maxHeartbeats 1000000 in
theorem q_at_yes (a : Qo w Q M lim An cn Af cf ns fs) (k : Nat) (hk : k < ns.length) (ht : ns[k].2 = true) (tk : Nat) (hM : Mx w M tk) (htk : tk < 1000000) :
    Calls Tryz.prog 174 #[.pointer (some ⟨Q, 0, none⟩), .int .i64 (k : Int)] w (AtP w M (tk + 1) ns[k].1.v true) := by
  have hQ := a.lt
  have hMl := hM.lt
  have hb : Below w.heap.size w (w.alloc ndzo) := (Below.refl _ w).alloc (Nat.le_refl _) _
  have a1 := a.chg (K.Chg.of_below (O := fun _ => False) hb) (fun _ _ h => h)
  have hp := Lib.hid (q_peek_yes _ Q M lim cn cf An Af ns fs a1 k hk ht)
  have HA := Lib.hid a
  have HM := Lib.hid hM
  have HB := Lib.hid hb
  have hz1 : (w.alloc ndzo).heap.size = w.heap.size + 1 := by simp
  have HZ := Lib.hid hz1
  clear a a1 ht hM hb hz1
  generalize ns[k].1 = x at *
  obtain ⟨key, ah, be⟩ := x
  have hp : Hid (Calls _ _ _ _ (PeekP (w.alloc ndzo) (ndv key ah be) true)) := hp
  show Calls _ _ _ _ (AtP w M (tk + 1) (ndv key ah be) true)
  go_enter Tryz.func174, Tryz.ntmps174
  go_wp2_with (first
    | (go_at_call 141; (with_reducible refine hp.out.mono ?_); rintro e w1 ⟨rfl, hb1⟩
       have HB1 := Lib.hid hb1
       have hs1 := hb1.size
       rw [HZ.out] at hs1
       have hb2 : Below w.heap.size w (w1.alloc (ndo key ah be)) := (HB.out.trans (hb1.mono (by simp))).alloc (by omega) _
       have HA2 := Lib.hid (HA.out.chg (K.Chg.of_below (O := fun _ => False) hb2) (fun _ _ h => h))
       have HM2 := Lib.hid (HM.out.chg (K.Chg.of_below (O := fun _ => False) hb2) (fun h => h))
       have HC2 := Lib.hid hb2
       have z2 : (w1.alloc (ndo key ah be)).heap[w.heap.size]? = some ndzo := (Below.heap_alloc _ _ _ (by omega)).trans ((hb1.block _ (by (rw [HZ.out]; omega))).trans (K.alloc_top _ _))
       have HZ2 := Lib.hid z2
       have q0 := HA2.out.c0
       clear hb1 hb2 z2)
    | (go_at_call 114; (with_reducible refine (x_read _ M tk HM2.out htk).mono ?_); rintro e w2 ⟨rfl, hm2, hc2⟩
       have HM3 := Lib.hid hm2
       have HC3 := Lib.hid hc2
       have y := (hc2.block w1.heap.size (by simp) (by omega)).trans (K.alloc_top _ _)
       have zz := (hc2.block w.heap.size (by (simp; omega)) (by omega)).trans HZ2.out
       obtain ⟨y0, y1, y2⟩ := nd_cells y
       have f0 := frozen_of_row w2 _ 0 _ _ zz
       have f1 := frozen_of_row w2 _ 1 _ _ zz
       have f2 := frozen_of_row w2 _ 2 _ _ zz
       obtain ⟨t0, t1, t2⟩ := nd_cells zz
       have ZZ := Lib.hid zz
       clear hm2 hc2 y zz))
  refine bodyPost_ret (nd_res rfl _ _ w.heap.size _ _ _ _ rfl (row_z5 ZZ.out _ _ _) rfl) rfl ?_
  · have hch : K.Chg w w2 (· = M) := (K.Chg.of_below (O := (· = M)) HC2.out).same HC3.out
    have h5 : ∀ a b c, K.Chg w2 _ (fun j => j = w.heap.size) := fun a b c => chg_five w2 w.heap.size 0 1 2 a b c _ rfl
    exact ⟨rfl, HM3.out.chg (h5 _ _ _) (by omega), hch.trans (h5 _ _ _) (fun j hj => .inr (by omega))⟩
theorem q_at_no (a : Qo w Q M lim An cn Af cf ns fs) (i : Int) (ht : lvq ns i = false) :
    Calls Tryz.prog 174 #[.pointer (some ⟨Q, 0, none⟩), .int .i64 i] w (PeekP w ndzv false) := by
  have hb : Below w.heap.size w (w.alloc ndzo) := (Below.refl _ w).alloc (Nat.le_refl _) _
  have a1 := a.chg (K.Chg.of_below (O := fun _ => False) hb) (fun _ _ h => h)
  have hp := Lib.hid (q_peek_no _ Q M lim cn cf An Af ns fs a1 i ht)
  have HB := Lib.hid hb
  have hz1 : (w.alloc ndzo).heap.size = w.heap.size + 1 := by simp
  have HZ := Lib.hid hz1
  clear a a1 ht hb hz1
  go_enter Tryz.func174, Tryz.ntmps174
  go_wp2_with (go_at_call 141; (with_reducible refine hp.out.mono ?_); rintro e w1 ⟨rfl, hb1⟩
               have HB1 := Lib.hid hb1
               have hs1 := hb1.size
               rw [HZ.out] at hs1
               have zz := (Below.heap_alloc w1 ndzo w.heap.size (by omega)).trans ((hb1.block w.heap.size (by (rw [HZ.out]; omega))).trans (K.alloc_top _ _))
               have f0 := frozen_of_row _ _ 0 _ _ zz
               have f1 := frozen_of_row _ _ 1 _ _ zz
               have f2 := frozen_of_row _ _ 2 _ _ zz
               obtain ⟨t0, t1, t2⟩ := nd_cells zz
               have ZZ := Lib.hid zz
               clear hb1 zz)
  refine bodyPost_ret (nd_res rfl _ _ w.heap.size _ _ _ _ rfl (row_z5 ZZ.out _ _ _) rfl) rfl ?_
  · refine ⟨rfl, ?_⟩
    have h1 : Below w.heap.size w (w1.alloc ndzo) := (HB.out.trans (HB1.out.mono (by simp))).alloc (by omega) _
    exact (((h1.setCell (by simp) _).setCell (by simp) _).setCell (by simp) _)
set_option maxHeartbeats 1000000 in
theorem q_put (a : Qo w Q M lim An cn Af cf ns fs) (k : Nat) (hk : k < ns.length) (ht : ns[k].2 = true) (key : Nat) (ah : Int) (be : Int) (y : Nd) (hy : y = ⟨key, ah, be⟩) :
    Calls Tryz.prog 185 #[.pointer (some ⟨Q, 0, none⟩), .int .i64 (k : Int), ndv key ah be] w fun e w' => e = .returned (.bool true) ∧ QStep w Q M lim An Af (ns.set k (y, true)) fs w' := by
  have hb : Below w.heap.size w (w.alloc (ndo key ah be)) := (Below.refl _ w).alloc (Nat.le_refl _) _
  have a1 := a.chg (K.Chg.of_below (O := fun _ => False) hb) (fun _ _ h => h)
  have hl := Lib.hid (q_live _ Q M lim cn cf An Af ns fs a1 k)
  rw [lvq_yes hk ht] at hl
  have hc2 := a1.c2
  obtain ⟨g, rfl, x0, x1, x2, _, hfr⟩ := a1.at hk
  have f0 := hfr (k * 4)
  have f1 := hfr (k * 4 + 1)
  have f2 := hfr (k * 4 + 2)
  have k1 : (k : Int) < (ns.length : Int) := by omega
  have hp := a1.put hk y
  rw [ht] at hp
  have hpH := Lib.hid hp
  have HB := Lib.hid hb
  have HA := Lib.hid a
  have HY := Lib.hid hy
  clear a a1 ht hfr hp hb hy
  go_enter Tryz.func185, Tryz.ntmps185
  go_wp2_with (go_at_call 156; (with_reducible refine hl.out.mono ?_); rintro e w' ⟨rfl, rfl⟩)
  go_region
  all_goals
    go_wp2
    go_ret
    obtain rfl := HY.out
    have hbc : K.Chg w _ (QB Q (some ⟨g, 0, none⟩) Af) := (K.Chg.of_below HB.out).same (chg_five (w.alloc (ndo key ah be)) g (k * 4) (k * 4 + 1) (k * 4 + 2) (.int .u64 (key : Int)) (.int .i64 ah) (.int .i64 be) _ (.inr (.inl rfl)))
    exact ⟨rfl, _, cn, Af, cf, hpH.out.drew 1, hbc.drewN 1, fun j hj => .inl hj⟩
end
end Go.Proofs.YtialjokdaniofaaGreat
end
