/- The nodes of chain.link in memory; asking a pool of nodes; the texts walked. A pool of nodes: Peek, At, Put; the texts walked. A pool of nodes: next, Alloc; the texts walked. A pool of nodes: Alloc, Free, Clear, New; the texts walked. A pool of nodes is cleared; the text walked. -/
import Derived.Lib.SliceRun
import Derived.Test.YtiinefdpaiincaaMxQM
section
namespace Go.Proofs.Ytiinefdpaiincaa
open Go.RowKit
/-- A node as it lies. -/
structure Nd where
  key : Nat
  ah : Int
  be : Int
abbrev ndv (key : Nat) (ah : Int) (be : Int) : Value := .agg #[.int .u64 (key : Int), .int .i64 ah, .int .i64 be]
abbrev ndo (key : Nat) (ah : Int) (be : Int) : Obj := .cells #[.int .u64 (key : Int), .int .i64 ah, .int .i64 be] 97
abbrev Nd.v (x : Nd) : Value := ndv x.key x.ah x.be
abbrev Nd.o (x : Nd) : Obj := ndo x.key x.ah x.be
def Nd.z : Nd := ⟨0, 0, 0⟩
/-- The cells of places: a node, and is it taken? -/
def ncl (x : Nd × Bool) : List Value := [.int .u64 (x.1.key : Int), .int .i64 x.1.ah, .int .i64 x.1.be, .bool x.2]
def nv (ns : List (Nd × Bool)) : List Value := ns.flatMap ncl
theorem nv_cons (x : Nd × Bool) (ns : List (Nd × Bool)) : nv (x :: ns) = Value.int .u64 (x.1.key : Int) :: Value.int .i64 x.1.ah :: Value.int .i64 x.1.be :: Value.bool x.2 :: nv ns := rfl
theorem nv_snoc (ns : List (Nd × Bool)) (x : Nd × Bool) : nv (ns ++ [x]) = nv ns ++ ncl x := by simp [nv]
theorem nv_len (ns : List (Nd × Bool)) : (nv ns).length = ns.length * 4 := by
  induction ns with
  | nil => rfl
  | cons x ns ih => rw [nv_cons]; simp only [List.length_cons, ih]; omega
theorem nv_at : ∀ (ns : List (Nd × Bool)) (k : Nat) (h : k < ns.length) (j : Nat), j < 4 → (nv ns)[k * 4 + j]? = (ncl ns[k])[j]?
  | x :: ns, 0, _, j, hj => by
    rw [nv_cons]
    match j, hj with
    | 0, _ => rfl
    | 1, _ => rfl
    | 2, _ => rfl
    | 3, _ => rfl
  | x :: ns, k + 1, h, j, hj => by
    have ih := nv_at ns k (by simpa using h) j hj
    have e1 : (k + 1) * 4 + j = (k * 4 + j) + 1 + 1 + 1 + 1 := by omega
    rw [e1, nv_cons]
    simp only [List.getElem?_cons_succ, List.getElem_cons_succ]
    exact ih
theorem nv_put : ∀ (ns : List (Nd × Bool)) (k : Nat) (y : Nd) (h : k < ns.length), (((nv ns).set (k * 4) (.int .u64 (y.key : Int))).set (k * 4 + 1) (.int .i64 y.ah)).set (k * 4 + 2) (.int .i64 y.be) = nv (ns.set k (y, ns[k].2))
  | x :: ns, 0, y, _ => rfl
  | x :: ns, k + 1, y, h => by
    have ih := nv_put ns k y (by simpa using h)
    have e0 : (k + 1) * 4 = (k * 4) + 1 + 1 + 1 + 1 := by omega
    have e : ∀ j, (k + 1) * 4 + j = (k * 4 + j) + 1 + 1 + 1 + 1 := fun j => by omega
    rw [e 1, e 2, e0, nv_cons]
    simp only [List.set_cons_succ, List.getElem_cons_succ]
    rw [nv_cons, ih]
theorem nv_flag : ∀ (ns : List (Nd × Bool)) (k : Nat) (b : Bool) (h : k < ns.length), (nv ns).set (k * 4 + 3) (.bool b) = nv (ns.set k (ns[k].1, b))
  | x :: ns, 0, b, _ => rfl
  | x :: ns, k + 1, b, h => by
    have ih := nv_flag ns k b (by simpa using h)
    have e : (k + 1) * 4 + 3 = (k * 4 + 3) + 1 + 1 + 1 + 1 := by omega
    rw [e, nv_cons]
    simp only [List.set_cons_succ, List.getElem_cons_succ]
    rw [nv_cons, ih]
theorem nv_set (ns : List (Nd × Bool)) (k : Nat) (y : Nd) (b : Bool) (h : k < ns.length) : ((((nv ns).set (k * 4) (.int .u64 (y.key : Int))).set (k * 4 + 1) (.int .i64 y.ah)).set (k * 4 + 2) (.int .i64 y.be)).set (k * 4 + 3) (.bool b) = nv (ns.set k (y, b)) := by
  rw [nv_put ns k y h, nv_flag _ k b (by simpa using h)]
  simp
abbrev iw (fs : List Nat) : List Value := fs.map fun i : Nat => Value.int .i64 (i : Int)
/-- Block Q is a pool's struct: its meter, its limit, its places, the freed ones. -/
structure Qo (w : World) (Q M lim : Nat) (An : Option Addr) (cn : Nat) (Af : Option Addr) (cf : Nat) (ns : List (Nd × Bool)) (fs : List Nat) : Prop where
  row : w.heap[Q]? = some (.cells #[.pointer (some ⟨M, 0, none⟩), .int .i64 (lim : Int), .slice An ns.length cn, .slice Af fs.length cf] 101 (0, 0))
  nodes : w.ownsRow 0 127 4 (.slice An ns.length cn) ns.length (nv ns)
  freed : w.ownsRow 0 3 1 (.slice Af fs.length cf) fs.length (iw fs)
  inr : ∀ i ∈ fs, ∃ h : i < ns.length, ns[i].2 = false
  nod : fs.Nodup
  lim_le : lim ≤ 1048576
  ns_le : ns.length ≤ lim
  fs_le : fs.length ≤ ns.length
/-- The blocks of a pool. -/
def QB (Q : Nat) (An Af : Option Addr) (j : Nat) : Prop := j = Q ∨ An.map (·.block) = some j ∨ Af.map (·.block) = some j
section
variable {w w' : World} {Q M lim cn cf : Nat} {An Af : Option Addr} {ns : List (Nd × Bool)} {fs : List Nat}
theorem Qo.c0 (h : Qo w Q M lim An cn Af cf ns fs) : w.cell? ⟨Q, 0, none⟩ = some (.pointer (some ⟨M, 0, none⟩)) := cell_of_row w Q 0 _ _ (0, 0) h.row
theorem Qo.c1 (h : Qo w Q M lim An cn Af cf ns fs) : w.cell? ⟨Q, 1, none⟩ = some (.int .i64 (lim : Int)) := cell_of_row w Q 1 _ _ (0, 0) h.row
theorem Qo.c2 (h : Qo w Q M lim An cn Af cf ns fs) : w.cell? ⟨Q, 2, none⟩ = some (.slice An ns.length cn) := cell_of_row w Q 2 _ _ (0, 0) h.row
theorem Qo.c3 (h : Qo w Q M lim An cn Af cf ns fs) : w.cell? ⟨Q, 3, none⟩ = some (.slice Af fs.length cf) := cell_of_row w Q 3 _ _ (0, 0) h.row
theorem Qo.fr (h : Qo w Q M lim An cn Af cf ns fs) (k : Nat) : w.frozen? ⟨Q, k, none⟩ = false := frozen_of_row w Q k _ _ h.row
theorem Qo.lt (h : Qo w Q M lim An cn Af cf ns fs) : Q < w.heap.size := row_lt h.row
theorem own_block_lt {w : World} {base : Nat} {e : TypeId} {size n c : Nat} {A : Option Addr} {xs : List Value} (h : w.ownsRow base e size (.slice A n c) n xs) {j : Nat} (hj : A.map (·.block) = some j) : j < w.heap.size ∧ ∃ cur, w.heap[j]? = some (.cells cur e (0, 0)) := by
  rcases own_addr h with ⟨rfl, _⟩ | ⟨g, rfl, hg, _, cur, hc⟩
  · cases hj
  · cases hj; exact ⟨hg, cur, hc⟩
theorem Qo.qb (h : Qo w Q M lim An cn Af cf ns fs) {j : Nat} (hj : QB Q An Af j) : j < w.heap.size := by
  rcases hj with rfl | hj | hj
  · exact h.lt
  · exact (own_block_lt h.nodes hj).1
  · exact (own_block_lt h.freed hj).1
theorem own_of_map {A : Option Addr} {n c k : Nat} (h : (Value.slice A n c).ownBlock = some k) : A.map (·.block) = some k := by
  cases A with
  | none => simp [Value.ownBlock] at h
  | some a => simpa [Value.ownBlock] using h
theorem Qo.chg {O : Nat → Prop} (h : Qo w Q M lim An cn Af cf ns fs) (b : K.Chg w w' O) (hO : ∀ j, QB Q An Af j → ¬ O j) : Qo w' Q M lim An cn Af cf ns fs :=
  ⟨(b.block Q h.lt (hO Q (.inl rfl))).trans h.row, b.own h.nodes (fun k hk => hO k (.inr (.inl (own_of_map hk)))), b.own h.freed (fun k hk => hO k (.inr (.inr (own_of_map hk)))), h.inr, h.nod, h.lim_le, h.ns_le, h.fs_le⟩
theorem Qo.drew (h : Qo w Q M lim An cn Af cf ns fs) (n : Nat) : Qo (w.drewN n) Q M lim An cn Af cf ns fs := ⟨h.row, h.nodes, h.freed, h.inr, h.nod, h.lim_le, h.ns_le, h.fs_le⟩
/-- The blocks lie apart: their types are unlike. -/
theorem Qo.ne_nodes (h : Qo w Q M lim An cn Af cf ns fs) {g : Nat} (hg : An.map (·.block) = some g) : g ≠ Q := by
  obtain ⟨_, cur, hc⟩ := own_block_lt h.nodes hg
  exact row_ne hc h.row (by decide)
theorem Qo.ne_freed (h : Qo w Q M lim An cn Af cf ns fs) {g : Nat} (hg : Af.map (·.block) = some g) : g ≠ Q := by
  obtain ⟨_, cur, hc⟩ := own_block_lt h.freed hg
  exact row_ne hc h.row (by decide)
theorem Qo.ne_both (h : Qo w Q M lim An cn Af cf ns fs) {g f : Nat} (hg : An.map (·.block) = some g) (hf : Af.map (·.block) = some f) : g ≠ f := by
  obtain ⟨_, cur, hc⟩ := own_block_lt h.nodes hg
  obtain ⟨_, cur', hc'⟩ := own_block_lt h.freed hf
  exact row_ne hc hc' (by decide)
/-- Place i, where it lies. -/
theorem Qo.at (h : Qo w Q M lim An cn Af cf ns fs) {i : Nat} (hi : i < ns.length) : ∃ g, An = some ⟨g, 0, none⟩ ∧ w.cell? ⟨g, i * 4, none⟩ = some (.int .u64 (ns[i].1.key : Int)) ∧ w.cell? ⟨g, i * 4 + 1, none⟩ = some (.int .i64 ns[i].1.ah) ∧ w.cell? ⟨g, i * 4 + 2, none⟩ = some (.int .i64 ns[i].1.be) ∧ w.cell? ⟨g, i * 4 + 3, none⟩ = some (.bool ns[i].2) ∧ ∀ k, w.frozen? ⟨g, k, none⟩ = false := by
  obtain ⟨g, rfl⟩ := own_some h.nodes (by omega)
  have e : ∀ j, j < 4 → w.cell? ⟨g, i * 4 + j, none⟩ = (ncl ns[i])[j]? := fun j hj => (h.nodes.cellAt (i * 4 + j) (by omega)).trans (nv_at ns i hi j hj)
  exact ⟨g, rfl, e 0 (by decide), e 1 (by decide), e 2 (by decide), e 3 (by decide), fun k => h.nodes.frozenAt k⟩
end
section
variable (w : World) (Q M lim cn cf : Nat) (An Af : Option Addr) (ns : List (Nd × Bool)) (fs : List Nat)
theorem q_len (a : Qo w Q M lim An cn Af cf ns fs) :
    Calls Try.prog 61 #[.pointer (some ⟨Q, 0, none⟩)] w fun e w' => e = .returned (.int .i64 ((ns.length - fs.length : Nat) : Int)) ∧ ∃ n, w' = w.drewN n := by
  have hc2 := a.c2
  have hc3 := a.c3
  have h1 := a.ns_le
  have h3 := a.lim_le
  have h2 := a.fs_le
  clear a
  generalize ns.length = n at *
  generalize fs.length = m at *
  have ws : IntKind.i64.wrap ((n : Int) - (m : Int)) = (n : Int) - (m : Int) := IntWalk.i64_in _ (by omega)
  go_enter Try.func61, Try.ntmps61
  go_wp2
  go_quiet (fail)
  go_wp2
  refine bodyPost_ret (results_tmp (t := 2) rfl _ _ _) rfl ?_
  exact ⟨ret_int (by omega), _, rfl⟩
theorem q_room (a : Qo w Q M lim An cn Af cf ns fs) (k : Int) :
    Calls Try.prog 90 #[.pointer (some ⟨Q, 0, none⟩), .int .i64 k] w fun e w' => e = .returned (.bool (decide (k ≤ (lim : Int) - ((ns.length - fs.length : Nat) : Int)))) ∧ ∃ n, w' = w.drewN n := by
  have hc1 := a.c1
  have hl := fun N => Lib.hid (q_len (w.drewN N) Q M lim cn cf An Af ns fs (a.drew N))
  have h1 := a.ns_le
  have h3 := a.lim_le
  clear a
  have h2 : ns.length - fs.length ≤ 1048576 := by omega
  generalize ns.length - fs.length = n at *
  have ws : IntKind.i64.wrap ((lim : Int) - (n : Int)) = (lim : Int) - (n : Int) := IntWalk.i64_in _ (by omega)
  go_enter Try.func90, Try.ntmps90
  go_wp2
  go_quiet ((go_at_call 61; exact Calls.quiet_of (hl _).out))
  go_wp2
  go_ret
  exact ⟨rfl, _, rfl⟩
/-- Is place i taken? -/
def lvq (ns : List (Nd × Bool)) (i : Int) : Bool := decide (0 ≤ i) && ((ns[i.toNat]?).map (·.2)).getD false
theorem q_live (a : Qo w Q M lim An cn Af cf ns fs) (i : Int) :
    Calls Try.prog 89 #[.pointer (some ⟨Q, 0, none⟩), .int .i64 i] w fun e w' => e = .returned (.bool (lvq ns i)) ∧ w = w' := by
  have hc2 := a.c2
  have hle := a.ns_le
  have hle2 := a.lim_le
  by_cases h0 : 0 ≤ i
  · obtain ⟨k, rfl⟩ : ∃ k : Nat, i = (k : Int) := ⟨i.toNat, by omega⟩
    have g0 : decide (0 ≤ (k : Int)) = true := decide_eq_true h0
    by_cases hk : k < ns.length
    · obtain ⟨g, rfl, _, _, _, ha, _⟩ := a.at hk
      have hr : Hid (lvq ns (k : Int) = ns[k].2) := by
        show lvq ns (k : Int) = _
        unfold lvq
        simp [hk]
      have g1 : decide ((k : Int) < (ns.length : Int)) = true := decide_eq_true (by omega)
      have k1 : (k : Int) < (ns.length : Int) := by omega
      have k2 : (k : Int).toNat = k := by omega
      clear a
      generalize ns[k].2 = b at *
      go_enter Try.func89, Try.ntmps89
      go_wp2
      go_ret
      exact ⟨ret_bool hr.out.symm, rfl⟩
    · have hr : Hid (lvq ns (k : Int) = false) := by
        show lvq ns (k : Int) = _
        unfold lvq
        rw [Int.toNat_natCast, List.getElem?_eq_none (by omega)]
        simp
      have g1 : decide ((k : Int) < (ns.length : Int)) = false := decide_eq_false (by omega)
      clear a
      generalize ns.length = n at *
      go_enter Try.func89, Try.ntmps89
      go_wp2
      go_ret
      exact ⟨ret_bool hr.out.symm, rfl⟩
  · have g0 : decide (0 ≤ i) = false := decide_eq_false h0
    have hr : Hid (lvq ns i = false) := by
      show lvq ns i = _
      unfold lvq
      rw [g0]; rfl
    clear a
    go_enter Try.func89, Try.ntmps89
    go_wp2
    go_ret
    exact ⟨ret_bool hr.out.symm, rfl⟩
theorem lvq_yes {ns : List (Nd × Bool)} {k : Nat} (hk : k < ns.length) (ht : ns[k].2 = true) : lvq ns (k : Int) = true := by
  unfold lvq
  simp [hk, ht]
end
end Go.Proofs.Ytiinefdpaiincaa
end
section
namespace Go.Proofs.Ytiinefdpaiincaa
open Go.RowKit
section
variable {w : World} {Q M lim cn cf g : Nat} {An Af : Option Addr} {ns : List (Nd × Bool)} {fs : List Nat}
/-- The cells of a row stored. -/
abbrev set5 (w : World) (g i : Nat) (y : Nd) : World := ((w.setCell ⟨g, i, none⟩ (.int .u64 (y.key : Int))).setCell ⟨g, i + 1, none⟩ (.int .i64 y.ah)).setCell ⟨g, i + 2, none⟩ (.int .i64 y.be)
theorem chg_set5 (w : World) (g i : Nat) (y : Nd) (O : Nat → Prop) (h : O g) : K.Chg w (set5 w g i y) O :=
  ((chg_set w g _ _ O h).same (chg_set _ g _ _ O h)).same (chg_set _ g _ _ O h)
theorem own_set5 {w : World} {n cn : Nat} {xs : List Value} (h : w.ownsRow 0 127 4 (.slice (some ⟨g, 0, none⟩) n cn) n xs) (i : Nat) (y : Nd) :
    (set5 w g i y).ownsRow 0 127 4 (.slice (some ⟨g, 0, none⟩) n cn) n (((xs.set i (.int .u64 (y.key : Int))).set (i + 1) (.int .i64 y.ah)).set (i + 2) (.int .i64 y.be)) :=
  (((h.stored i _).1.stored (i + 1) _).1.stored (i + 2) _).1
/-- A place, once it is put. -/
theorem Qo.put (a : Qo w Q M lim (some ⟨g, 0, none⟩) cn Af cf ns fs) {k : Nat} (hk : k < ns.length) (y : Nd) :
    Qo (set5 w g (k * 4) y) Q M lim (some ⟨g, 0, none⟩) cn Af cf (ns.set k (y, ns[k].2)) fs := by
  have b := chg_set5 w g (k * 4) y (· = g) rfl
  have h1 := own_set5 a.nodes (k * 4) y
  rw [nv_put ns k y hk] at h1
  have hl : (ns.set k (y, ns[k].2)).length = ns.length := List.length_set ..
  refine ⟨?_, by rw [hl]; exact h1, b.own a.freed (fun j hj e => a.ne_both rfl (own_of_map hj) e.symm), fun i hi => ?_, a.nod, a.lim_le, by rw [hl]; exact a.ns_le, by rw [hl]; exact a.fs_le⟩
  · rw [b.block Q a.lt (fun e => a.ne_nodes rfl e.symm), a.row, hl]
  · obtain ⟨h2, h3⟩ := a.inr i hi
    refine ⟨by rw [hl]; exact h2, ?_⟩
    rw [List.getElem_set]
    split
    · rename_i e; subst e; exact h3
    · exact h3
/-- What a call that changes a pool leaves. -/
def QStep (w : World) (Q M lim : Nat) (An Af : Option Addr) (ns' : List (Nd × Bool)) (fs' : List Nat) (w' : World) : Prop :=
  ∃ An' cn' Af' cf', Qo w' Q M lim An' cn' Af' cf' ns' fs' ∧ K.Chg w w' (QB Q An Af) ∧ ∀ j, QB Q An' Af' j → QB Q An Af j ∨ w.heap.size ≤ j
end
section
variable (w : World) (Q M lim cn cf : Nat) (An Af : Option Addr) (ns : List (Nd × Bool)) (fs : List Nat)
def PeekP (w : World) (v : Value) (b : Bool) (e : Ending) (w' : World) : Prop := e = .returned (.tuple #[v, .bool b]) ∧ Below w.heap.size w w'
theorem nd_res {fn : Func} {u t : Tmp} (h : fn.results = #[.cell u 97, .tmp t]) (tmps : Array Value) (w : World) (g : Nat) (a b c : Value) (z : Value) (hu : tmps.getD u undef = .pointer (some ⟨g, 0, none⟩))
    (hc : w.heap[g]? = some (.cells #[a, b, c] 97 (0, 0))) (hb : tmps.getD t undef = z) : (results fn tmps).run Try.prog w = .ok (.tuple #[.agg #[a, b, c], z]) w := by
  have hp' : tmps[u]?.getD undef = .pointer (some ⟨g, 0, none⟩) := by simpa using hu
  have hb' : tmps[t]?.getD undef = z := by simpa using hb
  have hr := run_loadVar_row (P := Try.prog) w g 97 97 _ (0, 0) _ hc Try.underlying97 (by kernel_rfl) (by kernel_rfl)
  simp [results, h, hp', hb', asAddr, hr]
abbrev ndzo : Obj := .cells #[.int .u64 0, .int .i64 0, .int .i64 0] 97
abbrev ndzv : Value := .agg #[.int .u64 0, .int .i64 0, .int .i64 0]
theorem q_peek_yes (a : Qo w Q M lim An cn Af cf ns fs) (k : Nat) (hk : k < ns.length) (ht : ns[k].2 = true) :
    Calls Try.prog 76 #[.pointer (some ⟨Q, 0, none⟩), .int .i64 (k : Int)] w (PeekP w ns[k].1.v true) := by
  have hQ := a.lt
  have hb : Below w.heap.size w (w.alloc ndzo) := (Below.refl _ w).alloc (Nat.le_refl _) _
  have a1 := a.chg (K.Chg.of_below (O := fun _ => False) hb) (fun _ _ h => h)
  have hl := Lib.hid (q_live _ Q M lim cn cf An Af ns fs a1 k)
  rw [lvq_yes hk ht] at hl
  have hc2 := a1.c2
  have hle := a.ns_le
  have hle2 := a.lim_le
  obtain ⟨g, rfl, h0, h1, h2, hlv, _⟩ := a1.at hk
  have k1 : (k : Int) < (ns.length : Int) := by omega
  clear a a1 ht hlv
  generalize ns[k].1 = x at *
  obtain ⟨key, ah, be⟩ := x
  dsimp only at *
  show Calls _ _ _ _ (PeekP w (ndv key ah be) true)
  go_enter Try.func76, Try.ntmps76
  go_wp2_with (go_at_call 89; (with_reducible refine hl.out.mono ?_); rintro e w' ⟨rfl, rfl⟩)
  refine bodyPost_ret (nd_res rfl _ _ w.heap.size _ _ _ _ rfl (K.alloc_top _ _) rfl) rfl ?_
  · exact ⟨rfl, (Below.refl _ w).alloc (Nat.le_refl _) _⟩
theorem q_peek_no (a : Qo w Q M lim An cn Af cf ns fs) (i : Int) (ht : lvq ns i = false) :
    Calls Try.prog 76 #[.pointer (some ⟨Q, 0, none⟩), .int .i64 i] w (PeekP w ndzv false) := by
  have hb : Below w.heap.size w (w.alloc ndzo) := (Below.refl _ w).alloc (Nat.le_refl _) _
  have a1 := a.chg (K.Chg.of_below (O := fun _ => False) hb) (fun _ _ h => h)
  have hl := Lib.hid (q_live _ Q M lim cn cf An Af ns fs a1 i)
  rw [ht] at hl
  clear a a1 ht
  go_enter Try.func76, Try.ntmps76
  go_wp2_with (go_at_call 89; (with_reducible refine hl.out.mono ?_); rintro e w' ⟨rfl, rfl⟩)
  refine bodyPost_ret (nd_res rfl _ _ w.heap.size _ _ _ _ rfl ((Below.heap_alloc _ _ _ (by simp)).trans (K.alloc_top _ _)) rfl) rfl ?_
  · exact ⟨rfl, hb.alloc (by simp) _⟩
theorem row_z5 {w : World} {g : Nat} {z0 z1 z2 : Value} (h : w.heap[g]? = some (.cells #[z0, z1, z2] 97 (0, 0))) (a b c : Value) : (((w.setCell ⟨g, 0, none⟩ (a)).setCell ⟨g, 1, none⟩ (b)).setCell ⟨g, 2, none⟩ (c)).heap[g]? = some (.cells #[a, b, c] 97 (0, 0)) := by
  have h1 := row_set (row_set (row_set h 0 a) 1 b) 2 c
  simpa using h1
theorem chg_five (w : World) (g : Nat) (i0 i1 i2 : Nat) (a b c : Value) (O : Nat → Prop) (h : O g) : K.Chg w (((w.setCell ⟨g, i0, none⟩ a).setCell ⟨g, i1, none⟩ b).setCell ⟨g, i2, none⟩ c) O :=
  ((chg_set w g _ _ O h).same (chg_set _ g _ _ O h)).same (chg_set _ g _ _ O h)
/-- The cells of a node's row. -/
theorem nd_cells {w : World} {g : Nat} {a b c : Value} (h : w.heap[g]? = some (.cells #[a, b, c] 97 (0, 0))) : w.cell? ⟨g, 0, none⟩ = some a ∧ w.cell? ⟨g, 1, none⟩ = some b ∧ w.cell? ⟨g, 2, none⟩ = some c :=
  ⟨cell_of_row w g 0 _ _ (0, 0) h, cell_of_row w g 1 _ _ (0, 0) h, cell_of_row w g 2 _ _ (0, 0) h⟩
def AtP (w : World) (M tk : Nat) (v : Value) (b : Bool) (e : Ending) (w' : World) : Prop := e = .returned (.tuple #[v, .bool b]) ∧ Mx w' M tk ∧ K.Chg w w' (· = M)
set_option maxHeartbeats 1000000 in
theorem q_at_yes (a : Qo w Q M lim An cn Af cf ns fs) (k : Nat) (hk : k < ns.length) (ht : ns[k].2 = true) (tk : Nat) (hM : Mx w M tk) (htk : tk < 1000000) :
    Calls Try.prog 88 #[.pointer (some ⟨Q, 0, none⟩), .int .i64 (k : Int)] w (AtP w M (tk + 1) ns[k].1.v true) := by
  have hQ := a.lt
  have hMl := hM.lt
  have hb : Below w.heap.size w (w.alloc ndzo) := (Below.refl _ w).alloc (Nat.le_refl _) _
  have a1 := a.chg (K.Chg.of_below (O := fun _ => False) hb) (fun _ _ h => h)
  have hp := Lib.hid (q_peek_yes _ Q M lim cn cf An Af ns fs a1 k hk ht)
  have HA := Lib.hid a
  have HM := Lib.hid hM
  have HB := Lib.hid hb
  have hz1 : (w.alloc ndzo).heap.size = w.heap.size + 1 := by simp
  have HZ := Lib.hid hz1
  clear a a1 ht hM hb hz1
  generalize ns[k].1 = x at *
  obtain ⟨key, ah, be⟩ := x
  have hp : Hid (Calls _ _ _ _ (PeekP (w.alloc ndzo) (ndv key ah be) true)) := hp
  show Calls _ _ _ _ (AtP w M (tk + 1) (ndv key ah be) true)
  go_enter Try.func88, Try.ntmps88
  go_wp2_with (first
    | (go_at_call 76; (with_reducible refine hp.out.mono ?_); rintro e w1 ⟨rfl, hb1⟩
       have HB1 := Lib.hid hb1
       have hs1 := hb1.size
       rw [HZ.out] at hs1
       have hb2 : Below w.heap.size w (w1.alloc (ndo key ah be)) := (HB.out.trans (hb1.mono (by simp))).alloc (by omega) _
       have HA2 := Lib.hid (HA.out.chg (K.Chg.of_below (O := fun _ => False) hb2) (fun _ _ h => h))
       have HM2 := Lib.hid (HM.out.chg (K.Chg.of_below (O := fun _ => False) hb2) (fun h => h))
       have HC2 := Lib.hid hb2
       have z2 : (w1.alloc (ndo key ah be)).heap[w.heap.size]? = some ndzo := (Below.heap_alloc _ _ _ (by omega)).trans ((hb1.block _ (by (rw [HZ.out]; omega))).trans (K.alloc_top _ _))
       have HZ2 := Lib.hid z2
       have q0 := HA2.out.c0
       clear hb1 hb2 z2)
    | (go_at_call 99; (with_reducible refine (x_read _ M tk HM2.out htk).mono ?_); rintro e w2 ⟨rfl, hm2, hc2⟩
       have HM3 := Lib.hid hm2
       have HC3 := Lib.hid hc2
       have y := (hc2.block w1.heap.size (by simp) (by omega)).trans (K.alloc_top _ _)
       have zz := (hc2.block w.heap.size (by (simp; omega)) (by omega)).trans HZ2.out
       obtain ⟨y0, y1, y2⟩ := nd_cells y
       have f0 := frozen_of_row w2 _ 0 _ _ zz
       have f1 := frozen_of_row w2 _ 1 _ _ zz
       have f2 := frozen_of_row w2 _ 2 _ _ zz
       obtain ⟨t0, t1, t2⟩ := nd_cells zz
       have ZZ := Lib.hid zz
       clear hm2 hc2 y zz))
  refine bodyPost_ret (nd_res rfl _ _ w.heap.size _ _ _ _ rfl (row_z5 ZZ.out _ _ _) rfl) rfl ?_
  · have hch : K.Chg w w2 (· = M) := (K.Chg.of_below (O := (· = M)) HC2.out).same HC3.out
    have h5 : ∀ a b c, K.Chg w2 _ (fun j => j = w.heap.size) := fun a b c => chg_five w2 w.heap.size 0 1 2 a b c _ rfl
    exact ⟨rfl, HM3.out.chg (h5 _ _ _) (by omega), hch.trans (h5 _ _ _) (fun j hj => .inr (by omega))⟩
theorem q_at_no (a : Qo w Q M lim An cn Af cf ns fs) (i : Int) (ht : lvq ns i = false) :
    Calls Try.prog 88 #[.pointer (some ⟨Q, 0, none⟩), .int .i64 i] w (PeekP w ndzv false) := by
  have hb : Below w.heap.size w (w.alloc ndzo) := (Below.refl _ w).alloc (Nat.le_refl _) _
  have a1 := a.chg (K.Chg.of_below (O := fun _ => False) hb) (fun _ _ h => h)
  have hp := Lib.hid (q_peek_no _ Q M lim cn cf An Af ns fs a1 i ht)
  have HB := Lib.hid hb
  have hz1 : (w.alloc ndzo).heap.size = w.heap.size + 1 := by simp
  have HZ := Lib.hid hz1
  clear a a1 ht hb hz1
  go_enter Try.func88, Try.ntmps88
  go_wp2_with (go_at_call 76; (with_reducible refine hp.out.mono ?_); rintro e w1 ⟨rfl, hb1⟩
               have HB1 := Lib.hid hb1
               have hs1 := hb1.size
               rw [HZ.out] at hs1
               have zz := (Below.heap_alloc w1 ndzo w.heap.size (by omega)).trans ((hb1.block w.heap.size (by (rw [HZ.out]; omega))).trans (K.alloc_top _ _))
               have f0 := frozen_of_row _ _ 0 _ _ zz
               have f1 := frozen_of_row _ _ 1 _ _ zz
               have f2 := frozen_of_row _ _ 2 _ _ zz
               obtain ⟨t0, t1, t2⟩ := nd_cells zz
               have ZZ := Lib.hid zz
               clear hb1 zz)
  refine bodyPost_ret (nd_res rfl _ _ w.heap.size _ _ _ _ rfl (row_z5 ZZ.out _ _ _) rfl) rfl ?_
  · refine ⟨rfl, ?_⟩
    have h1 : Below w.heap.size w (w1.alloc ndzo) := (HB.out.trans (HB1.out.mono (by simp))).alloc (by omega) _
    exact (((h1.setCell (by simp) _).setCell (by simp) _).setCell (by simp) _)
set_option maxHeartbeats 1000000 in
theorem q_put (a : Qo w Q M lim An cn Af cf ns fs) (k : Nat) (hk : k < ns.length) (ht : ns[k].2 = true) (key : Nat) (ah : Int) (be : Int) (y : Nd) (hy : y = ⟨key, ah, be⟩) :
    Calls Try.prog 100 #[.pointer (some ⟨Q, 0, none⟩), .int .i64 (k : Int), ndv key ah be] w fun e w' => e = .returned (.bool true) ∧ QStep w Q M lim An Af (ns.set k (y, true)) fs w' := by
  have hb : Below w.heap.size w (w.alloc (ndo key ah be)) := (Below.refl _ w).alloc (Nat.le_refl _) _
  have a1 := a.chg (K.Chg.of_below (O := fun _ => False) hb) (fun _ _ h => h)
  have hl := Lib.hid (q_live _ Q M lim cn cf An Af ns fs a1 k)
  rw [lvq_yes hk ht] at hl
  have hc2 := a1.c2
  obtain ⟨g, rfl, x0, x1, x2, _, hfr⟩ := a1.at hk
  have f0 := hfr (k * 4)
  have f1 := hfr (k * 4 + 1)
  have f2 := hfr (k * 4 + 2)
  have k1 : (k : Int) < (ns.length : Int) := by omega
  have hp := a1.put hk y
  rw [ht] at hp
  have hpH := Lib.hid hp
  have HB := Lib.hid hb
  have HA := Lib.hid a
  have HY := Lib.hid hy
  clear a a1 ht hfr hp hb hy
  go_enter Try.func100, Try.ntmps100
  go_wp2_with (go_at_call 89; (with_reducible refine hl.out.mono ?_); rintro e w' ⟨rfl, rfl⟩)
  go_region
  all_goals
    go_wp2
    go_ret
    obtain rfl := HY.out
    have hbc : K.Chg w _ (QB Q (some ⟨g, 0, none⟩) Af) := (K.Chg.of_below HB.out).same (chg_five (w.alloc (ndo key ah be)) g (k * 4) (k * 4 + 1) (k * 4 + 2) (.int .u64 (key : Int)) (.int .i64 ah) (.int .i64 be) _ (.inr (.inl rfl)))
    exact ⟨rfl, _, cn, Af, cf, hpH.out.drew 1, hbc.drewN 1, fun j hj => .inl hj⟩
end
end Go.Proofs.Ytiinefdpaiincaa
end
section
namespace Go.Proofs.Ytiinefdpaiincaa
open Go.RowKit
theorem nod_le : ∀ (n : Nat) (l : List Nat), l.Nodup → (∀ x ∈ l, x < n) → l.length ≤ n
  | 0, l, _, h => by
    cases l with
    | nil => simp
    | cons x l => exact absurd (h x (by simp)) (by omega)
  | n + 1, l, hn, h => by
    by_cases hm : n ∈ l
    · have h1 := nod_le n (l.erase n) (hn.erase n) (fun x hx => by
        have h2 := h x (List.mem_of_mem_erase hx)
        have h3 : x ≠ n := fun e => by subst e; exact (List.Nodup.not_mem_erase hn) hx
        omega)
      rw [List.length_erase_of_mem hm] at h1
      omega
    · have h1 := nod_le n l hn (fun x hx => by
        have h2 := h x hx
        have h3 : x ≠ n := fun e => by subst e; exact hm hx
        omega)
      omega
section
variable {w : World} {Q M lim cn cf g : Nat} {An Af : Option Addr} {ns : List (Nd × Bool)} {fs : List Nat}
theorem Qo.fs_lt (a : Qo w Q M lim An cn Af cf ns fs) {k : Nat} (hk : k < ns.length) (ht : ns[k].2 = true) : k ∉ fs ∧ fs.length + 1 ≤ ns.length := by
  have h1 : k ∉ fs := fun hm => by
    obtain ⟨_, h⟩ := a.inr k hm
    rw [ht] at h
    cases h
  refine ⟨h1, nod_le ns.length (k :: fs) (List.nodup_cons.2 ⟨h1, a.nod⟩) fun x hx => ?_⟩
  rcases List.mem_cons.1 hx with rfl | hx
  · exact hk
  · exact (a.inr x hx).1
abbrev set6 (w : World) (g i : Nat) (y : Nd) (b : Bool) : World := (set5 w g i y).setCell ⟨g, i + 3, none⟩ (.bool b)
theorem Qo.place (a : Qo w Q M lim (some ⟨g, 0, none⟩) cn Af cf ns fs) {k : Nat} (hk : k < ns.length) (hn : k ∉ fs) (y : Nd) (b : Bool) :
    Qo (set6 w g (k * 4) y b) Q M lim (some ⟨g, 0, none⟩) cn Af cf (ns.set k (y, b)) fs := by
  have b1 : K.Chg w (set6 w g (k * 4) y b) (· = g) := (chg_set5 w g (k * 4) y (· = g) rfl).same (chg_set _ g _ _ (· = g) rfl)
  have h1 := ((own_set5 a.nodes (k * 4) y).stored (k * 4 + 3) (.bool b)).1
  rw [nv_set ns k y b hk] at h1
  have hl : (ns.set k (y, b)).length = ns.length := List.length_set ..
  refine ⟨?_, by rw [hl]; exact h1, b1.own a.freed (fun j hj e => a.ne_both rfl (own_of_map hj) e.symm), fun i hi => ?_, a.nod, a.lim_le, by rw [hl]; exact a.ns_le, by rw [hl]; exact a.fs_le⟩
  · rw [b1.block Q a.lt (fun e => a.ne_nodes rfl e.symm), a.row, hl]
  · obtain ⟨h2, h3⟩ := a.inr i hi
    refine ⟨by rw [hl]; exact h2, ?_⟩
    have hne : k ≠ i := by rintro rfl; exact hn hi
    simpa [List.getElem_set_ne hne] using h3
theorem Qo.setf (h : Qo w Q M lim An cn Af cf ns fs) {x : Value} {Af' : Option Addr} {cf' : Nat} {fs' : List Nat} {w' : World} (hrow : w'.heap[Q]? = some (.cells #[.pointer (some ⟨M, 0, none⟩), .int .i64 (lim : Int), .slice An ns.length cn, x] 101 (0, 0)))
    (hnod : w'.ownsRow 0 127 4 (.slice An ns.length cn) ns.length (nv ns)) (hown : w'.ownsRow 0 3 1 (.slice Af' fs'.length cf') fs'.length (iw fs'))
    (hin : ∀ i ∈ fs', ∃ h : i < ns.length, ns[i].2 = false) (hnd : fs'.Nodup) (hle : fs'.length ≤ ns.length) :
    Qo (w'.setCell ⟨Q, 3, none⟩ (.slice Af' fs'.length cf')) Q M lim An cn Af' cf' ns fs' := by
  have b := chg_set w' Q 3 (.slice Af' fs'.length cf') (· = Q) rfl
  refine ⟨?_, b.own hnod (fun k hk e => ?_), b.own hown (fun k hk e => ?_), hin, hnd, h.lim_le, h.ns_le, hle⟩
  · have := row_set hrow 3 (.slice Af' fs'.length cf')
    simpa using this
  · obtain ⟨_, cur, hc⟩ := own_block_lt hnod (own_of_map hk)
    exact row_ne hc hrow (by decide) e
  · obtain ⟨_, cur, hc⟩ := own_block_lt hown (own_of_map hk)
    exact row_ne hc hrow (by decide) e
end
section
variable (w : World) (Q M lim cn cf : Nat) (An Af : Option Addr) (ns : List (Nd × Bool)) (fs : List Nat)
theorem q_next_pop (i m : Nat) (a : Qo w Q M lim An cn Af cf ns (fs ++ [i])) (hm : fs.length = m) :
    Calls Try.prog 91 #[.pointer (some ⟨Q, 0, none⟩)] w fun e w' => e = .returned (.int .i64 (i : Int)) ∧ QStep w Q M lim An Af ns fs w' := by
  have aH := Lib.hid a
  have hl : (fs ++ [i]).length = m + 1 := by simp [hm]
  have hc3 := a.c3
  rw [hl] at hc3
  have hfr := a.fr 3
  have hfre := a.freed
  rw [hl] at hfre
  obtain ⟨g, rfl⟩ := own_some hfre (by omega)
  have hci : w.cell? ⟨g, m, none⟩ = some (.int .i64 (i : Int)) := by
    rw [hfre.cellAt m (by omega)]
    subst hm
    simp
  have hcap := own_cap hfre
  have hcut := own_cut hfre (k := m) (by omega)
  have hm1 : m + 1 ≤ 1048576 := by rw [← hl]; exact Nat.le_trans a.fs_le (Nat.le_trans a.ns_le a.lim_le)
  have hmH := Lib.hid hm
  have hcutH := Lib.hid hcut
  clear a hfre hcut hm hl
  have w1 : IntKind.i64.wrap (((m + 1 : Nat) : Int) - 1) = (m : Int) := by rw [IntWalk.i64_in _ (by omega)]; omega
  have w2 : IntKind.i64.wrap ((m : Int) + 1 - 1) = (m : Int) := by rw [IntWalk.i64_in _ (by omega)]; omega
  have g0 : decide (0 ≤ (m : Int)) = true := decide_eq_true (by omega)
  have k1 : (m : Int) < ((m + 1 : Nat) : Int) := by omega
  go_enter Try.func91, Try.ntmps91
  go_wp2
  go_ret
  have hc' : w.ownsRow 0 3 1 (.slice (some ⟨g, 0, none⟩) fs.length cf) fs.length (iw fs) := by
    have := hcutH.out
    rw [Nat.mul_one, ← hmH.out] at this
    simpa using this
  have hn := aH.out.nod
  have hp := aH.out.setf aH.out.row aH.out.nodes hc' (fun j hj => aH.out.inr j (List.mem_append_left _ hj)) (List.nodup_append.1 hn).1 (by have := aH.out.fs_le; simp at this; omega)
  rw [hmH.out] at hp
  exact ⟨rfl, An, cn, _, cf, hp, chg_set _ _ _ _ _ (.inl rfl), fun j hj => .inl hj⟩
theorem node_info : (Try.prog.info? 127).map (fun i => (i.zero, i.size, i.bytes)) = some (some (.agg #[.int .u64 0, .int .i64 0, .int .i64 0, .bool false]), 4, 32) := by kernel_rfl
abbrev nzo : Obj := .cells #[.int .u64 0, .int .i64 0, .int .i64 0, .bool false] 127
theorem cell_six (w : World) (a b c zl : Value) (T : TypeId) (j : Nat) (u : Value) (hu : [a, b, c, zl][j]? = some u) : (w.alloc (.cells #[a, b, c, zl] T)).cell? ((⟨w.heap.size, 0, none⟩ : Addr).add j) = some u := by
  have ea : (⟨w.heap.size, 0, none⟩ : Addr).add j = ⟨w.heap.size, j, none⟩ := by
    by_cases h : j = 0
    · subst h; rfl
    · simp [Addr.add, h]
  rw [ea, cell_of_row _ _ _ _ _ (0, 0) (K.alloc_top w (.cells #[a, b, c, zl] T))]
  simpa using hu
set_option maxHeartbeats 1000000 in
theorem q_next_new (a : Qo w Q M lim An cn Af cf ns []) (hn : ns.length < lim) :
    Calls Try.prog 91 #[.pointer (some ⟨Q, 0, none⟩)] w fun e w' => e = .returned (.int .i64 (ns.length : Int)) ∧ QStep w Q M lim An Af (ns ++ [(Nd.z, false)]) [] w' := by
  have aH := Lib.hid a
  obtain ⟨i0, hi, hz0, hz1, hz2⟩ := info_parts node_info
  have hc3 := a.c3
  have hc2 := a.c2
  have hnl := a.ns_le
  have hll := a.lim_le
  have hQlt := a.lt
  have hown := Lib.hid ((a.nodes).alloc nzo)
  have hrd : Hid (Reads (w.alloc nzo) (w.heap.size + 1) 4 (some ⟨w.heap.size, 0, none⟩) 1 [.int .u64 0, .int .i64 0, .int .i64 0, .bool false]) :=
    ⟨rfl, fun _ => ⟨_, rfl, by show w.heap.size < _; omega, cell_six _ _ _ _ _ _⟩⟩
  clear a
  generalize hnn : ns.length = n at *
  have hnH := Lib.hid hnn
  clear hnn
  go_enter Try.func91, Try.ntmps91
  go_wp2_with (at_builtin; refine wpList_append_any _ rfl _ _ 98 rfl 0 127 i0 _ 4 32 Try.underlying98 hi hz0 hz1 hz2 rfl (by decide) _ _ _ rfl hown.out (w.heap.size + 1) _ 1 1 _ rfl hrd.out ?c1 ?c2 ?c3 (Nat.zero_le _) ?_)
  case c2 => unfold maxLen; omega
  case c3 => omega
  all_goals try (case c1 => intro u hu; simp at hu; rcases hu with rfl | rfl | rfl | rfl <;> rfl)
  intro v' w1 hown' hgrow hblk
  obtain ⟨A', c', rfl⟩ := K.own_form hown'
  have hsl : (w.alloc nzo).heap.size = w.heap.size + 1 := by simp
  have b1 : K.Chg w w1 (fun j => An.map (·.block) = some j) := (chg_alloc w nzo _).grown hgrow (fun j e => .inl (own_of_map e))
  have hrow : w1.heap[Q]? = w.heap[Q]? := b1.block Q hQlt (fun e => aH.out.ne_nodes e rfl)
  have hrow2 := hrow.trans aH.out.row
  have hcP : w1.cell? ⟨Q, 2, none⟩ = some (.slice An n cn) := by
    have := cell_of_row w1 Q 2 _ _ (0, 0) hrow2
    rw [hnH.out] at this
    exact this
  have hfP : w1.frozen? ⟨Q, 2, none⟩ = false := frozen_of_row w1 Q 2 _ _ hrow2
  have hA1 : ∀ j, A'.map (·.block) = some j → An.map (·.block) = some j ∨ j = w.heap.size + 1 := by
    intro j e
    cases A' with
    | none => cases e
    | some a =>
      cases e
      rcases hblk with h | h
      · exact .inl (own_of_map h.symm)
      · right
        simp [Value.ownBlock] at h; exact h
  have hF1 : w1.ownsRow 0 3 1 (.slice Af 0 cf) 0 (iw []) := b1.own aH.out.freed (fun k hk e => aH.out.ne_both e (own_of_map hk) rfl)
  have hlen : (ns ++ [(Nd.z, false)]).length = n + 1 := by simp [hnH.out]
  have hown2 : w1.ownsRow 0 127 4 (.slice A' (ns ++ [(Nd.z, false)]).length c') (ns ++ [(Nd.z, false)]).length (nv (ns ++ [(Nd.z, false)])) := by
    rw [hlen, nv_snoc]
    exact hown'
  have hp : Qo (w1.setCell ⟨Q, 2, none⟩ (.slice A' (ns ++ [(Nd.z, false)]).length c')) Q M lim A' c' Af cf (ns ++ [(Nd.z, false)]) [] := by
    have b := chg_set w1 Q 2 (.slice A' (ns ++ [(Nd.z, false)]).length c') (· = Q) rfl
    refine ⟨?_, b.own hown2 (fun k hk e => ?_), b.own hF1 (fun k hk e => ?_), by simp, by simp, hll, by rw [hlen]; omega, by simp⟩
    · have := row_set hrow2 2 (.slice A' (ns ++ [(Nd.z, false)]).length c')
      simpa using this
    · obtain ⟨_, cur, hc⟩ := own_block_lt hown2 (own_of_map hk)
      exact row_ne hc hrow2 (by decide) e
    · obtain ⟨_, cur, hc⟩ := own_block_lt hF1 (own_of_map hk)
      exact row_ne hc hrow2 (by decide) e
  have hb2 := Lib.hid ((b1.mono (O' := QB Q An Af) (fun j h => .inr (.inl h))).same (chg_set w1 Q 2 (.slice A' (n + 1) c') (QB Q An Af) (.inl rfl)))
  rw [hlen] at hp
  have hpH := Lib.hid hp
  have hc2' := hp.c2
  rw [hlen] at hc2'
  have hA1H := Lib.hid hA1
  clear hp hown' hgrow hblk b1 hrow hrow2 hA1 hF1 hlen hown2
  have wn : IntKind.i64.wrap (((n + 1 : Nat) : Int) - 1) = (n : Int) := by rw [IntWalk.i64_in _ (by omega)]; omega
  have wn2 : IntKind.i64.wrap ((n : Int) + 1 - 1) = (n : Int) := by rw [IntWalk.i64_in _ (by omega)]; omega
  go_wp2
  go_ret
  refine ⟨rfl, A', c', Af, cf, hpH.out, hb2.out, fun j hj => ?_⟩
  rcases hj with rfl | hj | hj
  · exact .inl (.inl rfl)
  · rcases hA1H.out j hj with h | h
    · exact .inl (.inr (.inl h))
    · right; omega
  · exact .inl (.inr (.inr hj))
end
end Go.Proofs.Ytiinefdpaiincaa
end
section
namespace Go.Proofs.Ytiinefdpaiincaa
open Go.RowKit
theorem chg_set6 (w : World) (g i : Nat) (y : Nd) (b : Bool) (O : Nat → Prop) (h : O g) : K.Chg w (set6 w g i y b) O := (chg_set5 w g i y O h).same (chg_set _ g _ _ O h)
theorem chg_six (w : World) (g : Nat) (i0 i1 i2 i3 : Nat) (a b c zl : Value) (O : Nat → Prop) (h : O g) : K.Chg w ((((w.setCell ⟨g, i0, none⟩ a).setCell ⟨g, i1, none⟩ b).setCell ⟨g, i2, none⟩ c).setCell ⟨g, i3, none⟩ zl) O :=
  (chg_five w g i0 i1 i2 a b c O h).same (chg_set _ g _ _ O h)
theorem size_set (w : World) (p : Addr) (u : Value) : (w.setCell p u).heap.size = w.heap.size := by simp [World.setCell]
theorem QStep.from {w0 w w' : World} {Q M lim : Nat} {An Af : Option Addr} {ns' : List (Nd × Bool)} {fs' : List Nat} (hb : Below w0.heap.size w0 w) (h : QStep w Q M lim An Af ns' fs' w') : QStep w0 Q M lim An Af ns' fs' w' := by
  obtain ⟨An', cn', Af', cf', h1, h2, h3⟩ := h
  refine ⟨An', cn', Af', cf', h1, (K.Chg.of_below hb).same h2, fun j hj => ?_⟩
  rcases h3 j hj with h | h
  · exact .inl h
  · exact .inr (Nat.le_trans hb.size h)
section
variable (w : World) (Q M lim cn cf : Nat) (An Af : Option Addr) (ns : List (Nd × Bool)) (fs : List Nat)
set_option maxHeartbeats 2000000 in
theorem q_alloc_by (a : Qo w Q M lim An cn Af cf ns fs) (key : Nat) (ah : Int) (be : Int) (i : Nat) (ns' : List (Nd × Bool)) (fs' : List Nat) (hf : ns.length - fs.length < lim) (hi : i < ns'.length) (hif : i ∉ fs') 
    (hn : ∀ V, Qo V Q M lim An cn Af cf ns fs → Calls Try.prog 91 #[.pointer (some ⟨Q, 0, none⟩)] V fun e w' => e = .returned (.int .i64 (i : Int)) ∧ QStep V Q M lim An Af ns' fs' w') :
    Calls Try.prog 80 #[.pointer (some ⟨Q, 0, none⟩), ndv key ah be] w fun e w' => e = .returned (.tuple #[.int .i64 (i : Int), .bool true]) ∧ QStep w Q M lim An Af (ns'.set i (⟨key, ah, be⟩, true)) fs' w' := by
  have hb : Below w.heap.size w (w.alloc (ndo key ah be)) := (Below.refl _ w).alloc (Nat.le_refl _) _
  have a1 := a.chg (K.Chg.of_below (O := fun _ => False) hb) (fun _ _ h => h)
  have hr := Lib.hid (q_room _ Q M lim cn cf An Af ns fs a1 1)
  have d : decide ((1 : Int) ≤ (lim : Int) - ((ns.length - fs.length : Nat) : Int)) = true := decide_eq_true (by omega)
  rw [d] at hr
  have hnH := Lib.hid (fun N => hn _ (a1.drew N))
  have hqb := Lib.hid (fun j (h : QB Q An Af j) => a.qb h)
  have HB := Lib.hid hb
  have HI := Lib.hid hif
  have hrow := Lib.hid (K.alloc_top w (ndo key ah be))
  clear a a1 d hf hn hb hif
  go_enter Try.func80, Try.ntmps80
  go_wp2_with (first
    | (go_at_call 90; (with_reducible refine hr.out.mono ?_); rintro e w' ⟨rfl, N, rfl⟩)
    | (go_at_call 91; (with_reducible refine (hnH.out _).mono ?_); rintro e w1 ⟨rfl, An', cn', Af', cf', hP, hBu, hIn⟩
       have hc2 := hP.c2
       obtain ⟨g, rfl, x0, x1, x2, x3, hfr⟩ := hP.at hi
       have hrow1 := (hBu.block w.heap.size (by show w.heap.size < (w.heap.push _).size; simp) (fun h => by have := hqb.out _ h; omega)).trans hrow.out
       obtain ⟨y0, y1, y2⟩ := nd_cells hrow1
       have hPH := Lib.hid (hP.place hi HI.out ⟨key, ah, be⟩ true)
       have hBH := Lib.hid hBu
       have hIH := Lib.hid hIn
       have hf0 := hfr (i * 4)
       have hf1 := hfr (i * 4 + 1)
       have hf2 := hfr (i * 4 + 2)
       have hf3 := hfr (i * 4 + 3)
       clear hfr hP hBu hIn hrow1
       have k1 : (i : Int) < (ns'.length : Int) := (by omega)))
  go_region
  all_goals
    go_wp2
    go_ret2
    have b0 : K.Chg w w1 (QB Q An Af) := (K.Chg.of_below HB.out).same ⟨hBH.out.os, hBH.out.tape, hBH.out.output, hBH.out.size, hBH.out.block⟩
    have hs : w.heap.size ≤ (w.alloc (ndo key ah be)).heap.size := HB.out.size
    refine ⟨rfl, _, cn', Af', cf', hPH.out.drew 1, (b0.trans (chg_set6 w1 g (i * 4) ⟨key, ah, be⟩ true (· = g) rfl) (fun j e => ?_)).drewN 1, fun j hj => ?_⟩
    · subst e
      rcases hIH.out _ (.inr (.inl rfl)) with h | h
      · exact .inl h
      · exact .inr (Nat.le_trans hs h)
    · rcases hIH.out _ hj with h | h
      · exact .inl h
      · exact .inr (Nat.le_trans hs h)
/-- A place that may be taken next. -/
theorem q_alloc (a : Qo w Q M lim An cn Af cf ns fs) (key : Nat) (ah : Int) (be : Int) (hf : ns.length - fs.length < lim) :
    ∃ (i : Nat) (ns' : List (Nd × Bool)) (fs' : List Nat), (i < ns'.length) ∧ ((∃ h : i < ns.length, ns[i].2 = false) ∨ ns.length ≤ i) ∧ ns'[i]? = some (⟨key, ah, be⟩, true) ∧ (∀ j, j ≠ i → ns'[j]? = ns[j]?) ∧ ns'.length - fs'.length = ns.length - fs.length + 1 ∧ (fs = [] → i = ns.length ∧ fs' = [] ∧ ns'.length = ns.length + 1) ∧
      Calls Try.prog 80 #[.pointer (some ⟨Q, 0, none⟩), ndv key ah be] w fun e w' => e = .returned (.tuple #[.int .i64 (i : Int), .bool true]) ∧ QStep w Q M lim An Af ns' fs' w' := by
  have hl := a.ns_le
  have hl2 := a.lim_le
  rcases List.eq_nil_or_concat fs with rfl | ⟨f0, i, rfl⟩
  · refine ⟨ns.length, ns ++ [(⟨key, ah, be⟩, true)], [], by simp, .inr (Nat.le_refl _), by simp, fun j hj => ?_, by simp, fun _ => ⟨rfl, rfl, by simp⟩, ?_⟩
    · rcases Nat.lt_or_ge j ns.length with h | h
      · rw [List.getElem?_append_left h]
      · rw [List.getElem?_eq_none (by simp; omega), List.getElem?_eq_none h]
    · have h0 : ns.length < lim := by simpa using hf
      have := q_alloc_by w Q M lim cn cf An Af ns [] a key ah be ns.length (ns ++ [(Nd.z, false)]) [] hf (by simp) (by simp) (fun V aV => q_next_new V Q M lim cn cf An Af ns aV h0)
      have e : (ns ++ [(Nd.z, false)]).set ns.length (⟨key, ah, be⟩, true) = ns ++ [(⟨key, ah, be⟩, true)] := by
        rw [List.set_append_right _ _ (Nat.le_refl _)]
        simp
      rw [e] at this
      exact this
  · rw [List.concat_eq_append] at a hf
    obtain ⟨hi, ht⟩ := a.inr i (by simp)
    have hnd := List.nodup_append.1 a.nod
    have hfl := a.fs_le
    simp at hfl
    refine ⟨i, ns.set i (⟨key, ah, be⟩, true), f0, by simpa using hi, .inl ⟨hi, ht⟩, by simp [hi], fun j hj => by rw [List.getElem?_set_ne (Ne.symm hj)], by simp; omega, fun e => by simp at e, ?_⟩
    exact q_alloc_by w Q M lim cn cf An Af ns (f0 ++ [i]) a key ah be i ns f0 hf hi (fun hm => hnd.2.2 i hm i (by simp) rfl) (fun V aV => q_next_pop V Q M lim cn cf An Af ns f0 i f0.length aV rfl)
theorem q_alloc_no (a : Qo w Q M lim An cn Af cf ns fs) (key : Nat) (ah : Int) (be : Int) (hf : ¬ ns.length - fs.length < lim) :
    Calls Try.prog 80 #[.pointer (some ⟨Q, 0, none⟩), ndv key ah be] w fun e w' => e = .returned (.tuple #[.int .i64 0, .bool false]) ∧ Below w.heap.size w w' := by
  have hb : Below w.heap.size w (w.alloc (ndo key ah be)) := (Below.refl _ w).alloc (Nat.le_refl _) _
  have a1 := a.chg (K.Chg.of_below (O := fun _ => False) hb) (fun _ _ h => h)
  have hr := Lib.hid (q_room _ Q M lim cn cf An Af ns fs a1 1)
  have d : decide ((1 : Int) ≤ (lim : Int) - ((ns.length - fs.length : Nat) : Int)) = false := decide_eq_false (by omega)
  rw [d] at hr
  have HB := Lib.hid hb
  clear a a1 d hf hb
  go_enter Try.func80, Try.ntmps80
  go_wp2_with (go_at_call 90; (with_reducible refine hr.out.mono ?_); rintro e w' ⟨rfl, N, rfl⟩)
  go_ret2
  exact ⟨rfl, ⟨HB.out.os, HB.out.tape, HB.out.output, HB.out.size, HB.out.block⟩⟩
set_option maxHeartbeats 2000000 in
theorem q_free (a : Qo w Q M lim An cn Af cf ns fs) (k : Nat) (hk : k < ns.length) (ht : ns[k].2 = true) :
    Calls Try.prog 84 #[.pointer (some ⟨Q, 0, none⟩), .int .i64 (k : Int)] w fun e w' => e = .returned (.bool true) ∧ QStep w Q M lim An Af (ns.set k (Nd.z, false)) (fs ++ [k]) w' := by
  have hl := Lib.hid (q_live w Q M lim cn cf An Af ns fs a k)
  rw [lvq_yes hk ht] at hl
  obtain ⟨i0, hi, hz0, hz1, hz2⟩ := info_parts int_info
  obtain ⟨hkf, hfl⟩ := a.fs_lt hk ht
  have hc2 := a.c2
  have hQlt := a.lt
  obtain ⟨g, rfl, x0, x1, x2, x3, hfr⟩ := a.at hk
  have f0 := hfr (k * 4)
  have f1 := hfr (k * 4 + 1)
  have f2 := hfr (k * 4 + 2)
  have f3 := hfr (k * 4 + 3)
  have k1 : (k : Int) < (ns.length : Int) := by omega
  have hp : Qo ((((w.setCell ⟨g, k * 4, none⟩ (.int .u64 0)).setCell ⟨g, k * 4 + 1, none⟩ (.int .i64 0)).setCell ⟨g, k * 4 + 2, none⟩ (.int .i64 0)).setCell ⟨g, k * 4 + 3, none⟩ (.bool false)) Q M lim (some ⟨g, 0, none⟩) cn Af cf (ns.set k (Nd.z, false)) fs := by
    have := a.place hk hkf Nd.z false
    exact this
  have hb0 : K.Chg w ((((w.setCell ⟨g, k * 4, none⟩ (.int .u64 0)).setCell ⟨g, k * 4 + 1, none⟩ (.int .i64 0)).setCell ⟨g, k * 4 + 2, none⟩ (.int .i64 0)).setCell ⟨g, k * 4 + 3, none⟩ (.bool false)) (QB Q (some ⟨g, 0, none⟩) Af) := chg_six w g _ _ _ _ _ _ _ _ _ (.inr (.inl rfl))
  have hz : ((((w.setCell ⟨g, k * 4, none⟩ (.int .u64 0)).setCell ⟨g, k * 4 + 1, none⟩ (.int .i64 0)).setCell ⟨g, k * 4 + 2, none⟩ (.int .i64 0)).setCell ⟨g, k * 4 + 3, none⟩ (.bool false)).heap.size = w.heap.size := by simp only [size_set]
  obtain ⟨w2, hw2⟩ : ∃ w2, ((((w.setCell ⟨g, k * 4, none⟩ (.int .u64 0)).setCell ⟨g, k * 4 + 1, none⟩ (.int .i64 0)).setCell ⟨g, k * 4 + 2, none⟩ (.int .i64 0)).setCell ⟨g, k * 4 + 3, none⟩ (.bool false)) = w2 := ⟨_, rfl⟩
  rw [hw2] at hp hb0 hz
  have hc3 := hp.c3
  rw [← hw2] at hc3
  have hw2H := Lib.hid hw2
  have hown := Lib.hid (hp.freed.alloc (.cells #[.int .i64 (k : Int)] 3))
  have hrd : Hid (Reads (w2.alloc (.cells #[.int .i64 (k : Int)] 3)) (w2.heap.size + 1) 1 (some ⟨w2.heap.size, 0, none⟩) 1 [.int .i64 (k : Int)]) := by
    refine ⟨rfl, fun _ => ⟨_, rfl, by show w2.heap.size < _; omega, fun j u hu => ?_⟩⟩
    match j, hu with
    | 0, hu => simp at hu; subst hu; simp [Addr.add]
  rw [hz] at hrd
  have hB : Hid (0 ≤ (w2.alloc (.cells #[.int .i64 (k : Int)] 3)).heap.size) := Nat.zero_le _
  have hfm : fs.length ≤ 1048576 := by have := a.ns_le; have := a.lim_le; omega
  have hpH := Lib.hid hp
  have hb0H := Lib.hid hb0
  have HT := Lib.hid ht
  have HKF := Lib.hid hkf
  clear a ht hfr hp hb0 hw2 hkf
  generalize hfn : fs.length = m at *
  have hfnH := Lib.hid hfn
  clear hfn
  go_enter Try.func84, Try.ntmps84
  go_wp2_with (first
    | (go_at_call 89; (with_reducible refine hl.out.mono ?_); rintro e w' ⟨rfl, rfl⟩)
    | (at_builtin; rw [hw2H.out]; refine wpList_append_any _ rfl _ _ 99 rfl 0 3 i0 _ 1 8 Try.underlying99 hi hz0 hz1 hz2 rfl (by decide) _ _ _ rfl hown.out (w.heap.size + 1) _ 1 1 _ rfl hrd.out ?c1 ?c2 ?c3 hB.out ?_))
  case c2 => unfold maxLen; omega
  case c3 => omega
  all_goals try (case c1 => intro u hu; simp at hu; subst hu; rfl)
  intro v' w1 hown' hgrow hblk
  obtain ⟨A', c', rfl⟩ := K.own_form hown'
  have hsl : (w2.alloc (.cells #[.int .i64 (k : Int)] 3)).heap.size = w.heap.size + 1 := by simp [hz]
  have b1 : K.Chg w2 w1 (fun j => Af.map (·.block) = some j) := (chg_alloc w2 _ _).grown hgrow (fun j e => .inl (own_of_map e))
  have hrow2 := (b1.block Q hpH.out.lt (fun e => hpH.out.ne_freed e rfl)).trans hpH.out.row
  have hcP : w1.cell? ⟨Q, 3, none⟩ = some (.slice Af m cf) := by
    have := cell_of_row w1 Q 3 _ _ (0, 0) hrow2
    rw [hfnH.out] at this
    exact this
  have hfP : w1.frozen? ⟨Q, 3, none⟩ = false := frozen_of_row w1 Q 3 _ _ hrow2
  have hA1 : ∀ j, A'.map (·.block) = some j → Af.map (·.block) = some j ∨ j = w.heap.size + 1 := by
    intro j e
    cases A' with
    | none => cases e
    | some a =>
      cases e
      rcases hblk with h | h
      · exact .inl (own_of_map h.symm)
      · right
        simp [Value.ownBlock] at h
        show a.block = _
        omega
  have hlen : (fs ++ [k]).length = m + 1 := by simp [hfnH.out]
  have hown2 : w1.ownsRow 0 3 1 (.slice A' (fs ++ [k]).length c') (fs ++ [k]).length (iw (fs ++ [k])) := by
    rw [hlen, iw, List.map_append]
    exact hown'
  have hnod : w1.ownsRow 0 127 4 (.slice (some ⟨g, 0, none⟩) (ns.set k (Nd.z, false)).length cn) (ns.set k (Nd.z, false)).length (nv (ns.set k (Nd.z, false))) := b1.own hpH.out.nodes (fun j hj e => hpH.out.ne_both (own_of_map hj) e rfl)
  have hp : Qo (w1.setCell ⟨Q, 3, none⟩ (.slice A' (fs ++ [k]).length c')) Q M lim (some ⟨g, 0, none⟩) cn A' c' (ns.set k (Nd.z, false)) (fs ++ [k]) := by
    refine hpH.out.setf hrow2 hnod hown2 (fun i hi => ?_) (List.nodup_append.2 ⟨hpH.out.nod, by simp, fun x hx y hy e => ?_⟩) ?_
    · rcases List.mem_append.1 hi with h | h
      · exact hpH.out.inr i h
      · simp at h; subst h
        exact ⟨by simpa using hk, by simp⟩
    · simp at hy; subst hy; subst e; exact HKF.out hx
    · rw [hlen, List.length_set]; omega
  have hb2 := Lib.hid ((hb0H.out.same (b1.mono (O' := QB Q (some ⟨g, 0, none⟩) Af) (fun j h => .inr (.inr h)))).same (chg_set w1 Q 3 (.slice A' (m + 1) c') (QB Q (some ⟨g, 0, none⟩) Af) (.inl rfl)))
  rw [hlen] at hp
  have hpH2 := Lib.hid hp
  have hA1H := Lib.hid hA1
  clear hp hown' hgrow hblk b1 hrow2 hA1 hlen hown2 hnod
  go_wp2
  go_ret
  refine ⟨rfl, _, cn, A', c', hpH2.out, hb2.out, fun j hj => ?_⟩
  rcases hj with rfl | hj | hj
  · exact .inl (.inl rfl)
  · exact .inl (.inr (.inl hj))
  · rcases hA1H.out j hj with h | h
    · exact .inl (.inr (.inr h))
    · right; omega
end
end Go.Proofs.Ytiinefdpaiincaa
end
section
namespace Go.Proofs.Ytiinefdpaiincaa
open Go.RowKit
section
variable {P : Program}
theorem run_clear_any (w : World) (t e ty : TypeId) (z : Value) (ht : P.underlying t = some (.slice e)) (hv : ∀ w, (zeroValue e).run P w = .ok z w) (b n c : Nat)
    (h1 : ∀ v ∈ (Builtin.zeroCells z.cells (n + 1)).toList, v.oneCell' = true)
    (hc : ∀ j, j < (Builtin.zeroCells z.cells (n + 1)).toList.length → (w.cell? ⟨b, j, none⟩).isSome = true) (hf : ∀ j, w.frozen? ⟨b, j, none⟩ = false) :
    (Builtin.clear_ #[t] ty #[.slice (some ⟨b, 0, none⟩) (n + 1) c]).run P w = .ok (.tuple #[]) (w.setCells b 0 (Builtin.zeroCells z.cells (n + 1)).toList) := by
  have hst := run_storeCells_cells (P := P) b 0 (Builtin.zeroCells z.cells (n + 1)).toList 0 w (by simpa using hc) (by intro j _; exact hf _) h1
  simp only [Nat.add_zero] at hst
  simp [Builtin.clear_, run_underlying ht, hv, hst]
theorem wp_clear {o : Oper} {a : Act} {K : Act → World → Prop} {Q : Exit → Act → World → Prop} (w : World) (s : Operand) (t : TypeId)
    (ho : o.op = .call { callee := .builtin .clear, args := #[s], argTypes := #[t] }) (v : Value) (hs : a.eval s = v) (w' : World)
    (hrun : (Builtin.clear_ #[t] o.type #[v]).run P w = .ok (.tuple #[]) w') (h : K (a.put o.dst (.tuple #[])) w') : o.wp P a w K Q := by
  unfold Oper.wp execOp
  simp only [ho, resolve, invoke, builtin, Sem.run_bind, Sem.run_pure, Result.andThen_ok, List.map_toArray, List.map_cons, List.map_nil, hs, hrun]
  exact h
theorem wpList_clear {ops : Array Oper} {rest : List Oper} {o : Oper} {a : Act} {Q : Exit → Act → World → Prop} (w : World) (hgd : o.guard = none) (s : Operand) (t : TypeId)
    (ho : o.op = .call { callee := .builtin .clear, args := #[s], argTypes := #[t] }) (v : Value) (hs : a.eval s = v) (w' : World)
    (hrun : (Builtin.clear_ #[t] o.type #[v]).run P w = .ok (.tuple #[]) w') (h : wpList P ops Q rest (a.put o.dst (.tuple #[])) w') : wpList P ops Q (o :: rest) a w :=
  wpList_plain hgd fun _ hK => wp_clear w s t ho v hs w' hrun (hK _ _ h)
end
theorem own_cells {base : Nat} {e : TypeId} {size n c g : Nat} : ∀ (L : List Value) (o : Nat) (w : World) (xs : List Value), w.ownsRow base e size (.slice (some ⟨g, 0, none⟩) n c) n xs →
    (∃ ys, (w.setCells g o L).ownsRow base e size (.slice (some ⟨g, 0, none⟩) n c) n ys) ∧ K.Chg w (w.setCells g o L) (fun j => j = g)
  | [], _, w, xs, h => ⟨⟨xs, h⟩, chg_refl w _⟩
  | v :: r, o, w, xs, h => by
    have h1 := (h.stored o v).1
    obtain ⟨h2, h3⟩ := own_cells r (o + 1) (w.setCell ⟨g, o, none⟩ v) _ h1
    exact ⟨h2, (chg_set w g o v (fun j => j = g) rfl).same h3⟩
theorem own_none {w : World} {base : Nat} {e : TypeId} {size n c : Nat} {xs : List Value} (h : w.ownsRow base e size (.slice none n c) n xs) : n = 0 ∧ c = 0 := by
  rcases h.2 with ⟨hv, rfl⟩ | ⟨g, cap, cur, hv, _⟩
  · simp at hv; exact ⟨rfl, hv⟩
  · simp at hv
abbrev pzv : Value := .agg #[.int .u64 0, .int .i64 0, .int .i64 0, .bool false]
theorem zc : pzv.cells = #[.int .u64 0, .int .i64 0, .int .i64 0, .bool false] := by kernel_rfl
theorem zc1 (m : Nat) : ∀ v ∈ (Builtin.zeroCells pzv.cells (m + 1)).toList, v.oneCell' = true := by
  rw [zc]
  intro v hv
  simp [Builtin.zeroCells] at hv
  obtain ⟨i, _, rfl⟩ := hv
  rcases (by omega : i % 4 = 0 ∨ i % 4 = 1 ∨ i % 4 = 2 ∨ i % 4 = 3) with h | h | h | h <;> rw [h] <;> rfl
theorem run_clear_zero {P : Program} (w : World) (t e ty : TypeId) (ht : P.underlying t = some (.slice e)) (A : Option Addr) (c : Nat) : (Builtin.clear_ #[t] ty #[.slice A 0 c]).run P w = .ok (.tuple #[]) w := by
  cases A <;> simp [Builtin.clear_, run_underlying ht]
theorem own_ne {w : World} {base : Nat} {e : TypeId} {size n : Nat} {v : Value} {xs : List Value} (h : w.ownsRow base e size v n xs) {g : Nat} {cs : Array Value} {T : TypeId} (hg : w.heap[g]? = some (.cells cs T (0, 0))) (hT : e ≠ T) : ∀ k, v.ownBlock = some k → k ≠ g := by
  intro k hk
  rcases h.2 with ⟨rfl, _⟩ | ⟨b, cap, cur, rfl, _, hb, _⟩
  · simp [Value.ownBlock] at hk
  · simp [Value.ownBlock] at hk
    subst hk
    exact row_ne hb hg hT
theorem own_apart {w : World} {base : Nat} {e e' : TypeId} {size n size' n' : Nat} {v v' : Value} {xs xs' : List Value} (h : w.ownsRow base e size v n xs) (h' : w.ownsRow base e' size' v' n' xs') (hT : e ≠ e') : ∀ k, v.ownBlock = some k → v'.ownBlock ≠ some k := by
  intro k hk e2
  rcases h'.2 with ⟨rfl, _⟩ | ⟨b, cap, cur, rfl, _, hb, _⟩
  · simp [Value.ownBlock] at e2
  · simp [Value.ownBlock] at e2
    subst e2
    exact own_ne h hb hT _ hk rfl
section
variable {w : World} {Q M lim cn cf : Nat} {An Af : Option Addr} {ns : List (Nd × Bool)} {fs : List Nat} {x y : Value}
theorem qo_emptied (hrow : w.heap[Q]? = some (.cells #[.pointer (some ⟨M, 0, none⟩), .int .i64 (lim : Int), x, y] 101 (0, 0)))
    (hn : w.ownsRow 0 127 4 (.slice An 0 cn) 0 []) (hf : w.ownsRow 0 3 1 (.slice Af 0 cf) 0 []) (hl : lim ≤ 1048576) :
    Qo ((w.setCell ⟨Q, 2, none⟩ (.slice An 0 cn)).setCell ⟨Q, 3, none⟩ (.slice Af 0 cf)) Q M lim An cn Af cf [] [] ∧ Qo ((w.setCell ⟨Q, 3, none⟩ (.slice Af 0 cf)).setCell ⟨Q, 2, none⟩ (.slice An 0 cn)) Q M lim An cn Af cf [] [] := by
  have hA := own_ne hn hrow (by decide)
  have hF := own_ne hf hrow (by decide)
  have b1 := (chg_set w Q 2 (.slice An 0 cn) (· = Q) rfl).same (chg_set _ Q 3 (.slice Af 0 cf) (· = Q) rfl)
  have b2 := (chg_set w Q 3 (.slice Af 0 cf) (· = Q) rfl).same (chg_set _ Q 2 (.slice An 0 cn) (· = Q) rfl)
  refine ⟨⟨?_, b1.own hn hA, b1.own hf hF, fun i hi => by simp at hi, by simp, hl, by simp, by simp⟩, ⟨?_, b2.own hn hA, b2.own hf hF, fun i hi => by simp at hi, by simp, hl, by simp, by simp⟩⟩
  · have := row_set (row_set hrow 2 (.slice An 0 cn)) 3 (.slice Af 0 cf)
    simpa using this
  · have := row_set (row_set hrow 3 (.slice Af 0 cf)) 2 (.slice An 0 cn)
    simpa using this
set_option maxRecDepth 20000 in
theorem q_clear (a : Qo w Q M lim An cn Af cf ns fs) :
    Calls Try.prog 74 #[.pointer (some ⟨Q, 0, none⟩)] w fun e w' => e = .returned (.tuple #[]) ∧ QStep w Q M lim An Af [] [] w' := by
  have hfin : ∀ wc : World, K.Chg w wc (fun j => An.map (·.block) = some j) → (∃ ys, wc.ownsRow 0 127 4 (.slice An ns.length cn) ns.length ys) →
      wc.cell? ⟨Q, 2, none⟩ = some (.slice An ns.length cn) ∧ wc.cell? ⟨Q, 3, none⟩ = some (.slice Af fs.length cf) ∧ wc.frozen? ⟨Q, 2, none⟩ = false ∧ wc.frozen? ⟨Q, 3, none⟩ = false ∧
      Hid (∀ N, QStep w Q M lim An Af [] [] (((wc.setCell ⟨Q, 2, none⟩ (.slice An 0 cn)).setCell ⟨Q, 3, none⟩ (.slice Af 0 cf)).drewN N) ∧ QStep w Q M lim An Af [] [] (((wc.setCell ⟨Q, 3, none⟩ (.slice Af 0 cf)).setCell ⟨Q, 2, none⟩ (.slice An 0 cn)).drewN N)) := by
    intro wc b ⟨ys, hy⟩
    have hmap : ∀ {A : Option Addr} {n c k : Nat}, (Value.slice A n c).ownBlock = some k ↔ A.map (·.block) = some k := by
      intro A n c k
      cases A <;> simp [Value.ownBlock]
    have hrow := (b.block Q (row_lt a.row) (fun e => own_ne a.nodes a.row (by decide) _ (hmap.2 e) rfl)).trans a.row
    have hn := own_cut hy (k := 0) (by omega)
    have hf := own_cut (b.own a.freed (fun k hk e => own_apart a.nodes a.freed (by decide) k (hmap.2 e) hk)) (k := 0) (by omega)
    rw [Nat.zero_mul, List.take_zero] at hn hf
    have hp := qo_emptied hrow hn hf a.lim_le
    have bb : K.Chg w wc (QB Q An Af) := b.mono (fun j h => .inr (.inl h))
    refine ⟨cell_of_row wc Q 2 _ _ (0, 0) hrow, cell_of_row wc Q 3 _ _ (0, 0) hrow, by simp [World.frozen?, hrow], by simp [World.frozen?, hrow], fun N => ⟨⟨An, cn, Af, cf, hp.1.chg ((chg_refl _ (fun _ => False)).drewN N) (fun _ _ h => h), ?_, fun j hj => .inl hj⟩, ⟨An, cn, Af, cf, hp.2.chg ((chg_refl _ (fun _ => False)).drewN N) (fun _ _ h => h), ?_, fun j hj => .inl hj⟩⟩⟩
    · exact ((bb.same (chg_set _ _ _ _ _ (.inl rfl))).same (chg_set _ _ _ _ _ (.inl rfl))).drewN N
    · exact ((bb.same (chg_set _ _ _ _ _ (.inl rfl))).same (chg_set _ _ _ _ _ (.inl rfl))).drewN N
  have hc2 := a.c2
  have hns := a.ns_le
  have hfs := a.fs_le
  have hcapN := own_cap a.nodes
  have hcapF := own_cap a.freed
  have own_noneH : Hid (Af = none → fs.length = 0 ∧ cf = 0) := fun e => by
    have := a.freed
    rw [e] at this
    exact own_none this
  have own_someH : Hid (∀ f, Af = some f → ∃ fb, f = ⟨fb, 0, none⟩) := fun f e => by
    have := a.freed
    rw [e] at this
    rcases this.2 with ⟨hv, _⟩ | ⟨gg, cap, cur, hv, _⟩
    · simp at hv
    · simp at hv; exact ⟨gg, hv.1⟩
  rcases Nat.eq_zero_or_pos ns.length with h0 | h0
  · obtain ⟨x2, x3, f2, f3, hend⟩ := hfin w (chg_refl w _) ⟨nv ns, a.nodes⟩
    rw [h0] at x2 hc2
    have hrun := Lib.hid (run_clear_zero (P := Try.prog) w 98 127 0 Try.underlying98 An cn)
    have an_someH : Hid (∀ f, An = some f → ∃ fb, f = ⟨fb, 0, none⟩) := fun f e => by
      have := a.nodes
      rw [e] at this
      rcases this.2 with ⟨hv, _⟩ | ⟨gg, cap, cur, hv, _⟩
      · simp at hv
      · simp at hv; exact ⟨gg, hv.1⟩
    have an_noneH : Hid (An = none → cn = 0) := fun e => by
      have := a.nodes
      rw [e] at this
      exact (own_none this).2
    have hendH := hend
    clear hend hfin a h0
    generalize fs.length = q at *
    have hqH := Lib.hid hcapF
    go_enter Try.func74, Try.ntmps74
    go_wp2_with (refine wpList_clear _ rfl (.tmp 7) 98 rfl _ rfl _ hrun.out ?_)
    rcases An with _ | ga
    · obtain rfl := an_noneH.out rfl
      dsimp only [Act.put]
      rcases Af with _ | f
      · obtain ⟨rfl, rfl⟩ := own_noneH.out rfl
        go_region
        all_goals
          go_wp2
          go_end0
          first
          | exact ⟨rfl, (hendH.out _).1⟩
          | exact ⟨rfl, (hendH.out _).2⟩
      · have hf0 := own_someH.out f rfl
        obtain ⟨fb, rfl⟩ := hf0
        go_region
        all_goals
          go_wp2
          go_end0
          first
          | exact ⟨rfl, (hendH.out _).1⟩
          | exact ⟨rfl, (hendH.out _).2⟩
    · obtain ⟨gb, rfl⟩ := an_someH.out ga rfl
      dsimp only [Act.put]
      rcases Af with _ | f
      · obtain ⟨rfl, rfl⟩ := own_noneH.out rfl
        go_region
        all_goals
          go_wp2
          go_end0
          first
          | exact ⟨rfl, (hendH.out _).1⟩
          | exact ⟨rfl, (hendH.out _).2⟩
      · have hf0 := own_someH.out f rfl
        obtain ⟨fb, rfl⟩ := hf0
        go_region
        all_goals
          go_wp2
          go_end0
          first
          | exact ⟨rfl, (hendH.out _).1⟩
          | exact ⟨rfl, (hendH.out _).2⟩
  · obtain ⟨g, rfl⟩ := own_some a.nodes h0
    obtain ⟨m, hm⟩ : ∃ m, ns.length = m + 1 := ⟨ns.length - 1, by omega⟩
    rw [hm] at hc2
    have hnod := a.nodes
    obtain ⟨hy, hb⟩ := own_cells (Builtin.zeroCells pzv.cells (m + 1)).toList 0 w (nv ns) hnod
    obtain ⟨x2, x3, f2, f3, hend⟩ := hfin _ (hb.mono (fun j h => by rw [h]; rfl)) hy
    have hzl : (Builtin.zeroCells pzv.cells (m + 1)).toList.length = (m + 1) * 4 := by rw [zc]; simp [Builtin.zeroCells]
    have hrun := Lib.hid (run_clear_any (P := Try.prog) w 98 127 0 pzv Try.underlying98 (fun w => by kernel_rfl) g m cn (zc1 m) (fun j hj => by
      rw [hzl] at hj
      have e := hnod.cellAt j (by omega)
      rw [e, List.getElem?_eq_getElem (by rw [nv_len]; omega)]
      rfl) (fun j => hnod.frozenAt j))
    obtain ⟨wc, hwc⟩ : ∃ wc, w.setCells g 0 (Builtin.zeroCells pzv.cells (m + 1)).toList = wc := ⟨_, rfl⟩
    rw [hwc] at x2 x3 f2 f3 hend hrun
    rw [hm] at x2
    have hm1 : m + 1 ≤ cn := by omega
    have hendH := hend
    clear hwc hb hy hnod hend hfin hzl hm a
    generalize fs.length = q at *
    have hqH := Lib.hid hcapF
    go_enter Try.func74, Try.ntmps74
    go_wp2_with (refine wpList_clear _ rfl (.tmp 7) 98 rfl _ rfl _ hrun.out ?_)
    dsimp only [Act.put]
    rcases Af with _ | f
    · obtain ⟨rfl, rfl⟩ := own_noneH.out rfl
      go_region
      all_goals
        go_wp2
        go_end0
        first
        | exact ⟨rfl, (hendH.out _).1⟩
        | exact ⟨rfl, (hendH.out _).2⟩
    · have hf0 := own_someH.out f rfl
      obtain ⟨fb, rfl⟩ := hf0
      go_region
      all_goals
        go_wp2
        go_end0
        first
        | exact ⟨rfl, (hendH.out _).1⟩
        | exact ⟨rfl, (hendH.out _).2⟩
end
end Go.Proofs.Ytiinefdpaiincaa
end
