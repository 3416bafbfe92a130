/- The trie's nodes in memory; a meter whose numbers may be any; asking a pool of nodes; the texts walked. A pool of the trie's nodes: Peek, At, Put; the texts walked. A pool of the trie's nodes: next, Alloc; the texts walked. A pool of the trie's nodes: Alloc, Free, Clear, New; the texts walked. -/
import Derived.IntWalk
import Derived.Laws.Rows
import Derived.LoopTactic
import Derived.RegionTactic
import Derived.Test.YtbiingpdchoppaaDoorMgE
section
namespace Go.Proofs.YtbiingpdchoppaaDoor
set_option maxRecDepth 40000
open Go.RowKit
theorem row_lt {w : World} {g : Nat} {o : Obj} (h : w.heap[g]? = some o) : g < w.heap.size := (Array.getElem?_eq_some_iff.1 h).1
theorem row_ne {w : World} {g g' : Nat} {cs cs' : Array Value} {T T' : TypeId} (h : w.heap[g]? = some (.cells cs T (0, 0))) (h' : w.heap[g']? = some (.cells cs' T' (0, 0))) (hT : T ≠ T') : g ≠ g' := by
  rintro rfl
  rw [h] at h'
  injection h' with h'
  injection h' with _ ht
  exact hT ht
theorem row_set {w : World} {g : Nat} {cs : Array Value} {T : TypeId} (h : w.heap[g]? = some (.cells cs T (0, 0))) (i : Nat) (u : Value) : (w.setCell ⟨g, i, none⟩ u).heap[g]? = some (.cells (cs.setIfInBounds i u) T (0, 0)) := by
  simp [World.setCell, Array.getElem?_modify, h]
theorem chg_set (w : World) (g i : Nat) (u : Value) (O : Nat → Prop) (h : O g) : K.Chg w (w.setCell ⟨g, i, none⟩ u) O :=
  ⟨rfl, rfl, rfl, by simp [World.setCell], fun j _ hn => Below.heap_setCell w _ u j (fun e => hn (by rw [e]; exact h))⟩
theorem chg_alloc (w : World) (o : Obj) (O : Nat → Prop) : K.Chg w (w.alloc o) O := K.Chg.of_below ((Below.refl _ w).alloc (Nat.le_refl _) _)
theorem chg_refl (w : World) (O : Nat → Prop) : K.Chg w w O := ⟨rfl, rfl, rfl, Nat.le_refl _, fun _ _ _ => rfl⟩
theorem K.Chg.mono {w w' : World} {O O' : Nat → Prop} (h : K.Chg w w' O) (hO : ∀ j, O j → O' j) : K.Chg w w' O' := ⟨h.os, h.tape, h.output, h.size, fun g hg hn => h.block g hg (fun h1 => hn (hO g h1))⟩
theorem K.Chg.same {w w1 w2 : World} {O : Nat → Prop} (h : K.Chg w w1 O) (h1 : K.Chg w1 w2 O) : K.Chg w w2 O := h.trans h1 (fun _ h => .inl h)
theorem K.Chg.drewN {w w' : World} {O : Nat → Prop} (h : K.Chg w w' O) (n : Nat) : K.Chg w (w'.drewN n) O := ⟨h.os, h.tape, h.output, h.size, h.block⟩
theorem K.Chg.grown {w w1 w2 : World} {O : Nat → Prop} {row : Option Nat} (h : K.Chg w w1 O) (g : w1.grownBy w2 row) (hr : ∀ j, row = some j → O j ∨ w.heap.size ≤ j) : K.Chg w w2 O :=
  h.trans (O1 := fun j => row = some j) ⟨g.os, g.tape, g.output, g.size, fun k hk hn => g.block k hk (fun e => hn e.symm)⟩ (fun j hj => hr j hj)
theorem K.Chg.cell {w w' : World} {O : Nat → Prop} (h : K.Chg w w' O) {b : Nat} (hb : b < w.heap.size) (hn : ¬ O b) (o : Nat) : w'.cell? ⟨b, o, none⟩ = w.cell? ⟨b, o, none⟩ := by simp [World.cell?, h.block b hb hn]
theorem K.Chg.own {w w' : World} {O : Nat → Prop} {base : Nat} {e : TypeId} {size n : Nat} {v : Value} {xs : List Value} (b : K.Chg w w' O) (h : w.ownsRow base e size v n xs) (hS : ∀ k, v.ownBlock = some k → ¬ O k) : w'.ownsRow base e size v n xs := by
  refine ⟨h.1, ?_⟩
  rcases h.2 with hn | ⟨g, cap, cur, rfl, hb, hg, rest⟩
  · exact .inl hn
  · exact .inr ⟨g, cap, cur, rfl, hb, (b.block g (row_lt hg) (hS g rfl)).trans hg, rest⟩
theorem own_some {w : World} {base : Nat} {e : TypeId} {size n c : Nat} {A : Option Addr} {xs : List Value} (h : w.ownsRow base e size (.slice A n c) n xs) (hn : 0 < n) : ∃ g, A = some ⟨g, 0, none⟩ := by
  rcases h.2 with ⟨_, rfl⟩ | ⟨g, cap, cur, hv, _⟩
  · omega
  · simp at hv; exact ⟨g, hv.1⟩
theorem own_addr {w : World} {base : Nat} {e : TypeId} {size n c : Nat} {A : Option Addr} {xs : List Value} (h : w.ownsRow base e size (.slice A n c) n xs) : (A = none ∧ n = 0 ∧ c = 0) ∨ ∃ g, A = some ⟨g, 0, none⟩ ∧ g < w.heap.size ∧ n ≤ c ∧ ∃ cur, w.heap[g]? = some (.cells cur e (0, 0)) := by
  rcases h.2 with ⟨hv, rfl⟩ | ⟨g, cap, cur, hv, _, hg, hc, _⟩
  · simp at hv; exact .inl ⟨hv.1, rfl, hv.2⟩
  · simp at hv; exact .inr ⟨g, hv.1, row_lt hg, by omega, cur, hg⟩
theorem own_cap {w : World} {base : Nat} {e : TypeId} {size n c : Nat} {A : Option Addr} {xs : List Value} (h : w.ownsRow base e size (.slice A n c) n xs) : n ≤ c := by
  rcases h.2 with ⟨hv, rfl⟩ | ⟨g, cap, cur, hv, _, _, hnc, _⟩
  · omega
  · simp at hv; omega
theorem own_cut {w : World} {base : Nat} {e : TypeId} {size n c : Nat} {A : Option Addr} {xs : List Value} (h : w.ownsRow base e size (.slice A n c) n xs) {k : Nat} (hk : k ≤ n) : w.ownsRow base e size (.slice A k c) k (xs.take (k * size)) := by
  have hl := h.1
  have hle : k * size ≤ n * size := Nat.mul_le_mul_right _ hk
  refine ⟨by rw [List.length_take]; omega, ?_⟩
  rcases h.2 with ⟨hv, rfl⟩ | ⟨g, cap, cur, hv, hb, hg, hnc, hcm, hcs, ht⟩
  · obtain rfl : k = 0 := by omega
    exact .inl ⟨hv, rfl⟩
  · simp only [Value.slice.injEq, true_and] at hv
    obtain ⟨rfl, rfl⟩ := hv
    refine .inr ⟨g, c, cur, rfl, hb, hg, by omega, hcm, hcs, ?_⟩
    rw [← ht, List.take_take, Nat.min_eq_left hle]
/-- A meter that took tk steps in this operation. -/
def Mx (w : World) (g tk : Nat) : Prop := ∃ r c s p : Int, w.heap[g]? = some (.cells #[.int .i64 r, .int .i64 c, .int .i64 s, .int .i64 (tk : Int), .int .i64 p] 79 (0, 0))
theorem x_start (w : World) (g tk : Nat) (h : Mx w g tk) :
    Calls Tryd.prog 45 #[.pointer (some ⟨g, 0, none⟩)] w fun e w' => e = .returned (.tuple #[]) ∧ Mx w' g 0 ∧ K.Chg w w' (· = g) := by
  obtain ⟨r, c, s, p, hr⟩ := h
  have hc := cell_of_row w g 2 _ _ (0, 0) hr
  have hc3 := cell_of_row w g 3 _ _ (0, 0) hr
  have hf : ∀ i, w.frozen? ⟨g, i, none⟩ = false := fun i => frozen_of_row w g i _ _ hr
  have hf2 := hf 2
  have hf3 := hf 3
  simp at hc hc3
  have H := Lib.hid hr
  clear hr hf
  go_enter Tryd.func45, Tryd.ntmps45
  go_wp2
  go_end0
  refine ⟨rfl, ⟨r, c, wrap64 (s + 1), p, ?_⟩, (chg_set w g 2 _ (· = g) rfl).same (chg_set _ g 3 _ (· = g) rfl)⟩
  have := row_set (row_set H.out 2 (.int .i64 (wrap64 (s + 1)))) 3 (.int .i64 ((0 : Nat) : Int))
  simpa using this
theorem x_read (w : World) (g tk : Nat) (h : Mx w g tk) (ht : tk < 1000000) :
    Calls Tryd.prog 70 #[.pointer (some ⟨g, 0, none⟩)] w fun e w' => e = .returned (.tuple #[]) ∧ Mx w' g (tk + 1) ∧ K.Chg w w' (· = g) := by
  have hs : ∀ (w : World), Mx w g tk → Calls Tryd.prog 87 #[.pointer (some ⟨g, 0, none⟩)] w fun e w' => e = .returned (.tuple #[]) ∧ Mx w' g (tk + 1) ∧ K.Chg w w' (· = g) := by
    intro w h
    obtain ⟨r, c, s, p, hr⟩ := h
    have hc := cell_of_row w g 3 _ _ (0, 0) hr
    have hf3 := frozen_of_row w g 3 _ _ hr
    simp at hc
    have h2 := row_set hr 3 (.int .i64 ((tk : Int) + 1))
    simp at h2
    have k3 := cell_of_row _ g 3 _ _ (0, 0) h2
    have k4 := cell_of_row _ g 4 _ _ (0, 0) h2
    have f4 := frozen_of_row _ g 4 _ _ h2
    simp at k3 k4
    have ws : IntKind.i64.wrap ((tk : Int) + 1) = (tk : Int) + 1 := IntWalk.i64_in _ (by omega)
    have H := Lib.hid h2
    clear hr h2
    go_enter Tryd.func87, Tryd.ntmps87
    go_wp2
    go_region
    go_end0
    refine ⟨rfl, ⟨r, c, s, max p ((tk : Int) + 1), ?_⟩, ((chg_set w g 3 _ (· = g) rfl).same (chg_set _ g 4 _ (· = g) rfl)).drewN 1⟩
    have := row_set H.out 4 (.int .i64 (max p ((tk : Int) + 1)))
    simp at this
    exact this
  obtain ⟨r, c, s, p, hr⟩ := h
  have hc := cell_of_row w g 0 _ _ (0, 0) hr
  have hf0 := frozen_of_row w g 0 _ _ hr
  simp at hc
  have h1 : Hid (Mx (w.setCell ⟨g, 0, none⟩ (.int .i64 (wrap64 (r + 1)))) g tk) := by
    refine ⟨wrap64 (r + 1), c, s, p, ?_⟩
    have := row_set hr 0 (.int .i64 (wrap64 (r + 1)))
    simpa using this
  clear hr
  have hsH := Lib.hid (hs _ h1.out)
  clear hs
  go_enter Tryd.func70, Tryd.ntmps70
  go_wp2_with (go_at_call 87; (with_reducible refine hsH.out.mono ?_); rintro e w2 ⟨rfl, hm2, hg2⟩; have hm2H := Lib.hid hm2; have hg2H := Lib.hid hg2; clear hm2 hg2)
  go_end0
  exact ⟨rfl, hm2H.out, (chg_set w g 0 _ (· = g) rfl).same hg2H.out⟩
theorem x_taken (w : World) (g tk : Nat) (h : Mx w g tk) :
    Calls Tryd.prog 15 #[.pointer (some ⟨g, 0, none⟩)] w fun e w' => e = .returned (.int .i64 (tk : Int)) ∧ w = w' := by
  obtain ⟨r, c, s, p, hr⟩ := h
  have hc := cell_of_row w g 3 _ _ (0, 0) hr
  simp at hc
  clear hr
  go_enter Tryd.func15, Tryd.ntmps15
  go_wp2
  go_ret
  exact ⟨rfl, rfl⟩
theorem x_new (w : World) : Calls Tryd.prog 65 #[] w fun e w' => e = .returned (.pointer (some ⟨w.heap.size, 0, none⟩)) ∧ Mx w' w.heap.size 0 ∧ Below w.heap.size w w' := by
  go_enter Tryd.func65, Tryd.ntmps65
  go_wp2
  go_ret
  exact ⟨rfl, ⟨0, 0, 0, 0, K.alloc_top _ _⟩, (Below.refl _ w).alloc (Nat.le_refl _) _⟩
theorem Mx.lt {w : World} {g tk : Nat} (h : Mx w g tk) : g < w.heap.size := by
  obtain ⟨r, c, s, p, hr⟩ := h
  exact row_lt hr
theorem Mx.chg {w w' : World} {g tk : Nat} {O : Nat → Prop} (h : Mx w g tk) (hc : K.Chg w w' O) (hn : ¬ O g) : Mx w' g tk := by
  have hl := h.lt
  obtain ⟨r, c, s, p, hr⟩ := h
  exact ⟨r, c, s, p, (hc.block g hl hn).trans hr⟩
/-- A node as it lies: the word, its children's slice, how many keys, the least, the greatest. -/
structure Nd where
  W : Nat
  A : Option Addr
  ch : List Nat
  c : Nat
  ks : Nat
  le : Nat
  gr : Nat
abbrev ndv (W : Nat) (A : Option Addr) (n c ks le gr : Nat) : Value := .agg #[.int .u64 (W : Int), .slice A n c, .int .i64 (ks : Int), .int .u64 (le : Int), .int .u64 (gr : Int)]
abbrev ndo (W : Nat) (A : Option Addr) (n c ks le gr : Nat) : Obj := .cells #[.int .u64 (W : Int), .slice A n c, .int .i64 (ks : Int), .int .u64 (le : Int), .int .u64 (gr : Int)] 72
abbrev Nd.v (x : Nd) : Value := ndv x.W x.A x.ch.length x.c x.ks x.le x.gr
abbrev Nd.o (x : Nd) : Obj := ndo x.W x.A x.ch.length x.c x.ks x.le x.gr
def Nd.z : Nd := ⟨0, none, [], 0, 0, 0, 0⟩
/-- The cells of places: a node, and is it taken? -/
def ncl (x : Nd × Bool) : List Value := [.int .u64 (x.1.W : Int), .slice x.1.A x.1.ch.length x.1.c, .int .i64 (x.1.ks : Int), .int .u64 (x.1.le : Int), .int .u64 (x.1.gr : Int), .bool x.2]
def nv (ns : List (Nd × Bool)) : List Value := ns.flatMap ncl
theorem nv_cons (x : Nd × Bool) (ns : List (Nd × Bool)) : nv (x :: ns) = Value.int .u64 (x.1.W : Int) :: Value.slice x.1.A x.1.ch.length x.1.c :: Value.int .i64 (x.1.ks : Int) :: Value.int .u64 (x.1.le : Int) :: Value.int .u64 (x.1.gr : Int) :: Value.bool x.2 :: nv ns := rfl
theorem nv_snoc (ns : List (Nd × Bool)) (x : Nd × Bool) : nv (ns ++ [x]) = nv ns ++ ncl x := by simp [nv]
theorem nv_len (ns : List (Nd × Bool)) : (nv ns).length = ns.length * 6 := by
  induction ns with
  | nil => rfl
  | cons x ns ih => rw [nv_cons]; simp only [List.length_cons, ih]; omega
theorem nv_at : ∀ (ns : List (Nd × Bool)) (k : Nat) (h : k < ns.length) (j : Nat), j < 6 → (nv ns)[k * 6 + j]? = (ncl ns[k])[j]?
  | x :: ns, 0, _, j, hj => by
    rw [nv_cons]
    match j, hj with
    | 0, _ => rfl
    | 1, _ => rfl
    | 2, _ => rfl
    | 3, _ => rfl
    | 4, _ => rfl
    | 5, _ => rfl
  | x :: ns, k + 1, h, j, hj => by
    have ih := nv_at ns k (by simpa using h) j hj
    have e1 : (k + 1) * 6 + j = (k * 6 + j) + 1 + 1 + 1 + 1 + 1 + 1 := by omega
    rw [e1, nv_cons]
    simp only [List.getElem?_cons_succ, List.getElem_cons_succ]
    exact ih
theorem nv_put : ∀ (ns : List (Nd × Bool)) (k : Nat) (y : Nd) (h : k < ns.length), (((((nv ns).set (k * 6) (.int .u64 (y.W : Int))).set (k * 6 + 1) (.slice y.A y.ch.length y.c)).set (k * 6 + 2) (.int .i64 (y.ks : Int))).set (k * 6 + 3) (.int .u64 (y.le : Int))).set (k * 6 + 4) (.int .u64 (y.gr : Int)) = nv (ns.set k (y, ns[k].2))
  | x :: ns, 0, y, _ => rfl
  | x :: ns, k + 1, y, h => by
    have ih := nv_put ns k y (by simpa using h)
    have e0 : (k + 1) * 6 = (k * 6) + 1 + 1 + 1 + 1 + 1 + 1 := by omega
    have e : ∀ j, (k + 1) * 6 + j = (k * 6 + j) + 1 + 1 + 1 + 1 + 1 + 1 := fun j => by omega
    rw [e 1, e 2, e 3, e 4, e0, nv_cons]
    simp only [List.set_cons_succ, List.getElem_cons_succ]
    rw [nv_cons, ih]
theorem nv_flag : ∀ (ns : List (Nd × Bool)) (k : Nat) (b : Bool) (h : k < ns.length), (nv ns).set (k * 6 + 5) (.bool b) = nv (ns.set k (ns[k].1, b))
  | x :: ns, 0, b, _ => rfl
  | x :: ns, k + 1, b, h => by
    have ih := nv_flag ns k b (by simpa using h)
    have e : (k + 1) * 6 + 5 = (k * 6 + 5) + 1 + 1 + 1 + 1 + 1 + 1 := by omega
    rw [e, nv_cons]
    simp only [List.set_cons_succ, List.getElem_cons_succ]
    rw [nv_cons, ih]
theorem nv_set (ns : List (Nd × Bool)) (k : Nat) (y : Nd) (b : Bool) (h : k < ns.length) : ((((((nv ns).set (k * 6) (.int .u64 (y.W : Int))).set (k * 6 + 1) (.slice y.A y.ch.length y.c)).set (k * 6 + 2) (.int .i64 (y.ks : Int))).set (k * 6 + 3) (.int .u64 (y.le : Int))).set (k * 6 + 4) (.int .u64 (y.gr : Int))).set (k * 6 + 5) (.bool b) = nv (ns.set k (y, b)) := by
  rw [nv_put ns k y h, nv_flag _ k b (by simpa using h)]
  simp
abbrev iw (fs : List Nat) : List Value := fs.map fun i : Nat => Value.int .i64 (i : Int)
/-- Block Q is a pool's struct: its meter, its limit, its places, the freed ones. -/
structure Qo (w : World) (Q M lim : Nat) (An : Option Addr) (cn : Nat) (Af : Option Addr) (cf : Nat) (ns : List (Nd × Bool)) (fs : List Nat) : Prop where
  row : w.heap[Q]? = some (.cells #[.pointer (some ⟨M, 0, none⟩), .int .i64 (lim : Int), .slice An ns.length cn, .slice Af fs.length cf] 75 (0, 0))
  nodes : w.ownsRow 0 114 6 (.slice An ns.length cn) ns.length (nv ns)
  freed : w.ownsRow 0 3 1 (.slice Af fs.length cf) fs.length (iw fs)
  inr : ∀ i ∈ fs, ∃ h : i < ns.length, ns[i].2 = false
  nod : fs.Nodup
  lim_le : lim ≤ 1048576
  ns_le : ns.length ≤ lim
  fs_le : fs.length ≤ ns.length
/-- The blocks of a pool. -/
def QB (Q : Nat) (An Af : Option Addr) (j : Nat) : Prop := j = Q ∨ An.map (·.block) = some j ∨ Af.map (·.block) = some j
section
variable {w w' : World} {Q M lim cn cf : Nat} {An Af : Option Addr} {ns : List (Nd × Bool)} {fs : List Nat}
theorem Qo.c0 (h : Qo w Q M lim An cn Af cf ns fs) : w.cell? ⟨Q, 0, none⟩ = some (.pointer (some ⟨M, 0, none⟩)) := cell_of_row w Q 0 _ _ (0, 0) h.row
theorem Qo.c1 (h : Qo w Q M lim An cn Af cf ns fs) : w.cell? ⟨Q, 1, none⟩ = some (.int .i64 (lim : Int)) := cell_of_row w Q 1 _ _ (0, 0) h.row
theorem Qo.c2 (h : Qo w Q M lim An cn Af cf ns fs) : w.cell? ⟨Q, 2, none⟩ = some (.slice An ns.length cn) := cell_of_row w Q 2 _ _ (0, 0) h.row
theorem Qo.c3 (h : Qo w Q M lim An cn Af cf ns fs) : w.cell? ⟨Q, 3, none⟩ = some (.slice Af fs.length cf) := cell_of_row w Q 3 _ _ (0, 0) h.row
theorem Qo.fr (h : Qo w Q M lim An cn Af cf ns fs) (k : Nat) : w.frozen? ⟨Q, k, none⟩ = false := frozen_of_row w Q k _ _ h.row
theorem Qo.lt (h : Qo w Q M lim An cn Af cf ns fs) : Q < w.heap.size := row_lt h.row
theorem own_block_lt {w : World} {base : Nat} {e : TypeId} {size n c : Nat} {A : Option Addr} {xs : List Value} (h : w.ownsRow base e size (.slice A n c) n xs) {j : Nat} (hj : A.map (·.block) = some j) : j < w.heap.size ∧ ∃ cur, w.heap[j]? = some (.cells cur e (0, 0)) := by
  rcases own_addr h with ⟨rfl, _⟩ | ⟨g, rfl, hg, _, cur, hc⟩
  · cases hj
  · cases hj; exact ⟨hg, cur, hc⟩
theorem Qo.qb (h : Qo w Q M lim An cn Af cf ns fs) {j : Nat} (hj : QB Q An Af j) : j < w.heap.size := by
  rcases hj with rfl | hj | hj
  · exact h.lt
  · exact (own_block_lt h.nodes hj).1
  · exact (own_block_lt h.freed hj).1
theorem own_of_map {A : Option Addr} {n c k : Nat} (h : (Value.slice A n c).ownBlock = some k) : A.map (·.block) = some k := by
  cases A with
  | none => simp [Value.ownBlock] at h
  | some a => simpa [Value.ownBlock] using h
theorem Qo.chg {O : Nat → Prop} (h : Qo w Q M lim An cn Af cf ns fs) (b : K.Chg w w' O) (hO : ∀ j, QB Q An Af j → ¬ O j) : Qo w' Q M lim An cn Af cf ns fs :=
  ⟨(b.block Q h.lt (hO Q (.inl rfl))).trans h.row, b.own h.nodes (fun k hk => hO k (.inr (.inl (own_of_map hk)))), b.own h.freed (fun k hk => hO k (.inr (.inr (own_of_map hk)))), h.inr, h.nod, h.lim_le, h.ns_le, h.fs_le⟩
theorem Qo.drew (h : Qo w Q M lim An cn Af cf ns fs) (n : Nat) : Qo (w.drewN n) Q M lim An cn Af cf ns fs := ⟨h.row, h.nodes, h.freed, h.inr, h.nod, h.lim_le, h.ns_le, h.fs_le⟩
/-- The blocks lie apart: their types are unlike. -/
theorem Qo.ne_nodes (h : Qo w Q M lim An cn Af cf ns fs) {g : Nat} (hg : An.map (·.block) = some g) : g ≠ Q := by
  obtain ⟨_, cur, hc⟩ := own_block_lt h.nodes hg
  exact row_ne hc h.row (by decide)
theorem Qo.ne_freed (h : Qo w Q M lim An cn Af cf ns fs) {g : Nat} (hg : Af.map (·.block) = some g) : g ≠ Q := by
  obtain ⟨_, cur, hc⟩ := own_block_lt h.freed hg
  exact row_ne hc h.row (by decide)
theorem Qo.ne_both (h : Qo w Q M lim An cn Af cf ns fs) {g f : Nat} (hg : An.map (·.block) = some g) (hf : Af.map (·.block) = some f) : g ≠ f := by
  obtain ⟨_, cur, hc⟩ := own_block_lt h.nodes hg
  obtain ⟨_, cur', hc'⟩ := own_block_lt h.freed hf
  exact row_ne hc hc' (by decide)
/-- Place i, where it lies. -/
theorem Qo.at (h : Qo w Q M lim An cn Af cf ns fs) {i : Nat} (hi : i < ns.length) : ∃ g, An = some ⟨g, 0, none⟩ ∧ w.cell? ⟨g, i * 6, none⟩ = some (.int .u64 (ns[i].1.W : Int)) ∧ w.cell? ⟨g, i * 6 + 1, none⟩ = some (.slice ns[i].1.A ns[i].1.ch.length ns[i].1.c) ∧ w.cell? ⟨g, i * 6 + 2, none⟩ = some (.int .i64 (ns[i].1.ks : Int)) ∧ w.cell? ⟨g, i * 6 + 3, none⟩ = some (.int .u64 (ns[i].1.le : Int)) ∧ w.cell? ⟨g, i * 6 + 4, none⟩ = some (.int .u64 (ns[i].1.gr : Int)) ∧ w.cell? ⟨g, i * 6 + 5, none⟩ = some (.bool ns[i].2) ∧ ∀ k, w.frozen? ⟨g, k, none⟩ = false := by
  obtain ⟨g, rfl⟩ := own_some h.nodes (by omega)
  have e : ∀ j, j < 6 → w.cell? ⟨g, i * 6 + j, none⟩ = (ncl ns[i])[j]? := fun j hj => (h.nodes.cellAt (i * 6 + j) (by omega)).trans (nv_at ns i hi j hj)
  exact ⟨g, rfl, e 0 (by decide), e 1 (by decide), e 2 (by decide), e 3 (by decide), e 4 (by decide), e 5 (by decide), fun k => h.nodes.frozenAt k⟩
end
section
variable (w : World) (Q M lim cn cf : Nat) (An Af : Option Addr) (ns : List (Nd × Bool)) (fs : List Nat)
theorem q_len (a : Qo w Q M lim An cn Af cf ns fs) :
    Calls Tryd.prog 42 #[.pointer (some ⟨Q, 0, none⟩)] w fun e w' => e = .returned (.int .i64 ((ns.length - fs.length : Nat) : Int)) ∧ ∃ n, w' = w.drewN n := by
  have hc2 := a.c2
  have hc3 := a.c3
  have h1 := a.ns_le
  have h3 := a.lim_le
  have h2 := a.fs_le
  clear a
  generalize ns.length = n at *
  generalize fs.length = m at *
  have ws : IntKind.i64.wrap ((n : Int) - (m : Int)) = (n : Int) - (m : Int) := IntWalk.i64_in _ (by omega)
  go_enter Tryd.func42, Tryd.ntmps42
  go_wp2
  go_quiet (fail)
  go_wp2
  refine bodyPost_ret (results_tmp (t := 2) rfl _ _ _) rfl ?_
  exact ⟨ret_int (by omega), _, rfl⟩
theorem q_limit (a : Qo w Q M lim An cn Af cf ns fs) : Calls Tryd.prog 44 #[.pointer (some ⟨Q, 0, none⟩)] w fun e w' => e = .returned (.int .i64 (lim : Int)) ∧ w = w' := by
  have hc1 := a.c1
  clear a
  go_enter Tryd.func44, Tryd.ntmps44
  go_wp2
  go_ret
  exact ⟨rfl, rfl⟩
theorem q_room (a : Qo w Q M lim An cn Af cf ns fs) (k : Int) :
    Calls Tryd.prog 49 #[.pointer (some ⟨Q, 0, none⟩), .int .i64 k] w fun e w' => e = .returned (.bool (decide (k ≤ (lim : Int) - ((ns.length - fs.length : Nat) : Int)))) ∧ ∃ n, w' = w.drewN n := by
  have hc1 := a.c1
  have hl := fun N => Lib.hid (q_len (w.drewN N) Q M lim cn cf An Af ns fs (a.drew N))
  have h1 := a.ns_le
  have h3 := a.lim_le
  clear a
  have h2 : ns.length - fs.length ≤ 1048576 := by omega
  generalize ns.length - fs.length = n at *
  have ws : IntKind.i64.wrap ((lim : Int) - (n : Int)) = (lim : Int) - (n : Int) := IntWalk.i64_in _ (by omega)
  go_enter Tryd.func49, Tryd.ntmps49
  go_wp2
  go_quiet ((go_at_call 42; exact Calls.quiet_of (hl _).out))
  go_wp2
  go_ret
  exact ⟨rfl, _, rfl⟩
/-- Is place i taken? -/
def lvq (ns : List (Nd × Bool)) (i : Int) : Bool := decide (0 ≤ i) && ((ns[i.toNat]?).map (·.2)).getD false
theorem q_live (a : Qo w Q M lim An cn Af cf ns fs) (i : Int) :
    Calls Tryd.prog 83 #[.pointer (some ⟨Q, 0, none⟩), .int .i64 i] w fun e w' => e = .returned (.bool (lvq ns i)) ∧ w = w' := by
  have hc2 := a.c2
  have hle := a.ns_le
  have hle2 := a.lim_le
  by_cases h0 : 0 ≤ i
  · obtain ⟨k, rfl⟩ : ∃ k : Nat, i = (k : Int) := ⟨i.toNat, by omega⟩
    have g0 : decide (0 ≤ (k : Int)) = true := decide_eq_true h0
    by_cases hk : k < ns.length
    · obtain ⟨g, rfl, _, _, _, _, _, ha, _⟩ := a.at hk
      have hr : Hid (lvq ns (k : Int) = ns[k].2) := by
        show lvq ns (k : Int) = _
        unfold lvq
        simp [hk]
      have g1 : decide ((k : Int) < (ns.length : Int)) = true := decide_eq_true (by omega)
      have k1 : (k : Int) < (ns.length : Int) := by omega
      have k2 : (k : Int).toNat = k := by omega
      clear a
      generalize ns[k].2 = b at *
      go_enter Tryd.func83, Tryd.ntmps83
      go_wp2
      go_ret
      exact ⟨ret_bool hr.out.symm, rfl⟩
    · have hr : Hid (lvq ns (k : Int) = false) := by
        show lvq ns (k : Int) = _
        unfold lvq
        rw [Int.toNat_natCast, List.getElem?_eq_none (by omega)]
        simp
      have g1 : decide ((k : Int) < (ns.length : Int)) = false := decide_eq_false (by omega)
      clear a
      generalize ns.length = n at *
      go_enter Tryd.func83, Tryd.ntmps83
      go_wp2
      go_ret
      exact ⟨ret_bool hr.out.symm, rfl⟩
  · have g0 : decide (0 ≤ i) = false := decide_eq_false h0
    have hr : Hid (lvq ns i = false) := by
      show lvq ns i = _
      unfold lvq
      rw [g0]; rfl
    clear a
    go_enter Tryd.func83, Tryd.ntmps83
    go_wp2
    go_ret
    exact ⟨ret_bool hr.out.symm, rfl⟩
theorem lvq_yes {ns : List (Nd × Bool)} {k : Nat} (hk : k < ns.length) (ht : ns[k].2 = true) : lvq ns (k : Int) = true := by
  unfold lvq
  simp [hk, ht]
end
end Go.Proofs.YtbiingpdchoppaaDoor
end
section
namespace Go.Proofs.YtbiingpdchoppaaDoor
set_option maxRecDepth 40000
open Go.RowKit
section
variable {w : World} {Q M lim cn cf g : Nat} {An Af : Option Addr} {ns : List (Nd × Bool)} {fs : List Nat}
theorem Qo.other (a : Qo w Q M lim (some ⟨g, 0, none⟩) cn Af cf ns fs) (k : Nat) (u : Value) {xs : List Value} (hown : (w.setCell ⟨g, k, none⟩ u).ownsRow 0 114 6 (.slice (some ⟨g, 0, none⟩) ns.length cn) ns.length xs) :
    ((w.setCell ⟨g, k, none⟩ u).heap[Q]? = w.heap[Q]?) ∧ (w.setCell ⟨g, k, none⟩ u).ownsRow 0 3 1 (.slice Af fs.length cf) fs.length (iw fs) := by
  have b := chg_set w g k u (· = g) rfl
  refine ⟨b.block Q a.lt (fun e => a.ne_nodes rfl e.symm), b.own a.freed (fun j hj => fun e => ?_)⟩
  exact a.ne_both rfl (own_of_map hj) e.symm
/-- Six cells of a row stored. -/
abbrev set5 (w : World) (g i : Nat) (y : Nd) : World := ((((w.setCell ⟨g, i, none⟩ (.int .u64 (y.W : Int))).setCell ⟨g, i + 1, none⟩ (.slice y.A y.ch.length y.c)).setCell ⟨g, i + 2, none⟩ (.int .i64 (y.ks : Int))).setCell ⟨g, i + 3, none⟩ (.int .u64 (y.le : Int))).setCell ⟨g, i + 4, none⟩ (.int .u64 (y.gr : Int))
theorem chg_set5 (w : World) (g i : Nat) (y : Nd) (O : Nat → Prop) (h : O g) : K.Chg w (set5 w g i y) O :=
  ((((chg_set w g _ _ O h).same (chg_set _ g _ _ O h)).same (chg_set _ g _ _ O h)).same (chg_set _ g _ _ O h)).same (chg_set _ g _ _ O h)
theorem own_set5 {w : World} {n cn : Nat} {xs : List Value} (h : w.ownsRow 0 114 6 (.slice (some ⟨g, 0, none⟩) n cn) n xs) (i : Nat) (y : Nd) :
    (set5 w g i y).ownsRow 0 114 6 (.slice (some ⟨g, 0, none⟩) n cn) n (((((xs.set i (.int .u64 (y.W : Int))).set (i + 1) (.slice y.A y.ch.length y.c)).set (i + 2) (.int .i64 (y.ks : Int))).set (i + 3) (.int .u64 (y.le : Int))).set (i + 4) (.int .u64 (y.gr : Int))) :=
  ((((((h.stored i _).1).stored (i + 1) _).1.stored (i + 2) _).1.stored (i + 3) _).1.stored (i + 4) _).1
/-- A place, once it is put. -/
theorem Qo.put (a : Qo w Q M lim (some ⟨g, 0, none⟩) cn Af cf ns fs) {k : Nat} (hk : k < ns.length) (y : Nd) :
    Qo (set5 w g (k * 6) y) Q M lim (some ⟨g, 0, none⟩) cn Af cf (ns.set k (y, ns[k].2)) fs := by
  have b := chg_set5 w g (k * 6) y (· = g) rfl
  have h1 := own_set5 a.nodes (k * 6) y
  rw [nv_put ns k y hk] at h1
  have hl : (ns.set k (y, ns[k].2)).length = ns.length := List.length_set ..
  refine ⟨?_, by rw [hl]; exact h1, b.own a.freed (fun j hj e => a.ne_both rfl (own_of_map hj) e.symm), fun i hi => ?_, a.nod, a.lim_le, by rw [hl]; exact a.ns_le, by rw [hl]; exact a.fs_le⟩
  · rw [b.block Q a.lt (fun e => a.ne_nodes rfl e.symm), a.row, hl]
  · obtain ⟨h2, h3⟩ := a.inr i hi
    refine ⟨by rw [hl]; exact h2, ?_⟩
    rw [List.getElem_set]
    split
    · rename_i e; subst e; exact h3
    · exact h3
/-- What a call that changes a pool leaves. -/
def QStep (w : World) (Q M lim : Nat) (An Af : Option Addr) (ns' : List (Nd × Bool)) (fs' : List Nat) (w' : World) : Prop :=
  ∃ An' cn' Af' cf', Qo w' Q M lim An' cn' Af' cf' ns' fs' ∧ K.Chg w w' (QB Q An Af) ∧ ∀ j, QB Q An' Af' j → QB Q An Af j ∨ w.heap.size ≤ j
end
section
variable (w : World) (Q M lim cn cf : Nat) (An Af : Option Addr) (ns : List (Nd × Bool)) (fs : List Nat)
def PeekP (w : World) (v : Value) (b : Bool) (e : Ending) (w' : World) : Prop := e = .returned (.tuple #[v, .bool b]) ∧ Below w.heap.size w w'
theorem nd_res {fn : Func} {u t : Tmp} (h : fn.results = #[.cell u 72, .tmp t]) (tmps : Array Value) (w : World) (g : Nat) (a b c d e : Value) (z : Value) (hu : tmps.getD u undef = .pointer (some ⟨g, 0, none⟩))
    (hc : w.heap[g]? = some (.cells #[a, b, c, d, e] 72 (0, 0))) (hb : tmps.getD t undef = z) : (results fn tmps).run Tryd.prog w = .ok (.tuple #[.agg #[a, b, c, d, e], z]) w := by
  have hp' : tmps[u]?.getD undef = .pointer (some ⟨g, 0, none⟩) := by simpa using hu
  have hb' : tmps[t]?.getD undef = z := by simpa using hb
  have hr := run_loadVar_row (P := Tryd.prog) w g 72 72 _ (0, 0) _ hc Tryd.underlying72 (by kernel_rfl) (by kernel_rfl)
  simp [results, h, hp', hb', asAddr, hr]
abbrev ndzo : Obj := .cells #[.int .u64 0, .slice none 0 0, .int .i64 0, .int .u64 0, .int .u64 0] 72
abbrev ndzv : Value := .agg #[.int .u64 0, .slice none 0 0, .int .i64 0, .int .u64 0, .int .u64 0]
theorem q_peek_yes (a : Qo w Q M lim An cn Af cf ns fs) (k : Nat) (hk : k < ns.length) (ht : ns[k].2 = true) :
    Calls Tryd.prog 61 #[.pointer (some ⟨Q, 0, none⟩), .int .i64 (k : Int)] w (PeekP w ns[k].1.v true) := by
  have hQ := a.lt
  have hb : Below w.heap.size w (w.alloc ndzo) := (Below.refl _ w).alloc (Nat.le_refl _) _
  have a1 := a.chg (K.Chg.of_below (O := fun _ => False) hb) (fun _ _ h => h)
  have hl := Lib.hid (q_live _ Q M lim cn cf An Af ns fs a1 k)
  rw [lvq_yes hk ht] at hl
  have hc2 := a1.c2
  have hle := a.ns_le
  have hle2 := a.lim_le
  obtain ⟨g, rfl, h0, h1, h2, h3, h4, h5, _⟩ := a1.at hk
  have k1 : (k : Int) < (ns.length : Int) := by omega
  clear a a1 ht h5
  generalize ns[k].1 = x at *
  obtain ⟨W, A, ch, c, ks, le, gr⟩ := x
  dsimp only at *
  show Calls _ _ _ _ (PeekP w (ndv W A ch.length c ks le gr) true)
  go_enter Tryd.func61, Tryd.ntmps61
  go_wp2_with (go_at_call 83; (with_reducible refine hl.out.mono ?_); rintro e w' ⟨rfl, rfl⟩)
  refine bodyPost_ret (nd_res rfl _ _ w.heap.size _ _ _ _ _ _ rfl (K.alloc_top _ _) rfl) rfl ?_
  · exact ⟨rfl, (Below.refl _ w).alloc (Nat.le_refl _) _⟩
theorem q_peek_no (a : Qo w Q M lim An cn Af cf ns fs) (i : Int) (ht : lvq ns i = false) :
    Calls Tryd.prog 61 #[.pointer (some ⟨Q, 0, none⟩), .int .i64 i] w (PeekP w ndzv false) := by
  have hb : Below w.heap.size w (w.alloc ndzo) := (Below.refl _ w).alloc (Nat.le_refl _) _
  have a1 := a.chg (K.Chg.of_below (O := fun _ => False) hb) (fun _ _ h => h)
  have hl := Lib.hid (q_live _ Q M lim cn cf An Af ns fs a1 i)
  rw [ht] at hl
  clear a a1 ht
  go_enter Tryd.func61, Tryd.ntmps61
  go_wp2_with (go_at_call 83; (with_reducible refine hl.out.mono ?_); rintro e w' ⟨rfl, rfl⟩)
  refine bodyPost_ret (nd_res rfl _ _ w.heap.size _ _ _ _ _ _ rfl ((Below.heap_alloc _ _ _ (by simp)).trans (K.alloc_top _ _)) rfl) rfl ?_
  · exact ⟨rfl, hb.alloc (by simp) _⟩
theorem row_z5 {w : World} {g : Nat} {z0 z1 z2 z3 z4 : Value} (h : w.heap[g]? = some (.cells #[z0, z1, z2, z3, z4] 72 (0, 0))) (a b c d e : Value) : (((((w.setCell ⟨g, 0, none⟩ a).setCell ⟨g, 1, none⟩ b).setCell ⟨g, 2, none⟩ c).setCell ⟨g, 3, none⟩ d).setCell ⟨g, 4, none⟩ e).heap[g]? = some (.cells #[a, b, c, d, e] 72 (0, 0)) := by
  have h1 := row_set (row_set (row_set (row_set (row_set h 0 a) 1 b) 2 c) 3 d) 4 e
  simpa using h1
theorem chg_five (w : World) (g : Nat) (i0 i1 i2 i3 i4 : Nat) (a b c d e : Value) (O : Nat → Prop) (h : O g) : K.Chg w (((((w.setCell ⟨g, i0, none⟩ a).setCell ⟨g, i1, none⟩ b).setCell ⟨g, i2, none⟩ c).setCell ⟨g, i3, none⟩ d).setCell ⟨g, i4, none⟩ e) O :=
  ((((chg_set w g _ _ O h).same (chg_set _ g _ _ O h)).same (chg_set _ g _ _ O h)).same (chg_set _ g _ _ O h)).same (chg_set _ g _ _ O h)
/-- The five cells of a node's row. -/
theorem nd_cells {w : World} {g : Nat} {a b c d e : Value} (h : w.heap[g]? = some (.cells #[a, b, c, d, e] 72 (0, 0))) : w.cell? ⟨g, 0, none⟩ = some a ∧ w.cell? ⟨g, 1, none⟩ = some b ∧ w.cell? ⟨g, 2, none⟩ = some c ∧ w.cell? ⟨g, 3, none⟩ = some d ∧ w.cell? ⟨g, 4, none⟩ = some e :=
  ⟨cell_of_row w g 0 _ _ (0, 0) h, cell_of_row w g 1 _ _ (0, 0) h, cell_of_row w g 2 _ _ (0, 0) h, cell_of_row w g 3 _ _ (0, 0) h, cell_of_row w g 4 _ _ (0, 0) h⟩
def AtP (w : World) (M tk : Nat) (v : Value) (b : Bool) (e : Ending) (w' : World) : Prop := e = .returned (.tuple #[v, .bool b]) ∧ Mx w' M tk ∧ K.Chg w w' (· = M)
set_option maxHeartbeats 1000000 in
theorem q_at_yes (a : Qo w Q M lim An cn Af cf ns fs) (k : Nat) (hk : k < ns.length) (ht : ns[k].2 = true) (tk : Nat) (hM : Mx w M tk) (htk : tk < 1000000) :
    Calls Tryd.prog 47 #[.pointer (some ⟨Q, 0, none⟩), .int .i64 (k : Int)] w (AtP w M (tk + 1) ns[k].1.v true) := by
  have hQ := a.lt
  have hMl := hM.lt
  have hb : Below w.heap.size w (w.alloc ndzo) := (Below.refl _ w).alloc (Nat.le_refl _) _
  have a1 := a.chg (K.Chg.of_below (O := fun _ => False) hb) (fun _ _ h => h)
  have hp := Lib.hid (q_peek_yes _ Q M lim cn cf An Af ns fs a1 k hk ht)
  have HA := Lib.hid a
  have HM := Lib.hid hM
  have HB := Lib.hid hb
  have hz1 : (w.alloc ndzo).heap.size = w.heap.size + 1 := by simp
  have HZ := Lib.hid hz1
  clear a a1 ht hM hb hz1
  generalize ns[k].1 = x at *
  obtain ⟨W, A, ch, c, ks, le, gr⟩ := x
  have hp : Hid (Calls _ _ _ _ (PeekP (w.alloc ndzo) (ndv W A ch.length c ks le gr) true)) := hp
  show Calls _ _ _ _ (AtP w M (tk + 1) (ndv W A ch.length c ks le gr) true)
  generalize ch.length = n at *
  go_enter Tryd.func47, Tryd.ntmps47
  go_wp2_with (first
    | (go_at_call 61; (with_reducible refine hp.out.mono ?_); rintro e w1 ⟨rfl, hb1⟩
       have HB1 := Lib.hid hb1
       have hs1 := hb1.size
       rw [HZ.out] at hs1
       have hb2 : Below w.heap.size w (w1.alloc (ndo W A n c ks le gr)) := (HB.out.trans (hb1.mono (by simp))).alloc (by omega) _
       have HA2 := Lib.hid (HA.out.chg (K.Chg.of_below (O := fun _ => False) hb2) (fun _ _ h => h))
       have HM2 := Lib.hid (HM.out.chg (K.Chg.of_below (O := fun _ => False) hb2) (fun h => h))
       have HC2 := Lib.hid hb2
       have z2 : (w1.alloc (ndo W A n c ks le gr)).heap[w.heap.size]? = some ndzo := (Below.heap_alloc _ _ _ (by omega)).trans ((hb1.block _ (by (rw [HZ.out]; omega))).trans (K.alloc_top _ _))
       have HZ2 := Lib.hid z2
       have q0 := HA2.out.c0
       clear hb1 hb2 z2)
    | (go_at_call 70; (with_reducible refine (x_read _ M tk HM2.out htk).mono ?_); rintro e w2 ⟨rfl, hm2, hc2⟩
       have HM3 := Lib.hid hm2
       have HC3 := Lib.hid hc2
       have y := (hc2.block w1.heap.size (by simp) (by omega)).trans (K.alloc_top _ _)
       have zz := (hc2.block w.heap.size (by (simp; omega)) (by omega)).trans HZ2.out
       obtain ⟨y0, y1, y2, y3, y4⟩ := nd_cells y
       have f0 := frozen_of_row w2 _ 0 _ _ zz
       have f1 := frozen_of_row w2 _ 1 _ _ zz
       have f2 := frozen_of_row w2 _ 2 _ _ zz
       have f3 := frozen_of_row w2 _ 3 _ _ zz
       have f4 := frozen_of_row w2 _ 4 _ _ zz
       obtain ⟨t0, t1, t2, t3, t4⟩ := nd_cells zz
       have ZZ := Lib.hid zz
       clear hm2 hc2 y zz))
  refine bodyPost_ret (nd_res rfl _ _ w.heap.size _ _ _ _ _ _ rfl (row_z5 ZZ.out _ _ _ _ _) rfl) rfl ?_
  · have hch : K.Chg w w2 (· = M) := (K.Chg.of_below (O := (· = M)) HC2.out).same HC3.out
    have h5 : ∀ a b c d e, K.Chg w2 _ (fun j => j = w.heap.size) := fun a b c d e => chg_five w2 w.heap.size 0 1 2 3 4 a b c d e _ rfl
    exact ⟨rfl, HM3.out.chg (h5 _ _ _ _ _) (by omega), hch.trans (h5 _ _ _ _ _) (fun j hj => .inr (by omega))⟩
theorem q_at_no (a : Qo w Q M lim An cn Af cf ns fs) (i : Int) (ht : lvq ns i = false) :
    Calls Tryd.prog 47 #[.pointer (some ⟨Q, 0, none⟩), .int .i64 i] w (PeekP w ndzv false) := by
  have hb : Below w.heap.size w (w.alloc ndzo) := (Below.refl _ w).alloc (Nat.le_refl _) _
  have a1 := a.chg (K.Chg.of_below (O := fun _ => False) hb) (fun _ _ h => h)
  have hp := Lib.hid (q_peek_no _ Q M lim cn cf An Af ns fs a1 i ht)
  have HB := Lib.hid hb
  have hz1 : (w.alloc ndzo).heap.size = w.heap.size + 1 := by simp
  have HZ := Lib.hid hz1
  clear a a1 ht hb hz1
  go_enter Tryd.func47, Tryd.ntmps47
  go_wp2_with (go_at_call 61; (with_reducible refine hp.out.mono ?_); rintro e w1 ⟨rfl, hb1⟩
               have HB1 := Lib.hid hb1
               have hs1 := hb1.size
               rw [HZ.out] at hs1
               have zz := (Below.heap_alloc w1 ndzo w.heap.size (by omega)).trans ((hb1.block w.heap.size (by (rw [HZ.out]; omega))).trans (K.alloc_top _ _))
               have f0 := frozen_of_row _ _ 0 _ _ zz
               have f1 := frozen_of_row _ _ 1 _ _ zz
               have f2 := frozen_of_row _ _ 2 _ _ zz
               have f3 := frozen_of_row _ _ 3 _ _ zz
               have f4 := frozen_of_row _ _ 4 _ _ zz
               obtain ⟨t0, t1, t2, t3, t4⟩ := nd_cells zz
               have ZZ := Lib.hid zz
               clear hb1 zz)
  refine bodyPost_ret (nd_res rfl _ _ w.heap.size _ _ _ _ _ _ rfl (row_z5 ZZ.out _ _ _ _ _) rfl) rfl ?_
  · refine ⟨rfl, ?_⟩
    have h1 : Below w.heap.size w (w1.alloc ndzo) := (HB.out.trans (HB1.out.mono (by simp))).alloc (by omega) _
    exact ((((h1.setCell (by simp) _).setCell (by simp) _).setCell (by simp) _).setCell (by simp) _).setCell (by simp) _
set_option maxHeartbeats 1000000 in
theorem q_put (a : Qo w Q M lim An cn Af cf ns fs) (k : Nat) (hk : k < ns.length) (ht : ns[k].2 = true) (W : Nat) (A : Option Addr) (ch : List Nat) (c ks le gr : Nat) (y : Nd) (hy : y = ⟨W, A, ch, c, ks, le, gr⟩) :
    Calls Tryd.prog 73 #[.pointer (some ⟨Q, 0, none⟩), .int .i64 (k : Int), ndv W A ch.length c ks le gr] w fun e w' => e = .returned (.bool true) ∧ QStep w Q M lim An Af (ns.set k (y, true)) fs w' := by
  have hb : Below w.heap.size w (w.alloc (ndo W A ch.length c ks le gr)) := (Below.refl _ w).alloc (Nat.le_refl _) _
  have a1 := a.chg (K.Chg.of_below (O := fun _ => False) hb) (fun _ _ h => h)
  have hl := Lib.hid (q_live _ Q M lim cn cf An Af ns fs a1 k)
  rw [lvq_yes hk ht] at hl
  have hc2 := a1.c2
  obtain ⟨g, rfl, x0, x1, x2, x3, x4, _, hfr⟩ := a1.at hk
  have f0 := hfr (k * 6)
  have f1 := hfr (k * 6 + 1)
  have f2 := hfr (k * 6 + 2)
  have f3 := hfr (k * 6 + 3)
  have f4 := hfr (k * 6 + 4)
  have k1 : (k : Int) < (ns.length : Int) := by omega
  have hp := a1.put hk y
  rw [ht] at hp
  have hpH := Lib.hid hp
  have HB := Lib.hid hb
  have HA := Lib.hid a
  have HY := Lib.hid hy
  clear a a1 ht hfr hp hb hy
  go_enter Tryd.func73, Tryd.ntmps73
  go_wp2_with (go_at_call 83; (with_reducible refine hl.out.mono ?_); rintro e w' ⟨rfl, rfl⟩)
  go_region
  all_goals
    go_wp2
    go_ret
    obtain rfl := HY.out
    have hbc : K.Chg w _ (QB Q (some ⟨g, 0, none⟩) Af) := (K.Chg.of_below HB.out).same (chg_five (w.alloc (ndo W A ch.length c ks le gr)) g (k * 6) (k * 6 + 1) (k * 6 + 2) (k * 6 + 3) (k * 6 + 4) (.int .u64 (W : Int)) (.slice A ch.length c) (.int .i64 (ks : Int)) (.int .u64 (le : Int)) (.int .u64 (gr : Int)) _ (.inr (.inl rfl)))
    exact ⟨rfl, _, cn, Af, cf, hpH.out.drew 1, hbc.drewN 1, fun j hj => .inl hj⟩
end
end Go.Proofs.YtbiingpdchoppaaDoor
end
section
namespace Go.Proofs.YtbiingpdchoppaaDoor
set_option maxRecDepth 40000
open Go.RowKit
theorem nod_le : ∀ (n : Nat) (l : List Nat), l.Nodup → (∀ x ∈ l, x < n) → l.length ≤ n
  | 0, l, _, h => by
    cases l with
    | nil => simp
    | cons x l => exact absurd (h x (by simp)) (by omega)
  | n + 1, l, hn, h => by
    by_cases hm : n ∈ l
    · have h1 := nod_le n (l.erase n) (hn.erase n) (fun x hx => by
        have h2 := h x (List.mem_of_mem_erase hx)
        have h3 : x ≠ n := fun e => by subst e; exact (List.Nodup.not_mem_erase hn) hx
        omega)
      rw [List.length_erase_of_mem hm] at h1
      omega
    · have h1 := nod_le n l hn (fun x hx => by
        have h2 := h x hx
        have h3 : x ≠ n := fun e => by subst e; exact hm hx
        omega)
      omega
section
variable {w : World} {Q M lim cn cf g : Nat} {An Af : Option Addr} {ns : List (Nd × Bool)} {fs : List Nat}
theorem Qo.fs_lt (a : Qo w Q M lim An cn Af cf ns fs) {k : Nat} (hk : k < ns.length) (ht : ns[k].2 = true) : k ∉ fs ∧ fs.length + 1 ≤ ns.length := by
  have h1 : k ∉ fs := fun hm => by
    obtain ⟨_, h⟩ := a.inr k hm
    rw [ht] at h
    cases h
  refine ⟨h1, nod_le ns.length (k :: fs) (List.nodup_cons.2 ⟨h1, a.nod⟩) fun x hx => ?_⟩
  rcases List.mem_cons.1 hx with rfl | hx
  · exact hk
  · exact (a.inr x hx).1
abbrev set6 (w : World) (g i : Nat) (y : Nd) (b : Bool) : World := (set5 w g i y).setCell ⟨g, i + 5, none⟩ (.bool b)
theorem Qo.place (a : Qo w Q M lim (some ⟨g, 0, none⟩) cn Af cf ns fs) {k : Nat} (hk : k < ns.length) (hn : k ∉ fs) (y : Nd) (b : Bool) :
    Qo (set6 w g (k * 6) y b) Q M lim (some ⟨g, 0, none⟩) cn Af cf (ns.set k (y, b)) fs := by
  have b1 : K.Chg w (set6 w g (k * 6) y b) (· = g) := (chg_set5 w g (k * 6) y (· = g) rfl).same (chg_set _ g _ _ (· = g) rfl)
  have h1 := ((own_set5 a.nodes (k * 6) y).stored (k * 6 + 5) (.bool b)).1
  rw [nv_set ns k y b hk] at h1
  have hl : (ns.set k (y, b)).length = ns.length := List.length_set ..
  refine ⟨?_, by rw [hl]; exact h1, b1.own a.freed (fun j hj e => a.ne_both rfl (own_of_map hj) e.symm), fun i hi => ?_, a.nod, a.lim_le, by rw [hl]; exact a.ns_le, by rw [hl]; exact a.fs_le⟩
  · rw [b1.block Q a.lt (fun e => a.ne_nodes rfl e.symm), a.row, hl]
  · obtain ⟨h2, h3⟩ := a.inr i hi
    refine ⟨by rw [hl]; exact h2, ?_⟩
    have hne : k ≠ i := by rintro rfl; exact hn hi
    simpa [List.getElem_set_ne hne] using h3
theorem Qo.setf (h : Qo w Q M lim An cn Af cf ns fs) {x : Value} {Af' : Option Addr} {cf' : Nat} {fs' : List Nat} {w' : World} (hrow : w'.heap[Q]? = some (.cells #[.pointer (some ⟨M, 0, none⟩), .int .i64 (lim : Int), .slice An ns.length cn, x] 75 (0, 0)))
    (hnod : w'.ownsRow 0 114 6 (.slice An ns.length cn) ns.length (nv ns)) (hown : w'.ownsRow 0 3 1 (.slice Af' fs'.length cf') fs'.length (iw fs'))
    (hin : ∀ i ∈ fs', ∃ h : i < ns.length, ns[i].2 = false) (hnd : fs'.Nodup) (hle : fs'.length ≤ ns.length) :
    Qo (w'.setCell ⟨Q, 3, none⟩ (.slice Af' fs'.length cf')) Q M lim An cn Af' cf' ns fs' := by
  have b := chg_set w' Q 3 (.slice Af' fs'.length cf') (· = Q) rfl
  refine ⟨?_, b.own hnod (fun k hk e => ?_), b.own hown (fun k hk e => ?_), hin, hnd, h.lim_le, h.ns_le, hle⟩
  · have := row_set hrow 3 (.slice Af' fs'.length cf')
    simpa using this
  · obtain ⟨_, cur, hc⟩ := own_block_lt hnod (own_of_map hk)
    exact row_ne hc hrow (by decide) e
  · obtain ⟨_, cur, hc⟩ := own_block_lt hown (own_of_map hk)
    exact row_ne hc hrow (by decide) e
end
section
variable (w : World) (Q M lim cn cf : Nat) (An Af : Option Addr) (ns : List (Nd × Bool)) (fs : List Nat)
theorem q_next_pop (i m : Nat) (a : Qo w Q M lim An cn Af cf ns (fs ++ [i])) (hm : fs.length = m) :
    Calls Tryd.prog 88 #[.pointer (some ⟨Q, 0, none⟩)] w fun e w' => e = .returned (.int .i64 (i : Int)) ∧ QStep w Q M lim An Af ns fs w' := by
  have aH := Lib.hid a
  have hl : (fs ++ [i]).length = m + 1 := by simp [hm]
  have hc3 := a.c3
  rw [hl] at hc3
  have hfr := a.fr 3
  have hfre := a.freed
  rw [hl] at hfre
  obtain ⟨g, rfl⟩ := own_some hfre (by omega)
  have hci : w.cell? ⟨g, m, none⟩ = some (.int .i64 (i : Int)) := by
    rw [hfre.cellAt m (by omega)]
    subst hm
    simp
  have hcap := own_cap hfre
  have hcut := own_cut hfre (k := m) (by omega)
  have hm1 : m + 1 ≤ 1048576 := by rw [← hl]; exact Nat.le_trans a.fs_le (Nat.le_trans a.ns_le a.lim_le)
  have hmH := Lib.hid hm
  have hcutH := Lib.hid hcut
  clear a hfre hcut hm hl
  have w1 : IntKind.i64.wrap (((m + 1 : Nat) : Int) - 1) = (m : Int) := by rw [IntWalk.i64_in _ (by omega)]; omega
  have w2 : IntKind.i64.wrap ((m : Int) + 1 - 1) = (m : Int) := by rw [IntWalk.i64_in _ (by omega)]; omega
  have g0 : decide (0 ≤ (m : Int)) = true := decide_eq_true (by omega)
  have k1 : (m : Int) < ((m + 1 : Nat) : Int) := by omega
  go_enter Tryd.func88, Tryd.ntmps88
  go_wp2
  go_ret
  have hc' : w.ownsRow 0 3 1 (.slice (some ⟨g, 0, none⟩) fs.length cf) fs.length (iw fs) := by
    have := hcutH.out
    rw [Nat.mul_one, ← hmH.out] at this
    simpa using this
  have hn := aH.out.nod
  have hp := aH.out.setf aH.out.row aH.out.nodes hc' (fun j hj => aH.out.inr j (List.mem_append_left _ hj)) (List.nodup_append.1 hn).1 (by have := aH.out.fs_le; simp at this; omega)
  rw [hmH.out] at hp
  exact ⟨rfl, An, cn, _, cf, hp, chg_set _ _ _ _ _ (.inl rfl), fun j hj => .inl hj⟩
theorem node_info : (Tryd.prog.info? 114).map (fun i => (i.zero, i.size, i.bytes)) = some (some (.agg #[.int .u64 0, .slice none 0 0, .int .i64 0, .int .u64 0, .int .u64 0, .bool false]), 6, 64) := by kernel_rfl
abbrev nzo : Obj := .cells #[.int .u64 0, .slice none 0 0, .int .i64 0, .int .u64 0, .int .u64 0, .bool false] 114
theorem cell_six (w : World) (a b c d e f : Value) (T : TypeId) (j : Nat) (u : Value) (hu : [a, b, c, d, e, f][j]? = some u) : (w.alloc (.cells #[a, b, c, d, e, f] T)).cell? ((⟨w.heap.size, 0, none⟩ : Addr).add j) = some u := by
  have ea : (⟨w.heap.size, 0, none⟩ : Addr).add j = ⟨w.heap.size, j, none⟩ := by
    by_cases h : j = 0
    · subst h; rfl
    · simp [Addr.add, h]
  rw [ea, cell_of_row _ _ _ _ _ (0, 0) (K.alloc_top w (.cells #[a, b, c, d, e, f] T))]
  simpa using hu
set_option maxHeartbeats 1000000 in
theorem q_next_new (a : Qo w Q M lim An cn Af cf ns []) (hn : ns.length < lim) :
    Calls Tryd.prog 88 #[.pointer (some ⟨Q, 0, none⟩)] w fun e w' => e = .returned (.int .i64 (ns.length : Int)) ∧ QStep w Q M lim An Af (ns ++ [(Nd.z, false)]) [] w' := by
  have aH := Lib.hid a
  obtain ⟨i0, hi, hz0, hz1, hz2⟩ := info_parts node_info
  have hc3 := a.c3
  have hc2 := a.c2
  have hnl := a.ns_le
  have hll := a.lim_le
  have hQlt := a.lt
  have hown := Lib.hid ((a.nodes).alloc nzo)
  have hrd : Hid (Reads (w.alloc nzo) (w.heap.size + 1) 6 (some ⟨w.heap.size, 0, none⟩) 1 [.int .u64 0, .slice none 0 0, .int .i64 0, .int .u64 0, .int .u64 0, .bool false]) :=
    ⟨rfl, fun _ => ⟨_, rfl, by show w.heap.size < _; omega, cell_six _ _ _ _ _ _ _ _⟩⟩
  clear a
  generalize hnn : ns.length = n at *
  have hnH := Lib.hid hnn
  clear hnn
  go_enter Tryd.func88, Tryd.ntmps88
  go_wp2_with (at_builtin; refine wpList_append_any _ rfl _ _ 73 rfl 0 114 i0 _ 6 64 Tryd.underlying73 hi hz0 hz1 hz2 rfl (by decide) _ _ _ rfl hown.out (w.heap.size + 1) _ 1 1 _ rfl hrd.out ?c1 ?c2 ?c3 (Nat.zero_le _) ?_)
  case c2 => unfold maxLen; omega
  case c3 => omega
  all_goals try (case c1 => intro u hu; simp at hu; rcases hu with rfl | rfl | rfl | rfl | rfl | rfl <;> rfl)
  intro v' w1 hown' hgrow hblk
  obtain ⟨A', c', rfl⟩ := K.own_form hown'
  have hsl : (w.alloc nzo).heap.size = w.heap.size + 1 := by simp
  have b1 : K.Chg w w1 (fun j => An.map (·.block) = some j) := (chg_alloc w nzo _).grown hgrow (fun j e => .inl (own_of_map e))
  have hrow : w1.heap[Q]? = w.heap[Q]? := b1.block Q hQlt (fun e => aH.out.ne_nodes e rfl)
  have hrow2 := hrow.trans aH.out.row
  have hcP : w1.cell? ⟨Q, 2, none⟩ = some (.slice An n cn) := by
    have := cell_of_row w1 Q 2 _ _ (0, 0) hrow2
    rw [hnH.out] at this
    exact this
  have hfP : w1.frozen? ⟨Q, 2, none⟩ = false := frozen_of_row w1 Q 2 _ _ hrow2
  have hA1 : ∀ j, A'.map (·.block) = some j → An.map (·.block) = some j ∨ j = w.heap.size + 1 := by
    intro j e
    cases A' with
    | none => cases e
    | some a =>
      cases e
      rcases hblk with h | h
      · exact .inl (own_of_map h.symm)
      · right
        simp [Value.ownBlock] at h; exact h
  have hF1 : w1.ownsRow 0 3 1 (.slice Af 0 cf) 0 (iw []) := b1.own aH.out.freed (fun k hk e => aH.out.ne_both e (own_of_map hk) rfl)
  have hlen : (ns ++ [(Nd.z, false)]).length = n + 1 := by simp [hnH.out]
  have hown2 : w1.ownsRow 0 114 6 (.slice A' (ns ++ [(Nd.z, false)]).length c') (ns ++ [(Nd.z, false)]).length (nv (ns ++ [(Nd.z, false)])) := by
    rw [hlen, nv_snoc]
    exact hown'
  have hp : Qo (w1.setCell ⟨Q, 2, none⟩ (.slice A' (ns ++ [(Nd.z, false)]).length c')) Q M lim A' c' Af cf (ns ++ [(Nd.z, false)]) [] := by
    have b := chg_set w1 Q 2 (.slice A' (ns ++ [(Nd.z, false)]).length c') (· = Q) rfl
    refine ⟨?_, b.own hown2 (fun k hk e => ?_), b.own hF1 (fun k hk e => ?_), by simp, by simp, hll, by rw [hlen]; omega, by simp⟩
    · have := row_set hrow2 2 (.slice A' (ns ++ [(Nd.z, false)]).length c')
      simpa using this
    · obtain ⟨_, cur, hc⟩ := own_block_lt hown2 (own_of_map hk)
      exact row_ne hc hrow2 (by decide) e
    · obtain ⟨_, cur, hc⟩ := own_block_lt hF1 (own_of_map hk)
      exact row_ne hc hrow2 (by decide) e
  have hb2 := Lib.hid ((b1.mono (O' := QB Q An Af) (fun j h => .inr (.inl h))).same (chg_set w1 Q 2 (.slice A' (n + 1) c') (QB Q An Af) (.inl rfl)))
  rw [hlen] at hp
  have hpH := Lib.hid hp
  have hc2' := hp.c2
  rw [hlen] at hc2'
  have hA1H := Lib.hid hA1
  clear hp hown' hgrow hblk b1 hrow hrow2 hA1 hF1 hlen hown2
  have wn : IntKind.i64.wrap (((n + 1 : Nat) : Int) - 1) = (n : Int) := by rw [IntWalk.i64_in _ (by omega)]; omega
  have wn2 : IntKind.i64.wrap ((n : Int) + 1 - 1) = (n : Int) := by rw [IntWalk.i64_in _ (by omega)]; omega
  go_wp2
  go_ret
  refine ⟨rfl, A', c', Af, cf, hpH.out, hb2.out, fun j hj => ?_⟩
  rcases hj with rfl | hj | hj
  · exact .inl (.inl rfl)
  · rcases hA1H.out j hj with h | h
    · exact .inl (.inr (.inl h))
    · right; omega
  · exact .inl (.inr (.inr hj))
end
end Go.Proofs.YtbiingpdchoppaaDoor
end
section
namespace Go.Proofs.YtbiingpdchoppaaDoor
set_option maxRecDepth 40000
open Go.RowKit
theorem chg_set6 (w : World) (g i : Nat) (y : Nd) (b : Bool) (O : Nat → Prop) (h : O g) : K.Chg w (set6 w g i y b) O := (chg_set5 w g i y O h).same (chg_set _ g _ _ O h)
theorem chg_six (w : World) (g : Nat) (i0 i1 i2 i3 i4 i5 : Nat) (a b c d e f : Value) (O : Nat → Prop) (h : O g) : K.Chg w ((((((w.setCell ⟨g, i0, none⟩ a).setCell ⟨g, i1, none⟩ b).setCell ⟨g, i2, none⟩ c).setCell ⟨g, i3, none⟩ d).setCell ⟨g, i4, none⟩ e).setCell ⟨g, i5, none⟩ f) O :=
  (chg_five w g i0 i1 i2 i3 i4 a b c d e O h).same (chg_set _ g _ _ O h)
theorem size_set (w : World) (p : Addr) (u : Value) : (w.setCell p u).heap.size = w.heap.size := by simp [World.setCell]
theorem QStep.from {w0 w w' : World} {Q M lim : Nat} {An Af : Option Addr} {ns' : List (Nd × Bool)} {fs' : List Nat} (hb : Below w0.heap.size w0 w) (h : QStep w Q M lim An Af ns' fs' w') : QStep w0 Q M lim An Af ns' fs' w' := by
  obtain ⟨An', cn', Af', cf', h1, h2, h3⟩ := h
  refine ⟨An', cn', Af', cf', h1, (K.Chg.of_below hb).same h2, fun j hj => ?_⟩
  rcases h3 j hj with h | h
  · exact .inl h
  · exact .inr (Nat.le_trans hb.size h)
section
variable (w : World) (Q M lim cn cf : Nat) (An Af : Option Addr) (ns : List (Nd × Bool)) (fs : List Nat)
set_option maxHeartbeats 2000000 in
theorem q_alloc_by (a : Qo w Q M lim An cn Af cf ns fs) (W : Nat) (A : Option Addr) (ch : List Nat) (c ks le gr : Nat) (i : Nat) (ns' : List (Nd × Bool)) (fs' : List Nat) (hf : ns.length - fs.length < lim) (hi : i < ns'.length) (hif : i ∉ fs') (hl' : ns'.length ≤ 1048576)
    (hn : ∀ V, Qo V Q M lim An cn Af cf ns fs → Calls Tryd.prog 88 #[.pointer (some ⟨Q, 0, none⟩)] V fun e w' => e = .returned (.int .i64 (i : Int)) ∧ QStep V Q M lim An Af ns' fs' w') :
    Calls Tryd.prog 71 #[.pointer (some ⟨Q, 0, none⟩), ndv W A ch.length c ks le gr] w fun e w' => e = .returned (.tuple #[.int .i64 (i : Int), .bool true]) ∧ QStep w Q M lim An Af (ns'.set i (⟨W, A, ch, c, ks, le, gr⟩, true)) fs' w' := by
  have hb : Below w.heap.size w (w.alloc (ndo W A ch.length c ks le gr)) := (Below.refl _ w).alloc (Nat.le_refl _) _
  have a1 := a.chg (K.Chg.of_below (O := fun _ => False) hb) (fun _ _ h => h)
  have hr := Lib.hid (q_room _ Q M lim cn cf An Af ns fs a1 1)
  have d : decide ((1 : Int) ≤ (lim : Int) - ((ns.length - fs.length : Nat) : Int)) = true := decide_eq_true (by omega)
  rw [d] at hr
  have hnH := Lib.hid (fun N => hn _ (a1.drew N))
  have hqb := Lib.hid (fun j (h : QB Q An Af j) => a.qb h)
  have HB := Lib.hid hb
  have HI := Lib.hid hif
  have hrow := Lib.hid (K.alloc_top w (ndo W A ch.length c ks le gr))
  clear a a1 d hf hn hb hif
  go_enter Tryd.func71, Tryd.ntmps71
  go_wp2_with (first
    | (go_at_call 49; (with_reducible refine hr.out.mono ?_); rintro e w' ⟨rfl, N, rfl⟩)
    | (go_at_call 88; (with_reducible refine (hnH.out _).mono ?_); rintro e w1 ⟨rfl, An', cn', Af', cf', hP, hBu, hIn⟩
       have hc2 := hP.c2
       obtain ⟨g, rfl, x0, x1, x2, x3, x4, x5, hfr⟩ := hP.at hi
       have hrow1 := (hBu.block w.heap.size (by show w.heap.size < (w.heap.push _).size; simp) (fun h => by have := hqb.out _ h; omega)).trans hrow.out
       obtain ⟨y0, y1, y2, y3, y4⟩ := nd_cells hrow1
       have hPH := Lib.hid (hP.place hi HI.out ⟨W, A, ch, c, ks, le, gr⟩ true)
       have hBH := Lib.hid hBu
       have hIH := Lib.hid hIn
       have hf0 := hfr (i * 6)
       have hf1 := hfr (i * 6 + 1)
       have hf2 := hfr (i * 6 + 2)
       have hf3 := hfr (i * 6 + 3)
       have hf4 := hfr (i * 6 + 4)
       have hf5 := hfr (i * 6 + 5)
       clear hfr hP hBu hIn hrow1
       have k1 : (i : Int) < (ns'.length : Int) := (by omega)))
  go_region
  all_goals
    go_wp2
    go_ret2
    have b0 : K.Chg w w1 (QB Q An Af) := (K.Chg.of_below HB.out).same ⟨hBH.out.os, hBH.out.tape, hBH.out.output, hBH.out.size, hBH.out.block⟩
    have hs : w.heap.size ≤ (w.alloc (ndo W A ch.length c ks le gr)).heap.size := HB.out.size
    refine ⟨rfl, _, cn', Af', cf', hPH.out.drew 1, (b0.trans (chg_set6 w1 g (i * 6) ⟨W, A, ch, c, ks, le, gr⟩ true (· = g) rfl) (fun j e => ?_)).drewN 1, fun j hj => ?_⟩
    · subst e
      rcases hIH.out _ (.inr (.inl rfl)) with h | h
      · exact .inl h
      · exact .inr (Nat.le_trans hs h)
    · rcases hIH.out _ hj with h | h
      · exact .inl h
      · exact .inr (Nat.le_trans hs h)
/-- A place that may be taken next. -/
theorem q_alloc (a : Qo w Q M lim An cn Af cf ns fs) (W : Nat) (A : Option Addr) (ch : List Nat) (c ks le gr : Nat) (hf : ns.length - fs.length < lim) :
    ∃ (i : Nat) (ns' : List (Nd × Bool)) (fs' : List Nat), (i < ns'.length) ∧ ((∃ h : i < ns.length, ns[i].2 = false) ∨ ns.length ≤ i) ∧ ns'[i]? = some (⟨W, A, ch, c, ks, le, gr⟩, true) ∧ (∀ j, j ≠ i → ns'[j]? = ns[j]?) ∧ ns'.length - fs'.length = ns.length - fs.length + 1 ∧
      Calls Tryd.prog 71 #[.pointer (some ⟨Q, 0, none⟩), ndv W A ch.length c ks le gr] w fun e w' => e = .returned (.tuple #[.int .i64 (i : Int), .bool true]) ∧ QStep w Q M lim An Af ns' fs' w' := by
  have hl := a.ns_le
  have hl2 := a.lim_le
  rcases List.eq_nil_or_concat fs with rfl | ⟨f0, i, rfl⟩
  · refine ⟨ns.length, ns ++ [(⟨W, A, ch, c, ks, le, gr⟩, true)], [], by simp, .inr (Nat.le_refl _), by simp, fun j hj => ?_, by simp, ?_⟩
    · rcases Nat.lt_or_ge j ns.length with h | h
      · rw [List.getElem?_append_left h]
      · rw [List.getElem?_eq_none (by simp; omega), List.getElem?_eq_none h]
    · have h0 : ns.length < lim := by simpa using hf
      have := q_alloc_by w Q M lim cn cf An Af ns [] a W A ch c ks le gr ns.length (ns ++ [(Nd.z, false)]) [] hf (by simp) (by simp) (by simp; omega) (fun V aV => q_next_new V Q M lim cn cf An Af ns aV h0)
      have e : (ns ++ [(Nd.z, false)]).set ns.length (⟨W, A, ch, c, ks, le, gr⟩, true) = ns ++ [(⟨W, A, ch, c, ks, le, gr⟩, true)] := by
        rw [List.set_append_right _ _ (Nat.le_refl _)]
        simp
      rw [e] at this
      exact this
  · rw [List.concat_eq_append] at a hf
    obtain ⟨hi, ht⟩ := a.inr i (by simp)
    have hnd := List.nodup_append.1 a.nod
    have hfl := a.fs_le
    simp at hfl
    refine ⟨i, ns.set i (⟨W, A, ch, c, ks, le, gr⟩, true), f0, by simpa using hi, .inl ⟨hi, ht⟩, by simp [hi], fun j hj => by rw [List.getElem?_set_ne (Ne.symm hj)], by simp; omega, ?_⟩
    exact q_alloc_by w Q M lim cn cf An Af ns (f0 ++ [i]) a W A ch c ks le gr i ns f0 hf hi (fun hm => hnd.2.2 i hm i (by simp) rfl) (by omega) (fun V aV => q_next_pop V Q M lim cn cf An Af ns f0 i f0.length aV rfl)
set_option maxHeartbeats 2000000 in
theorem q_free (a : Qo w Q M lim An cn Af cf ns fs) (k : Nat) (hk : k < ns.length) (ht : ns[k].2 = true) :
    Calls Tryd.prog 76 #[.pointer (some ⟨Q, 0, none⟩), .int .i64 (k : Int)] w fun e w' => e = .returned (.bool true) ∧ QStep w Q M lim An Af (ns.set k (Nd.z, false)) (fs ++ [k]) w' := by
  have hl := Lib.hid (q_live w Q M lim cn cf An Af ns fs a k)
  rw [lvq_yes hk ht] at hl
  obtain ⟨i0, hi, hz0, hz1, hz2⟩ := info_parts int_info
  obtain ⟨hkf, hfl⟩ := a.fs_lt hk ht
  have hc2 := a.c2
  have hQlt := a.lt
  obtain ⟨g, rfl, x0, x1, x2, x3, x4, x5, hfr⟩ := a.at hk
  have f0 := hfr (k * 6)
  have f1 := hfr (k * 6 + 1)
  have f2 := hfr (k * 6 + 2)
  have f3 := hfr (k * 6 + 3)
  have f4 := hfr (k * 6 + 4)
  have f5 := hfr (k * 6 + 5)
  have k1 : (k : Int) < (ns.length : Int) := by omega
  have hp : Qo ((((((w.setCell ⟨g, k * 6, none⟩ (.int .u64 0)).setCell ⟨g, k * 6 + 1, none⟩ (.slice none 0 0)).setCell ⟨g, k * 6 + 2, none⟩ (.int .i64 0)).setCell ⟨g, k * 6 + 3, none⟩ (.int .u64 0)).setCell ⟨g, k * 6 + 4, none⟩ (.int .u64 0)).setCell ⟨g, k * 6 + 5, none⟩ (.bool false)) Q M lim (some ⟨g, 0, none⟩) cn Af cf (ns.set k (Nd.z, false)) fs := by
    have := a.place hk hkf Nd.z false
    exact this
  have hb0 : K.Chg w ((((((w.setCell ⟨g, k * 6, none⟩ (.int .u64 0)).setCell ⟨g, k * 6 + 1, none⟩ (.slice none 0 0)).setCell ⟨g, k * 6 + 2, none⟩ (.int .i64 0)).setCell ⟨g, k * 6 + 3, none⟩ (.int .u64 0)).setCell ⟨g, k * 6 + 4, none⟩ (.int .u64 0)).setCell ⟨g, k * 6 + 5, none⟩ (.bool false)) (QB Q (some ⟨g, 0, none⟩) Af) := chg_six w g _ _ _ _ _ _ _ _ _ _ _ _ _ (.inr (.inl rfl))
  have hz : ((((((w.setCell ⟨g, k * 6, none⟩ (.int .u64 0)).setCell ⟨g, k * 6 + 1, none⟩ (.slice none 0 0)).setCell ⟨g, k * 6 + 2, none⟩ (.int .i64 0)).setCell ⟨g, k * 6 + 3, none⟩ (.int .u64 0)).setCell ⟨g, k * 6 + 4, none⟩ (.int .u64 0)).setCell ⟨g, k * 6 + 5, none⟩ (.bool false)).heap.size = w.heap.size := by simp only [size_set]
  obtain ⟨w2, hw2⟩ : ∃ w2, ((((((w.setCell ⟨g, k * 6, none⟩ (.int .u64 0)).setCell ⟨g, k * 6 + 1, none⟩ (.slice none 0 0)).setCell ⟨g, k * 6 + 2, none⟩ (.int .i64 0)).setCell ⟨g, k * 6 + 3, none⟩ (.int .u64 0)).setCell ⟨g, k * 6 + 4, none⟩ (.int .u64 0)).setCell ⟨g, k * 6 + 5, none⟩ (.bool false)) = w2 := ⟨_, rfl⟩
  rw [hw2] at hp hb0 hz
  have hc3 := hp.c3
  rw [← hw2] at hc3
  have hw2H := Lib.hid hw2
  have hown := Lib.hid (hp.freed.alloc (.cells #[.int .i64 (k : Int)] 3))
  have hrd : Hid (Reads (w2.alloc (.cells #[.int .i64 (k : Int)] 3)) (w2.heap.size + 1) 1 (some ⟨w2.heap.size, 0, none⟩) 1 [.int .i64 (k : Int)]) := by
    refine ⟨rfl, fun _ => ⟨_, rfl, by show w2.heap.size < _; omega, fun j u hu => ?_⟩⟩
    match j, hu with
    | 0, hu => simp at hu; subst hu; simp [Addr.add]
  rw [hz] at hrd
  have hB : Hid (0 ≤ (w2.alloc (.cells #[.int .i64 (k : Int)] 3)).heap.size) := Nat.zero_le _
  have hfm : fs.length ≤ 1048576 := by have := a.ns_le; have := a.lim_le; omega
  have hpH := Lib.hid hp
  have hb0H := Lib.hid hb0
  have HT := Lib.hid ht
  have HKF := Lib.hid hkf
  clear a ht hfr hp hb0 hw2 hkf
  generalize hfn : fs.length = m at *
  have hfnH := Lib.hid hfn
  clear hfn
  go_enter Tryd.func76, Tryd.ntmps76
  go_wp2_with (first
    | (go_at_call 83; (with_reducible refine hl.out.mono ?_); rintro e w' ⟨rfl, rfl⟩)
    | (at_builtin; rw [hw2H.out]; refine wpList_append_any _ rfl _ _ 70 rfl 0 3 i0 _ 1 8 Tryd.underlying70 hi hz0 hz1 hz2 rfl (by decide) _ _ _ rfl hown.out (w.heap.size + 1) _ 1 1 _ rfl hrd.out ?c1 ?c2 ?c3 hB.out ?_))
  case c2 => unfold maxLen; omega
  case c3 => omega
  all_goals try (case c1 => intro u hu; simp at hu; subst hu; rfl)
  intro v' w1 hown' hgrow hblk
  obtain ⟨A', c', rfl⟩ := K.own_form hown'
  have hsl : (w2.alloc (.cells #[.int .i64 (k : Int)] 3)).heap.size = w.heap.size + 1 := by simp [hz]
  have b1 : K.Chg w2 w1 (fun j => Af.map (·.block) = some j) := (chg_alloc w2 _ _).grown hgrow (fun j e => .inl (own_of_map e))
  have hrow2 := (b1.block Q hpH.out.lt (fun e => hpH.out.ne_freed e rfl)).trans hpH.out.row
  have hcP : w1.cell? ⟨Q, 3, none⟩ = some (.slice Af m cf) := by
    have := cell_of_row w1 Q 3 _ _ (0, 0) hrow2
    rw [hfnH.out] at this
    exact this
  have hfP : w1.frozen? ⟨Q, 3, none⟩ = false := frozen_of_row w1 Q 3 _ _ hrow2
  have hA1 : ∀ j, A'.map (·.block) = some j → Af.map (·.block) = some j ∨ j = w.heap.size + 1 := by
    intro j e
    cases A' with
    | none => cases e
    | some a =>
      cases e
      rcases hblk with h | h
      · exact .inl (own_of_map h.symm)
      · right
        simp [Value.ownBlock] at h
        show a.block = _
        omega
  have hlen : (fs ++ [k]).length = m + 1 := by simp [hfnH.out]
  have hown2 : w1.ownsRow 0 3 1 (.slice A' (fs ++ [k]).length c') (fs ++ [k]).length (iw (fs ++ [k])) := by
    rw [hlen, iw, List.map_append]
    exact hown'
  have hnod : w1.ownsRow 0 114 6 (.slice (some ⟨g, 0, none⟩) (ns.set k (Nd.z, false)).length cn) (ns.set k (Nd.z, false)).length (nv (ns.set k (Nd.z, false))) := b1.own hpH.out.nodes (fun j hj e => hpH.out.ne_both (own_of_map hj) e rfl)
  have hp : Qo (w1.setCell ⟨Q, 3, none⟩ (.slice A' (fs ++ [k]).length c')) Q M lim (some ⟨g, 0, none⟩) cn A' c' (ns.set k (Nd.z, false)) (fs ++ [k]) := by
    refine hpH.out.setf hrow2 hnod hown2 (fun i hi => ?_) (List.nodup_append.2 ⟨hpH.out.nod, by simp, fun x hx y hy e => ?_⟩) ?_
    · rcases List.mem_append.1 hi with h | h
      · exact hpH.out.inr i h
      · simp at h; subst h
        exact ⟨by simpa using hk, by simp⟩
    · simp at hy; subst hy; subst e; exact HKF.out hx
    · rw [hlen, List.length_set]; omega
  have hb2 := Lib.hid ((hb0H.out.same (b1.mono (O' := QB Q (some ⟨g, 0, none⟩) Af) (fun j h => .inr (.inr h)))).same (chg_set w1 Q 3 (.slice A' (m + 1) c') (QB Q (some ⟨g, 0, none⟩) Af) (.inl rfl)))
  rw [hlen] at hp
  have hpH2 := Lib.hid hp
  have hA1H := Lib.hid hA1
  clear hp hown' hgrow hblk b1 hrow2 hA1 hlen hown2 hnod
  go_wp2
  go_ret
  refine ⟨rfl, _, cn, A', c', hpH2.out, hb2.out, fun j hj => ?_⟩
  rcases hj with rfl | hj | hj
  · exact .inl (.inl rfl)
  · exact .inl (.inr (.inl hj))
  · rcases hA1H.out j hj with h | h
    · exact .inl (.inr (.inr h))
    · right; omega
end
end Go.Proofs.YtbiingpdchoppaaDoor
end
