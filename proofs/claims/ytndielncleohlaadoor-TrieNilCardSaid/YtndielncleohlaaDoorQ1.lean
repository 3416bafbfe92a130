
/- The trie's nodes in memory; a meter whose numbers may be any; asking a pool of nodes; the texts walked. -/
import Derived.Test.YtndielncleohlaaDoorK16
import Derived.IntWalk
import Derived.Laws.Rows
import Derived.LoopTactic
import Derived.RegionTactic
namespace Go.Proofs.YtndielncleohlaaDoor
set_option maxRecDepth 40000
open Go.RowKit
theorem row_lt {w : World} {g : Nat} {o : Obj} (h : w.heap[g]? = some o) : g < w.heap.size := (Array.getElem?_eq_some_iff.1 h).1
theorem row_ne {w : World} {g g' : Nat} {cs cs' : Array Value} {T T' : TypeId} (h : w.heap[g]? = some (.cells cs T (0, 0))) (h' : w.heap[g']? = some (.cells cs' T' (0, 0))) (hT : T ≠ T') : g ≠ g' := by
  rintro rfl
  rw [h] at h'
  injection h' with h'
  injection h' with _ ht
  exact hT ht
theorem row_set {w : World} {g : Nat} {cs : Array Value} {T : TypeId} (h : w.heap[g]? = some (.cells cs T (0, 0))) (i : Nat) (u : Value) : (w.setCell ⟨g, i, none⟩ u).heap[g]? = some (.cells (cs.setIfInBounds i u) T (0, 0)) := by
  simp [World.setCell, Array.getElem?_modify, h]
theorem chg_set (w : World) (g i : Nat) (u : Value) (O : Nat → Prop) (h : O g) : K.Chg w (w.setCell ⟨g, i, none⟩ u) O :=
  ⟨rfl, rfl, rfl, by simp [World.setCell], fun j _ hn => Below.heap_setCell w _ u j (fun e => hn (by rw [e]; exact h))⟩
theorem chg_alloc (w : World) (o : Obj) (O : Nat → Prop) : K.Chg w (w.alloc o) O := K.Chg.of_below ((Below.refl _ w).alloc (Nat.le_refl _) _)
theorem chg_refl (w : World) (O : Nat → Prop) : K.Chg w w O := ⟨rfl, rfl, rfl, Nat.le_refl _, fun _ _ _ => rfl⟩
theorem K.Chg.mono {w w' : World} {O O' : Nat → Prop} (h : K.Chg w w' O) (hO : ∀ j, O j → O' j) : K.Chg w w' O' := ⟨h.os, h.tape, h.output, h.size, fun g hg hn => h.block g hg (fun h1 => hn (hO g h1))⟩
theorem K.Chg.same {w w1 w2 : World} {O : Nat → Prop} (h : K.Chg w w1 O) (h1 : K.Chg w1 w2 O) : K.Chg w w2 O := h.trans h1 (fun _ h => .inl h)
theorem K.Chg.drewN {w w' : World} {O : Nat → Prop} (h : K.Chg w w' O) (n : Nat) : K.Chg w (w'.drewN n) O := ⟨h.os, h.tape, h.output, h.size, h.block⟩
theorem K.Chg.grown {w w1 w2 : World} {O : Nat → Prop} {row : Option Nat} (h : K.Chg w w1 O) (g : w1.grownBy w2 row) (hr : ∀ j, row = some j → O j ∨ w.heap.size ≤ j) : K.Chg w w2 O :=
  h.trans (O1 := fun j => row = some j) ⟨g.os, g.tape, g.output, g.size, fun k hk hn => g.block k hk (fun e => hn e.symm)⟩ (fun j hj => hr j hj)
theorem K.Chg.cell {w w' : World} {O : Nat → Prop} (h : K.Chg w w' O) {b : Nat} (hb : b < w.heap.size) (hn : ¬ O b) (o : Nat) : w'.cell? ⟨b, o, none⟩ = w.cell? ⟨b, o, none⟩ := by simp [World.cell?, h.block b hb hn]
theorem K.Chg.own {w w' : World} {O : Nat → Prop} {base : Nat} {e : TypeId} {size n : Nat} {v : Value} {xs : List Value} (b : K.Chg w w' O) (h : w.ownsRow base e size v n xs) (hS : ∀ k, v.ownBlock = some k → ¬ O k) : w'.ownsRow base e size v n xs := by
  refine ⟨h.1, ?_⟩
  rcases h.2 with hn | ⟨g, cap, cur, rfl, hb, hg, rest⟩
  · exact .inl hn
  · exact .inr ⟨g, cap, cur, rfl, hb, (b.block g (row_lt hg) (hS g rfl)).trans hg, rest⟩
theorem own_some {w : World} {base : Nat} {e : TypeId} {size n c : Nat} {A : Option Addr} {xs : List Value} (h : w.ownsRow base e size (.slice A n c) n xs) (hn : 0 < n) : ∃ g, A = some ⟨g, 0, none⟩ := by
  rcases h.2 with ⟨_, rfl⟩ | ⟨g, cap, cur, hv, _⟩
  · omega
  · simp at hv; exact ⟨g, hv.1⟩
theorem own_addr {w : World} {base : Nat} {e : TypeId} {size n c : Nat} {A : Option Addr} {xs : List Value} (h : w.ownsRow base e size (.slice A n c) n xs) : (A = none ∧ n = 0 ∧ c = 0) ∨ ∃ g, A = some ⟨g, 0, none⟩ ∧ g < w.heap.size ∧ n ≤ c ∧ ∃ cur, w.heap[g]? = some (.cells cur e (0, 0)) := by
  rcases h.2 with ⟨hv, rfl⟩ | ⟨g, cap, cur, hv, _, hg, hc, _⟩
  · simp at hv; exact .inl ⟨hv.1, rfl, hv.2⟩
  · simp at hv; exact .inr ⟨g, hv.1, row_lt hg, by omega, cur, hg⟩
theorem own_cap {w : World} {base : Nat} {e : TypeId} {size n c : Nat} {A : Option Addr} {xs : List Value} (h : w.ownsRow base e size (.slice A n c) n xs) : n ≤ c := by
  rcases h.2 with ⟨hv, rfl⟩ | ⟨g, cap, cur, hv, _, _, hnc, _⟩
  · omega
  · simp at hv; omega
theorem own_cut {w : World} {base : Nat} {e : TypeId} {size n c : Nat} {A : Option Addr} {xs : List Value} (h : w.ownsRow base e size (.slice A n c) n xs) {k : Nat} (hk : k ≤ n) : w.ownsRow base e size (.slice A k c) k (xs.take (k * size)) := by
  have hl := h.1
  have hle : k * size ≤ n * size := Nat.mul_le_mul_right _ hk
  refine ⟨by rw [List.length_take]; omega, ?_⟩
  rcases h.2 with ⟨hv, rfl⟩ | ⟨g, cap, cur, hv, hb, hg, hnc, hcm, hcs, ht⟩
  · obtain rfl : k = 0 := by omega
    exact .inl ⟨hv, rfl⟩
  · simp only [Value.slice.injEq, true_and] at hv
    obtain ⟨rfl, rfl⟩ := hv
    refine .inr ⟨g, c, cur, rfl, hb, hg, by omega, hcm, hcs, ?_⟩
    rw [← ht, List.take_take, Nat.min_eq_left hle]
/-- A meter that took tk steps in this operation. -/
def Mx (w : World) (g tk : Nat) : Prop := ∃ r c s p : Int, w.heap[g]? = some (.cells #[.int .i64 r, .int .i64 c, .int .i64 s, .int .i64 (tk : Int), .int .i64 p] 79 (0, 0))
theorem x_start (w : World) (g tk : Nat) (h : Mx w g tk) :
    Calls Tryd.prog 45 #[.pointer (some ⟨g, 0, none⟩)] w fun e w' => e = .returned (.tuple #[]) ∧ Mx w' g 0 ∧ K.Chg w w' (· = g) := by
  obtain ⟨r, c, s, p, hr⟩ := h
  have hc := cell_of_row w g 2 _ _ (0, 0) hr
  have hc3 := cell_of_row w g 3 _ _ (0, 0) hr
  have hf : ∀ i, w.frozen? ⟨g, i, none⟩ = false := fun i => frozen_of_row w g i _ _ hr
  have hf2 := hf 2
  have hf3 := hf 3
  simp at hc hc3
  have H := Lib.hid hr
  clear hr hf
  go_enter Tryd.func45, Tryd.ntmps45
  go_wp2
  go_end0
  refine ⟨rfl, ⟨r, c, wrap64 (s + 1), p, ?_⟩, (chg_set w g 2 _ (· = g) rfl).same (chg_set _ g 3 _ (· = g) rfl)⟩
  have := row_set (row_set H.out 2 (.int .i64 (wrap64 (s + 1)))) 3 (.int .i64 ((0 : Nat) : Int))
  simpa using this
theorem x_read (w : World) (g tk : Nat) (h : Mx w g tk) (ht : tk < 1000000) :
    Calls Tryd.prog 70 #[.pointer (some ⟨g, 0, none⟩)] w fun e w' => e = .returned (.tuple #[]) ∧ Mx w' g (tk + 1) ∧ K.Chg w w' (· = g) := by
  have hs : ∀ (w : World), Mx w g tk → Calls Tryd.prog 87 #[.pointer (some ⟨g, 0, none⟩)] w fun e w' => e = .returned (.tuple #[]) ∧ Mx w' g (tk + 1) ∧ K.Chg w w' (· = g) := by
    intro w h
    obtain ⟨r, c, s, p, hr⟩ := h
    have hc := cell_of_row w g 3 _ _ (0, 0) hr
    have hf3 := frozen_of_row w g 3 _ _ hr
    simp at hc
    have h2 := row_set hr 3 (.int .i64 ((tk : Int) + 1))
    simp at h2
    have k3 := cell_of_row _ g 3 _ _ (0, 0) h2
    have k4 := cell_of_row _ g 4 _ _ (0, 0) h2
    have f4 := frozen_of_row _ g 4 _ _ h2
    simp at k3 k4
    have ws : IntKind.i64.wrap ((tk : Int) + 1) = (tk : Int) + 1 := IntWalk.i64_in _ (by omega)
    have H := Lib.hid h2
    clear hr h2
    go_enter Tryd.func87, Tryd.ntmps87
    go_wp2
    go_region
    go_end0
    refine ⟨rfl, ⟨r, c, s, max p ((tk : Int) + 1), ?_⟩, ((chg_set w g 3 _ (· = g) rfl).same (chg_set _ g 4 _ (· = g) rfl)).drewN 1⟩
    have := row_set H.out 4 (.int .i64 (max p ((tk : Int) + 1)))
    simp at this
    exact this
  obtain ⟨r, c, s, p, hr⟩ := h
  have hc := cell_of_row w g 0 _ _ (0, 0) hr
  have hf0 := frozen_of_row w g 0 _ _ hr
  simp at hc
  have h1 : Hid (Mx (w.setCell ⟨g, 0, none⟩ (.int .i64 (wrap64 (r + 1)))) g tk) := by
    refine ⟨wrap64 (r + 1), c, s, p, ?_⟩
    have := row_set hr 0 (.int .i64 (wrap64 (r + 1)))
    simpa using this
  clear hr
  have hsH := Lib.hid (hs _ h1.out)
  clear hs
  go_enter Tryd.func70, Tryd.ntmps70
  go_wp2_with (go_at_call 87; (with_reducible refine hsH.out.mono ?_); rintro e w2 ⟨rfl, hm2, hg2⟩; have hm2H := Lib.hid hm2; have hg2H := Lib.hid hg2; clear hm2 hg2)
  go_end0
  exact ⟨rfl, hm2H.out, (chg_set w g 0 _ (· = g) rfl).same hg2H.out⟩
theorem x_taken (w : World) (g tk : Nat) (h : Mx w g tk) :
    Calls Tryd.prog 15 #[.pointer (some ⟨g, 0, none⟩)] w fun e w' => e = .returned (.int .i64 (tk : Int)) ∧ w = w' := by
  obtain ⟨r, c, s, p, hr⟩ := h
  have hc := cell_of_row w g 3 _ _ (0, 0) hr
  simp at hc
  clear hr
  go_enter Tryd.func15, Tryd.ntmps15
  go_wp2
  go_ret
  exact ⟨rfl, rfl⟩
theorem x_new (w : World) : Calls Tryd.prog 65 #[] w fun e w' => e = .returned (.pointer (some ⟨w.heap.size, 0, none⟩)) ∧ Mx w' w.heap.size 0 ∧ Below w.heap.size w w' := by
  go_enter Tryd.func65, Tryd.ntmps65
  go_wp2
  go_ret
  exact ⟨rfl, ⟨0, 0, 0, 0, K.alloc_top _ _⟩, (Below.refl _ w).alloc (Nat.le_refl _) _⟩
theorem Mx.lt {w : World} {g tk : Nat} (h : Mx w g tk) : g < w.heap.size := by
  obtain ⟨r, c, s, p, hr⟩ := h
  exact row_lt hr
theorem Mx.chg {w w' : World} {g tk : Nat} {O : Nat → Prop} (h : Mx w g tk) (hc : K.Chg w w' O) (hn : ¬ O g) : Mx w' g tk := by
  have hl := h.lt
  obtain ⟨r, c, s, p, hr⟩ := h
  exact ⟨r, c, s, p, (hc.block g hl hn).trans hr⟩
/-- A node as it lies: the word, its children's slice, how many keys, the least, the greatest. -/
structure Nd where
  W : Nat
  A : Option Addr
  ch : List Nat
  c : Nat
  ks : Nat
  le : Nat
  gr : Nat
abbrev ndv (W : Nat) (A : Option Addr) (n c ks le gr : Nat) : Value := .agg #[.int .u64 (W : Int), .slice A n c, .int .i64 (ks : Int), .int .u64 (le : Int), .int .u64 (gr : Int)]
abbrev ndo (W : Nat) (A : Option Addr) (n c ks le gr : Nat) : Obj := .cells #[.int .u64 (W : Int), .slice A n c, .int .i64 (ks : Int), .int .u64 (le : Int), .int .u64 (gr : Int)] 72
abbrev Nd.v (x : Nd) : Value := ndv x.W x.A x.ch.length x.c x.ks x.le x.gr
abbrev Nd.o (x : Nd) : Obj := ndo x.W x.A x.ch.length x.c x.ks x.le x.gr
def Nd.z : Nd := ⟨0, none, [], 0, 0, 0, 0⟩
/-- The cells of places: a node, and is it taken? -/
def ncl (x : Nd × Bool) : List Value := [.int .u64 (x.1.W : Int), .slice x.1.A x.1.ch.length x.1.c, .int .i64 (x.1.ks : Int), .int .u64 (x.1.le : Int), .int .u64 (x.1.gr : Int), .bool x.2]
def nv (ns : List (Nd × Bool)) : List Value := ns.flatMap ncl
theorem nv_cons (x : Nd × Bool) (ns : List (Nd × Bool)) : nv (x :: ns) = Value.int .u64 (x.1.W : Int) :: Value.slice x.1.A x.1.ch.length x.1.c :: Value.int .i64 (x.1.ks : Int) :: Value.int .u64 (x.1.le : Int) :: Value.int .u64 (x.1.gr : Int) :: Value.bool x.2 :: nv ns := rfl
theorem nv_snoc (ns : List (Nd × Bool)) (x : Nd × Bool) : nv (ns ++ [x]) = nv ns ++ ncl x := by simp [nv]
theorem nv_len (ns : List (Nd × Bool)) : (nv ns).length = ns.length * 6 := by
  induction ns with
  | nil => rfl
  | cons x ns ih => rw [nv_cons]; simp only [List.length_cons, ih]; omega
theorem nv_at : ∀ (ns : List (Nd × Bool)) (k : Nat) (h : k < ns.length) (j : Nat), j < 6 → (nv ns)[k * 6 + j]? = (ncl ns[k])[j]?
  | x :: ns, 0, _, j, hj => by
    rw [nv_cons]
    match j, hj with
    | 0, _ => rfl
    | 1, _ => rfl
    | 2, _ => rfl
    | 3, _ => rfl
    | 4, _ => rfl
    | 5, _ => rfl
  | x :: ns, k + 1, h, j, hj => by
    have ih := nv_at ns k (by simpa using h) j hj
    have e1 : (k + 1) * 6 + j = (k * 6 + j) + 1 + 1 + 1 + 1 + 1 + 1 := by omega
    rw [e1, nv_cons]
    simp only [List.getElem?_cons_succ, List.getElem_cons_succ]
    exact ih
theorem nv_put : ∀ (ns : List (Nd × Bool)) (k : Nat) (y : Nd) (h : k < ns.length), (((((nv ns).set (k * 6) (.int .u64 (y.W : Int))).set (k * 6 + 1) (.slice y.A y.ch.length y.c)).set (k * 6 + 2) (.int .i64 (y.ks : Int))).set (k * 6 + 3) (.int .u64 (y.le : Int))).set (k * 6 + 4) (.int .u64 (y.gr : Int)) = nv (ns.set k (y, ns[k].2))
  | x :: ns, 0, y, _ => rfl
  | x :: ns, k + 1, y, h => by
    have ih := nv_put ns k y (by simpa using h)
    have e0 : (k + 1) * 6 = (k * 6) + 1 + 1 + 1 + 1 + 1 + 1 := by omega
    have e : ∀ j, (k + 1) * 6 + j = (k * 6 + j) + 1 + 1 + 1 + 1 + 1 + 1 := fun j => by omega
    rw [e 1, e 2, e 3, e 4, e0, nv_cons]
    simp only [List.set_cons_succ, List.getElem_cons_succ]
    rw [nv_cons, ih]
theorem nv_flag : ∀ (ns : List (Nd × Bool)) (k : Nat) (b : Bool) (h : k < ns.length), (nv ns).set (k * 6 + 5) (.bool b) = nv (ns.set k (ns[k].1, b))
  | x :: ns, 0, b, _ => rfl
  | x :: ns, k + 1, b, h => by
    have ih := nv_flag ns k b (by simpa using h)
    have e : (k + 1) * 6 + 5 = (k * 6 + 5) + 1 + 1 + 1 + 1 + 1 + 1 := by omega
    rw [e, nv_cons]
    simp only [List.set_cons_succ, List.getElem_cons_succ]
    rw [nv_cons, ih]
theorem nv_set (ns : List (Nd × Bool)) (k : Nat) (y : Nd) (b : Bool) (h : k < ns.length) : ((((((nv ns).set (k * 6) (.int .u64 (y.W : Int))).set (k * 6 + 1) (.slice y.A y.ch.length y.c)).set (k * 6 + 2) (.int .i64 (y.ks : Int))).set (k * 6 + 3) (.int .u64 (y.le : Int))).set (k * 6 + 4) (.int .u64 (y.gr : Int))).set (k * 6 + 5) (.bool b) = nv (ns.set k (y, b)) := by
  rw [nv_put ns k y h, nv_flag _ k b (by simpa using h)]
  simp
abbrev iw (fs : List Nat) : List Value := fs.map fun i : Nat => Value.int .i64 (i : Int)
/-- Block Q is a pool's struct: its meter, its limit, its places, the freed ones. -/
structure Qo (w : World) (Q M lim : Nat) (An : Option Addr) (cn : Nat) (Af : Option Addr) (cf : Nat) (ns : List (Nd × Bool)) (fs : List Nat) : Prop where
  row : w.heap[Q]? = some (.cells #[.pointer (some ⟨M, 0, none⟩), .int .i64 (lim : Int), .slice An ns.length cn, .slice Af fs.length cf] 75 (0, 0))
  nodes : w.ownsRow 0 114 6 (.slice An ns.length cn) ns.length (nv ns)
  freed : w.ownsRow 0 3 1 (.slice Af fs.length cf) fs.length (iw fs)
  inr : ∀ i ∈ fs, ∃ h : i < ns.length, ns[i].2 = false
  nod : fs.Nodup
  lim_le : lim ≤ 1048576
  ns_le : ns.length ≤ lim
  fs_le : fs.length ≤ ns.length
/-- The blocks of a pool. -/
def QB (Q : Nat) (An Af : Option Addr) (j : Nat) : Prop := j = Q ∨ An.map (·.block) = some j ∨ Af.map (·.block) = some j
section
variable {w w' : World} {Q M lim cn cf : Nat} {An Af : Option Addr} {ns : List (Nd × Bool)} {fs : List Nat}
theorem Qo.c0 (h : Qo w Q M lim An cn Af cf ns fs) : w.cell? ⟨Q, 0, none⟩ = some (.pointer (some ⟨M, 0, none⟩)) := cell_of_row w Q 0 _ _ (0, 0) h.row
theorem Qo.c1 (h : Qo w Q M lim An cn Af cf ns fs) : w.cell? ⟨Q, 1, none⟩ = some (.int .i64 (lim : Int)) := cell_of_row w Q 1 _ _ (0, 0) h.row
theorem Qo.c2 (h : Qo w Q M lim An cn Af cf ns fs) : w.cell? ⟨Q, 2, none⟩ = some (.slice An ns.length cn) := cell_of_row w Q 2 _ _ (0, 0) h.row
theorem Qo.c3 (h : Qo w Q M lim An cn Af cf ns fs) : w.cell? ⟨Q, 3, none⟩ = some (.slice Af fs.length cf) := cell_of_row w Q 3 _ _ (0, 0) h.row
theorem Qo.fr (h : Qo w Q M lim An cn Af cf ns fs) (k : Nat) : w.frozen? ⟨Q, k, none⟩ = false := frozen_of_row w Q k _ _ h.row
theorem Qo.lt (h : Qo w Q M lim An cn Af cf ns fs) : Q < w.heap.size := row_lt h.row
theorem own_block_lt {w : World} {base : Nat} {e : TypeId} {size n c : Nat} {A : Option Addr} {xs : List Value} (h : w.ownsRow base e size (.slice A n c) n xs) {j : Nat} (hj : A.map (·.block) = some j) : j < w.heap.size ∧ ∃ cur, w.heap[j]? = some (.cells cur e (0, 0)) := by
  rcases own_addr h with ⟨rfl, _⟩ | ⟨g, rfl, hg, _, cur, hc⟩
  · cases hj
  · cases hj; exact ⟨hg, cur, hc⟩
theorem Qo.qb (h : Qo w Q M lim An cn Af cf ns fs) {j : Nat} (hj : QB Q An Af j) : j < w.heap.size := by
  rcases hj with rfl | hj | hj
  · exact h.lt
  · exact (own_block_lt h.nodes hj).1
  · exact (own_block_lt h.freed hj).1
theorem own_of_map {A : Option Addr} {n c k : Nat} (h : (Value.slice A n c).ownBlock = some k) : A.map (·.block) = some k := by
  cases A with
  | none => simp [Value.ownBlock] at h
  | some a => simpa [Value.ownBlock] using h
theorem Qo.chg {O : Nat → Prop} (h : Qo w Q M lim An cn Af cf ns fs) (b : K.Chg w w' O) (hO : ∀ j, QB Q An Af j → ¬ O j) : Qo w' Q M lim An cn Af cf ns fs :=
  ⟨(b.block Q h.lt (hO Q (.inl rfl))).trans h.row, b.own h.nodes (fun k hk => hO k (.inr (.inl (own_of_map hk)))), b.own h.freed (fun k hk => hO k (.inr (.inr (own_of_map hk)))), h.inr, h.nod, h.lim_le, h.ns_le, h.fs_le⟩
theorem Qo.drew (h : Qo w Q M lim An cn Af cf ns fs) (n : Nat) : Qo (w.drewN n) Q M lim An cn Af cf ns fs := ⟨h.row, h.nodes, h.freed, h.inr, h.nod, h.lim_le, h.ns_le, h.fs_le⟩
/-- The blocks lie apart: their types are unlike. -/
theorem Qo.ne_nodes (h : Qo w Q M lim An cn Af cf ns fs) {g : Nat} (hg : An.map (·.block) = some g) : g ≠ Q := by
  obtain ⟨_, cur, hc⟩ := own_block_lt h.nodes hg
  exact row_ne hc h.row (by decide)
theorem Qo.ne_freed (h : Qo w Q M lim An cn Af cf ns fs) {g : Nat} (hg : Af.map (·.block) = some g) : g ≠ Q := by
  obtain ⟨_, cur, hc⟩ := own_block_lt h.freed hg
  exact row_ne hc h.row (by decide)
theorem Qo.ne_both (h : Qo w Q M lim An cn Af cf ns fs) {g f : Nat} (hg : An.map (·.block) = some g) (hf : Af.map (·.block) = some f) : g ≠ f := by
  obtain ⟨_, cur, hc⟩ := own_block_lt h.nodes hg
  obtain ⟨_, cur', hc'⟩ := own_block_lt h.freed hf
  exact row_ne hc hc' (by decide)
/-- Place i, where it lies. -/
theorem Qo.at (h : Qo w Q M lim An cn Af cf ns fs) {i : Nat} (hi : i < ns.length) : ∃ g, An = some ⟨g, 0, none⟩ ∧ w.cell? ⟨g, i * 6, none⟩ = some (.int .u64 (ns[i].1.W : Int)) ∧ w.cell? ⟨g, i * 6 + 1, none⟩ = some (.slice ns[i].1.A ns[i].1.ch.length ns[i].1.c) ∧ w.cell? ⟨g, i * 6 + 2, none⟩ = some (.int .i64 (ns[i].1.ks : Int)) ∧ w.cell? ⟨g, i * 6 + 3, none⟩ = some (.int .u64 (ns[i].1.le : Int)) ∧ w.cell? ⟨g, i * 6 + 4, none⟩ = some (.int .u64 (ns[i].1.gr : Int)) ∧ w.cell? ⟨g, i * 6 + 5, none⟩ = some (.bool ns[i].2) ∧ ∀ k, w.frozen? ⟨g, k, none⟩ = false := by
  obtain ⟨g, rfl⟩ := own_some h.nodes (by omega)
  have e : ∀ j, j < 6 → w.cell? ⟨g, i * 6 + j, none⟩ = (ncl ns[i])[j]? := fun j hj => (h.nodes.cellAt (i * 6 + j) (by omega)).trans (nv_at ns i hi j hj)
  exact ⟨g, rfl, e 0 (by decide), e 1 (by decide), e 2 (by decide), e 3 (by decide), e 4 (by decide), e 5 (by decide), fun k => h.nodes.frozenAt k⟩
end
section
variable (w : World) (Q M lim cn cf : Nat) (An Af : Option Addr) (ns : List (Nd × Bool)) (fs : List Nat)
theorem q_len (a : Qo w Q M lim An cn Af cf ns fs) :
    Calls Tryd.prog 42 #[.pointer (some ⟨Q, 0, none⟩)] w fun e w' => e = .returned (.int .i64 ((ns.length - fs.length : Nat) : Int)) ∧ ∃ n, w' = w.drewN n := by
  have hc2 := a.c2
  have hc3 := a.c3
  have h1 := a.ns_le
  have h3 := a.lim_le
  have h2 := a.fs_le
  clear a
  generalize ns.length = n at *
  generalize fs.length = m at *
  have ws : IntKind.i64.wrap ((n : Int) - (m : Int)) = (n : Int) - (m : Int) := IntWalk.i64_in _ (by omega)
  go_enter Tryd.func42, Tryd.ntmps42
  go_wp2
  go_quiet (fail)
  go_wp2
  refine bodyPost_ret (results_tmp (t := 2) rfl _ _ _) rfl ?_
  exact ⟨ret_int (by omega), _, rfl⟩
theorem q_limit (a : Qo w Q M lim An cn Af cf ns fs) : Calls Tryd.prog 44 #[.pointer (some ⟨Q, 0, none⟩)] w fun e w' => e = .returned (.int .i64 (lim : Int)) ∧ w = w' := by
  have hc1 := a.c1
  clear a
  go_enter Tryd.func44, Tryd.ntmps44
  go_wp2
  go_ret
  exact ⟨rfl, rfl⟩
theorem q_room (a : Qo w Q M lim An cn Af cf ns fs) (k : Int) :
    Calls Tryd.prog 49 #[.pointer (some ⟨Q, 0, none⟩), .int .i64 k] w fun e w' => e = .returned (.bool (decide (k ≤ (lim : Int) - ((ns.length - fs.length : Nat) : Int)))) ∧ ∃ n, w' = w.drewN n := by
  have hc1 := a.c1
  have hl := fun N => Lib.hid (q_len (w.drewN N) Q M lim cn cf An Af ns fs (a.drew N))
  have h1 := a.ns_le
  have h3 := a.lim_le
  clear a
  have h2 : ns.length - fs.length ≤ 1048576 := by omega
  generalize ns.length - fs.length = n at *
  have ws : IntKind.i64.wrap ((lim : Int) - (n : Int)) = (lim : Int) - (n : Int) := IntWalk.i64_in _ (by omega)
  go_enter Tryd.func49, Tryd.ntmps49
  go_wp2
  go_quiet ((go_at_call 42; exact Calls.quiet_of (hl _).out))
  go_wp2
  go_ret
  exact ⟨rfl, _, rfl⟩
/-- Is place i taken? -/
def lvq (ns : List (Nd × Bool)) (i : Int) : Bool := decide (0 ≤ i) && ((ns[i.toNat]?).map (·.2)).getD false
theorem q_live (a : Qo w Q M lim An cn Af cf ns fs) (i : Int) :
    Calls Tryd.prog 83 #[.pointer (some ⟨Q, 0, none⟩), .int .i64 i] w fun e w' => e = .returned (.bool (lvq ns i)) ∧ w = w' := by
  have hc2 := a.c2
  have hle := a.ns_le
  have hle2 := a.lim_le
  by_cases h0 : 0 ≤ i
  · obtain ⟨k, rfl⟩ : ∃ k : Nat, i = (k : Int) := ⟨i.toNat, by omega⟩
    have g0 : decide (0 ≤ (k : Int)) = true := decide_eq_true h0
    by_cases hk : k < ns.length
    · obtain ⟨g, rfl, _, _, _, _, _, ha, _⟩ := a.at hk
      have hr : Hid (lvq ns (k : Int) = ns[k].2) := by
        show lvq ns (k : Int) = _
        unfold lvq
        simp [hk]
      have g1 : decide ((k : Int) < (ns.length : Int)) = true := decide_eq_true (by omega)
      have k1 : (k : Int) < (ns.length : Int) := by omega
      have k2 : (k : Int).toNat = k := by omega
      clear a
      generalize ns[k].2 = b at *
      go_enter Tryd.func83, Tryd.ntmps83
      go_wp2
      go_ret
      exact ⟨ret_bool hr.out.symm, rfl⟩
    · have hr : Hid (lvq ns (k : Int) = false) := by
        show lvq ns (k : Int) = _
        unfold lvq
        rw [Int.toNat_natCast, List.getElem?_eq_none (by omega)]
        simp
      have g1 : decide ((k : Int) < (ns.length : Int)) = false := decide_eq_false (by omega)
      clear a
      generalize ns.length = n at *
      go_enter Tryd.func83, Tryd.ntmps83
      go_wp2
      go_ret
      exact ⟨ret_bool hr.out.symm, rfl⟩
  · have g0 : decide (0 ≤ i) = false := decide_eq_false h0
    have hr : Hid (lvq ns i = false) := by
      show lvq ns i = _
      unfold lvq
      rw [g0]; rfl
    clear a
    go_enter Tryd.func83, Tryd.ntmps83
    go_wp2
    go_ret
    exact ⟨ret_bool hr.out.symm, rfl⟩
theorem lvq_yes {ns : List (Nd × Bool)} {k : Nat} (hk : k < ns.length) (ht : ns[k].2 = true) : lvq ns (k : Int) = true := by
  unfold lvq
  simp [hk, ht]
end
end Go.Proofs.YtndielncleohlaaDoor
