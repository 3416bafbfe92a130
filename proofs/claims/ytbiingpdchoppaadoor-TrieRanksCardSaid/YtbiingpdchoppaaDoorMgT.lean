/- A region that draws its order and only reads, within a round of a range over a function: walked as outside one. above and below: the next key and the last one by the way; the texts walked. slices.Backward over a way, with the order of the levels told ahead of each round. -/
import Derived.Sort.QuietIn
import Derived.OwnWalkIn
import Derived.Shelf.RegionOpen
import Derived.Test.YtbiingpdchoppaaDoorMxU11
import Derived.Test.YtbiingpdchoppaaDoorMxU12
import Derived.Test.YtbiingpdchoppaaDoorMgJ
import Derived.Test.YtbiingpdchoppaaDoorMgP
section
namespace Go.Proofs.YtbiingpdchoppaaDoor
open Go.RowKit
section
variable {F : Fence} {n : Nat} {P : Program}
def noDefer (ops : Array Oper) : Bool := ops.toList.all fun o => match o.op with | .defer _ => false | _ => true
theorem noDefer_at {ops : Array Oper} (h : noDefer ops = true) {i : Nat} {o : Oper} (ho : ops[i]? = some o) (c : Call) : o.op ≠ .defer c := by
  intro e
  have := List.all_eq_true.1 h o (by
    obtain ⟨hi, hio⟩ := Array.getElem?_eq_some_iff.1 ho
    rw [← hio]; exact Array.getElem_mem_toList hi)
  rw [e] at this
  simp at this
theorem upon_round (l : Nat) (o : Oper) (a : Act) (K : Act → World → Prop) (Q : Exit → Act → World → Prop) (r : Result Next) (h : o.uponIn F n P a K Q r) : o.uponIn (F.inRound l) n P a K Q r := h
theorem wpOpIn_round {ops : Array Oper} {Q : Exit → Act → World → Prop} (l : Nat) (hd : noDefer ops = true) {i : Nat} {K : Act → World → Prop} {a : Act} {w : World} (h : wpOpIn F n P ops Q i K a w) : wpOpIn (F.inRound l) n P ops Q i K a w := by
  unfold wpOpIn at h ⊢
  cases ho : ops[i]? with
  | none => simp only [ho] at h ⊢; exact h
  | some o =>
    simp only [ho] at h ⊢
    by_cases hw : Region.wanted o (yielded ops a.tmps) = true
    · rw [if_pos hw] at h ⊢
      unfold Oper.wpIn at h ⊢
      rw [Oper.semAt_plain F _ _ (noDefer_at hd ho)] at h
      rw [Oper.semAt_plain (F.inRound l) _ _ (noDefer_at hd ho)]
      exact ⟨h.1, upon_round l o a K Q _ h.2⟩
    · rw [if_neg hw] at h ⊢
      exact h
theorem wpAnyIn_round {ops : Array Oper} {md : Region.Mode} {Q : Exit → Act → World → Prop} (l : Nat) (hd : noDefer ops = true) : ∀ (fuel : Nat) (listed : Array Bool) (a : Act) (w : World), wpAnyIn F n P md ops Q fuel listed a w → wpAnyIn (F.inRound l) n P md ops Q fuel listed a w
  | 0, _, _, _, h => h
  | fuel + 1, _, _, _, h => ⟨h.1, fun i hi => wpOpIn_round l hd (wpOpIn_mono (fun _ _ h => wpAnyIn_round l hd fuel _ _ _ h) (h.2 i hi))⟩
theorem wpIn_region_quiet_round {id : Nat} {Q : Exit → Act → World → Prop} {a : Act} {w : World} {ls : List Oper} {l : Nat} (hro : F.round = none) (hm : P.follows .mixedOrders = true) (hB : Region.lexB .any ls.toArray = true) (hd : noDefer ls.toArray = true)
    (h : wpQuietIn F n P ls.toArray (fun w' => ∃ n, w' = w.drewN n) (fun a' => ∀ w', (∃ n, w' = w.drewN n) → Q .normal a' w') ls a) : (Code.region id ls.toArray true).wpIn (F.inRound l) n P Q a w := by
  have hB' := hB
  simp only [Region.lexB, Bool.and_eq_true] at hB'
  refine wpIn_region_any hm (wpAnyIn_round l hd _ _ _ _ (wpAnyIn_of_quiet (C := fun w' => ∃ n, w' = w.drewN n) (Q := fun a' => ∀ w', (∃ n, w' = w.drewN n) → Q .normal a' w') hro (fun _ w' hw' h => h w' hw') _ _ _ _ ⟨1, rfl⟩ ?_))
  have := wpAnyQIn_lex (F := F) (n := n) (C := fun w' => ∃ n, w' = w.drewN n) (md := .any) hB'.1 ls.toArray.toList 0 (Array.replicate ls.toArray.size false) a (by simp) (by simpa using hB'.2) (by simpa using h)
  simpa using this
end
end Go.Proofs.YtbiingpdchoppaaDoor
end
section
namespace Go.Proofs.YtbiingpdchoppaaDoor
set_option maxRecDepth 40000
open Go.RowKit Go.Shelf
attribute [local go_sem] Oper.semAt_some
theorem wide_fn (f : FuncId) : Fence.wide.fn f := trivial
attribute [local simp] wide_fn
theorem ownFrom_chg {β : Type} {B : Nat} {O : Nat → Prop} {w0 : World} (hB : w0.heap.size ≤ B) : OwnFrom B (fun (_ : β) W => K.Chg w0 W O) :=
  fun _ _ _ _ hs hg hr => hs.grown hg (fun j e => .inr (Nat.le_trans hB (hr j e).1))
theorem keepsFrom_chg {B : Nat} {W W' : World} {O : Nat → Prop} (h : K.Chg W W' O) (hO : ∀ j, O j → j < B) : KeepsFrom B W W' :=
  ⟨h.size, fun k _ _ h0 _ => (h.block k (row_lt h0) (fun e => by have := hO k e; omega)).trans h0⟩
theorem kpB_chg {Bn : Nat} {Aw : Option Addr} {W W' : World} {O : Nat → Prop} (h : K.Chg W W' O) (hb : Bn < W.heap.size) (hn : ¬ O Bn) (hA : ∀ g, Aw.map (·.block) = some g → g < W.heap.size ∧ ¬ O g) : KpB Bn Aw W W' :=
  ⟨h.block Bn hb hn, fun g hg => h.block g (hA g hg).1 (hA g hg).2, h.size⟩
theorem near_set {n : Nat} {w2 : World} {u v : Value} (q2 : w2.heap[n + 2]? = some (.cells #[u] 30 (0, 0))) (q3 : w2.heap[n + 3]? = some (.cells #[v] 4 (0, 0))) (a b : Value) :
    ((w2.setCell ⟨n + 2, 0, none⟩ a).setCell ⟨n + 3, 0, none⟩ b).heap[n + 2]? = some (.cells #[a] 30 (0, 0)) ∧ ((w2.setCell ⟨n + 2, 0, none⟩ a).setCell ⟨n + 3, 0, none⟩ b).heap[n + 3]? = some (.cells #[b] 4 (0, 0)) ∧ K.Chg w2 ((w2.setCell ⟨n + 2, 0, none⟩ a).setCell ⟨n + 3, 0, none⟩ b) (fun j => j = n + 2 ∨ j = n + 3) := by
  have c1 := chg_set w2 (n + 2) 0 a (fun j => j = n + 2) rfl
  have c2 := chg_set (w2.setCell ⟨n + 2, 0, none⟩ a) (n + 3) 0 b (fun j => j = n + 3) rfl
  have s2 := row_set q2 0 a
  have s3 := row_set ((c1.block (n + 3) (row_lt q3) (by omega)).trans q3) 0 b
  simp only [List.setIfInBounds_toArray, List.set_cons_zero] at s2 s3
  exact ⟨(c2.block (n + 2) (row_lt s2) (by omega)).trans s2, s3, (c1.mono (O' := fun j => j = n + 2 ∨ j = n + 3) (fun _ h => .inl h)).same (c2.mono (fun _ h => .inr h))⟩
theorem before_mem {m l l' : Nat} {q : List Nat} (h : q ++ [l] <+: (List.range m).reverse) (h1 : l < l') (h2 : l' < m) : l' ∈ q := by
  obtain ⟨t, ht⟩ := h
  have hp : (List.range m).reverse.Pairwise (· > ·) := List.pairwise_reverse.2 List.pairwise_lt_range
  have hm : l' ∈ (List.range m).reverse := by simpa using h2
  rw [← ht] at hp hm
  rcases List.mem_append.1 hm with h3 | h3
  · rcases List.mem_append.1 h3 with h4 | h4
    · exact h4
    · simp at h4; omega
  · have := (List.pairwise_append.1 hp).2.2 l (by simp) l' h3
    omega
/-- What a look beside a key answers. -/
def NearP (w : World) (m0 tk : Nat) (R : Nat → Bool → Prop) (e : Ending) (w' : World) : Prop :=
  ∃ (y : Nat) (b : Bool) (tk' : Nat), e = .returned (.tuple #[.int .u64 (y : Int), .bool b]) ∧ R y b ∧ tk' ≤ tk + 1 ∧ Mx w' m0 tk' ∧ K.Chg w w' (· = m0)
def T.Ab (xs : List Nat) (k y : Nat) (b : Bool) : Prop := (b = true ∧ y ∈ xs ∧ k < y ∧ ∀ x ∈ xs, k < x → y ≤ x) ∨ (b = false ∧ y = 0 ∧ ∀ x ∈ xs, x ≤ k)
def T.Be (xs : List Nat) (k y : Nat) (b : Bool) : Prop := (b = true ∧ y ∈ xs ∧ y < k ∧ ∀ x ∈ xs, x < k → x ≤ y) ∨ (b = false ∧ y = 0 ∧ ∀ x ∈ xs, k ≤ x)
/-- What stands when a look goes on. -/
abbrev AbI (W0 : World) (N : Nat → Prop) (pre : List Nat) (W : World) : Prop := K.Chg W0 W (fun _ => False) ∧ ∀ l ∈ pre, N l
abbrev AbX (W0 : World) (n m0 tk : Nat) (R : Nat → Prop) (c : Code) (_ : List Nat) (W : World) : Prop :=
  c = .ret ∧ ∃ (y tk' : Nat), R y ∧ tk' ≤ tk + 1 ∧ Mx W m0 tk' ∧ W.heap[n + 2]? = some (.cells #[.int .u64 (y : Int)] 30 (0, 0)) ∧ W.heap[n + 3]? = some (.cells #[.bool true] 4 (0, 0)) ∧ K.Chg W0 W (fun j => j = m0 ∨ j = n + 2 ∨ j = n + 3)
theorem five_rows (w : World) (a b c d e : Obj) : (((((w.alloc a).alloc b).alloc c).alloc d).alloc e).heap.size = w.heap.size + 5 ∧ (((((w.alloc a).alloc b).alloc c).alloc d).alloc e).heap[w.heap.size]? = some a ∧ (((((w.alloc a).alloc b).alloc c).alloc d).alloc e).heap[w.heap.size + 1]? = some b ∧ (((((w.alloc a).alloc b).alloc c).alloc d).alloc e).heap[w.heap.size + 2]? = some c ∧ (((((w.alloc a).alloc b).alloc c).alloc d).alloc e).heap[w.heap.size + 3]? = some d ∧ (((((w.alloc a).alloc b).alloc c).alloc d).alloc e).heap[w.heap.size + 4]? = some e ∧ K.Chg w (((((w.alloc a).alloc b).alloc c).alloc d).alloc e) (fun _ => False) := by
  have c1 := chg_alloc w a (fun _ => False)
  have c2 := chg_alloc (w.alloc a) b (fun _ => False)
  have c3 := chg_alloc ((w.alloc a).alloc b) c (fun _ => False)
  have c4 := chg_alloc (((w.alloc a).alloc b).alloc c) d (fun _ => False)
  have c5 := chg_alloc ((((w.alloc a).alloc b).alloc c).alloc d) e (fun _ => False)
  have t1 := K.alloc_top w a
  have t2 := K.alloc_top (w.alloc a) b
  have t3 := K.alloc_top ((w.alloc a).alloc b) c
  have t4 := K.alloc_top (((w.alloc a).alloc b).alloc c) d
  have t5 := K.alloc_top ((((w.alloc a).alloc b).alloc c).alloc d) e
  simp only [World.size_alloc, Nat.add_assoc, Nat.reduceAdd] at t2 t3 t4 t5
  refine ⟨by simp, ((((c2.same c3).same c4).same c5).block _ (by simp) (fun h => h)).trans t1, (((c3.same c4).same c5).block _ (by simp) (fun h => h)).trans t2, ((c4.same c5).block _ (by simp) (fun h => h)).trans t3, (c5.block _ (by simp) (fun h => h)).trans t4, t5, (((c1.same c2).same c3).same c4).same c5⟩
section
variable (w : World) (P Q m0 lim tk root cn cf : Nat) (An Af : Option Addr) (ns : List (Nd × Bool)) (fs xs : List Nat) (pl : Nat → Nat → Nat)
theorem t_ends (h : TW w P Q m0 lim tk An cn Af cf ns fs root pl xs) (htk : tk < 100000) (l p d : Nat) (hl : l < 11) (hp : T.prs xs l p) (hd : d ∈ M.bl (nat ns (pl l p)).W) :
    Calls Tryd.prog 78 #[.pointer (some ⟨P, 0, none⟩), ndv (nat ns (pl l p)).W (nat ns (pl l p)).A (nat ns (pl l p)).ch.length (nat ns (pl l p)).c (nat ns (pl l p)).ks (nat ns (pl l p)).le (nat ns (pl l p)).gr, .int .i64 (l : Int), .int .i64 (d : Int)] w (EndsP w m0 tk (T.sub xs (l + 1) (p * 64 + d))) := by
  obtain ⟨hi, hn, hok⟩ := h.node hl hp
  have hown := h.kids.own _ hi
  rw [hn] at hown
  by_cases h10 : l < 10
  · exact t_ends_in w P Q m0 lim tk root cn cf An Af ns fs xs pl h htk l p _ _ _ _ _ _ _ d h10 hok hd hown
  · obtain rfl : l = 10 := by omega
    exact t_ends_last w P Q m0 lim tk root cn cf An Af ns fs xs pl h p _ _ _ _ _ _ _ d hok hd
theorem near_fin (R : Nat → Bool → Prop) {W0 V : World} {y tk' D : Nat} {b : Bool} (hsz : W0.heap.size = w.heap.size + 5) (hC0 : K.Chg w W0 (fun _ => False)) (hml : m0 < w.heap.size) (hD : W0.heap.size ≤ D) (hlt : D < V.heap.size) (hx : Mx V m0 tk') (h2 : V.heap[w.heap.size + 2]? = some (.cells #[.int .u64 (y : Int)] 30 (0, 0))) (h3 : V.heap[w.heap.size + 3]? = some (.cells #[.bool b] 4 (0, 0))) (hC : K.Chg W0 V (fun j => j = m0 ∨ j = w.heap.size + 2 ∨ j = w.heap.size + 3)) (hR : R y b) (ht : tk' ≤ tk + 1) :
    (V.putObj D (.deferred none)).cell? ⟨w.heap.size + 1 + 1, 0, none⟩ = some (.int .u64 (y : Int)) ∧ (V.putObj D (.deferred none)).cell? ⟨w.heap.size + 1 + 1 + 1, 0, none⟩ = some (.bool b) ∧ NearP w m0 tk R (.returned (.tuple #[.int .u64 (y : Int), .bool b])) (V.putObj D (.deferred none)) := by
  have hg := grownBy_putObj' V D (.deferred none)
  have hc : K.Chg V (V.putObj D (.deferred none)) (fun j => j = D) := (chg_refl V _).grown hg (fun j e => .inl (by cases e; rfl))
  have hs := hC.size
  refine ⟨?_, ?_, y, b, tk', rfl, hR, ht, hx.chg hc (by omega), ?_⟩
  · have := (hc.block (w.heap.size + 2) (by omega) (by omega)).trans h2
    simpa using cell_of_row _ _ 0 _ _ (0, 0) this
  · have := (hc.block (w.heap.size + 3) (by omega) (by omega)).trans h3
    simpa using cell_of_row _ _ 0 _ _ (0, 0) this
  · refine ((hC0.mono (O' := fun j => j = m0) (fun _ h => h.elim)).trans hC (fun j hj => ?_)).trans hc (fun j hj => .inr (by omega))
    rcases hj with h | h | h
    · exact .inl h
    · exact .inr (by omega)
    · exact .inr (by omega)
set_option maxRecDepth 100000 in
set_option maxHeartbeats 4000000 in
theorem t_above (h : TW w P Q m0 lim tk An cn Af cf ns fs root pl xs) (htk : tk < 100000) (hT : Tab w) (k : Nat) (hk : k < 18446744073709551616) (m cw : Nat) (Aw : Option Addr) (hm : T.wl xs k = m) (hw : w.ownsRow 0 99 6 (.slice Aw m cw) m (sv (wst ns pl k m))) :
    Calls Tryd.prog 54 #[.pointer (some ⟨P, 0, none⟩), .int .u64 (k : Int), .slice Aw m cw] w (NearP w m0 tk (T.Ab xs k)) := by
  have hm11 : m ≤ 11 := by rw [← hm]; exact T.wl_le xs k
  refine (callsIn_wide (n := 9)).1 ?_
  refine callsIn_of_wp_marks Tryd.func54 rfl trivial ?_ rfl
  simp only [Tryd.ntmps54, List.size_toArray, List.length_cons, List.length_nil, Nat.reduceAdd, Nat.reduceSub, Array.replicate_succ, Array.replicate_zero, List.push_toArray, List.append_toArray, List.nil_append, List.cons_append]
  gi_wp2_with (gi_at_call 74; refine (callsIn_wide.2 (backward_any _ _ Aw m cw rfl)).mono ?_; rintro e w' ⟨rfl, rfl⟩)
  obtain ⟨hsz, r0, r1, r2, r3, r4, hC0⟩ := five_rows w (.cells #[.pointer (some ⟨P, 0, none⟩)] 25) (.cells #[.int .u64 (k : Int)] 30) (.cells #[.int .u64 0] 30) (.cells #[.bool false] 4) (.cells #[.slice Aw m cw] 83)
  generalize hW0 : (((((w.alloc (.cells #[.pointer (some ⟨P, 0, none⟩)] 25)).alloc (.cells #[.int .u64 (k : Int)] 30)).alloc (.cells #[.int .u64 0] 30)).alloc (.cells #[.bool false] 4)).alloc (.cells #[.slice Aw m cw] 83)) = W0 at *
  clear hW0
  obtain ⟨ss, hss⟩ : ∃ ss, wst ns pl k m = ss := ⟨_, rfl⟩
  have hsl : ss.length = m := by rw [← hss]; exact wst_len ns pl k m
  have hAw : ∀ g, Aw.map (·.block) = some g → g < w.heap.size ∧ g ≠ m0 := by
    intro g hg
    rcases own_addr hw with ⟨rfl, _⟩ | ⟨g', rfl, hlt, _, cur, hrow⟩
    · cases hg
    · cases hg
      obtain ⟨_, _, _, _, hmr⟩ := h.mx
      exact ⟨hlt, row_ne hrow hmr (by decide)⟩
  have hml := h.mx.lt
  have hpm : ∀ l', l' < 11 → T.prs xs l' (T.pre l' k) → l' < m := by
    intro l' h1 hpl
    rcases Nat.lt_or_ge l' m with h2 | h2
    · exact h2
    · rw [← hm] at h2
      exact absurd (T.prs_le h2 (by omega) hpl) (T.wl_no (xs := xs) (k := k) (by omega))
  have hwy : WyR W0 (w.heap.size + 4) Aw cw ss := ⟨by rw [hsl]; exact r4, by rw [hsl, ← hss]; exact hC0.own hw (fun _ _ h => h)⟩
  have hT0 : Tab W0 := fun j hj => (hC0.cell hT.pos (fun h => h) j).trans (hT j hj)
  refine wpIn_rangeFunc_ownH rfl (by decide) (gf := 91) (lb := #[.pointer (some ⟨w.heap.size + 4, 0, none⟩)]) rfl trivial (enters_of Tryd.func91 (by kernel_rfl) rfl)
    (backward_stops 8 (by decide) (w.heap.size + 4) cw Aw ss (by omega) W0 hwy) (fun h k => h.trans k) (fun W l o o' hl hlo hc hw => by
      refine ⟨?_, fun g hg => ?_, by show W.heap.size ≤ (W.heap.setIfInBounds _ _).size; simp⟩
      · exact (grownBy_putObj' W l o').block _ (by have := row_lt hlo; omega) (fun e => by cases e; omega)
      · exact (grownBy_putObj' W l o').block _ (by have := row_lt hlo; have := hAw g hg; omega) (fun e => by have := hAw g hg; cases e; omega)) (Below.refl _ _) (fun _ => rfl)
    (fun pre W => AbI W0 (fun l => ∀ e ∈ T.dgs xs l (T.pre l k), e ≤ T.dig l k) (pre.map Fin.val) W)
    (fun c pre W => AbX W0 w.heap.size m0 tk (fun y => ∃ (q : List (Fin ss.length)) (l : Fin ss.length) (d : Nat), pre = q ++ [l] ∧ (∀ l' ∈ q, ∀ e ∈ T.dgs xs l'.val (T.pre l'.val k), e ≤ T.dig l'.val k) ∧ d ∈ T.dgs xs l.val (T.pre l.val k) ∧ T.dig l.val k < d ∧ (∀ e ∈ T.dgs xs l.val (T.pre l.val k), T.dig l.val k < e → d ≤ e) ∧ (T.sub xs (l.val + 1) (T.pre l.val k * 64 + d)).head? = some y) c [] W)
    (OwnFrom.and (ownFrom_chg (Nat.le_refl _)) (ownFrom_pure _ _))
    (fun c => ?hIx)
    ⟨chg_refl _ _, by simp⟩
    (fun y a' W => ∃ Bx, W0.heap.size ≤ Bx ∧ W.heap[Bx]? = some (.cells (scl ss[y.val]).toArray 99 (0, 0)) ∧ a' = { tmps := #[.pointer (some ⟨P, 0, none⟩), .int .u64 (k : Int), .slice Aw m cw, .pointer (some ⟨w.heap.size, 0, none⟩), .pointer (some ⟨w.heap.size + 1, 0, none⟩), undef, .pointer (some ⟨w.heap.size + 2, 0, none⟩), .pointer (some ⟨w.heap.size + 3, 0, none⟩), .int .i64 (y.val : Int), .pointer (some ⟨Bx, 0, none⟩), undef, undef, undef, .slice Aw m cw, .func (.func 91) #[] #[.pointer (some ⟨w.heap.size + 4, 0, none⟩)], .int .i64 (y.val : Int), stv ss[y.val], undef, undef, undef, undef, undef, undef, undef, undef, undef, undef, undef, undef, undef, undef, undef, undef, undef, undef, undef, undef], defers := [] })
    (fun y a' _ X Y row hs hg hr => by
      obtain ⟨Bx, e1, e2, e3⟩ := hs
      exact ⟨Bx, e1, (hg.block Bx (row_lt e2) (fun e => by obtain ⟨_, o, ho, hc⟩ := hr Bx e.symm; rw [e2] at ho; cases ho; cases hc)).trans e2, e3⟩)
    ?assign ?body ?done ?stop
  case hIx =>
    rintro pre X Y row ⟨hc, y, tk', h1, h2, h3, h4, h5, h6⟩ hg hr
    have hnr : ∀ j, j < W0.heap.size → row ≠ some j := fun j hj e => by have := (hr j e).1; omega
    have hsX := h6.size
    have hg' : K.Chg X Y (fun j => row = some j) := (chg_refl X _).grown hg (fun j e => .inl e)
    exact ⟨hc, y, tk', h1, h2, h3.chg hg' (hnr m0 (by omega)), (hg'.block _ (by omega) (hnr _ (by omega))).trans h4, (hg'.block _ (by omega) (hnr _ (by omega))).trans h5, h6.grown hg (fun j e => .inr (hr j e).1)⟩
  case assign =>
    rintro l pre y W K0 ⟨hI, hN⟩ hK
    have hbe : ben ss y.val = #[.int .i64 (y.val : Int), stv ss[y.val]] := by
      unfold ben
      rw [List.getElem?_eq_getElem y.isLt]
      rfl
    rw [hbe]
    have HK := Lib.hid hK
    have HN := Lib.hid hN
    have HI := Lib.hid hI
    clear hK hN hI hbe
    gi_wp2
    have hml := hml
    have hsW := HI.out.size
    have ha := chg_alloc W (.cells #[.int .u64 (ss[y.val].1.W : Int), .slice ss[y.val].1.A ss[y.val].1.ch.length ss[y.val].1.c, .int .i64 (ss[y.val].1.ks : Int), .int .u64 (ss[y.val].1.le : Int), .int .u64 (ss[y.val].1.gr : Int), .int .i64 (ss[y.val].2 : Int)] 99) (fun _ => False)
    exact HK.out _ _ ((KeepsOthers.alloc _ _).from _) (kpB_chg ha (by omega) (fun h => h) (fun g hg => ⟨by have := hAw g hg; omega, fun h => h⟩)) ⟨HI.out.same ha, HN.out⟩ ⟨W.heap.size, hsW, K.alloc_top W _, rfl⟩
  case body =>
    rintro l pre y a' W hl ⟨r, hr⟩ ⟨hI, hN⟩ ⟨Bx, hBx, hbx, rfl⟩ hlt
    have hym : y.val < m := by have := y.isLt; omega
    have hst : ss[y.val] = (nat ns (pl y.val (T.pre y.val k)), pl y.val (T.pre y.val k)) := by
      subst hss
      exact wst_at _ _ _ _ _ _
    have hp : T.prs xs y.val (T.pre y.val k) := T.wl_yes (by omega)
    obtain ⟨_, _, hok⟩ := h.node (by omega) hp
    have hIw := hC0.same hI
    have hTW := h.chg hIw (fun _ _ h => h)
    have hd : ∀ mm, Hid (Calls Tryd.prog 64 #[.int .u64 (k : Int), .int .i64 (y.val : Int)] (W.drewN mm) fun e w' => e = .returned (.int .i64 ((T.dig y.val k : Nat) : Int)) ∧ ∃ n, w' = W.drewN n) := fun mm => (t_digit (W.drewN mm) k y.val hk (by omega)).mono (by rintro e w' ⟨rfl, rfl⟩; exact ⟨rfl, _, rfl⟩)
    have hTW0 : Tab W := fun j hj => (hI.cell hT0.pos (fun h => h) j).trans (hT0 j hj)
    have hnx : ∀ mm, Hid (Calls Tryd.prog 77 #[.int .u64 ((nat ns (pl y.val (T.pre y.val k))).W : Int), .int .i64 ((T.dig y.val k : Int) + 1)] (W.drewN mm) fun e w' => e = .returned (.int .i64 (M.rNext (M.bz (nat ns (pl y.val (T.pre y.val k))).W) ((T.dig y.val k : Int) + 1))) ∧ ∃ n, w' = W.drewN n) := fun mm => (bit_next _ hok.wlt _ (W.drewN mm) hTW0).mono (by rintro e w' ⟨rfl, n, rfl⟩; exact ⟨rfl, mm + n, by simp [World.drewN, Nat.add_assoc]⟩)
    have hends := fun d hd V (hc : K.Chg w V (fun _ => False)) => Lib.hid (t_ends V P Q m0 lim tk root cn cf An Af ns fs xs pl (h.chg hc (fun _ _ h => h)) htk y.val (T.pre y.val k) d (by omega) hp hd)
    have hcs := T.next_cases (nat ns (pl y.val (T.pre y.val k))).W (T.dig y.val k)
    have hdl := T.dig_lt y.val k
    rw [hok.bits] at hcs
    have hbits := Lib.hid hok.bits
    rw [hst] at hbx
    generalize nat ns (pl y.val (T.pre y.val k)) = nd at *
    generalize hqq : T.dig y.val k = dg at *
    have wq : IntKind.i64.wrap ((dg : Int) + 1) = (dg : Int) + 1 := IntWalk.i64_in _ (by omega)
    have x0 := cell_of_row W Bx 0 _ _ (0, 0) hbx
    have x1 := cell_of_row W Bx 1 _ _ (0, 0) hbx
    have x2 := cell_of_row W Bx 2 _ _ (0, 0) hbx
    have x3 := cell_of_row W Bx 3 _ _ (0, 0) hbx
    have x4 := cell_of_row W Bx 4 _ _ (0, 0) hbx
    have kk := cell_of_row W (w.heap.size + 1) 0 _ _ (0, 0) ((hI.block (w.heap.size + 1) (by omega) (fun h => h)).trans r1)
    have kp := cell_of_row W w.heap.size 0 _ _ (0, 0) ((hI.block w.heap.size (by omega) (fun h => h)).trans r0)
    simp [scl] at x0 x1 x2 x3 x4 kk kp
    have HN := Lib.hid hN
    have HI := Lib.hid hI
    have HIW := Lib.hid hIw
    have HR2 := Lib.hid r2
    have HR3 := Lib.hid r3
    have HSZ := Lib.hid hsz
    have HML := Lib.hid hml
    have HH := Lib.hid h
    have hi0 := hI.size
    clear hN hI hIw r0 r1 r2 r3 r4 h hTW hTW0 hT hT0 hwy hw hok hr hbx
    rcases hcs with ⟨d, hdm, hdl, hdmin, hdx⟩ | ⟨hno, hdx⟩
    · rw [hdx] at hnx
      have g0 : decide (0 ≤ (d : Int)) = true := decide_eq_true (by omega)
      have HE := Lib.hid (hends d (by rw [hbits.out]; exact hdm))
      have HD := Lib.hid (And.intro hdm (And.intro hdl hdmin))
      clear hdx hends hdm hdl hdmin
      gi_wp2
      (refine wpIn_region_quiet_round (F := Fence.wide) rfl (by kernel_rfl) (by kernel_rfl) (by kernel_rfl) ?_; (repeat (gi_big_quiet_step (first | (gi_at_call 64; exact callsIn_wide.2 (hd _).out) | (gi_at_call 77; exact callsIn_wide.2 (hnx _).out)))); refine wpQuietIn_nil ?_; intro _ hw'; obtain ⟨nq, hw''⟩ := hw'; subst hw'')
      gi_wp2_with (gi_at_call 78; refine (CallsIn.inRound l (callsIn_wide.2 (HE.out _ (HIW.out.drewN _)).out)).mono ?_; rintro e w2 ⟨a, b, tk', rfl, ha, hb, htk', hm2, hc2⟩; have hc20 := (((HI.out.drewN nq).mono (O' := fun j => j = m0) (fun _ h => h.elim)).same hc2); have q2 := (hc20.block (w.heap.size + 2) (by omega) (by omega)).trans HR2.out; have q3 := (hc20.block (w.heap.size + 3) (by omega) (by omega)).trans HR3.out; have z2 := cell_of_row w2 _ 0 _ _ (0, 0) q2; have z3 := cell_of_row w2 _ 0 _ _ (0, 0) q3; have f2 := frozen_of_row w2 _ 0 _ _ q2; have f3 := frozen_of_row w2 _ 0 _ _ q3; simp at z2 z3; have Q2 := Lib.hid q2; have Q3 := Lib.hid q3; have HA := Lib.hid ha; have HM2 := Lib.hid hm2; have HC20 := Lib.hid hc20; have HC2 := Lib.hid hc2; have HTK := Lib.hid htk'; clear q2 q3 ha hb hm2 hc20 hc2 htk')
      have hsz := HSZ.out
      have hml := HML.out
      obtain ⟨s2, s3, sc⟩ := near_set Q2.out Q3.out (.int .u64 (a : Int)) (.bool true)
      have hall : K.Chg W ((w2.setCell ⟨w.heap.size + 2, 0, none⟩ (.int .u64 (a : Int))).setCell ⟨w.heap.size + 3, 0, none⟩ (.bool true)) (fun j => j = m0 ∨ j = w.heap.size + 2 ∨ j = w.heap.size + 3) :=
        (((chg_refl W _).drewN nq).same (HC2.out.mono (fun _ h => .inl h))).same (sc.mono (fun _ h => .inr h))
      refine ⟨keepsFrom_chg hall (fun j hj => by omega), rfl, a, tk', ⟨pre, y, d, rfl, fun l' hl' => HN.out l'.val (List.mem_map_of_mem hl'), HD.out.1, by rw [hqq]; exact HD.out.2.1, by rw [hqq]; exact HD.out.2.2, HA.out⟩, HTK.out, HM2.out.chg sc (by omega), s2, s3, ?_⟩
      exact (HI.out.mono (fun _ h => h.elim)).same hall
    · rw [hdx] at hnx
      clear hends
      gi_wp2
      (refine wpIn_region_quiet_round (F := Fence.wide) rfl (by kernel_rfl) (by kernel_rfl) (by kernel_rfl) ?_; (repeat (gi_big_quiet_step (first | (gi_at_call 64; exact callsIn_wide.2 (hd _).out) | (gi_at_call 77; exact callsIn_wide.2 (hnx _).out)))); refine wpQuietIn_nil ?_; intro _ hw'; obtain ⟨nq, hw''⟩ := hw'; subst hw'')
      gi_wp2
      have hsz := HSZ.out
      have hc := (chg_refl W (fun _ => False)).drewN nq
      refine ⟨keepsFrom_chg hc (fun _ h => h.elim), kpB_chg hc (by omega) (fun h => h) (fun g hg => ⟨by have := hAw g hg; omega, fun h => h⟩), HI.out.drewN nq, ?_⟩
      intro l' hl'
      rw [List.map_append, List.mem_append] at hl'
      rcases hl' with h1 | h1
      · exact HN.out l' h1
      · simp at h1
        subst h1
        rw [hqq]
        exact hno
  case done =>
    rintro D zs W hD hzs ⟨hI, hN⟩ hK
    have hzs : zs.map Fin.val = (List.range ss.length).reverse := hzs
    have hi0 := hI.size
    have q2 := (hI.block (w.heap.size + 2) (by omega) (fun h => h)).trans r2
    have q3 := (hI.block (w.heap.size + 3) (by omega) (fun h => h)).trans r3
    have z2 : W.cell? ⟨w.heap.size + 1 + 1, 0, none⟩ = some (.int .u64 0) := by simpa using cell_of_row W _ 0 _ _ (0, 0) q2
    have z3 : W.cell? ⟨w.heap.size + 1 + 1 + 1, 0, none⟩ = some (.bool false) := by simpa using cell_of_row W _ 0 _ _ (0, 0) q3
    have f2 : W.frozen? ⟨w.heap.size + 1 + 1, 0, none⟩ = false := frozen_of_row W _ 0 _ _ q2
    have f3 : W.frozen? ⟨w.heap.size + 1 + 1 + 1, 0, none⟩ = false := frozen_of_row W _ 0 _ _ q3
    have HK := Lib.hid hK
    have HI := Lib.hid hI
    have Q2 := Lib.hid q2
    have Q3 := Lib.hid q3
    clear hK hI q2 q3 r0 r1 r2 r3 r4 hwy
    gi_wp2
    obtain ⟨s2, s3, sc⟩ := near_set Q2.out Q3.out (.int .u64 0) (.bool false)
    have hDlt := row_lt HK.out
    have hDV : ((W.setCell ⟨w.heap.size + 2, 0, none⟩ (.int .u64 0)).setCell ⟨w.heap.size + 3, 0, none⟩ (.bool false)).heap[D]? = some (.deferred (some [])) := (sc.block D hDlt (by omega)).trans HK.out
    have hab : T.Ab xs k 0 false := by
      refine .inr ⟨rfl, rfl, T.ab_none (m := m) hk h.lt (fun l' hl' => ?_) hpm⟩
      exact hN l' (by rw [hzs, hsl]; simpa using hl')
    obtain ⟨e6, e7, hfin⟩ := near_fin w m0 tk (T.Ab xs k) (y := 0) (b := false) hsz hC0 hml hD (row_lt hDV) (((h.mx.chg hC0 (fun h => h)).chg HI.out (fun h => h)).chg sc (by omega)) s2 s3 ((HI.out.mono (fun _ h => h.elim)).same (sc.mono (fun _ h => .inr h))) hab (Nat.le_succ tk)
    refine ⟨by simp, .inl ⟨_, _, rfl, run_takeDeferred hDV, ?_⟩⟩
    refine ⟨_, ?_, hfin⟩
    simp [results, Tryd.f54, go_sem, e6, e7]
  case stop =>
    rintro D c pre W hD hpre ⟨rfl, y, tk', ⟨q, l, d, rfl, hq, hd, hlt, hmin, hy⟩, h2, h3, h4, h5, h6⟩ hK
    gi_wp2
    have hDlt := row_lt hK
    have hab : T.Ab xs k y true := by
      refine .inl ⟨rfl, T.ab_found (m := m) h.up (l := l.val) (by have := l.isLt; omega) (fun l' h1 h2 => ?_) hpm hd hlt hmin hy⟩
      have h3 : l' ∈ q.map Fin.val := before_mem (m := ss.length) (l := l.val) (by rw [List.map_append] at hpre; exact hpre) h1 (by omega)
      obtain ⟨l2, h4, rfl⟩ := List.mem_map.1 h3
      exact hq l2 h4
    obtain ⟨e6, e7, hfin⟩ := near_fin w m0 tk (T.Ab xs k) (b := true) hsz hC0 hml hD hDlt h3 h4 h5 h6 hab h2
    refine ⟨by simp, .inl ⟨_, _, rfl, run_takeDeferred hK, ?_⟩⟩
    refine ⟨_, ?_, hfin⟩
    simp [results, Tryd.f54, go_sem, e6, e7]
end
end Go.Proofs.YtbiingpdchoppaaDoor
end
section
namespace Go.Proofs.YtbiingpdchoppaaDoor
set_option maxRecDepth 40000
open Go.RowKit Go.Shelf
attribute [local go_sem] Oper.semAt_some
set_option maxRecDepth 100000 in
set_option maxHeartbeats 2000000 in
theorem backward1T (n : Nat) (hn : 1 ≤ n) (l Bn cw : Nat) (Aw : Option Addr) (ss : List (Nd × Nat)) (hl : ss.length ≤ 11) (J Jx : List Nat → World → Prop)
    (hY : ∀ pre y W, J pre W → pre ++ [y] <+: (List.range ss.length).reverse → YieldAt Fence.wide (n - 1) Tryd.prog l (ben ss y) W fun e W' =>
      (e = .returned (.bool true) ∧ J (pre ++ [y]) W' ∧ KpB Bn Aw W W') ∨ (e = .returned (.bool false) ∧ Jx (pre ++ [y]) W'))
    (W : World) (hR : WyR W Bn Aw cw ss) (h0 : J [] W) :
    CallsIn Fence.wide n Tryd.prog 91 #[.func (.yield l) #[] #[], .pointer (some ⟨Bn, 0, none⟩)] W fun e W' => (∃ v, e = .returned v) ∧
      ((∃ ys, ys = (List.range ss.length).reverse ∧ J ys W') ∨ (∃ pre, pre <+: (List.range ss.length).reverse ∧ Jx pre W')) := by
  refine callsIn_of_wp Tryd.func91 rfl trivial ?_ rfl
  simp only [Tryd.ntmps91, List.size_toArray, List.length_cons, List.length_nil, Nat.reduceAdd, Nat.reduceSub, Array.replicate_succ, Array.replicate_zero, List.push_toArray, List.append_toArray, List.nil_append, List.cons_append]
  obtain ⟨m, hm⟩ : ∃ m, ss.length = m := ⟨_, rfl⟩
  have hw0 : IntKind.i64.wrap ((m : Int) - 1) = (m : Int) - 1 := IntWalk.i64_in _ (by omega)
  have hc := cell_of_row W Bn 0 _ _ (0, 0) hR.box
  simp at hc
  rw [hm] at hc hl ⊢
  have HR := Lib.hid hR
  have HM := Lib.hid hm
  clear hR hm
  gi_wp2
  gi_loopw [3] (fun q wr => ∃ j : Nat, j ≤ m ∧ q = .int .i64 ((j : Int) - 1) ∧ Hid (J ((List.range m).reverse.take (m - j)) wr) ∧ Hid (WyR wr Bn Aw cw ss)) (fun q _ => (intOf q + 1).toNat)
  case atStart => exact ⟨m, by omega, rfl, by rw [Nat.sub_self]; exact h0, HR⟩
  case round =>
    obtain ⟨j, hj, rfl, hJ, hWR⟩ := hrel
    rcases j with _ | j
    · gi_wp2
      go_end0
      have := hJ.out
      rw [Nat.sub_zero, List.take_of_length_le (by simp)] at this
      exact ⟨⟨_, rfl⟩, .inl ⟨_, rfl, this⟩⟩
    · have el : (((j + 1 : Nat) : Int) - 1) = (j : Int) := by omega
      rw [el]
      have g0 : decide (0 ≤ (j : Int)) = true := decide_eq_true (by omega)
      have hw1 : IntKind.i64.wrap ((j : Int) - 1) = (j : Int) - 1 := IntWalk.i64_in _ (by omega)
      have k1 : (j : Int) < (m : Int) := by omega
      have hbx := cell_of_row wr Bn 0 _ _ (0, 0) hWR.out.box
      simp at hbx
      rw [HM.out] at hbx
      obtain ⟨gw, hAw, c0, c1, c2, c3, c4, c5⟩ := Wy.at hWR.out.row (k := j) (by rw [HM.out]; omega)
      have htk := Lib.hid (rev_at m j (by omega))
      obtain ⟨fn, tmps, assign, body, hy, hRR⟩ := hY _ j wr hJ.out (by rw [HM.out, htk.out]; exact List.take_prefix _ _)
      have hge : (ss[j]?).getD (Nd.z, 0) = ss[j]'(by rw [HM.out]; omega) := by rw [List.getElem?_eq_getElem (by rw [HM.out]; omega)]; rfl
      unfold ben at hy
      rw [hge] at hy
      subst hAw
      generalize ss[j]'(by rw [HM.out]; omega) = st at *
      gi_wp2
      refine hRR.mono ?_
      rintro e W3 (⟨rfl, hJ3, hk3⟩ | ⟨rfl, hJx3⟩)
      · have hJ4 : Hid (J ((List.range m).reverse.take (m - j)) W3) := by show J _ _; rw [← htk.out]; exact hJ3
        have hW4 : Hid (WyR W3 Bn (some ⟨gw, 0, none⟩) cw ss) := hWR.out.kept hk3
        gi_wp2
        go_roundw
        case rel => exact ⟨j, by omega, rfl, hJ4, hW4⟩
        case measure => first | (simp [intOf]; done) | (simp [intOf]; omega)
      · have hJ4 : Hid (Jx ((List.range m).reverse.take (m - j)) W3) := by show Jx _ _; rw [← htk.out]; exact hJx3
        gi_wp2
        refine bodyPost_ret (results_none rfl _ _ _) rfl ?_
        exact ⟨⟨_, rfl⟩, .inr ⟨_, List.take_prefix _ _, hJ4.out⟩⟩
/-- The blocks that the iterator reads. -/
def ZB (Bn : Nat) (Aw : Option Addr) (j : Nat) : Prop := j = Bn ∨ Aw.map (·.block) = some j
theorem backward_z (n : Nat) (hn : 1 ≤ n) (Bn cw : Nat) (Aw : Option Addr) (ss : List (Nd × Nat)) (hl : ss.length ≤ 11) (w : World) (hR : WyR w Bn Aw cw ss) :
    SeqZ Fence.wide n Tryd.prog 91 #[.pointer (some ⟨Bn, 0, none⟩)] (fun y : Nat => ben ss y) (ZB Bn Aw) (fun ys => ys = (List.range ss.length).reverse) (fun pre => pre <+: (List.range ss.length).reverse) (fun pre => pre <+: (List.range ss.length).reverse) w := fun l J Jx W hW hJ hJx hY h0 => by
  refine (backward1T n hn l Bn cw Aw ss hl (fun q W => J q (fun _ => False) W) (fun q W => Jx q (fun _ => False) W) (fun pre y W1 hj hp => ?_) W (hR.kept ⟨hW.block Bn (row_lt hR.box), fun g hg => hW.block g (own_block_lt hR.row hg).1, hW.size⟩) h0).mono ?_
  · refine (hY pre y (fun _ => False) W1 hj hp).mono ?_
    rintro e W' (⟨h1, h2, ⟨h3, h4⟩, _⟩ | ⟨h1, h2⟩)
    · exact .inl ⟨h1, h2, h4 Bn (.inl rfl), fun g hg => h4 g (.inr hg), h3⟩
    · exact .inr ⟨h1, h2⟩
  · rintro e W' ⟨h1, ⟨ys, h2, h3⟩ | ⟨pre, h2, h3⟩⟩
    · exact ⟨h1, .inl ⟨ys, _, h2, h3⟩⟩
    · exact ⟨h1, .inr ⟨pre, _, h2, h3⟩⟩
end Go.Proofs.YtbiingpdchoppaaDoor
end
