/- A key is taken out of its nodes: a level more, where a box of its own changes too. below: the last key before one, by the way; the text walked. near, Next, Prev, Has: what they answer, and leave; nil ones too; the texts walked. A key is taken out of its nodes: what a round keeps. A nil trie: Min, Max, All; what the law's own function reads of it; the texts walked. -/
import Derived.Test.YtbiingpdchoppaaDoorMxU28
import Derived.Test.YtbiingpdchoppaaDoorMgT
import Derived.Test.YtbiingpdchoppaaDoorMgL
section
namespace Go.Proofs.YtbiingpdchoppaaDoor
set_option maxRecDepth 40000
open Go.RowKit
section
variable {w0 w w' : World} {P Q m0 lim tk root k m j cn cf : Nat} {xs fs : List Nat} {TB0 : Nat → Prop} {ns0 ns : List (Nd × Bool)} {pl : Nat → Nat → Nat} {An Af : Option Addr}
theorem SS.types (h : SS w0 w P Q m0 lim tk root xs k m j TB0 ns0 pl An cn Af cf ns fs) {i : Nat} (hi : TBk P Q m0 An Af ns i) : i < w.heap.size ∧ ∃ cur T, w.heap[i]? = some (.cells cur T (0, 0)) ∧ T ≠ 99 ∧ T ≠ 30 ∧ T ≠ 4 ∧ T ≠ 83 ∧ T ≠ 25 := by
  rcases hi with rfl | rfl | (rfl | hj | hj) | ⟨q, hq, hj⟩
  · exact ⟨row_lt h.row, _, _, h.row, by decide, by decide, by decide, by decide, by decide⟩
  · obtain ⟨r, c, s, p, hr⟩ := h.mx
    exact ⟨row_lt hr, _, _, hr, by decide, by decide, by decide, by decide, by decide⟩
  · exact ⟨h.po.lt, _, _, h.po.row, by decide, by decide, by decide, by decide, by decide⟩
  · obtain ⟨h1, cur, hc⟩ := own_block_lt h.po.nodes hj
    exact ⟨h1, cur, _, hc, by decide, by decide, by decide, by decide, by decide⟩
  · obtain ⟨h1, cur, hc⟩ := own_block_lt h.po.freed hj
    exact ⟨h1, cur, _, hc, by decide, by decide, by decide, by decide, by decide⟩
  · obtain ⟨h1, cur, hc⟩ := own_block_lt (h.kids.own q hq) hj
    exact ⟨h1, cur, _, hc, by decide, by decide, by decide, by decide, by decide⟩
theorem SS.frame {O : Nat → Prop} (h : SS w0 w P Q m0 lim tk root xs k m j TB0 ns0 pl An cn Af cf ns fs) (hc : K.Chg w w' O) (hO : ∀ i, O i → ¬ TBk P Q m0 An Af ns i) (hT : ∀ i, O i → TB0 i ∨ w0.heap.size ≤ i) : SS w0 w' P Q m0 lim tk root xs k m j TB0 ns0 pl An cn Af cf ns fs := by
  have hn : ∀ i, TBk P Q m0 An Af ns i → ¬ O i := fun i hi h => hO i h hi
  refine ⟨(hc.block P (row_lt h.row) (hn P (.inl rfl))).trans h.row, h.mx.chg hc (hn m0 (.inr (.inl rfl))), h.po.chg hc (fun i hi => hn i (.inr (.inr (.inl hi)))), ⟨fun i hi => hc.own (h.kids.own i hi) (fun b hb => hn b (.inr (.inr (.inr ⟨i, hi, own_of_map hb⟩)))), h.kids.kd, h.kids.kf⟩, h.tr, h.used, h.way, h.chg.trans hc (fun i hi => hT i hi), h.blk⟩
theorem SS.rebase (TB1 : Nat → Prop) (h : SS w0 w P Q m0 lim tk root xs k m j TB0 ns0 pl An cn Af cf ns fs) (hT : ∀ i, TBk P Q m0 An Af ns i → TB1 i) : SS w w P Q m0 lim tk root xs k m j TB1 ns0 pl An cn Af cf ns fs :=
  ⟨h.row, h.mx, h.po, h.kids, h.tr, h.used, h.way, chg_refl _ _, fun b hb => .inl (hT b hb)⟩
theorem SS.base {TB1 : Nat → Prop} (h : SS w w' P Q m0 lim tk root xs k m j TB1 ns0 pl An cn Af cf ns fs) (hc : K.Chg w0 w TB0) (hb : ∀ b, TB1 b → TB0 b ∨ w0.heap.size ≤ b) : SS w0 w' P Q m0 lim tk root xs k m j TB0 ns0 pl An cn Af cf ns fs :=
  ⟨h.row, h.mx, h.po, h.kids, h.tr, h.used, h.way, hc.trans h.chg hb, fun b h1 => (h.blk b h1).elim (hb b) (fun h2 => .inr (Nat.le_trans hc.size h2))⟩
end
/-- One level more. -/
theorem SS.step2 {w0 w w1 w2 : World} {P Q m0 lim tk root k m l cn cf i Bg : Nat} {xs fs fs' : List Nat} {TB0 : Nat → Prop} {ns0 ns ns' : List (Nd × Bool)} {pl : Nat → Nat → Nat} {An Af : Option Addr} {x : Nd} {b : Bool} {v v' : Value}
    (h : SS w0 w P Q m0 lim tk root xs k m (l + 1) TB0 ns0 pl An cn Af cf ns fs) (hu : K.Up xs) (hk : k ∈ xs) (hl : l < 11) (hm : T.wl (K.drop xs k) k = m) (hi : i = pl l (T.pre l k))
    (hB : w.heap[Bg]? = some (.cells #[v] 4 (0, 0))) (hB1 : w1.heap[Bg]? = some (.cells #[v'] 4 (0, 0))) (hTB : TB0 Bg)
    (A0 : Option Addr) (hA0 : ∀ g, A0.map (·.block) = some g → ∃ hi : i < ns.length, ns[i].1.A.map (·.block) = some g)
    (h1 : K.Chg w w1 (fun j => A0.map (·.block) = some j ∨ j = Bg)) (hx : w1.ownsRow 0 3 1 (.slice x.A x.ch.length x.c) x.ch.length (iw x.ch)) (hxb : ∀ j, x.A.map (·.block) = some j → A0.map (·.block) = some j ∨ w.heap.size ≤ j)
    (h2 : QStep w1 Q m0 lim An Af ns' fs' w2) (hn : ∀ j, j ≠ i → ns'[j]? = ns[j]?) (hni : ns'[i]? = some (x, b))
    (hc : (b = false ∧ m ≤ l ∧ ns'.length - fs'.length + 1 = ns.length - fs.length) ∨ (b = true ∧ l < m ∧ ns'.length - fs'.length = ns.length - fs.length ∧ T.NdOK (K.drop xs k) pl l (T.pre l k) x.W x.ks x.le x.gr x.ch)) :
    ∃ An' cn' Af' cf', SS w0 w2 P Q m0 lim tk root xs k m l TB0 ns0 pl An' cn' Af' cf' ns' fs' ∧ K.Chg w w2 (fun j => TBk P Q m0 An Af ns j ∨ j = Bg) ∧ (∀ b, TBk P Q m0 An' Af' ns' b → TBk P Q m0 An Af ns b ∨ w.heap.size ≤ b) ∧ w2.heap[Bg]? = some (.cells #[v'] 4 (0, 0)) := by
  have hg := grownBy_putObj' w Bg (.cells #[v'] 4 (0, 0))
  have hci : K.Chg w (w.putObj Bg (.cells #[v'] 4 (0, 0))) (fun j => j = Bg) := (chg_refl w _).grown hg (fun j e => .inl (by cases e; rfl))
  have hne : ¬ TBk P Q m0 An Af ns Bg := fun ht => by
    obtain ⟨_, cur, T, hr, _, _, hT, _⟩ := h.types ht
    exact row_ne hr hB hT rfl
  have hBl := row_lt hB
  have hc1 : K.Chg (w.putObj Bg (.cells #[v'] 4 (0, 0))) w1 (fun j => A0.map (·.block) = some j) := by
    refine ⟨h1.os, h1.tape, h1.output, by rw [World.putObj_size]; exact h1.size, fun g hgl hA => ?_⟩
    rw [World.putObj_size] at hgl
    by_cases e : g = Bg
    · subst e
      rw [hB1, World.putObj_heap_same hgl]
    · rw [World.putObj_heap_other (by omega), h1.block g hgl (fun h => h.elim hA e)]
  have hS := (h.rebase (fun j => TBk P Q m0 An Af ns j ∨ j = Bg) (fun _ h => .inl h)).frame hci (fun i hi => by subst hi; exact hne) (fun i hi => .inl (.inr hi))
  obtain ⟨An', cn', Af', cf', hS2⟩ := hS.step hu hk hl hm hi A0 hA0 hc1 hx (fun j hj => (hxb j hj).imp (fun h => h) (fun h => by rw [World.putObj_size]; exact h)) h2 hn hni hc
  refine ⟨An', cn', Af', cf', hS2.base h.chg (fun b hb => ?_), hS2.chg, fun b hb => ?_, ?_⟩
  · rcases hb with hb | rfl
    · exact h.blk b hb
    · exact .inl hTB
  · rcases hS2.blk b hb with (h3 | rfl) | h3
    · exact .inl h3
    · exfalso
      obtain ⟨_, cur, T, hr, _, _, hT, _⟩ := hS2.types hb
      obtain ⟨_, _, _, _, _, hch, _⟩ := h2
      have hq : ¬ QB Q An Af b := fun hq => hne (.inr (.inr (.inl hq)))
      have := (hch.block b (row_lt hB1) hq).trans hB1
      exact row_ne hr this hT rfl
    · exact .inr h3
  · obtain ⟨_, _, _, _, _, hch, _⟩ := h2
    exact (hch.block Bg (row_lt hB1) (fun hq => hne (.inr (.inr (.inl hq))))).trans hB1
end Go.Proofs.YtbiingpdchoppaaDoor
end
section
namespace Go.Proofs.YtbiingpdchoppaaDoor
set_option maxRecDepth 40000
open Go.RowKit Go.Shelf
attribute [local go_sem] Oper.semAt_some
attribute [local simp] wide_fn
section
variable (w : World) (P Q m0 lim tk root cn cf : Nat) (An Af : Option Addr) (ns : List (Nd × Bool)) (fs xs : List Nat) (pl : Nat → Nat → Nat)
set_option maxRecDepth 100000 in
set_option maxHeartbeats 4000000 in
theorem t_below (h : TW w P Q m0 lim tk An cn Af cf ns fs root pl xs) (htk : tk < 100000) (k : Nat) (hk : k < 18446744073709551616) (m cw : Nat) (Aw : Option Addr) (hm : T.wl xs k = m) (hw : w.ownsRow 0 99 6 (.slice Aw m cw) m (sv (wst ns pl k m))) :
    Calls Tryd.prog 55 #[.pointer (some ⟨P, 0, none⟩), .int .u64 (k : Int), .slice Aw m cw] w (NearP w m0 tk (T.Be xs k)) := by
  have hm11 : m ≤ 11 := by rw [← hm]; exact T.wl_le xs k
  refine (callsIn_wide (n := 9)).1 ?_
  refine callsIn_of_wp_marks Tryd.func55 rfl trivial ?_ rfl
  simp only [Tryd.ntmps55, List.size_toArray, List.length_cons, List.length_nil, Nat.reduceAdd, Nat.reduceSub, Array.replicate_succ, Array.replicate_zero, List.push_toArray, List.append_toArray, List.nil_append, List.cons_append]
  gi_wp2_with (gi_at_call 74; refine (callsIn_wide.2 (backward_any _ _ Aw m cw rfl)).mono ?_; rintro e w' ⟨rfl, rfl⟩)
  obtain ⟨hsz, r0, r1, r2, r3, r4, hC0⟩ := five_rows w (.cells #[.pointer (some ⟨P, 0, none⟩)] 25) (.cells #[.int .u64 (k : Int)] 30) (.cells #[.int .u64 0] 30) (.cells #[.bool false] 4) (.cells #[.slice Aw m cw] 83)
  generalize hW0 : (((((w.alloc (.cells #[.pointer (some ⟨P, 0, none⟩)] 25)).alloc (.cells #[.int .u64 (k : Int)] 30)).alloc (.cells #[.int .u64 0] 30)).alloc (.cells #[.bool false] 4)).alloc (.cells #[.slice Aw m cw] 83)) = W0 at *
  clear hW0
  obtain ⟨ss, hss⟩ : ∃ ss, wst ns pl k m = ss := ⟨_, rfl⟩
  have hsl : ss.length = m := by rw [← hss]; exact wst_len ns pl k m
  have hAw : ∀ g, Aw.map (·.block) = some g → g < w.heap.size ∧ g ≠ m0 := by
    intro g hg
    rcases own_addr hw with ⟨rfl, _⟩ | ⟨g', rfl, hlt, _, cur, hrow⟩
    · cases hg
    · cases hg
      obtain ⟨_, _, _, _, hmr⟩ := h.mx
      exact ⟨hlt, row_ne hrow hmr (by decide)⟩
  have hml := h.mx.lt
  have hpm : ∀ l', l' < 11 → T.prs xs l' (T.pre l' k) → l' < m := by
    intro l' h1 hpl
    rcases Nat.lt_or_ge l' m with h2 | h2
    · exact h2
    · rw [← hm] at h2
      exact absurd (T.prs_le h2 (by omega) hpl) (T.wl_no (xs := xs) (k := k) (by omega))
  have hwy : WyR W0 (w.heap.size + 4) Aw cw ss := ⟨by rw [hsl]; exact r4, by rw [hsl, ← hss]; exact hC0.own hw (fun _ _ h => h)⟩
  refine wpIn_rangeFunc_ownH rfl (by decide) (gf := 91) (lb := #[.pointer (some ⟨w.heap.size + 4, 0, none⟩)]) rfl trivial (enters_of Tryd.func91 (by kernel_rfl) rfl)
    (backward_stops 8 (by decide) (w.heap.size + 4) cw Aw ss (by omega) W0 hwy) (fun h k => h.trans k) (fun W l o o' hl hlo hc hw => by
      refine ⟨?_, fun g hg => ?_, by show W.heap.size ≤ (W.heap.setIfInBounds _ _).size; simp⟩
      · exact (grownBy_putObj' W l o').block _ (by have := row_lt hlo; omega) (fun e => by cases e; omega)
      · exact (grownBy_putObj' W l o').block _ (by have := row_lt hlo; have := hAw g hg; omega) (fun e => by have := hAw g hg; cases e; omega)) (Below.refl _ _) (fun _ => rfl)
    (fun pre W => AbI W0 (fun l => ∀ e ∈ T.dgs xs l (T.pre l k), T.dig l k ≤ e) (pre.map Fin.val) W)
    (fun c pre W => AbX W0 w.heap.size m0 tk (fun y => ∃ (q : List (Fin ss.length)) (l : Fin ss.length) (d : Nat), pre = q ++ [l] ∧ (∀ l' ∈ q, ∀ e ∈ T.dgs xs l'.val (T.pre l'.val k), T.dig l'.val k ≤ e) ∧ d ∈ T.dgs xs l.val (T.pre l.val k) ∧ d < T.dig l.val k ∧ (∀ e ∈ T.dgs xs l.val (T.pre l.val k), e < T.dig l.val k → e ≤ d) ∧ (T.sub xs (l.val + 1) (T.pre l.val k * 64 + d)).getLast? = some y) c [] W)
    (OwnFrom.and (ownFrom_chg (Nat.le_refl _)) (ownFrom_pure _ _))
    (fun c => ?hIx)
    ⟨chg_refl _ _, by simp⟩
    (fun y a' W => ∃ Bx, W0.heap.size ≤ Bx ∧ W.heap[Bx]? = some (.cells (scl ss[y.val]).toArray 99 (0, 0)) ∧ a' = { tmps := #[.pointer (some ⟨P, 0, none⟩), .int .u64 (k : Int), .slice Aw m cw, .pointer (some ⟨w.heap.size, 0, none⟩), .pointer (some ⟨w.heap.size + 1, 0, none⟩), undef, .pointer (some ⟨w.heap.size + 2, 0, none⟩), .pointer (some ⟨w.heap.size + 3, 0, none⟩), .int .i64 (y.val : Int), .pointer (some ⟨Bx, 0, none⟩), undef, undef, undef, .slice Aw m cw, .func (.func 91) #[] #[.pointer (some ⟨w.heap.size + 4, 0, none⟩)], .int .i64 (y.val : Int), stv ss[y.val], undef, undef, undef, undef, undef, undef, undef, undef, undef, undef, undef, undef, undef, undef, undef, undef, undef, undef, undef, undef], defers := [] })
    (fun y a' _ X Y row hs hg hr => by
      obtain ⟨Bx, e1, e2, e3⟩ := hs
      exact ⟨Bx, e1, (hg.block Bx (row_lt e2) (fun e => by obtain ⟨_, o, ho, hc⟩ := hr Bx e.symm; rw [e2] at ho; cases ho; cases hc)).trans e2, e3⟩)
    ?assign ?body ?done ?stop
  case hIx =>
    rintro pre X Y row ⟨hc, y, tk', h1, h2, h3, h4, h5, h6⟩ hg hr
    have hnr : ∀ j, j < W0.heap.size → row ≠ some j := fun j hj e => by have := (hr j e).1; omega
    have hsX := h6.size
    have hg' : K.Chg X Y (fun j => row = some j) := (chg_refl X _).grown hg (fun j e => .inl e)
    exact ⟨hc, y, tk', h1, h2, h3.chg hg' (hnr m0 (by omega)), (hg'.block _ (by omega) (hnr _ (by omega))).trans h4, (hg'.block _ (by omega) (hnr _ (by omega))).trans h5, h6.grown hg (fun j e => .inr (hr j e).1)⟩
  case assign =>
    rintro l pre y W K0 ⟨hI, hN⟩ hK
    have hbe : ben ss y.val = #[.int .i64 (y.val : Int), stv ss[y.val]] := by
      unfold ben
      rw [List.getElem?_eq_getElem y.isLt]
      rfl
    rw [hbe]
    have HK := Lib.hid hK
    have HN := Lib.hid hN
    have HI := Lib.hid hI
    clear hK hN hI hbe
    gi_wp2
    have hml := hml
    have hsW := HI.out.size
    have ha := chg_alloc W (.cells #[.int .u64 (ss[y.val].1.W : Int), .slice ss[y.val].1.A ss[y.val].1.ch.length ss[y.val].1.c, .int .i64 (ss[y.val].1.ks : Int), .int .u64 (ss[y.val].1.le : Int), .int .u64 (ss[y.val].1.gr : Int), .int .i64 (ss[y.val].2 : Int)] 99) (fun _ => False)
    exact HK.out _ _ ((KeepsOthers.alloc _ _).from _) (kpB_chg ha (by omega) (fun h => h) (fun g hg => ⟨by have := hAw g hg; omega, fun h => h⟩)) ⟨HI.out.same ha, HN.out⟩ ⟨W.heap.size, hsW, K.alloc_top W _, rfl⟩
  case body =>
    rintro l pre y a' W hl ⟨r, hr⟩ ⟨hI, hN⟩ ⟨Bx, hBx, hbx, rfl⟩ hlt
    have hym : y.val < m := by have := y.isLt; omega
    have hst : ss[y.val] = (nat ns (pl y.val (T.pre y.val k)), pl y.val (T.pre y.val k)) := by
      subst hss
      exact wst_at _ _ _ _ _ _
    have hp : T.prs xs y.val (T.pre y.val k) := T.wl_yes (by omega)
    obtain ⟨_, _, hok⟩ := h.node (by omega) hp
    have hIw := hC0.same hI
    have hTW := h.chg hIw (fun _ _ h => h)
    have hd : ∀ mm, Hid (Calls Tryd.prog 64 #[.int .u64 (k : Int), .int .i64 (y.val : Int)] (W.drewN mm) fun e w' => e = .returned (.int .i64 ((T.dig y.val k : Nat) : Int)) ∧ ∃ n, w' = W.drewN n) := fun mm => (t_digit (W.drewN mm) k y.val hk (by omega)).mono (by rintro e w' ⟨rfl, rfl⟩; exact ⟨rfl, _, rfl⟩)
    have hnx : ∀ mm, Hid (Calls Tryd.prog 79 #[.int .u64 ((nat ns (pl y.val (T.pre y.val k))).W : Int), .int .i64 ((T.dig y.val k : Int) - 1)] (W.drewN mm) fun e w' => e = .returned (.int .i64 (M.rPrev (M.bz (nat ns (pl y.val (T.pre y.val k))).W) ((T.dig y.val k : Int) - 1))) ∧ ∃ n, w' = W.drewN n) := fun mm => (bit_prev _ hok.wlt _ (by omega) (W.drewN mm)).mono (by rintro e w' ⟨rfl, n, rfl⟩; exact ⟨rfl, mm + n, by simp [World.drewN, Nat.add_assoc]⟩)
    have hends := fun d hd V (hc : K.Chg w V (fun _ => False)) => Lib.hid (t_ends V P Q m0 lim tk root cn cf An Af ns fs xs pl (h.chg hc (fun _ _ h => h)) htk y.val (T.pre y.val k) d (by omega) hp hd)
    have hcs := T.prev_cases (nat ns (pl y.val (T.pre y.val k))).W (T.dig y.val k)
    have hdl := T.dig_lt y.val k
    rw [hok.bits] at hcs
    have hbits := Lib.hid hok.bits
    rw [hst] at hbx
    generalize nat ns (pl y.val (T.pre y.val k)) = nd at *
    generalize hqq : T.dig y.val k = dg at *
    have wq : IntKind.i64.wrap ((dg : Int) - 1) = (dg : Int) - 1 := IntWalk.i64_in _ (by omega)
    have x0 := cell_of_row W Bx 0 _ _ (0, 0) hbx
    have x1 := cell_of_row W Bx 1 _ _ (0, 0) hbx
    have x2 := cell_of_row W Bx 2 _ _ (0, 0) hbx
    have x3 := cell_of_row W Bx 3 _ _ (0, 0) hbx
    have x4 := cell_of_row W Bx 4 _ _ (0, 0) hbx
    have kk := cell_of_row W (w.heap.size + 1) 0 _ _ (0, 0) ((hI.block (w.heap.size + 1) (by omega) (fun h => h)).trans r1)
    have kp := cell_of_row W w.heap.size 0 _ _ (0, 0) ((hI.block w.heap.size (by omega) (fun h => h)).trans r0)
    simp [scl] at x0 x1 x2 x3 x4 kk kp
    have HN := Lib.hid hN
    have HI := Lib.hid hI
    have HIW := Lib.hid hIw
    have HR2 := Lib.hid r2
    have HR3 := Lib.hid r3
    have HSZ := Lib.hid hsz
    have HML := Lib.hid hml
    have HH := Lib.hid h
    have hi0 := hI.size
    clear hN hI hIw r0 r1 r2 r3 r4 h hTW hwy hw hok hr hbx
    rcases hcs with ⟨d, hdm, hdl, hdmin, hdx⟩ | ⟨hno, hdx⟩
    · rw [hdx] at hnx
      have g0 : decide (0 ≤ (d : Int)) = true := decide_eq_true (by omega)
      have HE := Lib.hid (hends d (by rw [hbits.out]; exact hdm))
      have HD := Lib.hid (And.intro hdm (And.intro hdl hdmin))
      clear hdx hends hdm hdl hdmin
      gi_wp2
      (refine wpIn_region_quiet_round (F := Fence.wide) rfl (by kernel_rfl) (by kernel_rfl) (by kernel_rfl) ?_; (repeat (gi_big_quiet_step (first | (gi_at_call 64; exact callsIn_wide.2 (hd _).out) | (gi_at_call 79; exact callsIn_wide.2 (hnx _).out)))); refine wpQuietIn_nil ?_; intro _ hw'; obtain ⟨nq, hw''⟩ := hw'; subst hw'')
      gi_wp2_with (gi_at_call 78; refine (CallsIn.inRound l (callsIn_wide.2 (HE.out _ (HIW.out.drewN _)).out)).mono ?_; rintro e w2 ⟨a, b, tk', rfl, ha, hb, htk', hm2, hc2⟩; have hc20 := (((HI.out.drewN nq).mono (O' := fun j => j = m0) (fun _ h => h.elim)).same hc2); have q2 := (hc20.block (w.heap.size + 2) (by omega) (by omega)).trans HR2.out; have q3 := (hc20.block (w.heap.size + 3) (by omega) (by omega)).trans HR3.out; have z2 := cell_of_row w2 _ 0 _ _ (0, 0) q2; have z3 := cell_of_row w2 _ 0 _ _ (0, 0) q3; have f2 := frozen_of_row w2 _ 0 _ _ q2; have f3 := frozen_of_row w2 _ 0 _ _ q3; simp at z2 z3; have Q2 := Lib.hid q2; have Q3 := Lib.hid q3; have HA := Lib.hid hb; have HM2 := Lib.hid hm2; have HC20 := Lib.hid hc20; have HC2 := Lib.hid hc2; have HTK := Lib.hid htk'; clear q2 q3 ha hb hm2 hc20 hc2 htk')
      have hsz := HSZ.out
      have hml := HML.out
      obtain ⟨s2, s3, sc⟩ := near_set Q2.out Q3.out (.int .u64 (b : Int)) (.bool true)
      have hall : K.Chg W ((w2.setCell ⟨w.heap.size + 2, 0, none⟩ (.int .u64 (b : Int))).setCell ⟨w.heap.size + 3, 0, none⟩ (.bool true)) (fun j => j = m0 ∨ j = w.heap.size + 2 ∨ j = w.heap.size + 3) :=
        (((chg_refl W _).drewN nq).same (HC2.out.mono (fun _ h => .inl h))).same (sc.mono (fun _ h => .inr h))
      refine ⟨keepsFrom_chg hall (fun j hj => by omega), rfl, b, tk', ⟨pre, y, d, rfl, fun l' hl' => HN.out l'.val (List.mem_map_of_mem hl'), HD.out.1, by rw [hqq]; exact HD.out.2.1, by rw [hqq]; exact HD.out.2.2, HA.out⟩, HTK.out, HM2.out.chg sc (by omega), s2, s3, ?_⟩
      exact (HI.out.mono (fun _ h => h.elim)).same hall
    · rw [hdx] at hnx
      clear hends
      gi_wp2
      (refine wpIn_region_quiet_round (F := Fence.wide) rfl (by kernel_rfl) (by kernel_rfl) (by kernel_rfl) ?_; (repeat (gi_big_quiet_step (first | (gi_at_call 64; exact callsIn_wide.2 (hd _).out) | (gi_at_call 79; exact callsIn_wide.2 (hnx _).out)))); refine wpQuietIn_nil ?_; intro _ hw'; obtain ⟨nq, hw''⟩ := hw'; subst hw'')
      gi_wp2
      have hsz := HSZ.out
      have hc := (chg_refl W (fun _ => False)).drewN nq
      refine ⟨keepsFrom_chg hc (fun _ h => h.elim), kpB_chg hc (by omega) (fun h => h) (fun g hg => ⟨by have := hAw g hg; omega, fun h => h⟩), HI.out.drewN nq, ?_⟩
      intro l' hl'
      rw [List.map_append, List.mem_append] at hl'
      rcases hl' with h1 | h1
      · exact HN.out l' h1
      · simp at h1
        subst h1
        rw [hqq]
        exact hno
  case done =>
    rintro D zs W hD hzs ⟨hI, hN⟩ hK
    have hzs : zs.map Fin.val = (List.range ss.length).reverse := hzs
    have hi0 := hI.size
    have q2 := (hI.block (w.heap.size + 2) (by omega) (fun h => h)).trans r2
    have q3 := (hI.block (w.heap.size + 3) (by omega) (fun h => h)).trans r3
    have z2 : W.cell? ⟨w.heap.size + 1 + 1, 0, none⟩ = some (.int .u64 0) := by simpa using cell_of_row W _ 0 _ _ (0, 0) q2
    have z3 : W.cell? ⟨w.heap.size + 1 + 1 + 1, 0, none⟩ = some (.bool false) := by simpa using cell_of_row W _ 0 _ _ (0, 0) q3
    have f2 : W.frozen? ⟨w.heap.size + 1 + 1, 0, none⟩ = false := frozen_of_row W _ 0 _ _ q2
    have f3 : W.frozen? ⟨w.heap.size + 1 + 1 + 1, 0, none⟩ = false := frozen_of_row W _ 0 _ _ q3
    have HK := Lib.hid hK
    have HI := Lib.hid hI
    have Q2 := Lib.hid q2
    have Q3 := Lib.hid q3
    clear hK hI q2 q3 r0 r1 r2 r3 r4 hwy
    gi_wp2
    obtain ⟨s2, s3, sc⟩ := near_set Q2.out Q3.out (.int .u64 0) (.bool false)
    have hDlt := row_lt HK.out
    have hDV : ((W.setCell ⟨w.heap.size + 2, 0, none⟩ (.int .u64 0)).setCell ⟨w.heap.size + 3, 0, none⟩ (.bool false)).heap[D]? = some (.deferred (some [])) := (sc.block D hDlt (by omega)).trans HK.out
    have hab : T.Be xs k 0 false := by
      refine .inr ⟨rfl, rfl, T.be_none (m := m) hk h.lt (fun l' hl' => ?_) hpm⟩
      exact hN l' (by rw [hzs, hsl]; simpa using hl')
    obtain ⟨e6, e7, hfin⟩ := near_fin w m0 tk (T.Be xs k) (y := 0) (b := false) hsz hC0 hml hD (row_lt hDV) (((h.mx.chg hC0 (fun h => h)).chg HI.out (fun h => h)).chg sc (by omega)) s2 s3 ((HI.out.mono (fun _ h => h.elim)).same (sc.mono (fun _ h => .inr h))) hab (Nat.le_succ tk)
    refine ⟨by simp, .inl ⟨_, _, rfl, run_takeDeferred hDV, ?_⟩⟩
    refine ⟨_, ?_, hfin⟩
    simp [results, Tryd.f55, go_sem, e6, e7]
  case stop =>
    rintro D c pre W hD hpre ⟨rfl, y, tk', ⟨q, l, d, rfl, hq, hd, hlt, hmin, hy⟩, h2, h3, h4, h5, h6⟩ hK
    gi_wp2
    have hDlt := row_lt hK
    have hab : T.Be xs k y true := by
      refine .inl ⟨rfl, T.be_found (m := m) h.up (l := l.val) (by have := l.isLt; omega) (fun l' h1 h2 => ?_) hpm hd hlt hmin hy⟩
      have h3 : l' ∈ q.map Fin.val := before_mem (m := ss.length) (l := l.val) (by rw [List.map_append] at hpre; exact hpre) h1 (by omega)
      obtain ⟨l2, h4, rfl⟩ := List.mem_map.1 h3
      exact hq l2 h4
    obtain ⟨e6, e7, hfin⟩ := near_fin w m0 tk (T.Be xs k) (b := true) hsz hC0 hml hD hDlt h3 h4 h5 h6 hab h2
    refine ⟨by simp, .inl ⟨_, _, rfl, run_takeDeferred hK, ?_⟩⟩
    refine ⟨_, ?_, hfin⟩
    simp [results, Tryd.f55, go_sem, e6, e7]
end
end Go.Proofs.YtbiingpdchoppaaDoor
end
section
namespace Go.Proofs.YtbiingpdchoppaaDoor
set_option maxRecDepth 40000
open Go.RowKit Go.Shelf
/-- What a look answers, and leaves. -/
def LookP (w : World) (m0 most : Nat) (v : Value) (e : Ending) (w' : World) : Prop := e = .returned v ∧ ∃ tk', tk' ≤ most ∧ Mx w' m0 tk' ∧ K.Chg w w' (· = m0)
theorem Tab.ne_m {w : World} {m0 tk : Nat} (hT : Tab w) (h : Mx w m0 tk) : (0 : Nat) ≠ m0 := by
  rintro rfl
  obtain ⟨r, c, s, p, hr⟩ := h
  have h1 := cell_of_row w 0 0 _ _ (0, 0) hr
  have h2 := hT 0 (by decide)
  simp at h1
  rw [h1] at h2
  cases h2
theorem Tab.chg {w w' : World} {O : Nat → Prop} (hT : Tab w) (hc : K.Chg w w' O) (h0 : ¬ O 0) : Tab w' := fun j hj => (hc.cell hT.pos h0 j).trans (hT j hj)
section
variable (w : World) (P Q m0 lim tk root cn cf : Nat) (An Af : Option Addr) (ns : List (Nd × Bool)) (fs xs : List Nat) (pl : Nat → Nat → Nat)
theorem t_above_nx (h : TW w P Q m0 lim tk An cn Af cf ns fs root pl xs) (htk : tk ≤ 11) (hT : Tab w) (k : Nat) (hk : k < 18446744073709551616) (hx : k ∉ xs) (m cw B : Nat) (Aw : Option Addr) (hm : T.wl xs k = m) (hw : w.ownsRow B 99 6 (.slice Aw m cw) m (sv (wst ns pl k m))) :
    Calls Tryd.prog 54 #[.pointer (some ⟨P, 0, none⟩), .int .u64 (k : Int), .slice Aw m cw] w (LookP w m0 12 (.tuple #[.int .u64 ((K.nx xs k : Nat) : Int), .bool (K.nxb xs k)])) := by
  refine (t_above w P Q m0 lim tk root cn cf An Af ns fs xs pl h (by omega) hT k hk m cw Aw hm (K.own_base hw (Nat.zero_le _))).mono ?_
  rintro e w' ⟨y, b, tk', rfl, hR, ht, hx', hc⟩
  rcases hR with ⟨rfl, h1, h2, h3⟩ | ⟨rfl, rfl, h1⟩
  · obtain ⟨e1, e2⟩ := T.nx_above h.up hx h1 h2 h3
    rw [e1, e2]
    exact ⟨rfl, tk', by omega, hx', hc⟩
  · obtain ⟨e1, e2⟩ := T.nx_none hx h1
    rw [e1, e2]
    exact ⟨rfl, tk', by omega, hx', hc⟩
theorem t_below_pv (h : TW w P Q m0 lim tk An cn Af cf ns fs root pl xs) (htk : tk ≤ 11) (hT : Tab w) (k : Nat) (hk : k < 18446744073709551616) (hx : k ∉ xs) (m cw B : Nat) (Aw : Option Addr) (hm : T.wl xs k = m) (hw : w.ownsRow B 99 6 (.slice Aw m cw) m (sv (wst ns pl k m))) :
    Calls Tryd.prog 55 #[.pointer (some ⟨P, 0, none⟩), .int .u64 (k : Int), .slice Aw m cw] w (LookP w m0 12 (.tuple #[.int .u64 ((K.pv xs k : Nat) : Int), .bool (K.pvb xs k)])) := by
  have _ := hT
  refine (t_below w P Q m0 lim tk root cn cf An Af ns fs xs pl h (by omega) k hk m cw Aw hm (K.own_base hw (Nat.zero_le _))).mono ?_
  rintro e w' ⟨y, b, tk', rfl, hR, ht, hx', hc⟩
  rcases hR with ⟨rfl, h1, h2, h3⟩ | ⟨rfl, rfl, h1⟩
  · obtain ⟨e1, e2⟩ := T.pv_below h.up hx h1 h2 h3
    rw [e1, e2]
    exact ⟨rfl, tk', by omega, hx', hc⟩
  · obtain ⟨e1, e2⟩ := T.pv_none h.up hx h1
    rw [e1, e2]
    exact ⟨rfl, tk', by omega, hx', hc⟩
set_option maxHeartbeats 2000000 in
theorem t_near_next (h : TW w P Q m0 lim tk An cn Af cf ns fs root pl xs) (hT : Tab w) (k : Nat) (hk : k < 18446744073709551616) :
    Calls Tryd.prog 53 #[.pointer (some ⟨P, 0, none⟩), .int .u64 (k : Int), .func (.func 54) #[.pointer (some ⟨P, 0, none⟩)] #[]] w (LookP w m0 12 (.tuple #[.int .u64 ((K.nx xs k : Nat) : Int), .bool (K.nxb xs k)])) := by
  have hP0 := cell_of_row w P 0 _ _ (0, 0) h.row
  simp at hP0
  have hst := Lib.hid (x_start w m0 tk h.mx)
  have H := Lib.hid h
  obtain ⟨m, hm⟩ : ∃ m, T.wl xs k = m := ⟨_, rfl⟩
  have hm11 : m ≤ 11 := by rw [← hm]; exact T.wl_le xs k
  have HMM := Lib.hid hm
  have hTn := Lib.hid (hT.ne_m h.mx)
  have HTB := Lib.hid hT
  clear h hm hT
  by_cases hx : k ∈ xs
  · obtain ⟨e1, e2⟩ := T.nx_yes H.out.up hx
    rw [e1, e2]
    have HXX := Lib.hid hx
    clear hx e1 e2
    go_enter Tryd.func53, Tryd.ntmps53
    go_wp2_with (first
      | (go_at_call 45; (with_reducible refine hst.out.mono ?_); rintro e w1 ⟨rfl, hm1, hc1⟩
         have HC1 := Lib.hid hc1
         have HT1 := Lib.hid (H.out.met hc1 hm1)
         have hP1 := cell_of_row w1 P 1 _ _ (0, 0) HT1.out.row
         simp at hP1
         clear hm1 hc1)
      | (go_at_call 46; (with_reducible refine (t_walk_at w1 P Q m0 lim 0 root cn cf An Af ns fs xs pl HT1.out k hk (by omega)).mono ?_); rintro e w2 ⟨Aw, cw, rfl, hw2, hm2, hc2⟩
         rw [HMM.out] at hw2 hm2 ⊢
         have HW2 := Lib.hid hw2
         have HM2 := Lib.hid hm2
         have HC2 := Lib.hid (HC1.out.same hc2)
         have HT2 := Lib.hid (HT1.out.met hc2 hm2)
         clear hw2 hm2 hc2)
      | (go_at_call 48; (with_reducible refine (t_found w2 HT2.out k hk _ m cw Aw HMM.out.symm HW2.out).mono ?_); rintro e w3 ⟨rfl, N, rfl⟩; rw [decide_eq_true HXX.out]))
    go_ret2
    exact ⟨rfl, 0 + 1 * m, by omega, HM2.out.chg ((chg_refl w2 (fun _ => False)).drewN N) (fun h => h), HC2.out.drewN N⟩
  · have HXX := Lib.hid hx
    clear hx
    go_enter Tryd.func53, Tryd.ntmps53
    go_wp2_with (first
      | (go_at_call 45; (with_reducible refine hst.out.mono ?_); rintro e w1 ⟨rfl, hm1, hc1⟩
         have HC1 := Lib.hid hc1
         have HT1 := Lib.hid (H.out.met hc1 hm1)
         have hP1 := cell_of_row w1 P 1 _ _ (0, 0) HT1.out.row
         simp at hP1
         clear hm1 hc1)
      | (go_at_call 46; (with_reducible refine (t_walk_at w1 P Q m0 lim 0 root cn cf An Af ns fs xs pl HT1.out k hk (by omega)).mono ?_); rintro e w2 ⟨Aw, cw, rfl, hw2, hm2, hc2⟩
         rw [HMM.out] at hw2 hm2 ⊢
         have HW2 := Lib.hid hw2
         have HM2 := Lib.hid hm2
         have HC2 := Lib.hid (HC1.out.same hc2)
         have HT2 := Lib.hid (HT1.out.met hc2 hm2)
         clear hw2 hm2 hc2)
      | (go_at_call 48; (with_reducible refine (t_found w2 HT2.out k hk _ m cw Aw HMM.out.symm HW2.out).mono ?_); rintro e w3 ⟨rfl, N, rfl⟩; rw [decide_eq_false HXX.out])
      | (go_at_call 54; (with_reducible refine (t_above_nx (w2.drewN N) P Q m0 lim (0 + 1 * m) root cn cf An Af ns fs xs pl (HT2.out.drew N) (by omega) ((HTB.out.chg HC2.out hTn.out).drew N) k hk HXX.out m cw w1.heap.size Aw HMM.out (((chg_refl w2 (fun _ => False)).drewN N).own HW2.out (fun _ _ h => h))).mono ?_); rintro e w4 ⟨rfl, tk4, ht4, hx4, hc4⟩; have HX4 := Lib.hid hx4; have HC4 := Lib.hid ((HC2.out.drewN N).same hc4); clear hx4 hc4))
    go_ret2
    exact ⟨rfl, tk4, ht4, HX4.out, HC4.out⟩
theorem t_next (h : TW w P Q m0 lim tk An cn Af cf ns fs root pl xs) (hT : Tab w) (k : Nat) (hk : k < 18446744073709551616) :
    Calls Tryd.prog 29 #[.pointer (some ⟨P, 0, none⟩), .int .u64 (k : Int)] w (LookP w m0 12 (.tuple #[.int .u64 ((K.nx xs k : Nat) : Int), .bool (K.nxb xs k)])) := by
  have hn := Lib.hid (t_near_next w P Q m0 lim tk root cn cf An Af ns fs xs pl h hT k hk)
  clear h hT
  generalize K.nx xs k = y at *
  generalize K.nxb xs k = b at *
  go_enter Tryd.func29, Tryd.ntmps29
  go_wp2_with (go_at_call 53; (with_reducible refine hn.out.mono ?_); rintro e w4 ⟨rfl, tk4, ht4, hx4, hc4⟩; have HX4 := Lib.hid hx4; have HC4 := Lib.hid hc4; clear hx4 hc4)
  go_ret2
  exact ⟨rfl, tk4, ht4, HX4.out, HC4.out⟩
set_option maxHeartbeats 2000000 in
theorem t_near_prev (h : TW w P Q m0 lim tk An cn Af cf ns fs root pl xs) (hT : Tab w) (k : Nat) (hk : k < 18446744073709551616) :
    Calls Tryd.prog 53 #[.pointer (some ⟨P, 0, none⟩), .int .u64 (k : Int), .func (.func 55) #[.pointer (some ⟨P, 0, none⟩)] #[]] w (LookP w m0 12 (.tuple #[.int .u64 ((K.pv xs k : Nat) : Int), .bool (K.pvb xs k)])) := by
  have hP0 := cell_of_row w P 0 _ _ (0, 0) h.row
  simp at hP0
  have hst := Lib.hid (x_start w m0 tk h.mx)
  have H := Lib.hid h
  obtain ⟨m, hm⟩ : ∃ m, T.wl xs k = m := ⟨_, rfl⟩
  have hm11 : m ≤ 11 := by rw [← hm]; exact T.wl_le xs k
  have HMM := Lib.hid hm
  have hTn := Lib.hid (hT.ne_m h.mx)
  have HTB := Lib.hid hT
  clear h hm hT
  by_cases hx : k ∈ xs
  · obtain ⟨e1, e2⟩ := T.pv_yes H.out.up hx
    rw [e1, e2]
    have HXX := Lib.hid hx
    clear hx e1 e2
    go_enter Tryd.func53, Tryd.ntmps53
    go_wp2_with (first
      | (go_at_call 45; (with_reducible refine hst.out.mono ?_); rintro e w1 ⟨rfl, hm1, hc1⟩
         have HC1 := Lib.hid hc1
         have HT1 := Lib.hid (H.out.met hc1 hm1)
         have hP1 := cell_of_row w1 P 1 _ _ (0, 0) HT1.out.row
         simp at hP1
         clear hm1 hc1)
      | (go_at_call 46; (with_reducible refine (t_walk_at w1 P Q m0 lim 0 root cn cf An Af ns fs xs pl HT1.out k hk (by omega)).mono ?_); rintro e w2 ⟨Aw, cw, rfl, hw2, hm2, hc2⟩
         rw [HMM.out] at hw2 hm2 ⊢
         have HW2 := Lib.hid hw2
         have HM2 := Lib.hid hm2
         have HC2 := Lib.hid (HC1.out.same hc2)
         have HT2 := Lib.hid (HT1.out.met hc2 hm2)
         clear hw2 hm2 hc2)
      | (go_at_call 48; (with_reducible refine (t_found w2 HT2.out k hk _ m cw Aw HMM.out.symm HW2.out).mono ?_); rintro e w3 ⟨rfl, N, rfl⟩; rw [decide_eq_true HXX.out]))
    go_ret2
    exact ⟨rfl, 0 + 1 * m, by omega, HM2.out.chg ((chg_refl w2 (fun _ => False)).drewN N) (fun h => h), HC2.out.drewN N⟩
  · have HXX := Lib.hid hx
    clear hx
    go_enter Tryd.func53, Tryd.ntmps53
    go_wp2_with (first
      | (go_at_call 45; (with_reducible refine hst.out.mono ?_); rintro e w1 ⟨rfl, hm1, hc1⟩
         have HC1 := Lib.hid hc1
         have HT1 := Lib.hid (H.out.met hc1 hm1)
         have hP1 := cell_of_row w1 P 1 _ _ (0, 0) HT1.out.row
         simp at hP1
         clear hm1 hc1)
      | (go_at_call 46; (with_reducible refine (t_walk_at w1 P Q m0 lim 0 root cn cf An Af ns fs xs pl HT1.out k hk (by omega)).mono ?_); rintro e w2 ⟨Aw, cw, rfl, hw2, hm2, hc2⟩
         rw [HMM.out] at hw2 hm2 ⊢
         have HW2 := Lib.hid hw2
         have HM2 := Lib.hid hm2
         have HC2 := Lib.hid (HC1.out.same hc2)
         have HT2 := Lib.hid (HT1.out.met hc2 hm2)
         clear hw2 hm2 hc2)
      | (go_at_call 48; (with_reducible refine (t_found w2 HT2.out k hk _ m cw Aw HMM.out.symm HW2.out).mono ?_); rintro e w3 ⟨rfl, N, rfl⟩; rw [decide_eq_false HXX.out])
      | (go_at_call 55; (with_reducible refine (t_below_pv (w2.drewN N) P Q m0 lim (0 + 1 * m) root cn cf An Af ns fs xs pl (HT2.out.drew N) (by omega) ((HTB.out.chg HC2.out hTn.out).drew N) k hk HXX.out m cw w1.heap.size Aw HMM.out (((chg_refl w2 (fun _ => False)).drewN N).own HW2.out (fun _ _ h => h))).mono ?_); rintro e w4 ⟨rfl, tk4, ht4, hx4, hc4⟩; have HX4 := Lib.hid hx4; have HC4 := Lib.hid ((HC2.out.drewN N).same hc4); clear hx4 hc4))
    go_ret2
    exact ⟨rfl, tk4, ht4, HX4.out, HC4.out⟩
theorem t_prev (h : TW w P Q m0 lim tk An cn Af cf ns fs root pl xs) (hT : Tab w) (k : Nat) (hk : k < 18446744073709551616) :
    Calls Tryd.prog 30 #[.pointer (some ⟨P, 0, none⟩), .int .u64 (k : Int)] w (LookP w m0 12 (.tuple #[.int .u64 ((K.pv xs k : Nat) : Int), .bool (K.pvb xs k)])) := by
  have hn := Lib.hid (t_near_prev w P Q m0 lim tk root cn cf An Af ns fs xs pl h hT k hk)
  clear h hT
  generalize K.pv xs k = y at *
  generalize K.pvb xs k = b at *
  go_enter Tryd.func30, Tryd.ntmps30
  go_wp2_with (go_at_call 53; (with_reducible refine hn.out.mono ?_); rintro e w4 ⟨rfl, tk4, ht4, hx4, hc4⟩; have HX4 := Lib.hid hx4; have HC4 := Lib.hid hc4; clear hx4 hc4)
  go_ret2
  exact ⟨rfl, tk4, ht4, HX4.out, HC4.out⟩
set_option maxHeartbeats 2000000 in
theorem t_has (h : TW w P Q m0 lim tk An cn Af cf ns fs root pl xs) (k : Nat) (hk : k < 18446744073709551616) :
    Calls Tryd.prog 26 #[.pointer (some ⟨P, 0, none⟩), .int .u64 (k : Int)] w (LookP w m0 11 (.bool (K.fo xs k))) := by
  have hP0 := cell_of_row w P 0 _ _ (0, 0) h.row
  simp at hP0
  have hst := Lib.hid (x_start w m0 tk h.mx)
  have H := Lib.hid h
  obtain ⟨m, hm⟩ : ∃ m, T.wl xs k = m := ⟨_, rfl⟩
  have hm11 : m ≤ 11 := by rw [← hm]; exact T.wl_le xs k
  have HMM := Lib.hid hm
  have hfo : decide (k ∈ xs) = K.fo xs k := by
    have := K.fo_mem h.up k
    cases hf : K.fo xs k
    · exact decide_eq_false (fun hx => by rw [this.2 hx] at hf; cases hf)
    · exact decide_eq_true (this.1 hf)
  have HFO := Lib.hid hfo
  clear h hm hfo
  go_enter Tryd.func26, Tryd.ntmps26
  go_wp2_with (first
      | (go_at_call 45; (with_reducible refine hst.out.mono ?_); rintro e w1 ⟨rfl, hm1, hc1⟩
         have HC1 := Lib.hid hc1
         have HT1 := Lib.hid (H.out.met hc1 hm1)
         have hP1 := cell_of_row w1 P 1 _ _ (0, 0) HT1.out.row
         simp at hP1
         clear hm1 hc1)
      | (go_at_call 46; (with_reducible refine (t_walk_at w1 P Q m0 lim 0 root cn cf An Af ns fs xs pl HT1.out k hk (by omega)).mono ?_); rintro e w2 ⟨Aw, cw, rfl, hw2, hm2, hc2⟩
         rw [HMM.out] at hw2 hm2 ⊢
         have HW2 := Lib.hid hw2
         have HM2 := Lib.hid hm2
         have HC2 := Lib.hid (HC1.out.same hc2)
         have HT2 := Lib.hid (HT1.out.met hc2 hm2)
         clear hw2 hm2 hc2)
      | (go_at_call 48; (with_reducible refine (t_found w2 HT2.out k hk _ m cw Aw HMM.out.symm HW2.out).mono ?_); rintro e w3 ⟨rfl, N, rfl⟩; rw [HFO.out]))
  go_ret
  exact ⟨rfl, 0 + 1 * m, by omega, HM2.out.chg ((chg_refl w2 (fun _ => False)).drewN N) (fun h => h), HC2.out.drewN N⟩
end
theorem t_next_nil (w : World) (k : Int) : Calls Tryd.prog 29 #[.pointer none, .int .u64 k] w fun e w' => e = .returned (.tuple #[.int .u64 0, .bool false]) ∧ w = w' := by
  have hn : ∀ v, Hid (Calls Tryd.prog 53 #[.pointer none, .int .u64 k, v] w fun e w' => e = .returned (.tuple #[.int .u64 0, .bool false]) ∧ w = w') := by
    intro v
    unfold Hid
    go_enter Tryd.func53, Tryd.ntmps53
    go_wp2
    go_ret2
    exact ⟨rfl, rfl⟩
  go_enter Tryd.func29, Tryd.ntmps29
  go_wp2_with (go_at_call 53; (with_reducible refine (hn _).out.mono ?_); rintro e w4 ⟨rfl, rfl⟩)
  go_ret2
  exact ⟨rfl, rfl⟩
theorem t_prev_nil (w : World) (k : Int) : Calls Tryd.prog 30 #[.pointer none, .int .u64 k] w fun e w' => e = .returned (.tuple #[.int .u64 0, .bool false]) ∧ w = w' := by
  have hn : ∀ v, Hid (Calls Tryd.prog 53 #[.pointer none, .int .u64 k, v] w fun e w' => e = .returned (.tuple #[.int .u64 0, .bool false]) ∧ w = w') := by
    intro v
    unfold Hid
    go_enter Tryd.func53, Tryd.ntmps53
    go_wp2
    go_ret2
    exact ⟨rfl, rfl⟩
  go_enter Tryd.func30, Tryd.ntmps30
  go_wp2_with (go_at_call 53; (with_reducible refine (hn _).out.mono ?_); rintro e w4 ⟨rfl, rfl⟩)
  go_ret2
  exact ⟨rfl, rfl⟩
end Go.Proofs.YtbiingpdchoppaaDoor
end
section
namespace Go.Proofs.YtbiingpdchoppaaDoor
set_option maxRecDepth 40000
open Go.RowKit
theorem with_tail {T G : Prop} (t : T) (g : T → G) : G := g t
/-- Is the level's node gone? -/
def shGone (xs : List Nat) (k j : Nat) : Bool := !decide (T.prs (K.drop xs k) j (T.pre j k))
theorem rev_prefix {n y : Nat} {pre : List Nat} (h : pre ++ [y] <+: (List.range n).reverse) : pre.length < n ∧ y = n - 1 - pre.length := by
  obtain ⟨t, ht⟩ := h
  have hl := congrArg List.length ht
  simp at hl
  refine ⟨by omega, ?_⟩
  have h1 : (pre ++ [y] ++ t)[pre.length]? = some y := by simp
  rw [ht, List.getElem?_reverse (by simp; omega), List.length_range, List.getElem?_range (by omega)] at h1
  simp at h1
  omega
def ShI (W0 : World) (P Q m0 lim tk root : Nat) (xs : List Nat) (k m Bg : Nat) (TB0 : Nat → Prop) (ns0 : List (Nd × Bool)) (pl : Nat → Nat → Nat) (j : Nat) (O : Nat → Prop) (W : World) : Prop :=
  ∃ An cn Af cf ns fs, (∀ i, TBk P Q m0 An Af ns i → O i) ∧ O Bg ∧ (∀ i, O i → i < W.heap.size ∧ (TB0 i ∨ W0.heap.size ≤ i)) ∧ SS W0 W P Q m0 lim tk root xs k m j TB0 ns0 pl An cn Af cf ns fs ∧ W.heap[Bg]? = some (.cells #[.bool (shGone xs k j)] 4 (0, 0))
section
variable {W0 : World} {P Q m0 lim tk root k m Bg : Nat} {xs : List Nat} {TB0 : Nat → Prop} {ns0 : List (Nd × Bool)} {pl : Nat → Nat → Nat} {j : Nat} {O : Nat → Prop} {W W' : World}
theorem ShI.keep (h : ShI W0 P Q m0 lim tk root xs k m Bg TB0 ns0 pl j O W) {R : Nat → Prop} (hc : K.Chg W W' R) (hR : ∀ i, R i → ¬ O i ∧ (TB0 i ∨ W0.heap.size ≤ i)) : ShI W0 P Q m0 lim tk root xs k m Bg TB0 ns0 pl j O W' := by
  obtain ⟨An, cn, Af, cf, ns, fs, h1, h2, h3, h4, h5⟩ := h
  exact ⟨An, cn, Af, cf, ns, fs, h1, h2, fun i hi => ⟨Nat.lt_of_lt_of_le (h3 i hi).1 hc.size, (h3 i hi).2⟩, h4.frame hc (fun i hi ht => (hR i hi).1 (h1 i ht)) (fun i hi => (hR i hi).2), (hc.block Bg (row_lt h5) (fun h => (hR _ h).1 h2)).trans h5⟩
theorem ShI.abides : Abides W0.heap.size (fun (pre : List Nat) O W => ShI W0 P Q m0 lim tk root xs k m Bg TB0 ns0 pl (11 - pre.length) O W) := fun s O W W' R h hw hR =>
  h.keep hw.chg (fun i hi => ⟨(hR i hi).1, .inr (hR i hi).2⟩)
theorem ShI.alloc (h : ShI W0 P Q m0 lim tk root xs k m Bg TB0 ns0 pl j O W) (hs : W0.heap.size ≤ W.heap.size) (o : Obj) : ShI W0 P Q m0 lim tk root xs k m Bg TB0 ns0 pl j (fun i => O i ∨ i = W.heap.size) (W.alloc o) ∧ OwnStep O (fun i => O i ∨ i = W.heap.size) W (W.alloc o) := by
  obtain ⟨An, cn, Af, cf, ns, fs, h1, h2, h3, h4, h5⟩ := h.keep (chg_alloc W o (fun _ => False)) (fun _ h => h.elim)
  have hz : (W.alloc o).heap.size = W.heap.size + 1 := by simp
  refine ⟨⟨An, cn, Af, cf, ns, fs, fun i hi => .inl (h1 i hi), .inl h2, fun i hi => ?_, h4, h5⟩, but_alloc' W o O, fun i hi => ⟨?_, ?_⟩⟩
  · rcases hi with hi | rfl
    · exact h3 i hi
    · exact ⟨by omega, .inr hs⟩
  · rcases hi with hi | rfl
    · exact .inl hi
    · exact .inr (Nat.le_refl _)
  · rcases hi with hi | rfl
    · exact (h3 i hi).1
    · omega
theorem ShI.chg (h : ShI W0 P Q m0 lim tk root xs k m Bg TB0 ns0 pl j O W) : K.Chg W0 W TB0 := by
  obtain ⟨_, _, _, _, _, _, _, _, _, h4, _⟩ := h
  exact h4.chg
end
/-- How it ends. -/
theorem SS.tw {w0 w1 w : World} {P Q m0 lim tk root cn0 cf0 cn cf k m : Nat} {An0 Af0 An Af : Option Addr} {TB0 : Nat → Prop} {ns0 ns : List (Nd × Bool)} {fs0 fs xs : List Nat} {pl : Nat → Nat → Nat} (h0 : TW w0 P Q m0 lim tk An0 cn0 Af0 cf0 ns0 fs0 root pl xs) (hk : k < 18446744073709551616) (hkx : k ∈ xs) (hm : T.wl (K.drop xs k) k = m)
    (h : SS w1 w P Q m0 lim tk root xs k m 0 TB0 ns0 pl An cn Af cf ns fs) : TW w P Q m0 lim tk An cn Af cf ns fs root pl (K.drop xs k) := by
  have h1 := T.trie_drop h0.up hk h0.lt hkx hm
  have h2 := h.used
  have hm11 : m ≤ 11 := by rw [← hm]; exact T.wl_le _ _
  exact ⟨h.row, h.mx, h.po, h.kids, h.tr.ddone, fun hne => h0.rt (fun e => by rw [e] at hkx; cases hkx), by omega, K.drop_up h0.up k, fun x hx => h0.lt x ((K.drop_mem h0.up k x).1 hx).2, h0.rl⟩
theorem wpIn_world {F : Fence} {n : Nat} {P : Program} {c : Code} {Q : Exit → Act → World → Prop} {a : Act} {w : World} (h : ∀ X, X = w → c.wpIn F n P Q a X) : c.wpIn F n P Q a w := h w rfl
theorem wpAny_world {F : Fence} {n : Nat} {P : Program} {md : Region.Mode} {ops : Array Oper} {Q : Exit → Act → World → Prop} {fuel : Nat} {ls : Array Bool} {a : Act} {w : World} (h : ∀ X, X = w → wpAnyIn F n P md ops Q fuel ls a X) : wpAnyIn F n P md ops Q fuel ls a w := h w rfl
theorem ShI.step {W0 W Y w5 : World} {P Q m0 lim tk root k m l cn cf i Bg : Nat} {xs fs fs' : List Nat} {TB0 O : Nat → Prop} {ns0 ns ns' : List (Nd × Bool)} {pl : Nat → Nat → Nat} {An Af : Option Addr} {x : Nd} {b : Bool} {v : Value}
    (hO : (∀ i, TBk P Q m0 An Af ns i → O i) ∧ O Bg ∧ ∀ i, O i → i < W.heap.size ∧ (TB0 i ∨ W0.heap.size ≤ i)) (h : SS W0 W P Q m0 lim tk root xs k m (l + 1) TB0 ns0 pl An cn Af cf ns fs) (hu : K.Up xs) (hk : k ∈ xs) (hl : l < 11) (hm : T.wl (K.drop xs k) k = m) (hi : i = pl l (T.pre l k))
    (hB : W.heap[Bg]? = some (.cells #[v] 4 (0, 0))) (hB1 : Y.heap[Bg]? = some (.cells #[.bool (shGone xs k l)] 4 (0, 0))) (hTB : TB0 Bg)
    (A0 : Option Addr) (hA0 : ∀ g, A0.map (·.block) = some g → ∃ hi : i < ns.length, ns[i].1.A.map (·.block) = some g)
    (h1 : K.Chg W Y (fun j => A0.map (·.block) = some j ∨ j = Bg)) (hx : Y.ownsRow 0 3 1 (.slice x.A x.ch.length x.c) x.ch.length (iw x.ch)) (hxb : ∀ j, x.A.map (·.block) = some j → A0.map (·.block) = some j ∨ W.heap.size ≤ j)
    (h2 : QStep Y Q m0 lim An Af ns' fs' w5) (hn : ∀ j, j ≠ i → ns'[j]? = ns[j]?) (hni : ns'[i]? = some (x, b))
    (hc : (b = false ∧ m ≤ l ∧ ns'.length - fs'.length + 1 = ns.length - fs.length) ∨ (b = true ∧ l < m ∧ ns'.length - fs'.length = ns.length - fs.length ∧ T.NdOK (K.drop xs k) pl l (T.pre l k) x.W x.ks x.le x.gr x.ch)) :
    ∃ O', OwnStep O O' W w5 ∧ ShI W0 P Q m0 lim tk root xs k m Bg TB0 ns0 pl l O' w5 := by
  obtain ⟨hO1, hO2, hO3⟩ := hO
  obtain ⟨An', cn', Af', cf', hS, hC, hbl, hg⟩ := h.step2 hu hk hl hm hi hB hB1 hTB A0 hA0 h1 hx hxb h2 hn hni hc
  refine ⟨fun i => TBk P Q m0 An' Af' ns' i ∨ i = Bg, ⟨ButS.of_chg (hC.mono (fun j hj => ?_)), fun j hj => ⟨?_, ?_⟩⟩, An', cn', Af', cf', ns', fs', fun i hi => .inl hi, .inr rfl, fun j hj => ⟨?_, ?_⟩, hS, hg⟩
  · rcases hj with hj | rfl
    · exact hO1 j hj
    · exact hO2
  · rcases hj with hj | rfl
    · rcases hbl j hj with h3 | h3
      · exact .inl (hO1 j h3)
      · exact .inr h3
    · exact .inl hO2
  · rcases hj with hj | rfl
    · exact (hS.types hj).1
    · exact row_lt hg
  · rcases hj with hj | rfl
    · exact (hS.types hj).1
    · exact row_lt hg
  · rcases hj with hj | rfl
    · exact hS.blk j hj
    · exact .inl hTB
theorem T.Ab.out {xs : List Nat} {k y : Nat} {b : Bool} (h : T.Ab xs k y b) : ∀ x ∈ xs, k < x → y ∈ xs ∧ k < y ∧ y ≤ x := by
  rcases h with ⟨_, h1, h2, h3⟩ | ⟨_, _, h3⟩
  · exact fun x hx hk => ⟨h1, h2, h3 x hx hk⟩
  · exact fun x hx hk => by have := h3 x hx; omega
theorem T.Be.out {xs : List Nat} {k y : Nat} {b : Bool} (h : T.Be xs k y b) : ∀ x ∈ xs, x < k → y ∈ xs ∧ y < k ∧ x ≤ y := by
  rcases h with ⟨_, h1, h2, h3⟩ | ⟨_, _, h3⟩
  · exact fun x hx hk => ⟨h1, h2, h3 x hx hk⟩
  · exact fun x hx hk => by have := h3 x hx; omega
/-- What a node is whose only key is k. -/
theorem T.one_left {xs : List Nat} {pl : Nat → Nat → Nat} {l k W ks le gr : Nat} {ch : List Nat} (h : T.NdOK xs pl l (T.pre l k) W ks le gr ch) (hk : k ∈ xs) : 1 ≤ ks ∧ (ks - 1 = 0 → le = k ∧ gr = k) := by
  have hm : k ∈ T.sub xs l (T.pre l k) := T.mem_sub.2 ⟨hk, rfl⟩
  have h1 := h.ks
  have h2 := h.le
  have h3 := h.gr
  generalize T.sub xs l (T.pre l k) = ys at *
  match ys, hm with
  | [y], hm =>
    simp at hm h1 h2 h3
    omega
  | y :: z :: r, hm =>
    simp at h1
    omega
/-- A node with a key less, in whatever way its digit's node goes. -/
theorem T.NdOK.less {xs : List Nat} {pl : Nat → Nat → Nat} {l k W ks le gr ab bw : Nat} {b1 b2 : Bool} {ch : List Nat} (h : T.NdOK xs pl l (T.pre l k) W ks le gr ch) (hl : l < 11) (hx : K.Up xs) (hk : k ∈ xs) (h1 : ks - 1 ≠ 0) (hab : T.Ab xs k ab b1) (hbw : T.Be xs k bw b2) :
    T.NdOK (K.drop xs k) pl l (T.pre l k) (if shGone xs k (l + 1) then W &&& (18446744073709551615 - M.one (T.dig l k)) else W) (ks - 1) (if le = k then ab else le) (if gr = k then bw else gr) (if shGone xs k (l + 1) then (if K.fi (M.bl W) (T.dig l k) < ch.length then ch.take (K.fi (M.bl W) (T.dig l k)) ++ ch.drop (K.fi (M.bl W) (T.dig l k) + 1) else ch) else ch) := by
  have := h.shrink hl hx hk h1 (shGone xs k (l + 1)) rfl hab.out hbw.out
  cases hg : shGone xs k (l + 1) with
  | true =>
    rw [hg] at this
    simp only [true_and] at this
    simpa using this
  | false =>
    rw [hg] at this
    simpa using this
end Go.Proofs.YtbiingpdchoppaaDoor
end
section
namespace Go.Proofs.YtbiingpdchoppaaDoor
set_option maxRecDepth 40000
open Go.RowKit Go.Shelf
attribute [local go_sem] Oper.semAt_some
attribute [local simp] wide_fn
theorem t_top_nil (w : World) : Calls Tryd.prog 52 #[.pointer none] w fun e w' => e = .returned (.tuple #[ndzv, .bool false]) ∧ Below w.heap.size w w' := by
  go_enter Tryd.func52, Tryd.ntmps52
  go_wp2
  refine bodyPost_ret (nd_res rfl _ _ w.heap.size _ _ _ _ _ _ rfl (K.alloc_top _ _) rfl) rfl ?_
  exact ⟨rfl, (Below.refl _ w).alloc (Nat.le_refl _) _⟩
theorem t_min_nil (w : World) : Calls Tryd.prog 27 #[.pointer none] w fun e w' => e = .returned (.tuple #[.int .u64 0, .bool false]) ∧ Below w.heap.size w w' := by
  have ht := Lib.hid (t_top_nil w)
  go_enter Tryd.func27, Tryd.ntmps27
  go_wp2_with (go_at_call 52; (with_reducible refine ht.out.mono ?_); rintro e w1 ⟨rfl, hb⟩; have HB := Lib.hid hb; clear hb)
  go_ret2
  exact ⟨rfl, HB.out.alloc HB.out.size _⟩
theorem t_max_nil (w : World) : Calls Tryd.prog 28 #[.pointer none] w fun e w' => e = .returned (.tuple #[.int .u64 0, .bool false]) ∧ Below w.heap.size w w' := by
  have ht := Lib.hid (t_top_nil w)
  go_enter Tryd.func28, Tryd.ntmps28
  go_wp2_with (go_at_call 52; (with_reducible refine ht.out.mono ?_); rintro e w1 ⟨rfl, hb⟩; have HB := Lib.hid hb; clear hb)
  go_ret2
  exact ⟨rfl, HB.out.alloc HB.out.size _⟩
theorem t_all_any (w : World) (p : Option Addr) : Calls Tryd.prog 43 #[.pointer p] w fun e w' => e = .returned (.func (.func 66) #[] #[.pointer (some ⟨w.heap.size, 0, none⟩)]) ∧ w' = w.alloc (.cells #[.pointer p] 25) := by
  go_enter Tryd.func43, Tryd.ntmps43
  go_wp2
  go_ret
  exact ⟨rfl, rfl⟩
theorem t_all1_nil (l Bn : Nat) (W : World) (hr : W.heap[Bn]? = some (.cells #[.pointer none] 25 (0, 0))) :
    CallsIn Fence.wide 8 Tryd.prog 66 #[.func (.yield l) #[] #[], .pointer (some ⟨Bn, 0, none⟩)] W fun e W' => e = .returned (.tuple #[]) ∧ W = W' := by
  have hc := cell_of_row W Bn 0 _ _ (0, 0) hr
  simp at hc
  refine callsIn_of_wp Tryd.func66 rfl trivial ?_ rfl
  simp only [Tryd.ntmps66, List.size_toArray, List.length_cons, List.length_nil, Nat.reduceAdd, Nat.reduceSub, Array.replicate_succ, Array.replicate_zero, List.push_toArray, List.append_toArray, List.nil_append, List.cons_append]
  gi_wp2_with (gi_at_call 32; refine (callsIn_wide.2 (t_len_nil _)).mono ?_; rintro e w' ⟨rfl, rfl⟩)
  go_end0
  exact ⟨rfl, rfl⟩
theorem all_stops_nil (Bn : Nat) (w : World) (hr : w.heap[Bn]? = some (.cells #[.pointer none] 25 (0, 0))) :
    SeqStopsK Fence.wide 8 Tryd.prog 66 #[.pointer (some ⟨Bn, 0, none⟩)] (fun y : Nat => #[Value.int .u64 (y : Int)]) (fun _ _ => True) (fun ys => ys = []) (fun pre => pre = []) 0 w := fun l J Jx W hW _ _ _ h0 =>
  (t_all1_nil l Bn W ((hW.block Bn (row_lt hr)).trans hr)).mono (by rintro e W' ⟨rfl, rfl⟩; exact ⟨⟨_, rfl⟩, .inl ⟨[], rfl, h0⟩⟩)
theorem three_rows (w : World) (a b c : Obj) : (((w.alloc a).alloc b).alloc c).heap.size = w.heap.size + 3 ∧ (((w.alloc a).alloc b).alloc c).heap[w.heap.size]? = some a ∧ (((w.alloc a).alloc b).alloc c).heap[w.heap.size + 1]? = some b ∧ (((w.alloc a).alloc b).alloc c).heap[w.heap.size + 2]? = some c ∧ K.Chg w (((w.alloc a).alloc b).alloc c) (fun _ => False) := by
  have c1 := chg_alloc w a (fun _ => False)
  have c2 := chg_alloc (w.alloc a) b (fun _ => False)
  have c3 := chg_alloc ((w.alloc a).alloc b) c (fun _ => False)
  have t1 := K.alloc_top w a
  have t2 := K.alloc_top (w.alloc a) b
  have t3 := K.alloc_top ((w.alloc a).alloc b) c
  simp only [World.size_alloc, Nat.add_assoc, Nat.reduceAdd] at t2 t3
  exact ⟨by simp, ((c2.same c3).block _ (by simp) (fun h => h)).trans t1, (c3.block _ (by simp) (fun h => h)).trans t2, t3, (c1.same c2).same c3⟩
set_option maxRecDepth 100000 in
set_option maxHeartbeats 1000000 in
theorem law_all_nil (w : World) (most : Int) : Calls Tryd.prog 19 #[.pointer none, .int .i64 most] w fun e w' => e = .returned (.slice none 0 0) ∧ K.Chg w w' (fun _ => False) := by
  refine (callsIn_wide (n := 9)).1 ?_
  refine callsIn_of_wp_marks Tryd.func19 rfl trivial ?_ rfl
  simp only [Tryd.ntmps19, List.size_toArray, List.length_cons, List.length_nil, Nat.reduceAdd, Nat.reduceSub, Array.replicate_succ, Array.replicate_zero, List.push_toArray, List.append_toArray, List.nil_append, List.cons_append]
  gi_wp2_with (gi_at_call 43; refine (callsIn_wide.2 (t_all_any _ none)).mono ?_; rintro e w' ⟨rfl, rfl⟩)
  obtain ⟨hsz, r0, r1, r2, hC0⟩ := three_rows w (.cells #[.int .i64 most] 3) (.cells #[.slice none 0 0] 29) (.cells #[.pointer none] 25)
  generalize hW0 : ((w.alloc (.cells #[.int .i64 most] 3)).alloc (.cells #[.slice none 0 0] 29)).alloc (.cells #[.pointer none] 25) = W0 at *
  clear hW0
  refine wpIn_rangeFunc_ownH rfl (by decide) (gf := 66) (lb := #[.pointer (some ⟨w.heap.size + 2, 0, none⟩)]) rfl trivial (enters_of Tryd.func66 (by kernel_rfl) rfl)
    (all_stops_nil (w.heap.size + 2) W0 r2) (fun _ _ => trivial) (fun _ _ _ _ _ _ _ _ => trivial) (Below.refl _ _) (fun _ => rfl)
    (fun _ W => K.Chg W0 W (fun _ => False)) (fun _ _ _ => False) (ownFrom_chg (Nat.le_refl _)) (fun _ _ _ _ _ h _ _ => h) (chg_refl _ _) (fun _ _ _ => True) (fun _ _ _ _ _ _ h _ _ => h)
    ?assign ?body ?done ?stop
  case assign =>
    rintro l pre y W K0 hI hK
    gi_wp2
    exact hK _ _ (KeepsFrom.refl _ _) trivial hI trivial
  case body =>
    rintro l pre y a' W _ _ _ _ h
    exact absurd h (Nat.not_lt_zero _)
  case done =>
    rintro D zs W hD hzs hI hK
    have q1 := (hI.block (w.heap.size + 1) (by omega) (fun h => h)).trans r1
    have z1 : W.cell? ⟨w.heap.size + 1, 0, none⟩ = some (.slice none 0 0) := by simpa using cell_of_row W _ 0 _ _ (0, 0) q1
    have HK := Lib.hid hK
    have HI := Lib.hid hI
    clear hK hI q1 r0 r1 r2
    gi_wp2
    refine ⟨by simp, .inl ⟨_, _, rfl, run_takeDeferred HK.out, ?_⟩⟩
    refine ⟨_, results_tmp rfl _ _ _, rfl, (hC0.same HI.out).grown (grownBy_putObj' W D (.deferred none)) (fun j e => .inr (by cases e; omega))⟩
  case stop =>
    rintro D c pre W hD hpre h hK
    exact h.elim
end Go.Proofs.YtbiingpdchoppaaDoor
end
