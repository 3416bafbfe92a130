/- The keys of a y-fast trie, one by one, over any body; the text walked. -/
import Derived.Test.YtelfacchhclgnaaGreatMu38
import Derived.Test.YtelfacchhclgnaaGreatMu39
import Derived.Test.YtelfacchhclgnaaGreatMu42
namespace Go.Proofs.YtelfacchhclgnaaGreat
open Go.RowKit Go.Shelf
theorem wide_fnZ (f : Nat) : Fence.wide.fn f := trivial
attribute [local go_sem] Oper.semAt_some
attribute [local simp] wide_fnZ
theorem xf_all_anyY (w : World) (p : Option Addr) : Calls Tryz.prog 77 #[.pointer p] w fun e w' => e = .returned (.func (.func 108) #[] #[.pointer (some ⟨w.heap.size, 0, none⟩)]) ∧ w' = w.alloc (.cells #[.pointer p] 41) := by
  go_enter Tryz.func77, Tryz.ntmps77
  go_wp2
  go_ret
  exact ⟨rfl, rfl⟩
theorem inv_at {BL : Yp.LL} {l : Bk.BL} {rs : List Nat} {es : Es} {ns : List (Yp.Nd × Bool)} {fs : List Nat} {G : Nat → List Nat} (h : Inv BL l rs es ns fs G) {m : Nat} (hm : m < l.length) :
    ∃ i0 A n c ah be, ((0, l[m].1), i0) ∈ es ∧ ns[i0]? = some (⟨l[m].1, A, n, c, ah, be⟩, true) ∧ G i0 = l[m].2 := by
  have hl : l = l.take m ++ l[m] :: l.drop (m + 1) := by rw [← List.drop_eq_getElem_cons hm, List.take_append_drop]
  obtain ⟨B1, x, B2, hB, _, hc, _⟩ := h.cut hl
  have hs := h.seg
  rw [hB] at hs
  have hnd := nd_at hs
  rw [hc]
  refine ⟨x.1, _, _, _, _, _, h.ee.mem_iff.2 (List.mem_map.2 ⟨x, by rw [hB]; simp, rfl⟩), hnd, rfl⟩
theorem reps_at {l : Bk.BL} {pre : List Nat} {x : Nat} (h : pre ++ [x] <+: Bk.reps l) : ∃ hm : pre.length < l.length, l[pre.length].1 = x := by
  obtain ⟨t, ht⟩ := h
  have hlen : (Bk.reps l).length = l.length := by simp [Bk.reps]
  have hm : pre.length < (Bk.reps l).length := by rw [← ht]; simp
  refine ⟨by omega, ?_⟩
  have e : (Bk.reps l)[pre.length] = x := by
    have : (Bk.reps l)[pre.length]? = some x := by rw [← ht]; simp
    rw [List.getElem?_eq_getElem hm] at this
    exact Option.some.inj this
  rw [← e]
  simp [Bk.reps]
theorem keys_take_succ {l : Bk.BL} {m : Nat} (hm : m < l.length) : Bk.keys (l.take (m + 1)) = Bk.keys (l.take m) ++ l[m].2 := by
  rw [List.take_succ_eq_append_getElem hm, Bk.keys_app]
  simp [Bk.keys]
theorem keys_pre {l : Bk.BL} {m i : Nat} (hm : m < l.length) : Bk.keys (l.take m) ++ l[m].2.take i <+: Bk.keys l := by
  have hl : l = l.take m ++ l[m] :: l.drop (m + 1) := by rw [← List.drop_eq_getElem_cons hm, List.take_append_drop]
  refine ⟨l[m].2.drop i ++ Bk.keys (l.drop (m + 1)), ?_⟩
  conv => rhs; rw [hl, Bk.keys_app, Bk.keys_cons]
  rw [List.append_assoc, ← List.append_assoc (l[m].2.take i), List.take_append_drop]
theorem roundIn_anyZ {m m' l0 : Nat} {P : Program} {l : Nat} {f : FuncId} {tmps : Array Value} {assign body : Code} {w : World} {R : Ending → World → Prop}
    (h : RoundIn Fence.wide m P l f tmps assign body w R) : RoundIn (Fence.wide.inRound l0) m' P l f tmps assign body w R :=
  ⟨h.1, fun c cs _ => h.2 c cs (fun d hd => by cases hd)⟩
section
variable (W0 : World) (P M X T Q lim tk : Nat) (kn : Int) (rs : List Nat) (es : Es) (ns : List (Yp.Nd × Bool)) (fs : List Nat) (G : Nat → List Nat) (OX : Nat → Prop) (r c : Int) (seed Qt Mt nn pr : Nat) (An : Option Addr) (cn : Nat) (Af : Option Addr) (cf : Nat)
/-- The trie while its keys are told. -/
def YY (P M X T Q lim tk : Nat) (kn : Int) (rs : List Nat) (es : Es) (ns : List (Yp.Nd × Bool)) (fs : List Nat) (G : Nat → List Nat) (OX : Nat → Prop) (r c : Int) (seed Mt : Nat) (An : Option Addr) (cn : Nat) (Af : Option Addr) (cf : Nat) (R : Nat → Prop) (W : World) : Prop :=
  ∃ Qt nn pr, YB W P M X T Q lim tk kn rs es ns fs G OX r c seed Qt Mt nn pr An cn Af cf ∧ ∀ j, Hs.TF T Qt Mt j → R j
theorem yy_fr {P M X T Q lim tk : Nat} {kn : Int} {rs : List Nat} {es : Es} {ns : List (Yp.Nd × Bool)} {fs : List Nat} {G : Nat → List Nat} {OX : Nat → Prop} {r c : Int} {seed Mt : Nat} {An : Option Addr} {cn : Nat} {Af : Option Addr} {cf : Nat} {Z : Nat → Prop} (hZ : ∀ j, j = P ∨ j = M ∨ OX j ∨ Yp.QB Q An Af j ∨ KBl ns j → Z j) : YFr Z (YY P M X T Q lim tk kn rs es ns fs G OX r c seed Mt An cn Af cf) := by
  rintro Rt W W' R ⟨Qt, nn, pr, hb, ht⟩ hw hR
  refine ⟨Qt, nn, pr, hb.chg hw.chg (fun j hj hr => ?_), ht⟩
  have := hR j (hb.lt hj) hr
  rcases hj with h | h | h | h | h | h
  · exact this.1 (hZ j (.inl h))
  · exact this.1 (hZ j (.inr (.inl h)))
  · exact this.1 (hZ j (.inr (.inr (.inl h))))
  · exact this.2 (ht j h)
  · exact this.1 (hZ j (.inr (.inr (.inr (.inl h)))))
  · exact this.1 (hZ j (.inr (.inr (.inr (.inr h)))))
theorem YB.c1 {w : World} {P M X T Q lim tk : Nat} {kn : Int} {rs : List Nat} {es : Es} {ns : List (Yp.Nd × Bool)} {fs : List Nat} {G : Nat → List Nat} {OX : Nat → Prop} {r c : Int} {seed Qt Mt n pr : Nat} {An : Option Addr} {cn : Nat} {Af : Option Addr} {cf : Nat} (h : YB w P M X T Q lim tk kn rs es ns fs G OX r c seed Qt Mt n pr An cn Af cf) : w.cell? ⟨P, 1, none⟩ = some (.pointer (some ⟨X, 0, none⟩)) := cell_of_row w P 1 _ _ (0, 0) h.row
theorem YB.c3 {w : World} {P M X T Q lim tk : Nat} {kn : Int} {rs : List Nat} {es : Es} {ns : List (Yp.Nd × Bool)} {fs : List Nat} {G : Nat → List Nat} {OX : Nat → Prop} {r c : Int} {seed Qt Mt n pr : Nat} {An : Option Addr} {cn : Nat} {Af : Option Addr} {cf : Nat} (h : YB w P M X T Q lim tk kn rs es ns fs G OX r c seed Qt Mt n pr An cn Af cf) : w.cell? ⟨P, 3, none⟩ = some (.pointer (some ⟨Q, 0, none⟩)) := cell_of_row w P 3 _ _ (0, 0) h.row
end
theorem four_set {V : World} {nb : Nat} {a b c d : Value} {T : TypeId} (x0 x1 x2 x3 : Value) (h : V.heap[nb]? = some (.cells #[a, b, c, d] T (0, 0))) :
    ((((V.setCell ⟨nb, 0, none⟩ x0).setCell ⟨nb, 1, none⟩ x1).setCell ⟨nb, 2, none⟩ x2).setCell ⟨nb, 3, none⟩ x3).heap[nb]? = some (.cells #[x0, x1, x2, x3] T (0, 0)) ∧ K.Chg V ((((V.setCell ⟨nb, 0, none⟩ x0).setCell ⟨nb, 1, none⟩ x1).setCell ⟨nb, 2, none⟩ x2).setCell ⟨nb, 3, none⟩ x3) (· = nb) := by
  have r1 := row_set h 0 x0
  have r2 := row_set r1 1 x1
  have r3 := row_set r2 2 x2
  have r4 := row_set r3 3 x3
  exact ⟨by simpa using r4, ((chg_set V nb 0 x0 (· = nb) rfl).same (chg_set _ nb 1 x1 (· = nb) rfl)).same ((chg_set _ nb 2 x2 (· = nb) rfl).same (chg_set _ nb 3 x3 (· = nb) rfl))⟩
theorem xg_ny {r c : Int} {w : World} {X lim tk : Nat} {xs : List Nat} {O : Nat → Prop} (h : XG r c w X xs lim tk O) {j : Nat} (hj : O j) : ¬ Bt w j 74 := by
  letI : Gh := ⟨r, c⟩
  obtain ⟨C, Q, M, P, L, es, hs⟩ := h
  obtain ⟨⟨seed, An, cn, Af, cf, ns, fs, Qt, Mt, n, pr, hb, rfl⟩, te, ks, up, cnt, le, max, few⟩ := hs
  rintro ⟨cs, hu⟩
  rcases hj with rfl | rfl | hj | hj
  · exact row_ne hb.row hu (by decide) rfl
  · obtain ⟨_, _, _, _, _, hr, _⟩ := hb.mx
    exact row_ne hr hu (by decide) rfl
  · obtain ⟨c', t', hr, ht⟩ := cb_rows hb.ch hj
    rcases ht with rfl | rfl | rfl | rfl <;> exact row_ne hr hu (by decide) rfl
  · obtain ⟨c', t', hr, ht⟩ := tf_rows hb.tab hj
    rcases ht with rfl | rfl | rfl <;> exact row_ne hr hu (by decide) rfl
/-- What a round has of the trie from the world Wc on. -/
def YSt (Wc : World) (P M X T Q lim tk : Nat) (kn : Int) (rs : List Nat) (es : Es) (ns : List (Yp.Nd × Bool)) (fs : List Nat) (G : Nat → List Nat) (OX : Nat → Prop) (r c : Int) (seed Mt : Nat) (An : Option Addr) (cn : Nat) (Af : Option Addr) (cf Qt1 : Nat) (V : World) : Prop :=
  ∃ Qt nn pr, YB V P M X T Q lim tk kn rs es ns fs G OX r c seed Qt Mt nn pr An cn Af cf ∧ (Qt = Qt1 ∨ Wc.heap.size ≤ Qt) ∧ K.Chg Wc V (Hs.TF T Qt1 Mt)
section
variable {Wc V V' : World} {P M X T Q lim tk : Nat} {kn : Int} {rs : List Nat} {es : Es} {ns : List (Yp.Nd × Bool)} {fs : List Nat} {G : Nat → List Nat} {OX : Nat → Prop} {r c : Int} {seed Mt : Nat} {An : Option Addr} {cn : Nat} {Af : Option Addr} {cf Qt1 : Nat}
theorem YSt.start {nn pr : Nat} (h : YB Wc P M X T Q lim tk kn rs es ns fs G OX r c seed Qt1 Mt nn pr An cn Af cf) : YSt Wc P M X T Q lim tk kn rs es ns fs G OX r c seed Mt An cn Af cf Qt1 Wc.drew :=
  ⟨Qt1, nn, pr, h.drewN 1, .inl rfl, (chg_refl Wc _).drewN 1⟩
theorem YSt.below (h : YSt Wc P M X T Q lim tk kn rs es ns fs G OX r c seed Mt An cn Af cf Qt1 V) (b : Below V.heap.size V V') : YSt Wc P M X T Q lim tk kn rs es ns fs G OX r c seed Mt An cn Af cf Qt1 V' := by
  obtain ⟨Qt, nn, pr, hb, hq, hc⟩ := h
  exact ⟨Qt, nn, pr, hb.below b, hq, hc.same (K.Chg.of_below b)⟩
theorem YSt.c3 (h : YSt Wc P M X T Q lim tk kn rs es ns fs G OX r c seed Mt An cn Af cf Qt1 V) : V.cell? ⟨P, 3, none⟩ = some (.pointer (some ⟨Q, 0, none⟩)) := by
  obtain ⟨Qt, nn, pr, hb, _⟩ := h
  exact cell_of_row V P 3 _ _ (0, 0) hb.row
theorem YSt.size (h : YSt Wc P M X T Q lim tk kn rs es ns fs G OX r c seed Mt An cn Af cf Qt1 V) : Wc.heap.size ≤ V.heap.size := by
  obtain ⟨Qt, nn, pr, hb, _, hc⟩ := h
  exact hc.size
theorem YSt.old (h : YSt Wc P M X T Q lim tk kn rs es ns fs G OX r c seed Mt An cn Af cf Qt1 V) {b : Nat} (hb : b < Wc.heap.size) (hn : ¬ Hs.TF T Qt1 Mt b) (o : Nat) : V.cell? ⟨b, o, none⟩ = Wc.cell? ⟨b, o, none⟩ := by
  obtain ⟨_, _, _, _, _, hc⟩ := h
  exact hc.cell hb hn o
theorem YSt.place (h : YSt Wc P M X T Q lim tk kn rs es ns fs G OX r c seed Mt An cn Af cf Qt1 V) (k v : Nat) (hv : ((0, k), v) ∈ es) (hvl : v < 1048576) :
    Calls Tryz.prog 79 #[.pointer (some ⟨P, 0, none⟩), .int .u64 (k : Int)] V fun e w' => e = .returned (.int .i64 (v : Int)) ∧ YSt Wc P M X T Q lim tk kn rs es ns fs G OX r c seed Mt An cn Af cf Qt1 w' ∧ ∀ (g : Nat) (cs : Array Value), V.heap[g]? = some (.cells cs 74 (0, 0)) → w'.heap[g]? = some (.cells cs 74 (0, 0)) := by
  obtain ⟨Qt, nn, pr, hb, hq, hc⟩ := h
  refine (y_place_b hb k v hv hvl).mono ?_
  rintro e w' ⟨rfl, Qt', n', pr', hb', hc', hq'⟩
  have hs := hc.size
  refine ⟨rfl, ⟨Qt', n', pr', hb', ?_, hc.trans hc' (fun j hj => ?_)⟩, fun g cs hg => ?_⟩
  · rcases hq' with e | e
    · rw [e]; exact hq
    · exact .inr (by omega)
  · rcases hj with e | e | e
    · exact .inl (.inl e)
    · rcases hq with e2 | e2
      · exact .inl (.inr (.inl (e.trans e2)))
      · exact .inr (by omega)
    · exact .inl (.inr (.inr e))
  · refine (hc'.block g (row_lt hg) (fun hj => ?_)).trans hg
    have hn : Bt V g 74 := ⟨_, hg⟩
    rcases hb.bT hj with h2 | h2 | ⟨_, h2⟩ <;> exact hn.ne h2 (by decide) rfl
theorem YSt.peek (h : YSt Wc P M X T Q lim tk kn rs es ns fs G OX r c seed Mt An cn Af cf Qt1 V) (i rep : Nat) (ksA : Option Addr) (ksn ksc : Nat) (ah be : Int) (hi : ns[i]? = some (⟨rep, ksA, ksn, ksc, ah, be⟩, true)) :
    Calls Tryz.prog 78 #[.pointer (some ⟨Q, 0, none⟩), .int .i64 (i : Int)] V fun e w' => e = .returned (.tuple #[Yp.ndv rep ksA ksn ksc ah be, .bool true]) ∧ Below V.heap.size V w' := by
  obtain ⟨Qt, nn, pr, hb, _⟩ := h
  obtain ⟨hk, e⟩ := List.getElem?_eq_some_iff.1 hi
  have q := Yp.q_peek_yes V Q M lim cn cf An Af ns fs hb.po i hk (by rw [e])
  rw [e] at q
  exact q
theorem YSt.sets (h : YSt Wc P M X T Q lim tk kn rs es ns fs G OX r c seed Mt An cn Af cf Qt1 V) {g : Nat} {cs : Array Value} (hg : V.heap[g]? = some (.cells cs 74 (0, 0))) (hw : Wc.heap.size ≤ g) (b : K.Chg V V' (· = g)) : YSt Wc P M X T Q lim tk kn rs es ns fs G OX r c seed Mt An cn Af cf Qt1 V' := by
  obtain ⟨Qt, nn, pr, hb, hq, hc⟩ := h
  have hn : Bt V g 74 := ⟨_, hg⟩
  refine ⟨Qt, nn, pr, hb.chg b (fun j hj e => ?_), hq, hc.trans b (fun j e => .inr (by have e2 : j = g := e; omega))⟩
  have e2 : j = g := e
  subst e2
  rcases hj with rfl | rfl | hj | hj | hj | hj
  · exact hn.ne hb.bP (by decide) rfl
  · exact hn.ne hb.bM (by decide) rfl
  · exact xg_ny hb.xg hj hn
  · rcases hb.bT hj with h2 | h2 | ⟨_, h2⟩ <;> exact hn.ne h2 (by decide) rfl
  · rcases hb.bQ hj with h2 | h2 | h2 <;> exact hn.ne h2 (by decide) rfl
  · exact hn.ne (hb.bK hj) (by decide) rfl
theorem YSt.fin {Rt Z : Nat → Prop} (h : YSt Wc P M X T Q lim tk kn rs es ns fs G OX r c seed Mt An cn Af cf Qt1 V) (ht : ∀ j, Hs.TF T Qt1 Mt j → Rt j) :
    ButS Wc V Rt ∧ YY P M X T Q lim tk kn rs es ns fs G OX r c seed Mt An cn Af cf (fun j => Rt j ∨ (Wc.heap.size ≤ j ∧ j < V.heap.size)) V := by
  obtain ⟨Qt, nn, pr, hb, hq, hc⟩ := h
  refine ⟨(ButS.of_chg hc).mono (fun j _ hj => ht j hj), Qt, nn, pr, hb, fun j hj => ?_⟩
  have hlt := hb.lt (.inr (.inr (.inr (.inl hj))))
  rcases hj with e | e | e
  · exact .inl (ht j (.inl e))
  · rcases hq with e2 | e2
    · exact .inl (ht j (.inr (.inl (e.trans e2))))
    · exact .inr ⟨by omega, hlt⟩
  · exact .inl (ht j (.inr (.inr e)))
end
section
variable (W0 : World) (P M X T Q lim tk : Nat) (kn : Int) (rs : List Nat) (es : Es) (ns : List (Yp.Nd × Bool)) (fs : List Nat) (G : Nat → List Nat) (OX : Nat → Prop) (r c : Int) (seed Qt Mt nn pr : Nat) (An : Option Addr) (cn : Nat) (Af : Option Addr) (cf : Nat)
set_option maxRecDepth 100000 in
set_option maxHeartbeats 4000000 in
theorem y_all (h : YB W0 P M X T Q lim tk kn rs es ns fs G OX r c seed Qt Mt nn pr An cn Af cf) {BL : Yp.LL} {l : Bk.BL} (hI : Inv BL l rs es ns fs G) (hok : Bk.Ok l) (Z : Nat → Prop) (hZ : ∀ j, j = P ∨ j = M ∨ OX j ∨ Yp.QB Q An Af j ∨ KBl ns j → Z j) (hZT : ∀ j, Hs.TF T Qt Mt j → ¬ Z j) (hZl : ∀ j, Z j → j < W0.heap.size) (n Bn : Nat) (hBn : Bn < W0.heap.size) (hBZ : Z Bn) (hc : W0.cell? ⟨Bn, 0, none⟩ = some (.pointer (some ⟨P, 0, none⟩))) :
    SeqR Fence.wide n Tryz.prog 76 #[.pointer (some ⟨Bn, 0, none⟩)] (fun x : Nat => #[Value.int .u64 ((x : Nat) : Int)]) Z (Hs.TF T Qt Mt) (fun ys R W => ys = Bk.keys l ∧ YY P M X T Q lim tk kn rs es ns fs G OX r c seed Mt An cn Af cf R W) (fun ys R W => ys <+: Bk.keys l ∧ YY P M X T Q lim tk kn rs es ns fs G OX r c seed Mt An cn Af cf R W) (fun pre => pre <+: Bk.keys l) W0 := by
  intro ly J Jx W hW hJ hJx hY h0
  have hT := h.chg (K.Chg.of_below (O := fun _ => False) hW) (fun _ _ h => h)
  have hBl : Bn < W.heap.size := Nat.lt_of_lt_of_le hBn hW.size
  have hBc := (hW.cell (p := ⟨Bn, 0, none⟩) hBn).trans hc
  have hWs := hW.size
  refine callsIn_wide.2 ((callsIn_wide (n := 9)).1 ?_)
  have HFR := Lib.hid (yy_fr (X := X) (T := T) (lim := lim) (tk := tk) (kn := kn) (rs := rs) (es := es) (fs := fs) (G := G) (r := r) (c := c) (seed := seed) (Mt := Mt) (cn := cn) (cf := cf) hZ)
  have HT := Lib.hid hT
  have H0 := Lib.hid h0
  have HY := Lib.hid hY
  have HJ := Lib.hid hJ
  have HJX := Lib.hid hJx
  have HZ := Lib.hid hZ
  have HZT := Lib.hid hZT
  have HZL := Lib.hid hZl
  have HWS := Lib.hid hWs
  have HI := Lib.hid hI
  have HOK := Lib.hid hok
  clear hok
  have HBZ := Lib.hid hBZ
  have hyb : Below W.heap.size W (W.alloc (.cells #[.func (.yield ly) #[] #[]] 58)) := (Below.refl _ W).alloc (Nat.le_refl _) _
  have hyr : (W.alloc (.cells #[.func (.yield ly) #[] #[]] 58)).heap[W.heap.size]? = some (.cells #[.func (.yield ly) #[] #[]] 58 (0, 0)) := K.alloc_top _ _
  have x0 := (hyb.cell (p := ⟨Bn, 0, none⟩) hBl).trans hBc
  have x1 := (hT.chg (K.Chg.of_below (O := fun _ => False) hyb) (fun _ _ h => h)).c1
  have HYB := Lib.hid hyb
  have HYR := Lib.hid hyr
  have HBC := Lib.hid (And.intro hBl hBc)
  clear h hT h0 hY hJ hJx hZT hZl hWs hW hBc hBl hc hBn hyb hyr hI hZ hBZ
  refine callsIn_of_wp_marks Tryz.func76 rfl trivial ?_ rfl
  simp only [Tryz.ntmps76, List.size_toArray, List.length_cons, List.length_nil, Nat.reduceAdd, Nat.reduceSub, Array.replicate_succ, Array.replicate_zero, List.push_toArray, List.append_toArray, List.nil_append, List.cons_append]
  gi_wp2_with (gi_at_call 77; refine (callsIn_wide.2 (xf_all_anyY _ _)).mono ?_; rintro e w1 ⟨rfl, rfl⟩)
  obtain ⟨Wq, hWq⟩ : ∃ Wq, (W.alloc (.cells #[.func (.yield ly) #[] #[]] 58)).alloc (.cells #[.pointer (some ⟨X, 0, none⟩)] 41) = Wq := ⟨_, rfl⟩
  have hz2 : Wq.heap.size = W.heap.size + 2 := by rw [← hWq]; simp
  have hB0 : Below W.heap.size W Wq := by rw [← hWq]; exact HYB.out.alloc (by simp) _
  have hA0 : Wq.heap[W.heap.size]? = some (.cells #[.func (.yield ly) #[] #[]] 58 (0, 0)) := by rw [← hWq]; exact (Below.heap_alloc _ _ _ (by simp)).trans HYR.out
  have hA1 : Wq.heap[W.heap.size + 1]? = some (.cells #[.pointer (some ⟨X, 0, none⟩)] 41 (0, 0)) := by
    rw [← hWq]
    have := K.alloc_top (W.alloc (.cells #[.func (.yield ly) #[] #[]] 58)) (.cells #[.pointer (some ⟨X, 0, none⟩)] 41)
    rw [World.size_alloc] at this
    exact this
  try simp only [World.size_alloc]
  rw [hWq]
  clear hWq x0 x1 HYB HYR
  have hTq := HT.out.chg (K.Chg.of_below (O := fun _ => False) hB0) (fun _ _ h => h)
  letI : Gh := ⟨r, c⟩
  obtain ⟨C', Q', M', P', L, es', hs⟩ := hTq.xg
  have hrs : L.map (·.2) = Bk.reps l := by rw [hs.ks, HI.out.rr]
  obtain ⟨S, hS⟩ : ∃ S : Nat → Prop, S = fun j => j = W.heap.size ∨ j = W.heap.size + 1 := ⟨_, rfl⟩
  have hZW : ∀ j, Z j → j < W.heap.size := fun j hj => by have := HZL.out j hj; have := HWS.out; omega
  have hSl : ∀ j, S j → j < Wq.heap.size ∧ ¬ Z j := fun j hj => by
    rw [hS] at hj
    exact ⟨by omega, fun hz => by have := hZW j hz; omega⟩
  have hZq : ∀ j, Z j → j < Wq.heap.size := fun j hj => by have := hZW j hj; omega
  have hTFl : ∀ j, Hs.TF T Qt Mt j → j < W.heap.size := fun j hj => HT.out.lt (.inr (.inr (.inr (.inl hj))))
  obtain ⟨Y, hYd⟩ : ∃ Y, Y = YY P M X T Q lim tk kn rs es ns fs G OX r c seed Mt An cn Af cf := ⟨_, rfl⟩
  rw [← hYd] at HFR
  have hJq : IKY Z S Wq Y J (Bk.keys (l.take ([] : List Nat).length)) (fun j => j < Wq.heap.size ∧ ¬ Z j ∧ ¬ S j) Wq := by
    refine ⟨Hs.TF T Qt Mt, fun j hj => ⟨hj.2.1, hj.2.2, hj.1⟩, fun j hj => ⟨by have := hTFl j hj; omega, HZT.out j hj, fun hs => by have := hTFl j hj; rw [hS] at hs; omega⟩, ButS.refl _ _, by rw [hYd]; exact ⟨Qt, nn, pr, hTq, fun j hj => hj⟩, ?_⟩
    simp only [List.length_nil, List.take_zero]
    refine HJ.out _ _ _ _ _ H0.out (ButS.of_below hB0 (Nat.le_refl _)) (fun j hj => ⟨?_, hj.1⟩)
    rcases hj.2.2 with h | h
    · have hSj : S j := Classical.byContradiction fun h2 => h ⟨hj.1, hj.2.1, h2⟩
      rw [hS] at hSj
      exact .inr (by omega)
    · exact .inl h
  have hqc : Wq.cell? ⟨W.heap.size + 1, 0, none⟩ = some (.pointer (some ⟨X, 0, none⟩)) := cell_of_row Wq _ 0 _ _ (0, 0) hA1
  have hBq : Wq.cell? ⟨Bn, 0, none⟩ = some (.pointer (some ⟨P, 0, none⟩)) := (hB0.cell (p := ⟨Bn, 0, none⟩) HBC.out.1).trans HBC.out.2
  have hS0 : S W.heap.size := by rw [hS]; exact .inl rfl
  have hS1 : S (W.heap.size + 1) := by rw [hS]; exact .inr rfl
  have hxa := xf_all Wq X C' Q' M' P' lim 2000000 L es' OX Z hs.xt (fun j hj => HZ.out j (.inr (.inr (.inl hj)))) hZq 8 (W.heap.size + 1) (by omega) hqc
  rw [hrs] at hxa
  have HQ := Lib.hid hTq
  have HXA := Lib.hid hxa
  clear hs hrs hTq hxa
  refine wpIn_rangeW (Q := _) rfl (by decide) (gf := 108) (lb := #[.pointer (some ⟨W.heap.size + 1, 0, none⟩)]) rfl trivial (enters_of Tryz.func108 (by kernel_rfl) rfl)
    HXA.out hZq (Below.refl _ _) (fun _ => rfl)
    (fun pre O W' => IKY Z S Wq Y J (Bk.keys (l.take pre.length)) O W' ∧ pre <+: Bk.reps l)
    (fun c pre O W' => c = .ret ∧ ∃ ys, ys <+: Bk.keys l ∧ IKY Z S Wq Y Jx ys O W')
    (fun pp a1 O W' => a1 = { tmps := #[.func (.yield ly) #[] #[], .pointer (some ⟨Bn, 0, none⟩), .pointer (some ⟨W.heap.size, 0, none⟩), .int .u64 (pp.2 : Int), undef, undef, undef, undef, .pointer (some ⟨P, 0, none⟩), .bool false, .pointer (some ⟨P, 0, none⟩), .pointer (some ⟨P, 0, none⟩), .pointer (some ⟨P, 1, none⟩), .pointer (some ⟨X, 0, none⟩), .func (.func 108) #[] #[.pointer (some ⟨W.heap.size + 1, 0, none⟩)], .int .u64 (pp.2 : Int), undef, undef, undef, undef, undef, undef, undef, undef, undef, undef, undef, undef, undef, undef, undef, undef, undef, undef, undef, undef, undef, undef, undef], defers := [] } ∧ pp.1 ++ [pp.2] <+: Bk.reps l ∧ IKY Z S Wq Y J (Bk.keys (l.take pp.1.length)) O W')
    ?hI ?hIx ?hA (fun pre O W' hi j hj => by obtain ⟨⟨Rt, h1, _⟩, _⟩ := hi; exact (h1 j hj).1)
    (fun j => j < Wq.heap.size ∧ ¬ Z j ∧ ¬ S j) (fun j hj => hj.1) ⟨hJq, List.nil_prefix⟩ ?assign ?body ?done ?stop
  case hI => exact fun s O W' W'' R hi hw hR => ⟨IKY.abides (fun pre : List Nat => Bk.keys (l.take pre.length)) HJ.out HFR.out hZq s O W' W'' R hi.1 hw hR, hi.2⟩
  case hIx =>
    intro c s O W' W'' R hi hw hR
    obtain ⟨e, ys, h1, h2⟩ := hi
    exact ⟨e, ys, h1, IKY.abides (fun pre : List Nat => ys) HJX.out HFR.out hZq [] O W' W'' R h2 hw hR⟩
  case hA => exact fun a' s O W' W'' R hi hw hR => ⟨hi.1, hi.2.1, IKY.abides (fun pre : List Nat => Bk.keys (l.take pre.length)) HJ.out HFR.out hZq s.1 O W' W'' R hi.2.2 hw hR⟩
  case assign =>
    intro l2 pre y O1 W' hi hT1
    gi_wp2
    exact ⟨O1, ⟨ButS.refl _ _, fun j hj => ⟨.inl hj, by obtain ⟨⟨Rt, h1, _⟩, _⟩ := hi; exact (h1 j hj).2.2⟩⟩, by first | trivial | rfl, hT1, hi.1⟩
  case body =>
    rintro l2 pre x O1 a1 Wc ⟨rfl, hpx, hi⟩
    obtain ⟨hm, hxm⟩ := reps_at hpx
    obtain ⟨i0, A, nk, ck, ah, be, hes, hns, hG⟩ := inv_at HI.out hm
    rw [hxm] at hes hns
    obtain ⟨Rt, h1, hr, h2, hy, h3⟩ := hi
    have hbx := hy
    rw [hYd] at hbx
    obtain ⟨Qt1, n1, pr1, hb1, ht1⟩ := hbx
    have hwq := h2.size
    have k0 := (h2.block W.heap.size (hSl _ hS0).1 (fun h => h (.inr hS0))).trans hA0
    have cB := (h2.cell (hZq Bn HBZ.out) (fun h => h (.inl HBZ.out)) 0).trans hBq
    have hil : i0 < 1048576 := by
      have h5 := (List.getElem?_eq_some_iff.1 hns).1
      have := hb1.po.ns_le
      have := hb1.po.lim_le
      omega
    have hi0 : i0 < ns.length := (List.getElem?_eq_some_iff.1 hns).1
    have hPl : P < Wc.heap.size := hb1.bP.lt
    have hBlt : Bn < Wc.heap.size := by have := hZq Bn HBZ.out; omega
    have hdc : YB Wc.drew P M X T Q lim tk kn rs es ns fs G OX r c seed Qt1 Mt n1 pr1 An cn Af cf := hb1.drewN 1
    have HD := Lib.hid (And.intro hb1 hdc)
    have HNS := Lib.hid hns
    have HES := Lib.hid hes
    have HG := Lib.hid hG
    have HHM := Lib.hid hxm
    have H3 := Lib.hid (And.intro h1 (And.intro hr (And.intro h2 (And.intro hy (And.intro h3 ht1)))))
    have HPX := Lib.hid hpx
    have HK0 := Lib.hid k0
    have HCB := Lib.hid cB
    have x1c : Wc.drew.cell? ⟨Bn, 0, none⟩ = some (.pointer (some ⟨P, 0, none⟩)) := cB
    have x2c : Wc.drew.cell? ⟨P, 3, none⟩ = some (.pointer (some ⟨Q, 0, none⟩)) := hdc.c3
    have HX2 := Lib.hid (And.intro x1c x2c)
    clear hb1 hdc hns hes hG hxm h1 hr h2 hy h3 ht1 hpx k0 cB x1c x2c
    have hTB : ¬ Hs.TF T Qt1 Mt Bn := fun hj => (H3.out.1 Bn (H3.out.2.1 Bn (H3.out.2.2.2.2.2 Bn hj))).1 HBZ.out
    have HSV : Hid (∀ V, YSt Wc P M X T Q lim tk kn rs es ns fs G OX r c seed Mt An cn Af cf Qt1 V → V.cell? ⟨Bn, 0, none⟩ = some (.pointer (some ⟨P, 0, none⟩)) ∧ V.cell? ⟨P, 3, none⟩ = some (.pointer (some ⟨Q, 0, none⟩))) := Lib.hid (fun V h => ⟨(h.old hBlt hTB 0).trans HCB.out, h.c3⟩)
    have HS0 := Lib.hid (YSt.start HD.out.1)
    have HPL : Hid (∀ V, YSt Wc P M X T Q lim tk kn rs es ns fs G OX r c seed Mt An cn Af cf Qt1 V → _) := Lib.hid (fun V h => h.place x i0 HES.out hil)
    have HPK : Hid (∀ V, YSt Wc P M X T Q lim tk kn rs es ns fs G OX r c seed Mt An cn Af cf Qt1 V → _) := Lib.hid (fun V h => h.peek i0 x A nk ck ah be HNS.out)
    clear hTB
    gi_wp2
    refine wpIn_region_held_round (fun V => V.cell? ⟨Bn, 0, none⟩ = some (.pointer (some ⟨P, 0, none⟩)) ∧ V.cell? ⟨P, 3, none⟩ = some (.pointer (some ⟨Q, 0, none⟩))) (by kernel_rfl) (by kernel_rfl) ?lo HX2.out (fun hSd => ?_)
    case lo => exact fun ⟨_, _, h⟩ => h
    refine wpAnyH_take (i := 0) (oi := _) (v := .pointer (some ⟨P, 0, none⟩)) rfl (by kernel_rfl) (by kernel_rfl) (by kernel_rfl) (fun _ _ _ h => h) (Or.inl ⟨by rfl, ?_⟩) (by assumption) ?_
    · intro w hSw; obtain ⟨q1, q2⟩ := hSw; go_simp
    try simp only [Act.put, List.setIfInBounds_toArray, List.set_cons_zero, List.set_cons_succ]
    refine wpAnyH_take (i := 1) (oi := _) (v := .pointer (some ⟨P, 0, none⟩)) rfl (by kernel_rfl) (by kernel_rfl) (by kernel_rfl) (fun _ _ _ h => h) (Or.inl ⟨by rfl, ?_⟩) (by assumption) ?_
    · intro w hSw; obtain ⟨q1, q2⟩ := hSw; go_simp
    try simp only [Act.put, List.setIfInBounds_toArray, List.set_cons_zero, List.set_cons_succ]
    refine wpAnyH_take (i := 2) (oi := _) (v := .pointer (some ⟨P, 3, none⟩)) rfl (by kernel_rfl) (by kernel_rfl) (by kernel_rfl) (fun _ _ _ h => h) (Or.inl ⟨by rfl, ?_⟩) (by assumption) ?_
    · intro w hSw; obtain ⟨q1, q2⟩ := hSw; go_simp
    try simp only [Act.put, List.setIfInBounds_toArray, List.set_cons_zero, List.set_cons_succ]
    refine wpAnyH_take (i := 3) (oi := _) (v := .pointer (some ⟨Q, 0, none⟩)) rfl (by kernel_rfl) (by kernel_rfl) (by kernel_rfl) (fun _ _ _ h => h) (Or.inl ⟨by rfl, ?_⟩) (by assumption) ?_
    · intro w hSw; obtain ⟨q1, q2⟩ := hSw; go_simp
    try simp only [Act.put, List.setIfInBounds_toArray, List.set_cons_zero, List.set_cons_succ]
    refine wpAnyH_take (i := 4) (oi := _) (v := .pointer (some ⟨P, 0, none⟩)) rfl (by kernel_rfl) (by kernel_rfl) (by kernel_rfl) (fun _ _ _ h => h) (Or.inl ⟨by rfl, ?_⟩) (by assumption) ?_
    · intro w hSw; obtain ⟨q1, q2⟩ := hSw; go_simp
    try simp only [Act.put, List.setIfInBounds_toArray, List.set_cons_zero, List.set_cons_succ]
    refine wpAnyH_take (i := 5) (oi := _) (v := .int .u64 (x : Int)) rfl (by kernel_rfl) (by kernel_rfl) (by kernel_rfl) (fun _ _ _ h => h) (Or.inl ⟨by rfl, ?_⟩) (by assumption) ?_
    · intro w hSw; obtain ⟨q1, q2⟩ := hSw; go_simp
    try simp only [Act.put, List.setIfInBounds_toArray, List.set_cons_zero, List.set_cons_succ]
    refine wpAnyH_ready (rs := [6, 11]) (by kernel_rfl) (by simp) ?_
    refine AllReadyH.cons rfl (fun K hK => ?_) (AllReadyH.cons rfl (fun K hK => ?_) AllReadyH.nil)
    · go_simp
      refine (HPL.out _ HS0.out).mono ?_
      rintro e w1 ⟨rfl, hs_w1, hr_w1⟩
      have H_w1 := Lib.hid hs_w1
      have HR_w1 := Lib.hid hr_w1
      clear hs_w1 hr_w1
      refine hK.out _ _ (HSV.out _ H_w1.out) (fun hHeld => ?_)
      clear hK K
      try simp only [Act.put, List.setIfInBounds_toArray, List.set_cons_zero, List.set_cons_succ]
      refine wpAnyH_ready (rs := [7, 11]) (by kernel_rfl) (by simp) ?_
      refine AllReadyH.cons rfl (fun K hK => ?_) (AllReadyH.cons rfl (fun K hK => ?_) AllReadyH.nil)
      · go_simp
        refine (HPK.out _ H_w1.out).mono ?_
        rintro e w2 ⟨rfl, hb_w2⟩
        have H_w2 := Lib.hid (H_w1.out.below hb_w2)
        have HB_w2 := Lib.hid hb_w2
        clear hb_w2
        refine hK.out _ _ (HSV.out _ H_w2.out) (fun hHeld => ?_)
        clear hK K
        try simp only [Act.put, List.setIfInBounds_toArray, List.set_cons_zero, List.set_cons_succ]
        refine wpAnyH_take (i := 8) (oi := _) (v := .tuple #[Yp.ndv x A nk ck ah be, .bool true]) rfl (by kernel_rfl) (by kernel_rfl) (by kernel_rfl) (fun _ _ _ h => h) (Or.inl ⟨by rfl, ?_⟩) (by assumption) ?_
        · intro w hSw; go_simp
        try simp only [Act.put, List.setIfInBounds_toArray, List.set_cons_zero, List.set_cons_succ]
        refine wpAnyH_take (i := 9) (oi := _) (v := Yp.ndv x A nk ck ah be) rfl (by kernel_rfl) (by kernel_rfl) (by kernel_rfl) (fun _ _ _ h => h) (Or.inl ⟨by rfl, ?_⟩) (by assumption) ?_
        · intro w hSw; go_simp
        try simp only [Act.put, List.setIfInBounds_toArray, List.set_cons_zero, List.set_cons_succ]
        refine wpAnyH_take (i := 10) (oi := _) (v := .bool true) rfl (by kernel_rfl) (by kernel_rfl) (by kernel_rfl) (fun _ _ _ h => h) (Or.inl ⟨by rfl, ?_⟩) (by assumption) ?_
        · intro w hSw; go_simp
        try simp only [Act.put, List.setIfInBounds_toArray, List.set_cons_zero, List.set_cons_succ]
        refine wpAnyH_ready (rs := [11]) (by kernel_rfl) (by simp) ?_
        refine AllReadyH.cons rfl (fun K hK => ?_) AllReadyH.nil
        go_simp
        have hrow := Go.Proofs.YtelfacchhclgnaaGreat.K.alloc_top w2 Yp.ndzo
        have HA := Lib.hid (H_w2.out.below ((Below.refl _ w2).alloc (Nat.le_refl _) Yp.ndzo))
        have hwc : Wc.heap.size ≤ w2.heap.size := H_w2.out.size
        refine hK.out _ _ (HSV.out _ HA.out) (fun hHeld => ?_)
        clear hK K
        try simp only [Act.put, List.setIfInBounds_toArray, List.set_cons_zero, List.set_cons_succ]
        generalize w2.alloc Yp.ndzo = V at *
        generalize w2.heap.size = nb at *
        refine wpAnyH_ready (rs := [12]) (by kernel_rfl) (by simp) ?_
        refine AllReadyH.cons rfl (fun K hK => ?_) AllReadyH.nil
        obtain ⟨z0, z1, z2, z3⟩ := Yp.nd_cells hrow
        have f0 := frozen_of_row V _ 0 _ _ hrow
        have f1 := frozen_of_row V _ 1 _ _ hrow
        have f2 := frozen_of_row V _ 2 _ _ hrow
        have f3 := frozen_of_row V _ 3 _ _ hrow
        go_simp
        obtain ⟨hrow4, hch4⟩ := four_set (.int .u64 (x : Int)) (.slice A nk ck) (.int .i64 ah) (.int .i64 be) hrow
        have H4 := Lib.hid (HA.out.sets hrow hwc hch4)
        refine hK.out _ _ (HSV.out _ H4.out) (fun hHeld => ?_)
        clear hK K
        try simp only [Act.put, List.setIfInBounds_toArray, List.set_cons_zero, List.set_cons_succ]
        clear z0 z1 z2 z3 f0 f1 f2 f3 hrow hch4
        generalize (((V.setCell { block := nb, off := 0 } (Value.int IntKind.u64 (x : Int))).setCell { block := nb, off := 1 } (Value.slice A nk ck)).setCell { block := nb, off := 2 } (Value.int IntKind.i64 ah)).setCell { block := nb, off := 3 } (Value.int IntKind.i64 be) = V4 at *
        refine wpAnyH_ready (rs := [13]) (by kernel_rfl) (by simp) ?_
        refine AllReadyH.cons rfl (fun K hK => ?_) AllReadyH.nil
        go_simp
        refine hK.out _ _ (HSV.out _ H4.out) (fun hHeld => ?_)
        clear hK K
        try simp only [Act.put, List.setIfInBounds_toArray, List.set_cons_zero, List.set_cons_succ]
        refine wpAnyH_done (by kernel_rfl) ?_ _
        obtain ⟨zz0, zz1, zz2, zz3⟩ := Yp.nd_cells hrow4
        obtain ⟨bR, yR⟩ := H4.out.fin (Rt := Rt) (Z := Z) H3.out.2.2.2.2.2
        obtain ⟨O2, hos, hik⟩ := IKY.wrote (Y := Y) H3.out.1 H3.out.2.1 H3.out.2.2.1 H3.out.2.2.2.2.1 HJ.out hZq (fun j hj => (hSl j hj).1) bR (by rw [hYd]; exact yR)
        have hKX : ∀ Rt wr, Y Rt wr → KX wr (.slice A nk ck) l[pre.length].2 := fun Rt wr h => by
          rw [hYd] at h
          obtain ⟨q, n', p', hb, _⟩ := h
          have h5 := List.getElem?_eq_some_iff.1 HNS.out
          have h6 := hb.ks i0 hi0 (by rw [h5.2])
          rw [h5.2, HG.out] at h6
          exact h6
        have hPP := fun i => keys_pre (l := l) (i := i) hm
        have hEnd := keys_take_succ (l := l) hm
        have h128 := (HOK.out.good _ (List.getElem_mem hm)).2.1
        obtain ⟨ys0, hys0⟩ : ∃ y, Bk.keys (l.take pre.length) = y := ⟨_, rfl⟩
        have hik2 : IKY Z S Wq Y J ys0 O2 V4 := by rw [← hys0]; exact hik
        rw [hys0] at hPP hEnd
        generalize l[pre.length].2 = ks at *
        have hlk : ks.length = nk := by
          have h7 := hKX _ _ (by rw [hYd]; exact yR)
          rcases h7.form with ⟨e, e2⟩ | ⟨g, cc, hv, _⟩
          · injection e with _ e3 _
            rw [e2]
            exact e3.symm
          · injection hv with _ e3 _
            exact e3.symm
        have HKX := Lib.hid hKX
        have HPP := Lib.hid hPP
        have HEND := Lib.hid hEnd
        have HLK := Lib.hid hlk
        have HOS := Lib.hid hos
        have HIK : Hid (IKY Z S Wq Y J (ys0 ++ ks.take 0) O2 V4) := Lib.hid (by rw [List.take_zero, List.append_nil]; exact hik2)
        have hnk : nk ≤ 128 := by omega
        clear zz0 zz2 zz3 hrow4 hHeld HSV HPL HPK HX2 HS0 hwc bR yR hos hik hik2 hKX hPP hEnd h128 hys0 H4
        have HSL := Lib.hid hSl
        have HZQ := Lib.hid hZq
        have HS00 := Lib.hid hS0
        have HA00 := Lib.hid hA0
        clear hSl hZq hS0 hA0 hS1 hA1 hZW hTFl hYd hS hqc hBq hB0 hJq hi0 hil hPl hBlt hwq HHM HG hm hz2 hlk
        gi_wp2
        gi_loopw [30] (fun cv wr => ∃ (i : Nat) (O3 : Nat → Prop), i ≤ nk ∧ cv = .int .i64 (i : Int) ∧ Hid (OwnStep O1 O3 Wc wr) ∧ Hid (IKY Z S Wq Y J (ys0 ++ ks.take i) O3 wr)) (fun cv _ => nk - (intOf cv).toNat)
        case atStart => exact ⟨0, O2, by omega, rfl, HOS, HIK⟩
        case round =>
          obtain ⟨i, O3, hi1, rfl, HO3, HI3⟩ := hrel
          clear HOS HIK zz1
          rcases Nat.lt_or_ge i nk with hlt | hge
          · obtain ⟨Rt3, q1, q2, q3, q4, q5⟩ := HI3.out
            have hik : i < ks.length := by rw [HLK.out]; exact hlt
            rcases (HKX.out _ _ q4).form with ⟨e, _⟩ | ⟨g, cc, hv, _, hgl, hcell⟩
            · injection e with _ e3 _
              omega
            injection hv with hA hE1 hE2
            clear hE1 hE2
            subst hA
            have hci := hcell i hik
            have hpy := HPP.out (i + 1)
            have htk : ys0 ++ ks.take (i + 1) = ys0 ++ ks.take i ++ [ks[i]] := by rw [List.take_succ_eq_append_getElem hik, List.append_assoc]
            rw [htk] at hpy
            have k1 := (q3.block W.heap.size (HSL.out _ HS00.out).1 (fun h => h (.inr HS00.out))).trans HA00.out
            have c0 := cell_of_row wr _ 0 _ _ (0, 0) k1
            simp at c0
            obtain ⟨fn, tm, asg, bd, hy, hR⟩ := HY.out _ ks[i] _ _ q5 hpy
            have d1 : decide ((i : Int) < (nk : Int)) = true := decide_eq_true (by omega)
            have d2 : (i : Int) < (nk : Int) := by omega
            have wi : IntKind.i64.wrap ((i : Int) + 1) = ((i + 1 : Nat) : Int) := by rw [IntWalk.i64_in _ (by omega)]; omega
            have HTK := Lib.hid htk
            have HPY := Lib.hid hpy
            have HQ3 := Lib.hid (And.intro q1 (And.intro q2 (And.intro q3 q4)))
            have HRR := Lib.hid hR
            generalize ks[i] = k at *
            clear htk hpy hR q1 q2 q3 q4 q5 hcell k1 hik
            gi_wp2
            refine (roundIn_anyZ HRR.out).mono ?_
            rintro e W2 ⟨⟨rfl, hj2⟩ | ⟨rfl, hj2⟩, hb2⟩
            · rw [← HTK.out] at hj2
              obtain ⟨O4, ho4, hI4⟩ := IKY.next HQ3.out.1 HQ3.out.2.1 HQ3.out.2.2.1 HQ3.out.2.2.2 HJ.out HFR.out HSL.out hj2 hb2
              have HO4 := Lib.hid (HO3.out.trans ho4)
              have HI4 := Lib.hid hI4
              clear hj2 hb2 ho4 hI4
              gi_wp2
              go_roundw
              case rel => exact ⟨i + 1, O4, by omega, by go_num, HO4, HI4⟩
              case measure => first | (simp [intOf]; done) | (simp [intOf]; omega)
            · obtain ⟨O4, ho4, hI4⟩ := IKY.next HQ3.out.1 HQ3.out.2.1 HQ3.out.2.2.1 HQ3.out.2.2.2 HJX.out HFR.out HSL.out hj2 hb2
              have HO4 := Lib.hid (HO3.out.trans ho4)
              have HI4 := Lib.hid hI4
              clear hj2 hb2 ho4 hI4
              gi_wp2
              exact ⟨O4, HO4.out, rfl, _, HPY.out, HI4.out⟩
          · obtain rfl : i = nk := by omega
            have d1 : decide ((i : Int) < (i : Int)) = false := decide_eq_false (by omega)
            have hfin : IKY Z S Wq Y J (Bk.keys (l.take (pre ++ [x]).length)) O3 wr := by
              have h8 := HI3.out
              rw [List.take_of_length_le (by rw [HLK.out]; exact Nat.le_refl _), ← HEND.out] at h8
              rw [List.length_append, List.length_singleton]
              exact h8
            have HFIN := Lib.hid hfin
            clear hfin
            gi_wp2
            exact ⟨O3, HO3.out, HFIN.out, HPX.out⟩
      · go_simp
        have hrow := Go.Proofs.YtelfacchhclgnaaGreat.K.alloc_top w1 Yp.ndzo
        have HA := Lib.hid (H_w1.out.below ((Below.refl _ w1).alloc (Nat.le_refl _) Yp.ndzo))
        have hwc : Wc.heap.size ≤ w1.heap.size := H_w1.out.size
        refine hK.out _ _ (HSV.out _ HA.out) (fun hHeld => ?_)
        clear hK K
        try simp only [Act.put, List.setIfInBounds_toArray, List.set_cons_zero, List.set_cons_succ]
        generalize w1.alloc Yp.ndzo = V at *
        generalize w1.heap.size = nb at *
        clear HR_w1
        refine wpAnyH_ready (rs := [7]) (by kernel_rfl) (by simp) ?_
        refine AllReadyH.cons rfl (fun K hK => ?_) AllReadyH.nil
        go_simp
        refine (HPK.out _ HA.out).mono ?_
        rintro e w2 ⟨rfl, hb_w2⟩
        have H_w2 := Lib.hid (HA.out.below hb_w2)
        have HB_w2 := Lib.hid hb_w2
        clear hb_w2
        refine hK.out _ _ (HSV.out _ H_w2.out) (fun hHeld => ?_)
        clear hK K
        try simp only [Act.put, List.setIfInBounds_toArray, List.set_cons_zero, List.set_cons_succ]
        replace hrow := (HB_w2.out.block nb (row_lt hrow)).trans hrow
        have HA := H_w2
        clear HB_w2
        generalize w2 = V at *
        refine wpAnyH_take (i := 8) (oi := _) (v := .tuple #[Yp.ndv x A nk ck ah be, .bool true]) rfl (by kernel_rfl) (by kernel_rfl) (by kernel_rfl) (fun _ _ _ h => h) (Or.inl ⟨by rfl, ?_⟩) (by assumption) ?_
        · intro w hSw; go_simp
        try simp only [Act.put, List.setIfInBounds_toArray, List.set_cons_zero, List.set_cons_succ]
        refine wpAnyH_take (i := 9) (oi := _) (v := Yp.ndv x A nk ck ah be) rfl (by kernel_rfl) (by kernel_rfl) (by kernel_rfl) (fun _ _ _ h => h) (Or.inl ⟨by rfl, ?_⟩) (by assumption) ?_
        · intro w hSw; go_simp
        try simp only [Act.put, List.setIfInBounds_toArray, List.set_cons_zero, List.set_cons_succ]
        refine wpAnyH_take (i := 10) (oi := _) (v := .bool true) rfl (by kernel_rfl) (by kernel_rfl) (by kernel_rfl) (fun _ _ _ h => h) (Or.inl ⟨by rfl, ?_⟩) (by assumption) ?_
        · intro w hSw; go_simp
        try simp only [Act.put, List.setIfInBounds_toArray, List.set_cons_zero, List.set_cons_succ]
        refine wpAnyH_ready (rs := [12]) (by kernel_rfl) (by simp) ?_
        refine AllReadyH.cons rfl (fun K hK => ?_) AllReadyH.nil
        obtain ⟨z0, z1, z2, z3⟩ := Yp.nd_cells hrow
        have f0 := frozen_of_row V _ 0 _ _ hrow
        have f1 := frozen_of_row V _ 1 _ _ hrow
        have f2 := frozen_of_row V _ 2 _ _ hrow
        have f3 := frozen_of_row V _ 3 _ _ hrow
        go_simp
        obtain ⟨hrow4, hch4⟩ := four_set (.int .u64 (x : Int)) (.slice A nk ck) (.int .i64 ah) (.int .i64 be) hrow
        have H4 := Lib.hid (H_w2.out.sets hrow hwc hch4)
        refine hK.out _ _ (HSV.out _ H4.out) (fun hHeld => ?_)
        clear hK K
        try simp only [Act.put, List.setIfInBounds_toArray, List.set_cons_zero, List.set_cons_succ]
        clear z0 z1 z2 z3 f0 f1 f2 f3 hrow hch4
        generalize (((V.setCell { block := nb, off := 0 } (Value.int IntKind.u64 (x : Int))).setCell { block := nb, off := 1 } (Value.slice A nk ck)).setCell { block := nb, off := 2 } (Value.int IntKind.i64 ah)).setCell { block := nb, off := 3 } (Value.int IntKind.i64 be) = V4 at *
        refine wpAnyH_ready (rs := [13]) (by kernel_rfl) (by simp) ?_
        refine AllReadyH.cons rfl (fun K hK => ?_) AllReadyH.nil
        go_simp
        refine hK.out _ _ (HSV.out _ H4.out) (fun hHeld => ?_)
        clear hK K
        try simp only [Act.put, List.setIfInBounds_toArray, List.set_cons_zero, List.set_cons_succ]
        refine wpAnyH_done (by kernel_rfl) ?_ _
        obtain ⟨zz0, zz1, zz2, zz3⟩ := Yp.nd_cells hrow4
        obtain ⟨bR, yR⟩ := H4.out.fin (Rt := Rt) (Z := Z) H3.out.2.2.2.2.2
        obtain ⟨O2, hos, hik⟩ := IKY.wrote (Y := Y) H3.out.1 H3.out.2.1 H3.out.2.2.1 H3.out.2.2.2.2.1 HJ.out hZq (fun j hj => (hSl j hj).1) bR (by rw [hYd]; exact yR)
        have hKX : ∀ Rt wr, Y Rt wr → KX wr (.slice A nk ck) l[pre.length].2 := fun Rt wr h => by
          rw [hYd] at h
          obtain ⟨q, n', p', hb, _⟩ := h
          have h5 := List.getElem?_eq_some_iff.1 HNS.out
          have h6 := hb.ks i0 hi0 (by rw [h5.2])
          rw [h5.2, HG.out] at h6
          exact h6
        have hPP := fun i => keys_pre (l := l) (i := i) hm
        have hEnd := keys_take_succ (l := l) hm
        have h128 := (HOK.out.good _ (List.getElem_mem hm)).2.1
        obtain ⟨ys0, hys0⟩ : ∃ y, Bk.keys (l.take pre.length) = y := ⟨_, rfl⟩
        have hik2 : IKY Z S Wq Y J ys0 O2 V4 := by rw [← hys0]; exact hik
        rw [hys0] at hPP hEnd
        generalize l[pre.length].2 = ks at *
        have hlk : ks.length = nk := by
          have h7 := hKX _ _ (by rw [hYd]; exact yR)
          rcases h7.form with ⟨e, e2⟩ | ⟨g, cc, hv, _⟩
          · injection e with _ e3 _
            rw [e2]
            exact e3.symm
          · injection hv with _ e3 _
            exact e3.symm
        have HKX := Lib.hid hKX
        have HPP := Lib.hid hPP
        have HEND := Lib.hid hEnd
        have HLK := Lib.hid hlk
        have HOS := Lib.hid hos
        have HIK : Hid (IKY Z S Wq Y J (ys0 ++ ks.take 0) O2 V4) := Lib.hid (by rw [List.take_zero, List.append_nil]; exact hik2)
        have hnk : nk ≤ 128 := by omega
        clear zz0 zz2 zz3 hrow4 hHeld HSV HPL HPK HX2 HS0 hwc bR yR hos hik hik2 hKX hPP hEnd h128 hys0 H4
        have HSL := Lib.hid hSl
        have HZQ := Lib.hid hZq
        have HS00 := Lib.hid hS0
        have HA00 := Lib.hid hA0
        clear hSl hZq hS0 hA0 hS1 hA1 hZW hTFl hYd hS hqc hBq hB0 hJq hi0 hil hPl hBlt hwq HHM HG hm hz2 hlk
        gi_wp2
        gi_loopw [30] (fun cv wr => ∃ (i : Nat) (O3 : Nat → Prop), i ≤ nk ∧ cv = .int .i64 (i : Int) ∧ Hid (OwnStep O1 O3 Wc wr) ∧ Hid (IKY Z S Wq Y J (ys0 ++ ks.take i) O3 wr)) (fun cv _ => nk - (intOf cv).toNat)
        case atStart => exact ⟨0, O2, by omega, rfl, HOS, HIK⟩
        case round =>
          obtain ⟨i, O3, hi1, rfl, HO3, HI3⟩ := hrel
          clear HOS HIK zz1
          rcases Nat.lt_or_ge i nk with hlt | hge
          · obtain ⟨Rt3, q1, q2, q3, q4, q5⟩ := HI3.out
            have hik : i < ks.length := by rw [HLK.out]; exact hlt
            rcases (HKX.out _ _ q4).form with ⟨e, _⟩ | ⟨g, cc, hv, _, hgl, hcell⟩
            · injection e with _ e3 _
              omega
            injection hv with hA hE1 hE2
            clear hE1 hE2
            subst hA
            have hci := hcell i hik
            have hpy := HPP.out (i + 1)
            have htk : ys0 ++ ks.take (i + 1) = ys0 ++ ks.take i ++ [ks[i]] := by rw [List.take_succ_eq_append_getElem hik, List.append_assoc]
            rw [htk] at hpy
            have k1 := (q3.block W.heap.size (HSL.out _ HS00.out).1 (fun h => h (.inr HS00.out))).trans HA00.out
            have c0 := cell_of_row wr _ 0 _ _ (0, 0) k1
            simp at c0
            obtain ⟨fn, tm, asg, bd, hy, hR⟩ := HY.out _ ks[i] _ _ q5 hpy
            have d1 : decide ((i : Int) < (nk : Int)) = true := decide_eq_true (by omega)
            have d2 : (i : Int) < (nk : Int) := by omega
            have wi : IntKind.i64.wrap ((i : Int) + 1) = ((i + 1 : Nat) : Int) := by rw [IntWalk.i64_in _ (by omega)]; omega
            have HTK := Lib.hid htk
            have HPY := Lib.hid hpy
            have HQ3 := Lib.hid (And.intro q1 (And.intro q2 (And.intro q3 q4)))
            have HRR := Lib.hid hR
            generalize ks[i] = k at *
            clear htk hpy hR q1 q2 q3 q4 q5 hcell k1 hik
            gi_wp2
            refine (roundIn_anyZ HRR.out).mono ?_
            rintro e W2 ⟨⟨rfl, hj2⟩ | ⟨rfl, hj2⟩, hb2⟩
            · rw [← HTK.out] at hj2
              obtain ⟨O4, ho4, hI4⟩ := IKY.next HQ3.out.1 HQ3.out.2.1 HQ3.out.2.2.1 HQ3.out.2.2.2 HJ.out HFR.out HSL.out hj2 hb2
              have HO4 := Lib.hid (HO3.out.trans ho4)
              have HI4 := Lib.hid hI4
              clear hj2 hb2 ho4 hI4
              gi_wp2
              go_roundw
              case rel => exact ⟨i + 1, O4, by omega, by go_num, HO4, HI4⟩
              case measure => first | (simp [intOf]; done) | (simp [intOf]; omega)
            · obtain ⟨O4, ho4, hI4⟩ := IKY.next HQ3.out.1 HQ3.out.2.1 HQ3.out.2.2.1 HQ3.out.2.2.2 HJX.out HFR.out HSL.out hj2 hb2
              have HO4 := Lib.hid (HO3.out.trans ho4)
              have HI4 := Lib.hid hI4
              clear hj2 hb2 ho4 hI4
              gi_wp2
              exact ⟨O4, HO4.out, rfl, _, HPY.out, HI4.out⟩
          · obtain rfl : i = nk := by omega
            have d1 : decide ((i : Int) < (i : Int)) = false := decide_eq_false (by omega)
            have hfin : IKY Z S Wq Y J (Bk.keys (l.take (pre ++ [x]).length)) O3 wr := by
              have h8 := HI3.out
              rw [List.take_of_length_le (by rw [HLK.out]; exact Nat.le_refl _), ← HEND.out] at h8
              rw [List.length_append, List.length_singleton]
              exact h8
            have HFIN := Lib.hid hfin
            clear hfin
            gi_wp2
            exact ⟨O3, HO3.out, HFIN.out, HPX.out⟩
    · go_simp
      have hrow : (Wc.alloc Yp.ndzo).drew.heap[Wc.heap.size]? = some Yp.ndzo := Go.Proofs.YtelfacchhclgnaaGreat.K.alloc_top Wc Yp.ndzo
      have hA0 := HS0.out.below ((Below.refl _ Wc.drew).alloc (Nat.le_refl _) Yp.ndzo)
      rw [show Wc.drew.alloc Yp.ndzo = (Wc.alloc Yp.ndzo).drew from rfl] at hA0
      have HA := Lib.hid hA0
      clear hA0
      have hwc : Wc.heap.size ≤ Wc.heap.size := Nat.le_refl _
      refine hK.out _ _ (HSV.out _ HA.out) (fun hHeld => ?_)
      clear hK K
      try simp only [Act.put, List.setIfInBounds_toArray, List.set_cons_zero, List.set_cons_succ]
      generalize (Wc.alloc Yp.ndzo).drew = V at *
      obtain ⟨nb, hnb⟩ : ∃ nb, Wc.heap.size = nb := ⟨_, rfl⟩
      have hwc2 : Wc.heap.size ≤ nb := by omega
      rw [hnb] at hrow
      rw [hnb]
      clear hnb hwc
      have hwc := hwc2
      clear hwc2
      refine wpAnyH_ready (rs := [6]) (by kernel_rfl) (by simp) ?_
      refine AllReadyH.cons rfl (fun K hK => ?_) AllReadyH.nil
      go_simp
      refine (HPL.out _ HA.out).mono ?_
      rintro e w1 ⟨rfl, hs_w1, hr_w1⟩
      have H_w1 := Lib.hid hs_w1
      have HR_w1 := Lib.hid hr_w1
      clear hs_w1 hr_w1
      refine hK.out _ _ (HSV.out _ H_w1.out) (fun hHeld => ?_)
      clear hK K
      try simp only [Act.put, List.setIfInBounds_toArray, List.set_cons_zero, List.set_cons_succ]
      replace hrow := HR_w1.out _ _ hrow
      clear HR_w1
      refine wpAnyH_ready (rs := [7]) (by kernel_rfl) (by simp) ?_
      refine AllReadyH.cons rfl (fun K hK => ?_) AllReadyH.nil
      go_simp
      refine (HPK.out _ H_w1.out).mono ?_
      rintro e w2 ⟨rfl, hb_w2⟩
      have H_w2 := Lib.hid (H_w1.out.below hb_w2)
      have HB_w2 := Lib.hid hb_w2
      clear hb_w2
      refine hK.out _ _ (HSV.out _ H_w2.out) (fun hHeld => ?_)
      clear hK K
      try simp only [Act.put, List.setIfInBounds_toArray, List.set_cons_zero, List.set_cons_succ]
      replace hrow := (HB_w2.out.block nb (row_lt hrow)).trans hrow
      clear HB_w2
      generalize w2 = V at *
      refine wpAnyH_take (i := 8) (oi := _) (v := .tuple #[Yp.ndv x A nk ck ah be, .bool true]) rfl (by kernel_rfl) (by kernel_rfl) (by kernel_rfl) (fun _ _ _ h => h) (Or.inl ⟨by rfl, ?_⟩) (by assumption) ?_
      · intro w hSw; go_simp
      try simp only [Act.put, List.setIfInBounds_toArray, List.set_cons_zero, List.set_cons_succ]
      refine wpAnyH_take (i := 9) (oi := _) (v := Yp.ndv x A nk ck ah be) rfl (by kernel_rfl) (by kernel_rfl) (by kernel_rfl) (fun _ _ _ h => h) (Or.inl ⟨by rfl, ?_⟩) (by assumption) ?_
      · intro w hSw; go_simp
      try simp only [Act.put, List.setIfInBounds_toArray, List.set_cons_zero, List.set_cons_succ]
      refine wpAnyH_take (i := 10) (oi := _) (v := .bool true) rfl (by kernel_rfl) (by kernel_rfl) (by kernel_rfl) (fun _ _ _ h => h) (Or.inl ⟨by rfl, ?_⟩) (by assumption) ?_
      · intro w hSw; go_simp
      try simp only [Act.put, List.setIfInBounds_toArray, List.set_cons_zero, List.set_cons_succ]
      refine wpAnyH_ready (rs := [12]) (by kernel_rfl) (by simp) ?_
      refine AllReadyH.cons rfl (fun K hK => ?_) AllReadyH.nil
      obtain ⟨z0, z1, z2, z3⟩ := Yp.nd_cells hrow
      have f0 := frozen_of_row V _ 0 _ _ hrow
      have f1 := frozen_of_row V _ 1 _ _ hrow
      have f2 := frozen_of_row V _ 2 _ _ hrow
      have f3 := frozen_of_row V _ 3 _ _ hrow
      go_simp
      obtain ⟨hrow4, hch4⟩ := four_set (.int .u64 (x : Int)) (.slice A nk ck) (.int .i64 ah) (.int .i64 be) hrow
      have H4 := Lib.hid (H_w2.out.sets hrow hwc hch4)
      refine hK.out _ _ (HSV.out _ H4.out) (fun hHeld => ?_)
      clear hK K
      try simp only [Act.put, List.setIfInBounds_toArray, List.set_cons_zero, List.set_cons_succ]
      clear z0 z1 z2 z3 f0 f1 f2 f3 hrow hch4
      generalize (((V.setCell { block := nb, off := 0 } (Value.int IntKind.u64 (x : Int))).setCell { block := nb, off := 1 } (Value.slice A nk ck)).setCell { block := nb, off := 2 } (Value.int IntKind.i64 ah)).setCell { block := nb, off := 3 } (Value.int IntKind.i64 be) = V4 at *
      refine wpAnyH_ready (rs := [13]) (by kernel_rfl) (by simp) ?_
      refine AllReadyH.cons rfl (fun K hK => ?_) AllReadyH.nil
      go_simp
      refine hK.out _ _ (HSV.out _ H4.out) (fun hHeld => ?_)
      clear hK K
      try simp only [Act.put, List.setIfInBounds_toArray, List.set_cons_zero, List.set_cons_succ]
      refine wpAnyH_done (by kernel_rfl) ?_ _
      obtain ⟨zz0, zz1, zz2, zz3⟩ := Yp.nd_cells hrow4
      obtain ⟨bR, yR⟩ := H4.out.fin (Rt := Rt) (Z := Z) H3.out.2.2.2.2.2
      obtain ⟨O2, hos, hik⟩ := IKY.wrote (Y := Y) H3.out.1 H3.out.2.1 H3.out.2.2.1 H3.out.2.2.2.2.1 HJ.out hZq (fun j hj => (hSl j hj).1) bR (by rw [hYd]; exact yR)
      have hKX : ∀ Rt wr, Y Rt wr → KX wr (.slice A nk ck) l[pre.length].2 := fun Rt wr h => by
        rw [hYd] at h
        obtain ⟨q, n', p', hb, _⟩ := h
        have h5 := List.getElem?_eq_some_iff.1 HNS.out
        have h6 := hb.ks i0 hi0 (by rw [h5.2])
        rw [h5.2, HG.out] at h6
        exact h6
      have hPP := fun i => keys_pre (l := l) (i := i) hm
      have hEnd := keys_take_succ (l := l) hm
      have h128 := (HOK.out.good _ (List.getElem_mem hm)).2.1
      obtain ⟨ys0, hys0⟩ : ∃ y, Bk.keys (l.take pre.length) = y := ⟨_, rfl⟩
      have hik2 : IKY Z S Wq Y J ys0 O2 V4 := by rw [← hys0]; exact hik
      rw [hys0] at hPP hEnd
      generalize l[pre.length].2 = ks at *
      have hlk : ks.length = nk := by
        have h7 := hKX _ _ (by rw [hYd]; exact yR)
        rcases h7.form with ⟨e, e2⟩ | ⟨g, cc, hv, _⟩
        · injection e with _ e3 _
          rw [e2]
          exact e3.symm
        · injection hv with _ e3 _
          exact e3.symm
      have HKX := Lib.hid hKX
      have HPP := Lib.hid hPP
      have HEND := Lib.hid hEnd
      have HLK := Lib.hid hlk
      have HOS := Lib.hid hos
      have HIK : Hid (IKY Z S Wq Y J (ys0 ++ ks.take 0) O2 V4) := Lib.hid (by rw [List.take_zero, List.append_nil]; exact hik2)
      have hnk : nk ≤ 128 := by omega
      clear zz0 zz2 zz3 hrow4 hHeld HSV HPL HPK HX2 HS0 hwc bR yR hos hik hik2 hKX hPP hEnd h128 hys0 H4
      have HSL := Lib.hid hSl
      have HZQ := Lib.hid hZq
      have HS00 := Lib.hid hS0
      have HA00 := Lib.hid hA0
      clear hSl hZq hS0 hA0 hS1 hA1 hZW hTFl hYd hS hqc hBq hB0 hJq hi0 hil hPl hBlt hwq HHM HG hm hz2 hlk
      gi_wp2
      gi_loopw [30] (fun cv wr => ∃ (i : Nat) (O3 : Nat → Prop), i ≤ nk ∧ cv = .int .i64 (i : Int) ∧ Hid (OwnStep O1 O3 Wc wr) ∧ Hid (IKY Z S Wq Y J (ys0 ++ ks.take i) O3 wr)) (fun cv _ => nk - (intOf cv).toNat)
      case atStart => exact ⟨0, O2, by omega, rfl, HOS, HIK⟩
      case round =>
        obtain ⟨i, O3, hi1, rfl, HO3, HI3⟩ := hrel
        clear HOS HIK zz1
        rcases Nat.lt_or_ge i nk with hlt | hge
        · obtain ⟨Rt3, q1, q2, q3, q4, q5⟩ := HI3.out
          have hik : i < ks.length := by rw [HLK.out]; exact hlt
          rcases (HKX.out _ _ q4).form with ⟨e, _⟩ | ⟨g, cc, hv, _, hgl, hcell⟩
          · injection e with _ e3 _
            omega
          injection hv with hA hE1 hE2
          clear hE1 hE2
          subst hA
          have hci := hcell i hik
          have hpy := HPP.out (i + 1)
          have htk : ys0 ++ ks.take (i + 1) = ys0 ++ ks.take i ++ [ks[i]] := by rw [List.take_succ_eq_append_getElem hik, List.append_assoc]
          rw [htk] at hpy
          have k1 := (q3.block W.heap.size (HSL.out _ HS00.out).1 (fun h => h (.inr HS00.out))).trans HA00.out
          have c0 := cell_of_row wr _ 0 _ _ (0, 0) k1
          simp at c0
          obtain ⟨fn, tm, asg, bd, hy, hR⟩ := HY.out _ ks[i] _ _ q5 hpy
          have d1 : decide ((i : Int) < (nk : Int)) = true := decide_eq_true (by omega)
          have d2 : (i : Int) < (nk : Int) := by omega
          have wi : IntKind.i64.wrap ((i : Int) + 1) = ((i + 1 : Nat) : Int) := by rw [IntWalk.i64_in _ (by omega)]; omega
          have HTK := Lib.hid htk
          have HPY := Lib.hid hpy
          have HQ3 := Lib.hid (And.intro q1 (And.intro q2 (And.intro q3 q4)))
          have HRR := Lib.hid hR
          generalize ks[i] = k at *
          clear htk hpy hR q1 q2 q3 q4 q5 hcell k1 hik
          gi_wp2
          refine (roundIn_anyZ HRR.out).mono ?_
          rintro e W2 ⟨⟨rfl, hj2⟩ | ⟨rfl, hj2⟩, hb2⟩
          · rw [← HTK.out] at hj2
            obtain ⟨O4, ho4, hI4⟩ := IKY.next HQ3.out.1 HQ3.out.2.1 HQ3.out.2.2.1 HQ3.out.2.2.2 HJ.out HFR.out HSL.out hj2 hb2
            have HO4 := Lib.hid (HO3.out.trans ho4)
            have HI4 := Lib.hid hI4
            clear hj2 hb2 ho4 hI4
            gi_wp2
            go_roundw
            case rel => exact ⟨i + 1, O4, by omega, by go_num, HO4, HI4⟩
            case measure => first | (simp [intOf]; done) | (simp [intOf]; omega)
          · obtain ⟨O4, ho4, hI4⟩ := IKY.next HQ3.out.1 HQ3.out.2.1 HQ3.out.2.2.1 HQ3.out.2.2.2 HJX.out HFR.out HSL.out hj2 hb2
            have HO4 := Lib.hid (HO3.out.trans ho4)
            have HI4 := Lib.hid hI4
            clear hj2 hb2 ho4 hI4
            gi_wp2
            exact ⟨O4, HO4.out, rfl, _, HPY.out, HI4.out⟩
        · obtain rfl : i = nk := by omega
          have d1 : decide ((i : Int) < (i : Int)) = false := decide_eq_false (by omega)
          have hfin : IKY Z S Wq Y J (Bk.keys (l.take (pre ++ [x]).length)) O3 wr := by
            have h8 := HI3.out
            rw [List.take_of_length_le (by rw [HLK.out]; exact Nat.le_refl _), ← HEND.out] at h8
            rw [List.length_append, List.length_singleton]
            exact h8
          have HFIN := Lib.hid hfin
          clear hfin
          gi_wp2
          exact ⟨O3, HO3.out, HFIN.out, HPX.out⟩
  case done =>
    rintro D ys O W' hD hOD rfl ⟨hI, _⟩ hK
    obtain ⟨Rt, h1, hr, h2, hy, h3⟩ := hI
    have hDl := row_lt hK
    have hll : l.take (Bk.reps l).length = l := by rw [show (Bk.reps l).length = l.length by simp [Bk.reps], List.take_length]
    rw [hll] at h3
    have hRD : ¬ Rt D := fun h => hOD (hr D h)
    have hZD : ¬ Z D := fun hz => by have := hZq D hz; omega
    have hb := but_put W' D (.deferred none)
    have hfin := HJ.out _ _ Rt _ _ h3 (hb.mono (fun j hlt hj => by
      have hj : j = D := hj
      subst hj
      exact ⟨hlt, hZD, .inl hOD⟩)) (fun j hj => ⟨.inl ⟨(h1 j (hr j hj)).2.2, (h1 j (hr j hj)).1, .inr hj⟩, by have := (h1 j (hr j hj)).2.2; rw [World.putObj_size]; exact this⟩)
    have hyf := HFR.out _ _ _ _ hy hb (fun j _ hj => by
      have hj : j = D := hj
      subst hj
      exact ⟨hZD, hRD⟩)
    rw [hYd] at hyf
    have HF := Lib.hid hfin
    have HYF := Lib.hid hyf
    have HK := Lib.hid hK
    clear hK hfin hyf hy h1 hr h2 h3 hb
    gi_wp2
    refine ⟨by simp, .inl ⟨_, _, rfl, run_takeDeferred HK.out, ?_⟩⟩
    exact ⟨_, results_none rfl _ _ _, ⟨_, rfl⟩, .inl ⟨_, Rt, ⟨rfl, HYF.out⟩, HF.out⟩⟩
  case stop =>
    rintro D c pre O W' hD hOD hpre ⟨rfl, ys, hys, hI⟩ hK
    obtain ⟨Rt, h1, hr, h2, hy, h3⟩ := hI
    have hDl := row_lt hK
    have hRD : ¬ Rt D := fun h => hOD (hr D h)
    have hZD : ¬ Z D := fun hz => by have := hZq D hz; omega
    have hb := but_put W' D (.deferred none)
    have hfin := HJX.out _ _ Rt _ _ h3 (hb.mono (fun j hlt hj => by
      have hj : j = D := hj
      subst hj
      exact ⟨hlt, hZD, .inl hOD⟩)) (fun j hj => ⟨.inl ⟨(h1 j (hr j hj)).2.2, (h1 j (hr j hj)).1, .inr hj⟩, by have := (h1 j (hr j hj)).2.2; rw [World.putObj_size]; exact this⟩)
    have hyf := HFR.out _ _ _ _ hy hb (fun j _ hj => by
      have hj : j = D := hj
      subst hj
      exact ⟨hZD, hRD⟩)
    rw [hYd] at hyf
    have HF := Lib.hid hfin
    have HYF := Lib.hid hyf
    have HYS := Lib.hid hys
    have HK := Lib.hid hK
    clear hK hfin hyf hy h1 hr h2 h3 hb hys
    gi_wp2
    refine ⟨by simp, .inl ⟨_, _, rfl, run_takeDeferred HK.out, ?_⟩⟩
    exact ⟨_, results_none rfl _ _ _, ⟨_, rfl⟩, .inr ⟨ys, Rt, ⟨HYS.out, HYF.out⟩, HF.out⟩⟩
end
end Go.Proofs.YtelfacchhclgnaaGreat
