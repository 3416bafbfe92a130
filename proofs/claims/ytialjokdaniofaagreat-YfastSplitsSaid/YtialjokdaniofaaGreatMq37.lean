/- A y-fast trie with one bucket: awake; the texts walked. What the law's own function 'all' collects of an y-fast trie: the first keys; the text walked. A nil y-fast trie; a new one of any limit; the texts walked. The law YfastNil; the text walked. What the cards of the chain's laws use: the last step over a world of which all that was there is as it was; how slices of words and of truth values that came in read. Numbers of 16 and of 32 bits that came in. The trie's mathematics: the next key above, the last one below, told by the way. -/
import Derived.Maps.AppendAt
import Derived.Maps.OwnIn
import Derived.Test.YtialjokdaniofaaGreatRows
import Derived.WalkKit
import Derived.ProofKit
import Derived.OpenShut
import Derived.Below
import Derived.ChangeSame
import Derived.ChangeSlices
import Derived.Carry
import Derived.Deep.Grids
import Derived.JoinedOf
import Derived.Test.YtialjokdaniofaaGreatMq36
import Derived.Test.YtialjokdaniofaaGreatMq09
section
namespace Go.Proofs.YtialjokdaniofaaGreat
set_option maxRecDepth 20000
open Go.RowKit
/-- A trie with one bucket, that of key 0, seen from a world before it. -/
def One (w : World) (P lim : Nat) (xs : List Nat) (w' : World) : Prop :=
  ∃ M X T Q tk a A c ns fs G O, YT w' P M X T Q lim tk (xs.length : Int) [0] [((0, 0), a)] ns fs G O ∧ ns[a]? = some (⟨0, A, xs.length, c, -1, -1⟩, true) ∧ G a = xs ∧ ns.length - fs.length = 1 ∧ a < 1048576 ∧ Below w.heap.size w w' ∧ ∀ j, O j → w.heap.size ≤ j
/-- One without keys. -/
def Zero (w : World) (P lim : Nat) (w' : World) : Prop :=
  ∃ M X T Q tk G O, YT w' P M X T Q lim tk 0 [] [] [] [] G O ∧ Below w.heap.size w w' ∧ ∀ j, O j → w.heap.size ≤ j
theorem yr_low {w w0 w' : World} {P M X T Q lim tk : Nat} {kn : Int} {rs : List Nat} {es : Es} {ns : List (Yp.Nd × Bool)} {fs : List Nat} {G : Nat → List Nat} {O : Nat → Prop} (hb : Below w.heap.size w w0) (hO : ∀ j, O j → w.heap.size ≤ j) (h : YR w0 O P M X T Q lim tk kn rs es ns fs G w') :
    ∃ O', YT w' P M X T Q lim tk kn rs es ns fs G O' ∧ Below w.heap.size w w' ∧ ∀ j, O' j → w.heap.size ≤ j := by
  obtain ⟨O', hT, hC, hO'⟩ := h
  refine ⟨O', hT, hb.trans (hC.below hb.size hO), fun j hj => ?_⟩
  rcases hO' j hj with h | h
  · exact hO j h
  · exact Nat.le_trans hb.size h
theorem One.low {w w' : World} {P lim : Nat} {xs : List Nat} (h : One w P lim xs w') : Below w.heap.size w w' := by
  obtain ⟨_, _, _, _, _, _, _, _, _, _, _, _, _, _, _, _, _, hb, _⟩ := h
  exact hb
theorem sel_one {a : Nat} {A : Option Addr} {n c k : Nat} {ns : List (Yp.Nd × Bool)} (hk : K.pvb [0] k = true ∧ K.pv [0] k = 0) (ha : a < 1048576) (hn : ns[a]? = some (⟨0, A, n, c, -1, -1⟩, true)) : Sel [0] [((0, 0), a)] ns k (a : Int) ⟨0, A, n, c, -1, -1⟩ := by
  refine .inr ⟨hk.1, a, rfl, ?_, ha, hn⟩
  rw [hk.2]
  simp
theorem zero_insert {w w0 : World} {P : Nat} (h : Zero w P 4000 w0) : Calls Tryz.prog 24 #[.pointer (some ⟨P, 0, none⟩), .int .u64 5] w0 fun e w' => e = .returned (.int .i64 0) ∧ One w P 4000 [5] w' := by
  obtain ⟨M, X, T, Q, tk, G, O, hT, hb, hO⟩ := h
  refine (ins_ok1_T hT 5 (by decide) (-1) 0 none 0 0 (-1) (-1) (.inl ⟨rfl, rfl, rfl⟩) [] (.inl ⟨rfl, rfl, rfl⟩) List.Pairwise.nil (by decide) rfl 0 rfl (by decide) 0 [] [5] rfl rfl rfl 0 1 rfl rfl (by decide) (by decide) (fun _ => ⟨by decide, by decide⟩) 0 68 (by decide) (by decide) G rfl (by decide) (by decide) (by decide) (by simp) (by decide)).mono ?_
  rintro e w' ⟨rfl, t, ht, A1, c1, A2, c2, a, ns2, fs2, hF, hy⟩
  obtain ⟨O', hT', hb', hO'⟩ := yr_low hb hO hy
  have hn := hF.2.2.1
  have hbh : beh (Yp.setk [] (-1) A1 0 c1) (-1) = -1 := by
    unfold beh
    rw [if_neg (by rw [Yp.lvq_neg (by decide)]; decide)]
  rw [hbh] at hT'
  have hneg : ∀ (ns : List (Yp.Nd × Bool)) (b : Int), Yp.setb ns (-1) b = ns ∧ Yp.seta ns (-1) b = ns := fun ns b => by
    unfold Yp.setb Yp.seta
    rw [if_neg (by rw [Yp.lvq_neg (by decide)]; decide), if_neg (by rw [Yp.lvq_neg (by decide)]; decide)]
    exact ⟨rfl, rfl⟩
  rw [(hneg _ _).1, (hneg _ _).2] at hT'
  rw [show K.inL K.xfast [] 4000 0 = [0] by decide] at hT'
  refine ⟨rfl, M, X, T, Q, t, a, A2, c2, Yp.setb (Yp.seta ns2 (a : Int) (-1)) (a : Int) (-1), fs2, upd G a [5], O', ?_, ?_, ?_, ?_, hF.2.2.2.2.2, hb', hO'⟩
  · exact hT'
  · exact Yp.setb_at (Yp.seta_at hn (-1)) (-1)
  · unfold upd
    rw [if_pos rfl]
  · rw [Yp.setb_len, Yp.seta_len]
    have := hF.2.2.2.2.1
    rw [setk_len] at this
    exact this
theorem one_insert {w w0 : World} {P : Nat} (h : One w P 4000 [5] w0) : Calls Tryz.prog 24 #[.pointer (some ⟨P, 0, none⟩), .int .u64 9] w0 fun e w' => e = .returned (.int .i64 0) ∧ One w P 4000 [5, 9] w' := by
  obtain ⟨M, X, T, Q, tk, a, A, c, ns, fs, G, O, hT, hn, hg, hl, ha, hb, hO⟩ := h
  have hne : (a : Int) ≠ -1 := by omega
  refine (ins_ok0_T hT 9 (by decide) (a : Int) 0 A 1 c (-1) (-1) (sel_one ⟨by decide, by decide⟩ ha hn) [5] (.inr ⟨a, rfl, hn, hg.symm⟩) (by decide) (by decide) (by decide) 1 rfl (by decide) 0 [5, 9] [] ?_ ?_ ?_ 2 0 rfl rfl (by decide) (by decide) (fun e => absurd rfl e) 68 1 ?_ (by decide) (upd G a [5, 9]) (by rw [if_neg hne]; rfl) (by decide) rfl).mono ?_
  · unfold cuty
    rw [if_neg hne, if_neg (by decide)]
  · unfold cut1
    rw [if_neg hne, if_neg (by decide)]
    decide
  · unfold cut2
    rw [if_neg hne, if_neg (by decide)]
  · rw [hl]
    decide
  · rintro e w' ⟨rfl, t, ht, A1, c1, hy⟩
    obtain ⟨O', hT', hb', hO'⟩ := yr_low hb hO hy
    refine ⟨rfl, M, X, T, Q, t, a, A1, c1, Yp.setk ns (a : Int) A1 2 c1, fs, upd G a [5, 9], O', hT', setk_at hn, ?_, ?_, ha, hb', hO'⟩
    · unfold upd
      rw [if_pos rfl]
    · rw [setk_len]
      exact hl
theorem one_again {w w0 : World} {P : Nat} (h : One w P 4000 [5, 9] w0) : Calls Tryz.prog 24 #[.pointer (some ⟨P, 0, none⟩), .int .u64 9] w0 fun e w' => e = .returned (.int .i64 4) ∧ One w P 4000 [5, 9] w' := by
  obtain ⟨M, X, T, Q, tk, a, A, c, ns, fs, G, O, hT, hn, hg, hl, ha, hb, hO⟩ := h
  refine (ins_in_T hT 9 (by decide) (a : Int) 0 A 2 c (-1) (-1) (sel_one ⟨by decide, by decide⟩ ha hn) [5, 9] (.inr ⟨a, rfl, hn, hg.symm⟩) (by decide) (by decide) (by decide)).mono ?_
  rintro e w' ⟨rfl, t, ht, hy⟩
  obtain ⟨O', hT', hb', hO'⟩ := yr_low hb hO hy
  exact ⟨rfl, M, X, T, Q, t, a, A, c, ns, fs, G, O', hT', hn, hg, hl, ha, hb', hO'⟩
theorem one_next {w w0 : World} {P : Nat} (h : One w P 4000 [5, 9] w0) : Calls Tryz.prog 30 #[.pointer (some ⟨P, 0, none⟩), .int .u64 6] w0 fun e w' => e = .returned (.tuple #[.int .u64 9, .bool true]) ∧ One w P 4000 [5, 9] w' := by
  obtain ⟨M, X, T, Q, tk, a, A, c, ns, fs, G, O, hT, hn, hg, hl, ha, hb, hO⟩ := h
  have HN : Hid (Calls Tryz.prog 58 #[.pointer (some ⟨P, 0, none⟩), .int .u64 6, .func (.func 59) #[] #[], .func (.func 60) #[] #[]] w0 fun e w' => e = .returned (.tuple #[.int .u64 9, .bool true]) ∧ ∃ t, t ≤ 11 ∧ YR w0 O P M X T Q 4000 t 2 [0] [((0, 0), a)] ns fs G w') := Lib.hid (by
    have q := near_Next_yes_T hT 6 (by decide) (a : Int) 0 A 2 c (-1) (-1) (sel_one ⟨by decide, by decide⟩ ha hn) [5, 9] (.inr ⟨a, rfl, hn, hg.symm⟩) (by decide) (by decide) (by decide)
    rw [show K.nx [5, 9] 6 = 9 by decide] at q
    exact q)
  have HR : Hid (∀ t w', YR w0 O P M X T Q 4000 t 2 [0] [((0, 0), a)] ns fs G w' → One w P 4000 [5, 9] w') := Lib.hid (fun t w' hy => by
    obtain ⟨O', hT', hb', hO'⟩ := yr_low hb hO hy
    exact ⟨M, X, T, Q, t, a, A, c, ns, fs, G, O', hT', hn, hg, hl, ha, hb', hO'⟩)
  clear hT hn hg hl ha hb hO
  go_enter Tryz.func30, Tryz.ntmps30
  go_wp2_with (go_at_call 58; (with_reducible refine HN.out.mono ?_); rintro e w1 ⟨rfl, t, ht, hy⟩; have HY := Lib.hid (HR.out _ _ hy); clear hy ht)
  go_ret2
  exact ⟨rfl, HY.out⟩
theorem one_prev {w w0 : World} {P : Nat} (h : One w P 4000 [5, 9] w0) : Calls Tryz.prog 31 #[.pointer (some ⟨P, 0, none⟩), .int .u64 8] w0 fun e w' => e = .returned (.tuple #[.int .u64 5, .bool true]) ∧ One w P 4000 [5, 9] w' := by
  obtain ⟨M, X, T, Q, tk, a, A, c, ns, fs, G, O, hT, hn, hg, hl, ha, hb, hO⟩ := h
  have HN : Hid (Calls Tryz.prog 58 #[.pointer (some ⟨P, 0, none⟩), .int .u64 8, .func (.func 61) #[] #[], .func (.func 62) #[] #[]] w0 fun e w' => e = .returned (.tuple #[.int .u64 5, .bool true]) ∧ ∃ t, t ≤ 11 ∧ YR w0 O P M X T Q 4000 t 2 [0] [((0, 0), a)] ns fs G w') := Lib.hid (by
    have q := near_Prev_yes_T hT 8 (by decide) (a : Int) 0 A 2 c (-1) (-1) (sel_one ⟨by decide, by decide⟩ ha hn) [5, 9] (.inr ⟨a, rfl, hn, hg.symm⟩) (by decide) (by decide) (by decide)
    rw [show K.pv [5, 9] 8 = 5 by decide] at q
    exact q)
  have HR : Hid (∀ t w', YR w0 O P M X T Q 4000 t 2 [0] [((0, 0), a)] ns fs G w' → One w P 4000 [5, 9] w') := Lib.hid (fun t w' hy => by
    obtain ⟨O', hT', hb', hO'⟩ := yr_low hb hO hy
    exact ⟨M, X, T, Q, t, a, A, c, ns, fs, G, O', hT', hn, hg, hl, ha, hb', hO'⟩)
  clear hT hn hg hl ha hb hO
  go_enter Tryz.func31, Tryz.ntmps31
  go_wp2_with (go_at_call 58; (with_reducible refine HN.out.mono ?_); rintro e w1 ⟨rfl, t, ht, hy⟩; have HY := Lib.hid (HR.out _ _ hy); clear hy ht)
  go_ret2
  exact ⟨rfl, HY.out⟩
theorem one_len {w w0 : World} {P : Nat} (h : One w P 4000 [5, 9] w0) : Calls Tryz.prog 33 #[.pointer (some ⟨P, 0, none⟩)] w0 fun e w' => e = .returned (.int .i64 2) ∧ w' = w0 := by
  obtain ⟨M, X, T, Q, tk, a, A, c, ns, fs, G, O, hT, hn, hg, hl, ha, hb, hO⟩ := h
  exact (YR.start hT).len
set_option maxHeartbeats 1000000 in
theorem law_awakeY (w : World) : Calls Tryz.prog 8 #[] w fun e w' => e = .returned (.bool true) ∧ Below w.heap.size w w' := by
  have hnew : Hid (Calls Tryz.prog 9 #[.int .u64 1, .int .i64 4000] w fun e w' => ∃ P, e = .returned (.tuple #[.pointer (some ⟨P, 0, none⟩), .int .i64 0]) ∧ Zero w P 4000 w') :=
    Lib.hid ((y_new w 1 4000 (by omega)).mono fun e w' ⟨P, M, X, T, Q, O, h1, h2, h3, h4⟩ => ⟨P, h1, M, X, T, Q, 0, _, O, h2, h3, h4⟩)
  go_enter Tryz.func8, Tryz.ntmps8
  go_wp2_with (first
    | (go_at_call 9; (with_reducible refine hnew.out.mono ?_); rintro e w1 ⟨P, rfl, h1⟩; have H1 := Lib.hid (zero_insert h1); clear h1)
    | (go_at_call 24; (with_reducible refine H1.out.mono ?_); rintro e w2 ⟨rfl, h2⟩; have H2 := Lib.hid (one_insert h2); clear h2)
    | (go_at_call 24; (with_reducible refine H2.out.mono ?_); rintro e w3 ⟨rfl, h3⟩; have H3 := Lib.hid (one_again h3); clear h3)
    | (go_at_call 24; (with_reducible refine H3.out.mono ?_); rintro e w4 ⟨rfl, h4⟩; have H4 := Lib.hid (one_next h4); clear h4)
    | (go_at_call 30; (with_reducible refine H4.out.mono ?_); rintro e w5 ⟨rfl, h5⟩; have H5 := Lib.hid (one_prev h5); clear h5)
    | (go_at_call 31; (with_reducible refine H5.out.mono ?_); rintro e w6 ⟨rfl, h6⟩; have HB := Lib.hid h6.low; have H6 := Lib.hid (one_len h6); clear h6)
    | (go_at_call 33; (with_reducible refine H6.out.mono ?_); rintro e w' ⟨rfl, rfl⟩))
  go_ret
  exact ⟨rfl, HB.out⟩
end Go.Proofs.YtialjokdaniofaaGreat
end
section
namespace Go.Proofs.YtialjokdaniofaaGreat
set_option maxRecDepth 20000
open Go.RowKit Go.Shelf
theorem wide_fnY (f : Nat) : Fence.wide.fn f := trivial
attribute [local go_sem] Oper.semAt_some
attribute [local simp] wide_fnY
theorem alloc_top (w : World) (o : Obj) {n : Nat} (h : n = w.heap.size) : (w.alloc o).heap[n]? = some o := by
  subst h
  exact K.alloc_top w o
theorem but_set' (w : World) (h k : Nat) (u : Value) (S : Nat → Prop) (hS : S h) : ButS w (w.setCell ⟨h, k, none⟩ u) S := ButS.of_chg (chg_set w h k u S hS)
/-- The list that is collected: its box at b, its row. -/
def Outs (b : Nat) (es : List Nat) (O : Nat → Prop) (W : World) : Prop :=
  ∃ v, W.heap[b]? = some (.cells #[v] 47 (0, 0)) ∧ W.ownsRow b 22 1 v es.length (wv es) ∧ v.ownBlock ≠ some b ∧ ∀ j, O j ↔ (j = b ∨ v.ownBlock = some j)
theorem own_ltG {W : World} {base : Nat} {e : TypeId} {size n : Nat} {v : Value} {xs : List Value} (h : W.ownsRow base e size v n xs) {j : Nat} (hj : v.ownBlock = some j) : j < W.heap.size ∧ base ≤ j := by
  rcases h.2 with ⟨rfl, _⟩ | ⟨g, cap, cur, rfl, hb, hg, _⟩
  · simp [Value.ownBlock] at hj
  · simp [Value.ownBlock] at hj
    subst hj
    exact ⟨(Array.getElem?_eq_some_iff.1 hg).1, hb⟩
theorem Outs.but {b : Nat} {es : List Nat} {O R : Nat → Prop} {W W' : World} (h : Outs b es O W) (hw : ButS W W' R) (hR : ∀ j, R j → ¬ O j) : Outs b es O W' := by
  obtain ⟨v, h1, h2, h3, h4⟩ := h
  refine ⟨v, (hw.block b (Array.getElem?_eq_some_iff.1 h1).1 (fun hr => hR b hr ((h4 b).2 (.inl rfl)))).trans h1, hw.own h2 (fun k hk hr => hR k hr ((h4 k).2 (.inr hk))), h3, h4⟩
theorem Outs.lt {b : Nat} {es : List Nat} {O : Nat → Prop} {W : World} (h : Outs b es O W) : ∀ j, O j → b ≤ j ∧ j < W.heap.size := by
  obtain ⟨v, h1, h2, h3, h4⟩ := h
  intro j hj
  rcases (h4 j).1 hj with rfl | hj
  · exact ⟨Nat.le_refl _, (Array.getElem?_eq_some_iff.1 h1).1⟩
  · exact ⟨(own_ltG h2 hj).2, (own_ltG h2 hj).1⟩
/-- What 'all' answers. -/
def AllQ (w : World) (es : List Nat) (e : Ending) (w' : World) : Prop :=
  ∃ v, e = .returned v ∧ KX w' v es ∧ Below w.heap.size w w'
end Go.Proofs.YtialjokdaniofaaGreat
end
section
namespace Go.Proofs.YtialjokdaniofaaGreat
set_option maxRecDepth 20000
open Go.RowKit Go.Shelf
attribute [local go_sem] Oper.semAt_some
attribute [local simp] wide_fnY
end Go.Proofs.YtialjokdaniofaaGreat
end
section
namespace Go.Proofs.YtialjokdaniofaaGreat
set_option maxRecDepth 20000
open Go.RowKit
end Go.Proofs.YtialjokdaniofaaGreat
end
section
namespace Go.Proofs.YtialjokdaniofaaGreat
open Go.ChangeShapes Go.WideShapes Go.ChangeAt Go.RowKit
section
variable {H : Type} {enc : TypeId × Value → H} {P : Program}
theorem post_of_below {f : Func} {s : ChangeSpec} {apart fresh handsOn again : Bool} {W W' : World} {args : Array Value} {v : Value} {ds gs : List (DataW H)} {before pa pv : List MemPlace}
    (hW : DataW.Whole enc P f.params.toList s.vars apart W args.toList ds gs before)
    (hres : ∀ (b : Nat) (sp : Nat → Bool) (hd : Bool), DataW.TrodAll enc P W' b sp hd f.resultTypes.toList (v.resultList f.resultTypes.size) (s.fn H (ds ++ gs)).results [])
    (hargs : ∀ sp : Nat → Bool, (∀ p ∈ before, sp p.block = true) → DataW.TrodAll enc P W' 0 sp true f.params.toList args.toList (s.fn H (ds ++ gs)).args pa)
    (hvars : ∀ sp : Nat → Bool, (∀ p ∈ before, sp p.block = true) → DataW.TrodVars enc P W' sp s.vars (s.fn H (ds ++ gs)).vars pv)
    (hps : before = pa ++ pv) (hb : Below W.heap.size W W')
    (hok : ∀ (j : Nat) (t : TypeId) (r : Value), f.resultTypes[j]? = some t → (v.resultList f.resultTypes.size)[j]? = some r → Value.okWide P W' .any 0 t r) :
    s.post enc P f apart fresh handsOn again W args v W' := by
  have hlt : ∀ p ∈ before, p.block < W.heap.size := fun p hp => hW.lt p hp
  have hold : ∀ p ∈ before, (fun b => decide (b < W.heap.size)) p.block = true := fun p hp => by simpa using hlt p hp
  refine ⟨ds, gs, before, [], pa, pv, hW, hres _ _ _, hargs _ hold, hvars _ hold, World.keptBut_mono (fun p hp => ⟨hp, ?_⟩) (hb.frame (· ∈ before)), fun _ => ?_⟩
  · rw [hps, List.mem_append] at hp
    exact Or.inr hp
  · obtain ⟨_, _, _, _, _, hz, hn⟩ := hW
    refine ⟨hok, _, _, ([] ++ pa) ++ pv, ⟨[] ++ pa, pv, trodAll_append (hargs _ (fun _ _ => rfl)) (hres _ _ _), hvars _ (fun _ _ => rfl), rfl, ?_, ?_⟩, ?_⟩
    · intro b off hp
      have hin : MemPlace.cell b off ∈ before := by rw [hps]; simpa using hp
      rw [hb.frozen (hlt _ hin)]
      exact hz b off hin
    · intro ha
      have := hn ha
      rw [hps] at this
      simpa using this
    · intro p hp _
      rw [hps]
      simpa using hp
end

theorem own : ownKnob Tryz.prog.godebug = none := by kernel_rfl
theorem u64_nat {n : Int} (h : (Lit.int .u64 n).wf = true) : ∃ m : Nat, n = m ∧ m < 18446744073709551616 := by
  simp [Lit.wf, IntKind.min, IntKind.max, IntKind.signed, IntKind.bits] at h
  exact ⟨n.toNat, by omega, by omega⟩
end Go.Proofs.YtialjokdaniofaaGreat
end
section
namespace Go.Proofs.YtialjokdaniofaaGreat
open Go.ChangeShapes Go.WideShapes Go.ChangeAt Go.RowKit
theorem u16_nat {n : Int} (h : (Lit.int .u16 n).wf = true) : ∃ m : Nat, n = m ∧ m < 65536 := by
  simp [Lit.wf, IntKind.min, IntKind.max, IntKind.signed, IntKind.bits] at h
  exact ⟨n.toNat, by omega, by omega⟩
theorem u32_nat {n : Int} (h : (Lit.int .u32 n).wf = true) : ∃ m : Nat, n = m ∧ m < 4294967296 := by
  simp [Lit.wf, IntKind.min, IntKind.max, IntKind.signed, IntKind.bits] at h
  exact ⟨n.toNat, by omega, by omega⟩
end Go.Proofs.YtialjokdaniofaaGreat
end
section
namespace Go.Proofs.YtialjokdaniofaaGreat
set_option maxRecDepth 20000
namespace T
/-- What the document's lists say of the next and of the last. -/
theorem nx_yes {xs : List Nat} (h : K.Up xs) {k : Nat} (hk : k ∈ xs) : K.nx xs k = k ∧ K.nxb xs k = true := by
  obtain ⟨h1, h2⟩ := K.fo_lt ((K.fo_mem h k).2 hk)
  unfold K.nx K.nxb
  rw [List.getElem?_eq_getElem h1, h2]
  exact ⟨rfl, decide_eq_true h1⟩
theorem nx_above {xs : List Nat} (h : K.Up xs) {k y : Nat} (hk : k ∉ xs) (hy : y ∈ xs) (hlt : k < y) (hm : ∀ x ∈ xs, k < x → y ≤ x) : K.nx xs k = y ∧ K.nxb xs k = true := by
  obtain ⟨j, hj, rfl⟩ := List.getElem_of_mem hy
  have h1 : K.fi xs k ≤ j := by
    rcases Nat.lt_or_ge j (K.fi xs k) with h2 | h2
    · have := (K.fi_lt h2).2; omega
    · exact h2
  have h2 := K.fi_at (xs := xs) (k := k) (by omega)
  have h3 : xs[K.fi xs k]'(by omega) ≠ k := fun e => hk (e ▸ List.getElem_mem _)
  have h4 := hm (xs[K.fi xs k]'(by omega)) (List.getElem_mem _) (by omega)
  have h5 : K.fi xs k = j := by
    rcases Nat.lt_or_ge (K.fi xs k) j with h6 | h6
    · have := K.up_lt h h6 hj; omega
    · omega
  unfold K.nx K.nxb
  rw [h5, List.getElem?_eq_getElem hj]
  exact ⟨rfl, decide_eq_true hj⟩
theorem nx_none {xs : List Nat} {k : Nat} (hk : k ∉ xs) (hm : ∀ x ∈ xs, x ≤ k) : K.nx xs k = 0 ∧ K.nxb xs k = false := by
  have h1 : ¬ K.fi xs k < xs.length := fun h => by
    have h2 := K.fi_at h
    have h3 := hm _ (List.getElem_mem h)
    have h4 : xs[K.fi xs k] = k := by omega
    exact hk (h4 ▸ List.getElem_mem h)
  unfold K.nx K.nxb
  rw [List.getElem?_eq_none (by omega)]
  exact ⟨rfl, decide_eq_false h1⟩
theorem pv_yes {xs : List Nat} (h : K.Up xs) {k : Nat} (hk : k ∈ xs) : K.pv xs k = k ∧ K.pvb xs k = true := by
  have hf := (K.fo_mem h k).2 hk
  unfold K.pv K.pvb
  rw [if_pos hf, hf]
  exact ⟨rfl, rfl⟩
theorem pv_below {xs : List Nat} (h : K.Up xs) {k y : Nat} (hk : k ∉ xs) (hy : y ∈ xs) (hlt : y < k) (hm : ∀ x ∈ xs, x < k → x ≤ y) : K.pv xs k = y ∧ K.pvb xs k = true := by
  obtain ⟨j, hj, rfl⟩ := List.getElem_of_mem hy
  have hf : ¬ K.fo xs k = true := fun h2 => hk ((K.fo_mem h k).1 h2)
  have h1 : j < K.fi xs k := by
    rcases Nat.lt_or_ge j (K.fi xs k) with h2 | h2
    · exact h2
    · have h3 := K.fi_at (xs := xs) (k := k) (by omega)
      rcases Nat.eq_or_lt_of_le h2 with h4 | h4
      · have : xs[K.fi xs k]'(by omega) = xs[j] := by congr 1
        omega
      · have := K.up_lt h h4 hj; omega
  have h5 : K.fi xs k - 1 = j := by
    have h6 := K.fi_le xs k
    rcases Nat.lt_or_ge j (K.fi xs k - 1) with h7 | h7
    · have h8 := (K.fi_lt (xs := xs) (k := k) (j := K.fi xs k - 1) (by omega)).2
      have h9 := hm _ (List.getElem_mem (l := xs) (n := K.fi xs k - 1) (by omega)) h8
      have h10 := K.up_lt h h7 (by omega)
      omega
    · omega
  unfold K.pv K.pvb
  rw [if_neg hf, if_neg (by omega), h5, List.getElem?_eq_getElem hj]
  refine ⟨rfl, ?_⟩
  have : decide (K.fi xs k = 0) = false := decide_eq_false (by omega)
  rw [this]
  simp
theorem pv_none {xs : List Nat} (h : K.Up xs) {k : Nat} (hk : k ∉ xs) (hm : ∀ x ∈ xs, k ≤ x) : K.pv xs k = 0 ∧ K.pvb xs k = false := by
  have hf : ¬ K.fo xs k = true := fun h2 => hk ((K.fo_mem h k).1 h2)
  have h1 : K.fi xs k = 0 := by
    rcases Nat.eq_zero_or_pos (K.fi xs k) with h2 | h2
    · exact h2
    · obtain ⟨h3, h4⟩ := K.fi_lt h2
      have := hm _ (List.getElem_mem h3)
      omega
  unfold K.pv K.pvb
  rw [if_neg hf, if_pos h1]
  have : K.fo xs k = false := by simpa using hf
  rw [this, decide_eq_true h1]
  exact ⟨rfl, rfl⟩
end T
end Go.Proofs.YtialjokdaniofaaGreat
end
