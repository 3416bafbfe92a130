/- A y-fast trie with one bucket: awake; the texts walked. What the law's own function 'all' collects of an y-fast trie: the first keys; the text walked. A nil y-fast trie; a new one of any limit; the texts walked. The law YfastNil; the text walked. What the cards of the chain's laws use: the last step over a world of which all that was there is as it was; how slices of words and of truth values that came in read. Numbers of 16 and of 32 bits that came in. As RangeZ: and the iterator is promised, also where a round says no more, that all but what is no block of its own and none of Z is as it was: so iterators go over iterators. -/
import Derived.Maps.AppendAt
import Derived.Maps.OwnIn
import Derived.Test.YtelfacchhclgnaaGreatRows
import Derived.WalkKit
import Derived.ProofKit
import Derived.OpenShut
import Derived.Below
import Derived.ChangeSame
import Derived.ChangeSlices
import Derived.Carry
import Derived.Deep.Grids
import Derived.JoinedOf
import Derived.Test.YtelfacchhclgnaaGreatMu37
import Derived.Test.YtelfacchhclgnaaGreatMu03
section
namespace Go.Proofs.YtelfacchhclgnaaGreat
set_option maxRecDepth 20000
open Go.RowKit
/-- A trie with one bucket, that of key 0, seen from a world before it. -/
def One (w : World) (P lim : Nat) (xs : List Nat) (w' : World) : Prop :=
  ∃ M X T Q tk a A c ns fs G O, YT w' P M X T Q lim tk (xs.length : Int) [0] [((0, 0), a)] ns fs G O ∧ ns[a]? = some (⟨0, A, xs.length, c, -1, -1⟩, true) ∧ G a = xs ∧ ns.length - fs.length = 1 ∧ a < 1048576 ∧ Below w.heap.size w w' ∧ ∀ j, O j → w.heap.size ≤ j
/-- One without keys. -/
def Zero (w : World) (P lim : Nat) (w' : World) : Prop :=
  ∃ M X T Q tk G O, YT w' P M X T Q lim tk 0 [] [] [] [] G O ∧ Below w.heap.size w w' ∧ ∀ j, O j → w.heap.size ≤ j
theorem yr_low {w w0 w' : World} {P M X T Q lim tk : Nat} {kn : Int} {rs : List Nat} {es : Es} {ns : List (Yp.Nd × Bool)} {fs : List Nat} {G : Nat → List Nat} {O : Nat → Prop} (hb : Below w.heap.size w w0) (hO : ∀ j, O j → w.heap.size ≤ j) (h : YR w0 O P M X T Q lim tk kn rs es ns fs G w') :
    ∃ O', YT w' P M X T Q lim tk kn rs es ns fs G O' ∧ Below w.heap.size w w' ∧ ∀ j, O' j → w.heap.size ≤ j := by
  obtain ⟨O', hT, hC, hO'⟩ := h
  refine ⟨O', hT, hb.trans (hC.below hb.size hO), fun j hj => ?_⟩
  rcases hO' j hj with h | h
  · exact hO j h
  · exact Nat.le_trans hb.size h
theorem One.low {w w' : World} {P lim : Nat} {xs : List Nat} (h : One w P lim xs w') : Below w.heap.size w w' := by
  obtain ⟨_, _, _, _, _, _, _, _, _, _, _, _, _, _, _, _, _, hb, _⟩ := h
  exact hb
theorem sel_one {a : Nat} {A : Option Addr} {n c k : Nat} {ns : List (Yp.Nd × Bool)} (hk : K.pvb [0] k = true ∧ K.pv [0] k = 0) (ha : a < 1048576) (hn : ns[a]? = some (⟨0, A, n, c, -1, -1⟩, true)) : Sel [0] [((0, 0), a)] ns k (a : Int) ⟨0, A, n, c, -1, -1⟩ := by
  refine .inr ⟨hk.1, a, rfl, ?_, ha, hn⟩
  rw [hk.2]
  simp
theorem zero_insert {w w0 : World} {P : Nat} (h : Zero w P 4000 w0) : Calls Tryz.prog 24 #[.pointer (some ⟨P, 0, none⟩), .int .u64 5] w0 fun e w' => e = .returned (.int .i64 0) ∧ One w P 4000 [5] w' := by
  obtain ⟨M, X, T, Q, tk, G, O, hT, hb, hO⟩ := h
  refine (ins_ok1_T hT 5 (by decide) (-1) 0 none 0 0 (-1) (-1) (.inl ⟨rfl, rfl, rfl⟩) [] (.inl ⟨rfl, rfl, rfl⟩) List.Pairwise.nil (by decide) rfl 0 rfl (by decide) 0 [] [5] rfl rfl rfl 0 1 rfl rfl (by decide) (by decide) (fun _ => ⟨by decide, by decide⟩) 0 68 (by decide) (by decide) G rfl (by decide) (by decide) (by decide) (by simp) (by decide)).mono ?_
  rintro e w' ⟨rfl, t, ht, A1, c1, A2, c2, a, ns2, fs2, hF, hy⟩
  obtain ⟨O', hT', hb', hO'⟩ := yr_low hb hO hy
  have hn := hF.2.2.1
  have hbh : beh (Yp.setk [] (-1) A1 0 c1) (-1) = -1 := by
    unfold beh
    rw [if_neg (by rw [Yp.lvq_neg (by decide)]; decide)]
  rw [hbh] at hT'
  have hneg : ∀ (ns : List (Yp.Nd × Bool)) (b : Int), Yp.setb ns (-1) b = ns ∧ Yp.seta ns (-1) b = ns := fun ns b => by
    unfold Yp.setb Yp.seta
    rw [if_neg (by rw [Yp.lvq_neg (by decide)]; decide), if_neg (by rw [Yp.lvq_neg (by decide)]; decide)]
    exact ⟨rfl, rfl⟩
  rw [(hneg _ _).1, (hneg _ _).2] at hT'
  rw [show K.inL K.xfast [] 4000 0 = [0] by decide] at hT'
  refine ⟨rfl, M, X, T, Q, t, a, A2, c2, Yp.setb (Yp.seta ns2 (a : Int) (-1)) (a : Int) (-1), fs2, upd G a [5], O', ?_, ?_, ?_, ?_, hF.2.2.2.2.2, hb', hO'⟩
  · exact hT'
  · exact Yp.setb_at (Yp.seta_at hn (-1)) (-1)
  · unfold upd
    rw [if_pos rfl]
  · rw [Yp.setb_len, Yp.seta_len]
    have := hF.2.2.2.2.1
    rw [setk_len] at this
    exact this
theorem one_insert {w w0 : World} {P : Nat} (h : One w P 4000 [5] w0) : Calls Tryz.prog 24 #[.pointer (some ⟨P, 0, none⟩), .int .u64 9] w0 fun e w' => e = .returned (.int .i64 0) ∧ One w P 4000 [5, 9] w' := by
  obtain ⟨M, X, T, Q, tk, a, A, c, ns, fs, G, O, hT, hn, hg, hl, ha, hb, hO⟩ := h
  have hne : (a : Int) ≠ -1 := by omega
  refine (ins_ok0_T hT 9 (by decide) (a : Int) 0 A 1 c (-1) (-1) (sel_one ⟨by decide, by decide⟩ ha hn) [5] (.inr ⟨a, rfl, hn, hg.symm⟩) (by decide) (by decide) (by decide) 1 rfl (by decide) 0 [5, 9] [] ?_ ?_ ?_ 2 0 rfl rfl (by decide) (by decide) (fun e => absurd rfl e) 68 1 ?_ (by decide) (upd G a [5, 9]) (by rw [if_neg hne]; rfl) (by decide) rfl).mono ?_
  · unfold cuty
    rw [if_neg hne, if_neg (by decide)]
  · unfold cut1
    rw [if_neg hne, if_neg (by decide)]
    decide
  · unfold cut2
    rw [if_neg hne, if_neg (by decide)]
  · rw [hl]
    decide
  · rintro e w' ⟨rfl, t, ht, A1, c1, hy⟩
    obtain ⟨O', hT', hb', hO'⟩ := yr_low hb hO hy
    refine ⟨rfl, M, X, T, Q, t, a, A1, c1, Yp.setk ns (a : Int) A1 2 c1, fs, upd G a [5, 9], O', hT', setk_at hn, ?_, ?_, ha, hb', hO'⟩
    · unfold upd
      rw [if_pos rfl]
    · rw [setk_len]
      exact hl
theorem one_again {w w0 : World} {P : Nat} (h : One w P 4000 [5, 9] w0) : Calls Tryz.prog 24 #[.pointer (some ⟨P, 0, none⟩), .int .u64 9] w0 fun e w' => e = .returned (.int .i64 4) ∧ One w P 4000 [5, 9] w' := by
  obtain ⟨M, X, T, Q, tk, a, A, c, ns, fs, G, O, hT, hn, hg, hl, ha, hb, hO⟩ := h
  refine (ins_in_T hT 9 (by decide) (a : Int) 0 A 2 c (-1) (-1) (sel_one ⟨by decide, by decide⟩ ha hn) [5, 9] (.inr ⟨a, rfl, hn, hg.symm⟩) (by decide) (by decide) (by decide)).mono ?_
  rintro e w' ⟨rfl, t, ht, hy⟩
  obtain ⟨O', hT', hb', hO'⟩ := yr_low hb hO hy
  exact ⟨rfl, M, X, T, Q, t, a, A, c, ns, fs, G, O', hT', hn, hg, hl, ha, hb', hO'⟩
theorem one_next {w w0 : World} {P : Nat} (h : One w P 4000 [5, 9] w0) : Calls Tryz.prog 30 #[.pointer (some ⟨P, 0, none⟩), .int .u64 6] w0 fun e w' => e = .returned (.tuple #[.int .u64 9, .bool true]) ∧ One w P 4000 [5, 9] w' := by
  obtain ⟨M, X, T, Q, tk, a, A, c, ns, fs, G, O, hT, hn, hg, hl, ha, hb, hO⟩ := h
  have HN : Hid (Calls Tryz.prog 58 #[.pointer (some ⟨P, 0, none⟩), .int .u64 6, .func (.func 59) #[] #[], .func (.func 60) #[] #[]] w0 fun e w' => e = .returned (.tuple #[.int .u64 9, .bool true]) ∧ ∃ t, t ≤ 11 ∧ YR w0 O P M X T Q 4000 t 2 [0] [((0, 0), a)] ns fs G w') := Lib.hid (by
    have q := near_Next_yes_T hT 6 (by decide) (a : Int) 0 A 2 c (-1) (-1) (sel_one ⟨by decide, by decide⟩ ha hn) [5, 9] (.inr ⟨a, rfl, hn, hg.symm⟩) (by decide) (by decide) (by decide)
    rw [show K.nx [5, 9] 6 = 9 by decide] at q
    exact q)
  have HR : Hid (∀ t w', YR w0 O P M X T Q 4000 t 2 [0] [((0, 0), a)] ns fs G w' → One w P 4000 [5, 9] w') := Lib.hid (fun t w' hy => by
    obtain ⟨O', hT', hb', hO'⟩ := yr_low hb hO hy
    exact ⟨M, X, T, Q, t, a, A, c, ns, fs, G, O', hT', hn, hg, hl, ha, hb', hO'⟩)
  clear hT hn hg hl ha hb hO
  go_enter Tryz.func30, Tryz.ntmps30
  go_wp2_with (go_at_call 58; (with_reducible refine HN.out.mono ?_); rintro e w1 ⟨rfl, t, ht, hy⟩; have HY := Lib.hid (HR.out _ _ hy); clear hy ht)
  go_ret2
  exact ⟨rfl, HY.out⟩
theorem one_prev {w w0 : World} {P : Nat} (h : One w P 4000 [5, 9] w0) : Calls Tryz.prog 31 #[.pointer (some ⟨P, 0, none⟩), .int .u64 8] w0 fun e w' => e = .returned (.tuple #[.int .u64 5, .bool true]) ∧ One w P 4000 [5, 9] w' := by
  obtain ⟨M, X, T, Q, tk, a, A, c, ns, fs, G, O, hT, hn, hg, hl, ha, hb, hO⟩ := h
  have HN : Hid (Calls Tryz.prog 58 #[.pointer (some ⟨P, 0, none⟩), .int .u64 8, .func (.func 61) #[] #[], .func (.func 62) #[] #[]] w0 fun e w' => e = .returned (.tuple #[.int .u64 5, .bool true]) ∧ ∃ t, t ≤ 11 ∧ YR w0 O P M X T Q 4000 t 2 [0] [((0, 0), a)] ns fs G w') := Lib.hid (by
    have q := near_Prev_yes_T hT 8 (by decide) (a : Int) 0 A 2 c (-1) (-1) (sel_one ⟨by decide, by decide⟩ ha hn) [5, 9] (.inr ⟨a, rfl, hn, hg.symm⟩) (by decide) (by decide) (by decide)
    rw [show K.pv [5, 9] 8 = 5 by decide] at q
    exact q)
  have HR : Hid (∀ t w', YR w0 O P M X T Q 4000 t 2 [0] [((0, 0), a)] ns fs G w' → One w P 4000 [5, 9] w') := Lib.hid (fun t w' hy => by
    obtain ⟨O', hT', hb', hO'⟩ := yr_low hb hO hy
    exact ⟨M, X, T, Q, t, a, A, c, ns, fs, G, O', hT', hn, hg, hl, ha, hb', hO'⟩)
  clear hT hn hg hl ha hb hO
  go_enter Tryz.func31, Tryz.ntmps31
  go_wp2_with (go_at_call 58; (with_reducible refine HN.out.mono ?_); rintro e w1 ⟨rfl, t, ht, hy⟩; have HY := Lib.hid (HR.out _ _ hy); clear hy ht)
  go_ret2
  exact ⟨rfl, HY.out⟩
theorem one_len {w w0 : World} {P : Nat} (h : One w P 4000 [5, 9] w0) : Calls Tryz.prog 33 #[.pointer (some ⟨P, 0, none⟩)] w0 fun e w' => e = .returned (.int .i64 2) ∧ w' = w0 := by
  obtain ⟨M, X, T, Q, tk, a, A, c, ns, fs, G, O, hT, hn, hg, hl, ha, hb, hO⟩ := h
  exact (YR.start hT).len
set_option maxHeartbeats 1000000 in
theorem law_awakeY (w : World) : Calls Tryz.prog 8 #[] w fun e w' => e = .returned (.bool true) ∧ Below w.heap.size w w' := by
  have hnew : Hid (Calls Tryz.prog 9 #[.int .u64 1, .int .i64 4000] w fun e w' => ∃ P, e = .returned (.tuple #[.pointer (some ⟨P, 0, none⟩), .int .i64 0]) ∧ Zero w P 4000 w') :=
    Lib.hid ((y_new w 1 4000 (by omega)).mono fun e w' ⟨P, M, X, T, Q, O, h1, h2, h3, h4⟩ => ⟨P, h1, M, X, T, Q, 0, _, O, h2, h3, h4⟩)
  go_enter Tryz.func8, Tryz.ntmps8
  go_wp2_with (first
    | (go_at_call 9; (with_reducible refine hnew.out.mono ?_); rintro e w1 ⟨P, rfl, h1⟩; have H1 := Lib.hid (zero_insert h1); clear h1)
    | (go_at_call 24; (with_reducible refine H1.out.mono ?_); rintro e w2 ⟨rfl, h2⟩; have H2 := Lib.hid (one_insert h2); clear h2)
    | (go_at_call 24; (with_reducible refine H2.out.mono ?_); rintro e w3 ⟨rfl, h3⟩; have H3 := Lib.hid (one_again h3); clear h3)
    | (go_at_call 24; (with_reducible refine H3.out.mono ?_); rintro e w4 ⟨rfl, h4⟩; have H4 := Lib.hid (one_next h4); clear h4)
    | (go_at_call 30; (with_reducible refine H4.out.mono ?_); rintro e w5 ⟨rfl, h5⟩; have H5 := Lib.hid (one_prev h5); clear h5)
    | (go_at_call 31; (with_reducible refine H5.out.mono ?_); rintro e w6 ⟨rfl, h6⟩; have HB := Lib.hid h6.low; have H6 := Lib.hid (one_len h6); clear h6)
    | (go_at_call 33; (with_reducible refine H6.out.mono ?_); rintro e w' ⟨rfl, rfl⟩))
  go_ret
  exact ⟨rfl, HB.out⟩
end Go.Proofs.YtelfacchhclgnaaGreat
end
section
namespace Go.Proofs.YtelfacchhclgnaaGreat
set_option maxRecDepth 20000
open Go.RowKit Go.Shelf
theorem wide_fnY (f : Nat) : Fence.wide.fn f := trivial
attribute [local go_sem] Oper.semAt_some
attribute [local simp] wide_fnY
theorem yf_all_any (w : World) (p : Option Addr) : Calls Tryz.prog 44 #[.pointer p] w fun e w' => e = .returned (.func (.func 76) #[] #[.pointer (some ⟨w.heap.size, 0, none⟩)]) ∧ w' = w.alloc (.cells #[.pointer p] 26) := by
  go_enter Tryz.func44, Tryz.ntmps44
  go_wp2
  go_ret
  exact ⟨rfl, rfl⟩
theorem cell_oneB (w : World) (v : Value) (T : TypeId) : ∀ j u, [v][j]? = some u → (w.alloc (.cells #[v] T)).cell? (Addr.add ⟨w.heap.size, 0, none⟩ j) = some u := by
  intro j u hu
  match j, hu with
  | 0, hu => simp at hu; subst hu; simp [Addr.add]
theorem alloc_top (w : World) (o : Obj) {n : Nat} (h : n = w.heap.size) : (w.alloc o).heap[n]? = some o := by
  subst h
  exact K.alloc_top w o
theorem but_set' (w : World) (h k : Nat) (u : Value) (S : Nat → Prop) (hS : S h) : ButS w (w.setCell ⟨h, k, none⟩ u) S := ButS.of_chg (chg_set w h k u S hS)
/-- The list that is collected: its box at b, its row. -/
def Outs (b : Nat) (es : List Nat) (O : Nat → Prop) (W : World) : Prop :=
  ∃ v, W.heap[b]? = some (.cells #[v] 47 (0, 0)) ∧ W.ownsRow b 22 1 v es.length (wv es) ∧ v.ownBlock ≠ some b ∧ ∀ j, O j ↔ (j = b ∨ v.ownBlock = some j)
theorem own_ltG {W : World} {base : Nat} {e : TypeId} {size n : Nat} {v : Value} {xs : List Value} (h : W.ownsRow base e size v n xs) {j : Nat} (hj : v.ownBlock = some j) : j < W.heap.size ∧ base ≤ j := by
  rcases h.2 with ⟨rfl, _⟩ | ⟨g, cap, cur, rfl, hb, hg, _⟩
  · simp [Value.ownBlock] at hj
  · simp [Value.ownBlock] at hj
    subst hj
    exact ⟨(Array.getElem?_eq_some_iff.1 hg).1, hb⟩
theorem Outs.but {b : Nat} {es : List Nat} {O R : Nat → Prop} {W W' : World} (h : Outs b es O W) (hw : ButS W W' R) (hR : ∀ j, R j → ¬ O j) : Outs b es O W' := by
  obtain ⟨v, h1, h2, h3, h4⟩ := h
  refine ⟨v, (hw.block b (Array.getElem?_eq_some_iff.1 h1).1 (fun hr => hR b hr ((h4 b).2 (.inl rfl)))).trans h1, hw.own h2 (fun k hk hr => hR k hr ((h4 k).2 (.inr hk))), h3, h4⟩
theorem Outs.lt {b : Nat} {es : List Nat} {O : Nat → Prop} {W : World} (h : Outs b es O W) : ∀ j, O j → b ≤ j ∧ j < W.heap.size := by
  obtain ⟨v, h1, h2, h3, h4⟩ := h
  intro j hj
  rcases (h4 j).1 hj with rfl | hj
  · exact ⟨Nat.le_refl _, (Array.getElem?_eq_some_iff.1 h1).1⟩
  · exact ⟨(own_ltG h2 hj).2, (own_ltG h2 hj).1⟩
theorem eq_testG (a m : Nat) : ((a : Int) + 1 == (m : Int)) = decide (a + 1 = m) := by
  rw [Bool.eq_iff_iff]; simp; omega
theorem far_blockG {W w2 : World} {o : Obj} {row : Option Nat} (hg : (W.alloc o).grownBy w2 row) {b : Nat} (hb : b < W.heap.size) (hne : some b ≠ row) : w2.heap[b]? = W.heap[b]? :=
  (hg.block b (by simp; omega) hne).trans (Below.heap_alloc _ _ _ hb)
theorem far_cellG {W w2 : World} {o : Obj} {row : Option Nat} (hg : (W.alloc o).grownBy w2 row) {b : Nat} (off : Nat) (hb : b < W.heap.size) (hne : some b ≠ row) : w2.cell? ⟨b, off, none⟩ = W.cell? ⟨b, off, none⟩ := by
  have := far_blockG hg hb hne
  simp [World.cell?, this]
theorem own_baseG {w : World} {base base' : Nat} {e : TypeId} {size n : Nat} {v : Value} {xs : List Value} (h : w.ownsRow base e size v n xs) (hb : base' ≤ base) : w.ownsRow base' e size v n xs := by
  refine ⟨h.1, ?_⟩
  rcases h.2 with h | ⟨g, cap, cur, hv, hb', rest⟩
  · exact .inl h
  · exact .inr ⟨g, cap, cur, hv, by omega, rest⟩
theorem set_heapG {w : World} {b : Nat} {v u : Value} {T : TypeId} (h : w.heap[b]? = some (.cells #[v] T (0, 0))) : (w.setCell ⟨b, 0, none⟩ u).heap[b]? = some (.cells #[u] T (0, 0)) := by
  simp [World.setCell, Array.getElem?_modify, h]
/-- What 'all' answers. -/
def AllQ (w : World) (es : List Nat) (e : Ending) (w' : World) : Prop :=
  ∃ v, e = .returned v ∧ KX w' v es ∧ Below w.heap.size w w'
end Go.Proofs.YtelfacchhclgnaaGreat
end
section
namespace Go.Proofs.YtelfacchhclgnaaGreat
set_option maxRecDepth 20000
open Go.RowKit Go.Shelf
attribute [local go_sem] Oper.semAt_some
attribute [local simp] wide_fnY
end Go.Proofs.YtelfacchhclgnaaGreat
end
section
namespace Go.Proofs.YtelfacchhclgnaaGreat
set_option maxRecDepth 20000
open Go.RowKit
end Go.Proofs.YtelfacchhclgnaaGreat
end
section
namespace Go.Proofs.YtelfacchhclgnaaGreat
open Go.ChangeShapes Go.WideShapes Go.ChangeAt Go.RowKit
section
variable {H : Type} {enc : TypeId × Value → H} {P : Program}
theorem post_of_below {f : Func} {s : ChangeSpec} {apart fresh handsOn again : Bool} {W W' : World} {args : Array Value} {v : Value} {ds gs : List (DataW H)} {before pa pv : List MemPlace}
    (hW : DataW.Whole enc P f.params.toList s.vars apart W args.toList ds gs before)
    (hres : ∀ (b : Nat) (sp : Nat → Bool) (hd : Bool), DataW.TrodAll enc P W' b sp hd f.resultTypes.toList (v.resultList f.resultTypes.size) (s.fn H (ds ++ gs)).results [])
    (hargs : ∀ sp : Nat → Bool, (∀ p ∈ before, sp p.block = true) → DataW.TrodAll enc P W' 0 sp true f.params.toList args.toList (s.fn H (ds ++ gs)).args pa)
    (hvars : ∀ sp : Nat → Bool, (∀ p ∈ before, sp p.block = true) → DataW.TrodVars enc P W' sp s.vars (s.fn H (ds ++ gs)).vars pv)
    (hps : before = pa ++ pv) (hb : Below W.heap.size W W')
    (hok : ∀ (j : Nat) (t : TypeId) (r : Value), f.resultTypes[j]? = some t → (v.resultList f.resultTypes.size)[j]? = some r → Value.okWide P W' .any 0 t r) :
    s.post enc P f apart fresh handsOn again W args v W' := by
  have hlt : ∀ p ∈ before, p.block < W.heap.size := fun p hp => hW.lt p hp
  have hold : ∀ p ∈ before, (fun b => decide (b < W.heap.size)) p.block = true := fun p hp => by simpa using hlt p hp
  refine ⟨ds, gs, before, [], pa, pv, hW, hres _ _ _, hargs _ hold, hvars _ hold, World.keptBut_mono (fun p hp => ⟨hp, ?_⟩) (hb.frame (· ∈ before)), fun _ => ?_⟩
  · rw [hps, List.mem_append] at hp
    exact Or.inr hp
  · obtain ⟨_, _, _, _, _, hz, hn⟩ := hW
    refine ⟨hok, _, _, ([] ++ pa) ++ pv, ⟨[] ++ pa, pv, trodAll_append (hargs _ (fun _ _ => rfl)) (hres _ _ _), hvars _ (fun _ _ => rfl), rfl, ?_, ?_⟩, ?_⟩
    · intro b off hp
      have hin : MemPlace.cell b off ∈ before := by rw [hps]; simpa using hp
      rw [hb.frozen (hlt _ hin)]
      exact hz b off hin
    · intro ha
      have := hn ha
      rw [hps] at this
      simpa using this
    · intro p hp _
      rw [hps]
      simpa using hp
end

theorem own : ownKnob Tryz.prog.godebug = none := by kernel_rfl
theorem laidOut : laidOutB Tryz.prog = true := by kernel_rfl
theorem u64_nat {n : Int} (h : (Lit.int .u64 n).wf = true) : ∃ m : Nat, n = m ∧ m < 18446744073709551616 := by
  simp [Lit.wf, IntKind.min, IntKind.max, IntKind.signed, IntKind.bits] at h
  exact ⟨n.toNat, by omega, by omega⟩
end Go.Proofs.YtelfacchhclgnaaGreat
end
section
namespace Go.Proofs.YtelfacchhclgnaaGreat
open Go.ChangeShapes Go.WideShapes Go.ChangeAt Go.RowKit
theorem u16_nat {n : Int} (h : (Lit.int .u16 n).wf = true) : ∃ m : Nat, n = m ∧ m < 65536 := by
  simp [Lit.wf, IntKind.min, IntKind.max, IntKind.signed, IntKind.bits] at h
  exact ⟨n.toNat, by omega, by omega⟩
end Go.Proofs.YtelfacchhclgnaaGreat
end
section
namespace Go.Proofs.YtelfacchhclgnaaGreat
open Go.RowKit Go.Shelf
/-- A state that lives on when blocks change that are not its own: those laid since B, and those of R0. -/
def AbidesR {β : Type} (B : Nat) (R0 : Nat → Prop) (I : β → (Nat → Prop) → World → Prop) : Prop :=
  ∀ s O W W' R, I s O W → ButS W W' R → (∀ j, R j → ¬ O j ∧ (B ≤ j ∨ R0 j)) → I s O W'
def SeqR {α : Type} (F : Fence) (n : Nat) (P : Program) (g : Nat) (lb : Array Value) (encs : α → Array Value) (Z R0 : Nat → Prop) (S Sp : List α → (Nat → Prop) → World → Prop) (T : List α → Prop) (w : World) : Prop :=
  ∀ (l : Nat) (J Jx : List α → (Nat → Prop) → World → Prop) (W : World), Below w.heap.size w W → Steps J → Steps Jx →
    (∀ pre x R W1, J pre R W1 → T (pre ++ [x]) → YieldAt F (n - 1) P l (encs x) W1 fun e W' =>
      ((e = .returned (.bool true) ∧ J (pre ++ [x]) R W') ∨ (e = .returned (.bool false) ∧ Jx (pre ++ [x]) R W')) ∧ ButS W1 W' (fun j => ¬ (Z j ∨ R j))) →
    J [] R0 W →
    CallsIn F n P g (#[.func (.yield l) #[] #[]] ++ lb) W fun e W' => (∃ v, e = .returned v) ∧ ((∃ xs R, S xs R W' ∧ J xs R W') ∨ (∃ pre R, Sp pre R W' ∧ Jx pre R W'))
variable {F : Fence} {n : Nat} {P : Program}
/-- The law. -/
theorem wpIn_rangeR {α : Type} {g : Operand} {ps : Array Tmp} {assign body : Code} {Q : Exit → Act → World → Prop} {a : Act} {w : World}
    (hro : F.round = none) (h1 : 1 ≤ n) {gf : Nat} {lb : Array Value} (hg : a.eval g = .func (.func gf) #[] lb) (hFg : F.fn gf) (eg : ∀ args w, (callFunc gf args).run P w = .ok (.enter gf args) w)
    {encs : α → Array Value} {Z R0 : Nat → Prop} {S Sp : List α → (Nat → Prop) → World → Prop} {T : List α → Prop} {w0 : World} (hseq : SeqR F (n - 1) P gf lb encs Z R0 S Sp T w0) (hZ : ∀ j, Z j → j < w.heap.size) (hb0 : Below w0.heap.size w0 w) (hps : ∀ x, (encs x).size = ps.size)
    (I : List α → (Nat → Prop) → World → Prop) (Ix : Code → List α → (Nat → Prop) → World → Prop) (A : List α × α → Act → (Nat → Prop) → World → Prop)
    (hSa : Abides w.heap.size S) (hSpa : Abides w.heap.size Sp) (hI : AbidesR w.heap.size R0 I) (hIx : ∀ c, AbidesR w.heap.size R0 (Ix c)) (hA : ∀ a', AbidesR w.heap.size R0 (fun s => A s a')) (hlow : ∀ xs O W, I xs O W → ∀ j, O j → ¬ Z j)
    (O₀ : Nat → Prop) (hO₀ : ∀ j, O₀ j → j < w.heap.size) (hR0 : ∀ j, R0 j → j < w.heap.size ∧ ¬ O₀ j) (h0 : I [] O₀ w)
    (hassign : ∀ (l : Nat) (pre : List α) (x : α) (O : Nat → Prop) (W : World), I pre O W → T (pre ++ [x]) →
      assign.wpIn (F.inRound l) (n - 1 - 1) P (Exit.then (fun a1 W1 => ∃ O1, OwnStep O O1 W W1 ∧ A (pre, x) a1 O1 W1) (fun _ _ _ => False)) { tmps := (ps.zip (encs x)).foldl (fun t (p, v) => t.setIfInBounds p v) a.tmps, defers := [] } W)
    (hbody : ∀ (l : Nat) (pre : List α) (x : α) (O : Nat → Prop) (a1 : Act) (W : World), A (pre, x) a1 O W → body.wpIn (F.inRound l) (n - 1 - 1) P (roundO I Ix (pre ++ [x]) O W) a1 W)
    (hdone : ∀ (D : Nat) (xs : List α) (O : Nat → Prop) (W : World), w.heap.size ≤ D → ¬ O D → (∃ R, S xs R W ∧ ∀ j, R j → R0 j ∨ D + 2 ≤ j) → I xs O W → W.heap[D]? = some (.deferred (some [])) → Q .normal { a with defers := { target := .collected D, args := #[] } :: a.defers } W)
    (hstop : ∀ (D : Nat) (c : Code) (pre : List α) (O : Nat → Prop) (W : World), w.heap.size ≤ D → ¬ O D → (∃ R, Sp pre R W ∧ ∀ j, R j → R0 j ∨ D + 2 ≤ j) → Ix c pre O W → W.heap[D]? = some (.deferred (some [])) → c.wpIn F n P Q { a with defers := { target := .collected D, args := #[] } :: a.defers } W) :
    (Code.rangeFunc g ps assign body).wpIn F n P Q a w := by
  refine wpIn_rangeFunc ?_
  intro fn hfn
  rw [hro]
  generalize hD : w.heap.size = D at *
  have hRD : ∀ j, (R0 j ∨ D + 2 ≤ j) → j ≠ D ∧ j ≠ D + 1 := fun j hj => by
    rcases hj with h | h
    · have := (hR0 j h).1
      omega
    · omega
  obtain ⟨rc, hrc⟩ : ∃ rc : LoopState → Option Code → Loop, rc = fun st pe => { state := st, pending := pe, fn, tmps := a.tmps, params := ps, assign, body, defers := D } := ⟨_, rfl⟩
  obtain ⟨V, hV⟩ : ∃ V, (w.alloc (.deferred (some []))).alloc (.loop (rc .ready none)) = V := ⟨_, rfl⟩
  have hbV : ButS w V (fun _ => False) := by rw [← hV]; exact (but_alloc' _ _ _).trans (but_alloc' _ _ _)
  have hsV : V.heap.size = D + 2 := by rw [← hV]; simp [hD]
  have hL : V.heap[D + 1]? = some (.loop (rc .ready none)) := by
    rw [← hV, ← hD]
    have := World.alloc_heap_new (w.alloc (.deferred (some []))) (.loop (rc .ready none))
    rwa [World.size_alloc] at this
  have hK : V.heap[D]? = some (.deferred (some [])) := by
    rw [← hV, ← hD]
    exact (Below.heap_alloc _ _ _ (by simp)).trans (World.alloc_heap_new w _)
  have hbl : Below w0.heap.size w0 V := hb0.trans (hbV.below (by have := hb0.size; omega) (fun _ h => h.elim))
  have hIV : I [] O₀ V := hI _ _ _ _ _ h0 hbV (fun _ h => h.elim)
  refine ⟨D + 1, [{ target := .collected D, args := #[] }], V, { target := .fn (.func gf) lb, args := #[.func (.yield (D + 1)) #[] #[]] }, V, gf, #[.func (.yield (D + 1)) #[] #[]] ++ lb, V, ?_, ?_, ?_, ?_, fun _ => h1, ?_⟩
  · have := run_enterLoop_outer (P := P) (w := w) fn a.tmps ps assign body
    rw [hD] at this
    rw [this, ← hV, hrc]
  · simp only [resolve, hg]
    simp [go_sem]
  · intro f' hf'
    simp [Target.leads] at hf'
    subst hf'; exact hFg
  · simp [invoke, go_sem, eg]
  · obtain ⟨Bk, hBk⟩ : ∃ Bk : LoopState → Option Code → (Nat → Prop) → (Nat → Prop) → World → Prop, Bk = fun st pe O R W => (∀ j, O j → ¬ R j ∧ j ≠ D ∧ j ≠ D + 1 ∧ j < W.heap.size) ∧ (∀ j, R j → (R0 j ∨ D + 2 ≤ j) ∧ j < W.heap.size) ∧ W.heap[D + 1]? = some (.loop (rc st pe)) ∧ W.heap[D]? = some (.deferred (some [])) := ⟨_, rfl⟩
    have hstep : ∀ {st : LoopState} {pe : Option Code} {O R R' : Nat → Prop} {W W' : World}, Bk st pe O R W → ButS W W' R → (∀ j, R' j → (R j ∨ W.heap.size ≤ j) ∧ j < W'.heap.size) → Bk st pe O R' W' := by
      intro st pe O R R' W W' hb hw hR'
      rw [hBk] at hb ⊢
      obtain ⟨b1, b2, b3, b4⟩ := hb
      have hlt := (Array.getElem?_eq_some_iff.1 b3).1
      refine ⟨fun j hj => ⟨fun hr => ?_, (b1 j hj).2.1, (b1 j hj).2.2.1, by have := (b1 j hj).2.2.2; have := hw.size; omega⟩, fun j hj => ⟨?_, (hR' j hj).2⟩, (hw.block _ hlt (fun h => (hRD _ (b2 _ h).1).2 rfl)).trans b3, (hw.block _ (by omega) (fun h => (hRD _ (b2 _ h).1).1 rfl)).trans b4⟩
      · rcases (hR' j hr).1 with h | h
        · exact (b1 j hj).1 h
        · have := (b1 j hj).2.2.2; omega
      · rcases (hR' j hj).1 with h | h
        · exact (b2 j h).1
        · exact .inr (by omega)
    have hown : ∀ {st : LoopState} {pe : Option Code} {O O' R : Nat → Prop} {W W' : World}, Bk st pe O R W → OwnStep O O' W W' → Bk st pe O' R W' ∧ ∀ j, R j → W'.heap[j]? = W.heap[j]? := by
      intro st pe O O' R W W' hb hw
      rw [hBk] at hb ⊢
      obtain ⟨b1, b2, b3, b4⟩ := hb
      have hlt := (Array.getElem?_eq_some_iff.1 b3).1
      refine ⟨⟨fun j hj => ?_, fun j hj => ⟨(b2 j hj).1, by have := (b2 j hj).2; have := hw.1.size; omega⟩, (hw.1.block _ hlt (fun h => (b1 _ h).2.2.1 rfl)).trans b3, (hw.1.block _ (by omega) (fun h => (b1 _ h).2.1 rfl)).trans b4⟩, fun j hj => hw.1.block j (b2 j hj).2 (fun h => (b1 j h).1 hj)⟩
      obtain ⟨h1, h2⟩ := hw.2 j hj
      rcases h1 with h1 | h1
      · exact ⟨(b1 j h1).1, (b1 j h1).2.1, (b1 j h1).2.2.1, h2⟩
      · exact ⟨fun hr => by have := (b2 j hr).2; omega, by omega, by omega, h2⟩
    have hput : ∀ {st st' : LoopState} {pe pe' : Option Code} {O R : Nat → Prop} {W : World}, Bk st pe O R W → Bk st' pe' O R (W.putObj (D + 1) (.loop (rc st' pe'))) := by
      intro st st' pe pe' O R W hb
      rw [hBk] at hb ⊢
      obtain ⟨b1, b2, b3, b4⟩ := hb
      have hlt := (Array.getElem?_eq_some_iff.1 b3).1
      exact ⟨fun j hj => by rw [World.putObj_size]; exact b1 j hj, fun j hj => by rw [World.putObj_size]; exact b2 j hj, World.putObj_heap_same hlt, (World.putObj_heap_other (by omega)).trans b4⟩
    have hrec : ∀ {st : LoopState} {pe : Option Code} {O R : Nat → Prop} {W : World}, Bk st pe O R W → W.heap[D + 1]? = some (.loop (rc st pe)) := by
      intro st pe O R W hb
      rw [hBk] at hb
      exact hb.2.2.1
    have hdef : ∀ {st : LoopState} {pe : Option Code} {O R : Nat → Prop} {W : World}, Bk st pe O R W → W.heap[D]? = some (.deferred (some [])) := by
      intro st pe O R W hb
      rw [hBk] at hb
      exact hb.2.2.2
    have hno : ∀ {st : LoopState} {pe : Option Code} {O R : Nat → Prop} {W : World}, Bk st pe O R W → ¬ O (D + 1) ∧ ¬ O D := by
      intro st pe O R W hb
      rw [hBk] at hb
      exact ⟨fun h => (hb.1 _ h).2.2.1 rfl, fun h => (hb.1 _ h).2.1 rfl⟩
    have hRn : ∀ {st : LoopState} {pe : Option Code} {O R : Nat → Prop} {W : World}, Bk st pe O R W → ¬ R (D + 1) ∧ ∀ j, R j → R0 j ∨ D + 2 ≤ j := by
      intro st pe O R W hb
      rw [hBk] at hb
      exact ⟨fun h => (hRD _ (hb.2.1 _ h).1).2 rfl, fun j hj => (hb.2.1 j hj).1⟩
    have hRB : ∀ {st : LoopState} {pe : Option Code} {O R : Nat → Prop} {W : World}, Bk st pe O R W → ∀ j, R j → ¬ O j ∧ (D ≤ j ∨ R0 j) := by
      intro st pe O R W hb j hj
      rw [hBk] at hb
      exact ⟨fun h => (hb.1 j h).1 hj, (by rcases (hb.2.1 j hj).1 with h | h; exact .inr h; exact .inl (by omega))⟩
    have hJs : ∀ (st : LoopState) (T : List α → Option Code → (Nat → Prop) → World → Prop), (∀ pe, AbidesR D R0 (fun s => T s pe)) → Steps (fun pre R W => ∃ pe O, T pre pe O W ∧ Bk st pe O R W) := by
      intro st T hT s R R' W W' hj hw hR'
      obtain ⟨pe, O, h1, h2⟩ := hj
      exact ⟨pe, O, hT pe _ _ _ _ _ h1 hw (hRB h2), hstep h2 hw hR'⟩
    refine (hseq (D + 1) (fun pre R W => ∃ pe O, (fun pre (pe : Option Code) O W => pe = none ∧ I pre O W) pre pe O W ∧ Bk .ready pe O R W) (fun pre R W => ∃ pe O, (fun pre (pe : Option Code) O W => ∃ c, pe = some c ∧ Ix c pre O W) pre pe O W ∧ Bk .done pe O R W) V hbl
      (hJs .ready (fun pre pe O W => pe = none ∧ I pre O W) (fun pe s O W W' R h hw hr => ⟨h.1, hI _ _ _ _ _ h.2 hw hr⟩)) (hJs .done (fun pre pe O W => ∃ c, pe = some c ∧ Ix c pre O W) (fun pe s O W W' R h hw hr => by obtain ⟨c, h1, h2⟩ := h; exact ⟨c, h1, hIx c _ _ _ _ _ h2 hw hr⟩)) ?_
      ⟨none, O₀, ⟨rfl, hIV⟩, by rw [hBk]; exact ⟨fun j hj => ⟨fun h => (hR0 j h).2 hj, by have := hO₀ j hj; omega, by have := hO₀ j hj; omega, by have := hO₀ j hj; omega⟩, fun j h => ⟨.inl h, by have := (hR0 j h).1; omega⟩, hL, hK⟩⟩).mono ?_
    · rintro pre x R W ⟨pe, O, ⟨rfl, hi⟩, hb⟩ hlen
      have hy := run_yield (P := P) (args := encs x) (hrec hb) (by rw [hrc]; exact hps x)
      rw [hrc] at hy
      have hsW : D ≤ W.heap.size := by have := (Array.getElem?_eq_some_iff.1 (hrec hb)).1; omega
      refine ⟨fn, _, assign, body, hy, roundIn_of_wpIn hfn (wpIn_mono (hassign (D + 1) pre x O W hi hlen) ?_)⟩
      rintro e a1 W1 hp
      cases e with
      | normal =>
        obtain ⟨O1, hst, ha⟩ := hp
        obtain ⟨hb1, hk1⟩ := hown hb hst
        have hb2 := hput (st' := .busy) (pe' := none) hb1
        refine ⟨W1.putObj (D + 1) (.loop (rc .busy none)), by have h := run_beginRound (P := P) (hrec hb1) (by rw [hrc]); rw [hrc] at h ⊢; exact h, ?_⟩
        have ha2 : A (pre, x) a1 O1 (W1.putObj (D + 1) (.loop (rc .busy none))) := hA a1 _ _ _ _ _ ha (but_put _ _ _) (fun j hj => by subst hj; exact ⟨(hno hb1).1, .inl (by omega)⟩)
        have hsz1 : W.heap.size ≤ W1.heap.size := hst.1.size
        have hbd := hbody (D + 1) pre x O1 a1 _ ha2
        refine wpIn_mono hbd ?_
        have fin : ∀ (jump : Option Code) (O2 : Nat → Prop) (W3 : World), OwnStep O1 O2 (W1.putObj (D + 1) (.loop (rc .busy none))) W3 →
            (Instr.endRound (D + 1) jump).run P W3 = .ok (.bool jump.isNone) (W3.putObj (D + 1) (.loop (rc (if jump.isNone then .ready else .done) jump))) ∧
            Bk (if jump.isNone then .ready else .done) jump O2 R (W3.putObj (D + 1) (.loop (rc (if jump.isNone then .ready else .done) jump))) ∧ ButS W3 (W3.putObj (D + 1) (.loop (rc (if jump.isNone then .ready else .done) jump))) (· = D + 1) ∧ ¬ O2 (D + 1) ∧
            ButS W (W3.putObj (D + 1) (.loop (rc (if jump.isNone then .ready else .done) jump))) (fun j => ¬ (Z j ∨ R j)) := by
          intro jump O2 W3 hs3
          obtain ⟨hb3, hk3⟩ := hown hb2 hs3
          have he := run_endRound (P := P) jump (hrec hb3)
          have hRne : ∀ j, R j → j ≠ D + 1 := fun j hj e => by
            have := hb; rw [hBk] at this
            exact (hRD _ (this.2.1 j hj).1).2 e
          refine ⟨?_, hput hb3, but_put _ _ _, (hno hb3).1, ?_⟩
          · rw [hrc] at he ⊢; exact he
          · have c0 : ButS W W1 (fun j => O j ∨ j = D + 1) := hst.1.mono (fun j _ h => .inl h)
            have c1 := c0.then (but_put W1 (D + 1) (.loop (rc .busy none))) (fun j h => .inl (.inr h))
            have c2 := c1.then hs3.1 (fun j h => by
              rcases (hst.2 j h).1 with h2 | h2
              · exact .inl (.inl h2)
              · exact .inr h2)
            have c3 := c2.then (but_put W3 (D + 1) (.loop (rc (if jump.isNone then .ready else .done) jump))) (fun j h => .inl (.inr h))
            have hbB := hb
            rw [hBk] at hbB
            refine c3.mono (fun j _ h hz => ?_)
            rcases h with h | h
            · rcases hz with hz | hz
              · exact hlow _ _ _ hi j h hz
              · exact (hbB.1 j h).1 hz
            · rcases hz with hz | hz
              · have := hZ j hz; omega
              · exact (hRD _ (hbB.2.1 j hz).1).2 h
        rintro e a3 W3 hp
        cases e with
        | normal =>
          obtain ⟨O2, hs3, hi3⟩ := hp
          obtain ⟨f1, f2, f3, f4, f5⟩ := fin none O2 W3 hs3
          exact ⟨_, _, f1, .inl ⟨rfl, ⟨none, O2, ⟨rfl, hI _ _ _ _ _ hi3 f3 (fun j hj => by subst hj; exact ⟨f4, .inl (by omega)⟩)⟩, f2⟩⟩, f5⟩
        | ret =>
          obtain ⟨O2, hs3, hi3⟩ := hp
          obtain ⟨f1, f2, f3, f4, f5⟩ := fin (some .ret) O2 W3 hs3
          exact ⟨_, _, f1, .inr ⟨rfl, ⟨some .ret, O2, ⟨.ret, rfl, hIx _ _ _ _ _ _ hi3 f3 (fun j hj => by subst hj; exact ⟨f4, .inl (by omega)⟩)⟩, f2⟩⟩, f5⟩
        | exit id =>
          obtain ⟨O2, hs3, hi3⟩ := hp
          obtain ⟨f1, f2, f3, f4, f5⟩ := fin (some (.exit id)) O2 W3 hs3
          exact ⟨_, _, f1, .inr ⟨rfl, ⟨some (.exit id), O2, ⟨.exit id, rfl, hIx _ _ _ _ _ _ hi3 f3 (fun j hj => by subst hj; exact ⟨f4, .inl (by omega)⟩)⟩, f2⟩⟩, f5⟩
        | goto t =>
          obtain ⟨O2, hs3, hi3⟩ := hp
          obtain ⟨f1, f2, f3, f4, f5⟩ := fin (some (.goto t)) O2 W3 hs3
          exact ⟨_, _, f1, .inr ⟨rfl, ⟨some (.goto t), O2, ⟨.goto t, rfl, hIx _ _ _ _ _ _ hi3 f3 (fun j hj => by subst hj; exact ⟨f4, .inl (by omega)⟩)⟩, f2⟩⟩, f5⟩
        | panic ch => exact hp.elim
        | outgrown => exact hp.elim
      | ret => exact hp.elim
      | exit id => exact hp.elim
      | goto t => exact hp.elim
      | panic ch => exact hp.elim
      | outgrown => exact hp.elim
    · rintro e W2 ⟨⟨v, rfl⟩, (⟨xs, R, hS, pe, O, ⟨rfl, hi⟩, hb⟩ | ⟨pre, R, hSp, pe, O, ⟨c, rfl, hi⟩, hb⟩)⟩
      · have he := run_endLoop (P := P) (hrec hb) (by rw [hrc]; simp)
        rw [hrc] at he
        exact ⟨none, _, he, hdone D xs O _ (Nat.le_refl _) (hno hb).2 ⟨R, hSa _ _ _ _ _ hS (but_put _ _ _) (fun j hj => by subst hj; exact ⟨(hRn hb).1, by omega⟩), (hRn hb).2⟩ (hI _ _ _ _ _ hi (but_put _ _ _) (fun j hj => by subst hj; exact ⟨(hno hb).1, .inl (by omega)⟩)) ((World.putObj_heap_other (by omega)).trans (hdef hb))⟩
      · have he := run_endLoop (P := P) (hrec hb) (by rw [hrc]; simp)
        rw [hrc] at he
        exact ⟨some c, _, he, hstop D c pre O _ (Nat.le_refl _) (hno hb).2 ⟨R, hSpa _ _ _ _ _ hSp (but_put _ _ _) (fun j hj => by subst hj; exact ⟨(hRn hb).1, by omega⟩), (hRn hb).2⟩ (hIx c _ _ _ _ _ hi (but_put _ _ _) (fun j hj => by subst hj; exact ⟨(hno hb).1, .inl (by omega)⟩)) ((World.putObj_heap_other (by omega)).trans (hdef hb))⟩
end Go.Proofs.YtelfacchhclgnaaGreat
end
