/- Collecting a sequence; sift.Of: any keys are told once, rising; the texts walked. sift.Of: any keys are told once, rising; what is told in the place of nil; the texts walked. What a key's teller says to those who ask: the closures of Or, And, Less and Xor, and join's tell; the texts walked. Plain facts: a row of Bools read as the list of the places that are true. array: the search by halves, Rank, Has, Select, Next; the text walked. Cuts of lists of 64-bit numbers; Add, Drop, Part; the text walked. sift's join: the iterator that goes through two sequences; the text walked. -/
import Derived.Deep.RegionHeld3
import Derived.Test.YtepdhjcgpjjjlaaMt09
import Derived.Test.YtepdhjcgpjjjlaaMt01
section
namespace Go.Proofs.Ytepdhjcgpjjjlaa
set_option maxRecDepth 20000
open Go.RowKit Go.Shelf
attribute [local go_sem] Oper.semAt_some
attribute [local simp] wide_fnV
theorem cell_oneB (w : World) (v : Value) (T : TypeId) : ∀ j u, [v][j]? = some u → (w.alloc (.cells #[v] T)).cell? (Addr.add ⟨w.heap.size, 0, none⟩ j) = some u := by
  intro j u hu
  match j, hu with
  | 0, hu => simp at hu; subst hu; simp [Addr.add]
theorem but_set' (w : World) (h k : Nat) (u : Value) (S : Nat → Prop) (hS : S h) : ButS w (w.setCell ⟨h, k, none⟩ u) S := ButS.of_chg (chg_set w h k u S hS)
/-- The list that is collected: its box at b, its row. -/
def Outs (b : Nat) (es : List Nat) (O : Nat → Prop) (W : World) : Prop :=
  ∃ v, W.heap[b]? = some (.cells #[v] 22 (0, 0)) ∧ W.ownsRow b 31 1 v es.length (wv es) ∧ v.ownBlock ≠ some b ∧ ∀ j, O j ↔ (j = b ∨ v.ownBlock = some j)
theorem own_ltG {W : World} {base : Nat} {e : TypeId} {size n : Nat} {v : Value} {xs : List Value} (h : W.ownsRow base e size v n xs) {j : Nat} (hj : v.ownBlock = some j) : j < W.heap.size ∧ base ≤ j := by
  rcases h.2 with ⟨rfl, _⟩ | ⟨g, cap, cur, rfl, hb, hg, _⟩
  · simp [Value.ownBlock] at hj
  · simp [Value.ownBlock] at hj
    subst hj
    exact ⟨(Array.getElem?_eq_some_iff.1 hg).1, hb⟩
theorem Outs.but {b : Nat} {es : List Nat} {O R : Nat → Prop} {W W' : World} (h : Outs b es O W) (hw : ButS W W' R) (hR : ∀ j, R j → ¬ O j) : Outs b es O W' := by
  obtain ⟨v, h1, h2, h3, h4⟩ := h
  refine ⟨v, (hw.block b (Array.getElem?_eq_some_iff.1 h1).1 (fun hr => hR b hr ((h4 b).2 (.inl rfl)))).trans h1, hw.own h2 (fun k hk hr => hR k hr ((h4 k).2 (.inr hk))), h3, h4⟩
theorem Outs.lt {b : Nat} {es : List Nat} {O : Nat → Prop} {W : World} (h : Outs b es O W) : ∀ j, O j → b ≤ j ∧ j < W.heap.size := by
  obtain ⟨v, h1, h2, h3, h4⟩ := h
  intro j hj
  rcases (h4 j).1 hj with rfl | hj
  · exact ⟨Nat.le_refl _, (Array.getElem?_eq_some_iff.1 h1).1⟩
  · exact ⟨(own_ltG h2 hj).2, (own_ltG h2 hj).1⟩
theorem eq_testG (a m : Nat) : ((a : Int) + 1 == (m : Int)) = decide (a + 1 = m) := by
  rw [Bool.eq_iff_iff]; simp; omega
theorem far_blockG {W w2 : World} {o : Obj} {row : Option Nat} (hg : (W.alloc o).grownBy w2 row) {b : Nat} (hb : b < W.heap.size) (hne : some b ≠ row) : w2.heap[b]? = W.heap[b]? :=
  (hg.block b (by simp; omega) hne).trans (Below.heap_alloc _ _ _ hb)
theorem far_cellG {W w2 : World} {o : Obj} {row : Option Nat} (hg : (W.alloc o).grownBy w2 row) {b : Nat} (off : Nat) (hb : b < W.heap.size) (hne : some b ≠ row) : w2.cell? ⟨b, off, none⟩ = W.cell? ⟨b, off, none⟩ := by
  have := far_blockG hg hb hne
  simp [World.cell?, this]
theorem own_baseG {w : World} {base base' : Nat} {e : TypeId} {size n : Nat} {v : Value} {xs : List Value} (h : w.ownsRow base e size v n xs) (hb : base' ≤ base) : w.ownsRow base' e size v n xs := by
  refine ⟨h.1, ?_⟩
  rcases h.2 with h | ⟨g, cap, cur, hv, hb', rest⟩
  · exact .inl h
  · exact .inr ⟨g, cap, cur, hv, by omega, rest⟩
theorem set_heapG {w : World} {b : Nat} {v u : Value} {T : TypeId} (h : w.heap[b]? = some (.cells #[v] T (0, 0))) : (w.setCell ⟨b, 0, none⟩ u).heap[b]? = some (.cells #[u] T (0, 0)) := by
  simp [World.setCell, Array.getElem?_modify, h]
set_option maxRecDepth 100000 in
set_option maxHeartbeats 4000000 in
theorem append_seq (w : World) (f : Value) (xs : List Nat) (g : Nat) (lb : Array Value) (Z : Nat → Prop) (hs : Sq Z w f xs g lb) (hl : xs.length ≤ 100000000) :
    Calls Try.prog 41 #[.slice none 0 0, f] w fun e w' => ∃ v, e = .returned v ∧ w'.ownsRow w.heap.size 31 1 v xs.length (wv xs) ∧ Below w.heap.size w w' := by
  refine (callsIn_wide (n := 9)).1 ?_
  obtain ⟨i0, hi, hz0, hz1, hz2⟩ := info_parts u64_info
  have hf := hs.f
  subst hf
  have HS := Lib.hid hs
  clear hs
  refine callsIn_of_wp_marks Try.func41 rfl trivial ?_ rfl
  simp only [Try.ntmps41, List.size_toArray, List.length_cons, List.length_nil, Nat.reduceAdd, Nat.reduceSub, Array.replicate_succ, Array.replicate_zero, List.push_toArray, List.append_toArray, List.nil_append, List.cons_append]
  gi_wp2
  have hout : (w.alloc (.cells #[.slice none 0 0] 22)).heap[w.heap.size]? = some (.cells #[.slice none 0 0] 22 (0, 0)) := K.alloc_top _ _
  have hb0 : Below w.heap.size w (w.alloc (.cells #[.slice none 0 0] 22)) := (Below.refl _ w).alloc (Nat.le_refl _) _
  have hs0 : (w.alloc (.cells #[.slice none 0 0] 22)).heap.size = w.heap.size + 1 := by simp
  generalize w.alloc (.cells #[.slice none 0 0] 22) = W0 at *
  have hO0 : Outs w.heap.size [] (fun j => j = w.heap.size) W0 := ⟨_, hout, World.ownsRow_nil _ _ _ _, by simp [Value.ownBlock], fun j => by simp [Value.ownBlock]⟩
  refine wpIn_rangeW rfl (by decide) (gf := g) (lb := lb) rfl trivial HS.out.ent
    (HS.out.seq 8) (fun j hj => by have := HS.out.lt j hj; omega) hb0 (fun _ => rfl)
    (fun pre O W => Outs w.heap.size pre O W ∧ Below w.heap.size w W)
    (fun c pre O W => False)
    (fun s a1 O W => a1 = { tmps := #[.slice none 0 0, .func (.func g) #[] lb, .pointer (some ⟨w.heap.size, 0, none⟩), undef, .slice none 0 0, .int .u64 ((s.2 : Nat) : Int), .func (.func g) #[] lb, .int .u64 ((s.2 : Nat) : Int), undef, undef, undef, undef, undef], defers := [] }
      ∧ Outs w.heap.size s.1 O W ∧ s.1 ++ [s.2] <+: xs ∧ Below w.heap.size w W)
    ?hI (fun c s O W W' R h _ _ => h) ?hA ?hlow (fun j => j = w.heap.size) (fun j hj => by omega) ⟨hO0, hb0⟩ ?assign ?body ?done ?stop
  case hI =>
    rintro pre O W W' R ⟨h1, h3⟩ hw hR
    exact ⟨h1.but hw (fun j hj => (hR j hj).1), h3.trans (hw.below (by have := h3.size; omega) (fun j hj => by have := (hR j hj).2; omega))⟩
  case hA =>
    rintro a' s O W W' R ⟨e1, h1, h2, h3⟩ hw hR
    exact ⟨e1, h1.but hw (fun j hj ho => (hR j hj).1 ho), h2, h3.trans (hw.below (by have := h3.size; omega) (fun j hj => by have := (hR j hj).2; omega))⟩
  case hlow =>
    rintro pre O W ⟨h1, _⟩ j hj hz
    have := (h1.lt j hj).1
    have := HS.out.lt j hz
    omega
  case assign =>
    rintro L pre x O W ⟨h1, h3⟩ hT
    gi_wp2
    exact ⟨O, ⟨ButS.refl _ _, fun j hj => ⟨.inl hj, (h1.lt j hj).2⟩⟩, by first | trivial | rfl, h1, hT, h3⟩
  case body =>
    rintro L pre x O a1 W ⟨rfl, ⟨v, hv, hrow, hvb, hO⟩, hpx, h3⟩
    have hc : W.cell? ⟨w.heap.size, 0, none⟩ = some v := cell_of_row _ _ 0 _ _ (0, 0) hv
    have hvl : ∀ j, v.ownBlock = some j → j < W.heap.size ∧ w.heap.size ≤ j := fun j hj => own_ltG hrow hj
    have hsz := h3.size
    have hpl : pre.length < 100000000 := by have := hpx.length_le; simp at this; omega
    have hbl : w.heap.size < W.heap.size := (Array.getElem?_eq_some_iff.1 hv).1
    have HV := Lib.hid hv
    have HR := Lib.hid hrow
    have HVB := Lib.hid hvb
    have HVL := Lib.hid hvl
    have H3 := Lib.hid h3
    clear hv hrow hvb hvl h3 hpx
    gi_wp2_with (gi_at_builtin; refine wpListIn_append_own_at _ rfl _ _ 22 rfl w.heap.size 31 i0 _ 1 8 Try.underlying22 hi hz0 hz1 hz2 rfl (by decide) v pre.length (wv pre) rfl (HR.out.alloc _) ⟨W.heap.size, 0, none⟩ 1 1 [.int .u64 ((x : Nat) : Int)] rfl rfl (cell_oneB W _ _) (by intro u hu; simp at hu; subst hu; rfl) (by unfold maxLen; omega) (by omega) (by simp; omega) ?_; intro v' w2 hown' hgrow _ hblk; obtain ⟨A', c', rfl⟩ := K.own_form hown'; have hbB := (far_blockG hgrow hbl (fun e => HVB.out e.symm)).trans HV.out; have hcb : w2.cell? ⟨w.heap.size, 0, none⟩ = some v := cell_of_row _ _ 0 _ _ (0, 0) hbB; have hfb : w2.frozen? ⟨w.heap.size, 0, none⟩ = false := (by simp [World.frozen?, hbB]); have HBB := Lib.hid hbB; have HOW := Lib.hid hown'; have HGR := Lib.hid hgrow; have HBL := Lib.hid hblk; clear hbB hown' hgrow hblk)
    have hown2 : w2.ownsRow w.heap.size 31 1 (.slice A' (pre.length + 1) c') (pre.length + 1) (wv pre ++ [.int .u64 ((x : Nat) : Int)]) := HOW.out
    have hvb2 : (Value.slice A' (pre.length + 1) c').ownBlock ≠ some w.heap.size := by
      intro e
      rcases HBL.out with h | h
      · rw [e] at h; exact HVB.out h.symm
      · rw [e] at h; simp at h; omega
    have hbut : ButS W (w2.setCell ⟨w.heap.size, 0, none⟩ (.slice A' (pre.length + 1) c')) O := by
      refine ((but_alloc' W _ O).trans (ButS.of_grown HGR.out (fun j e => (hO j).2 (.inr e)))).trans (but_set' w2 _ 0 _ O ((hO _).2 (.inl rfl)))
    have hout : Outs w.heap.size (pre ++ [x]) (fun j => j = w.heap.size ∨ (Value.slice A' (pre.length + 1) c').ownBlock = some j) (w2.setCell ⟨w.heap.size, 0, none⟩ (.slice A' (pre.length + 1) c')) := by
      refine ⟨.slice A' (pre.length + 1) c', set_heapG HBB.out, ?_, hvb2, fun j => Iff.rfl⟩
      rw [show wv (pre ++ [x]) = wv pre ++ [.int .u64 ((x : Nat) : Int)] by simp [wv], List.length_append]
      exact (but_set' w2 w.heap.size 0 (.slice A' (pre.length + 1) c') (· = w.heap.size) rfl).own hown2 (fun k hk e => hvb2 (by rw [hk, e]))
    have hstep : OwnStep O (fun j => j = w.heap.size ∨ (Value.slice A' (pre.length + 1) c').ownBlock = some j) W (w2.setCell ⟨w.heap.size, 0, none⟩ (.slice A' (pre.length + 1) c')) := by
      refine ⟨hbut, fun j hj => ⟨?_, (hout.lt j hj).2⟩⟩
      rcases hj with hj | hj
      · left; exact (hO j).2 (.inl hj)
      · rcases HBL.out with h | h
        · left; rw [hj] at h; exact (hO j).2 (.inr h.symm)
        · right; rw [hj] at h; simp at h; omega
    have hlow : ∀ j, O j → w.heap.size ≤ j := fun j hj => by
      rcases (hO j).1 hj with h | h
      · omega
      · exact (HVL.out j h).2
    have hbel : Below w.heap.size w (w2.setCell ⟨w.heap.size, 0, none⟩ (.slice A' (pre.length + 1) c')) := H3.out.trans (hbut.below (by omega) hlow)
    exact ⟨_, hstep, hout, hbel⟩
  case done =>
    rintro D ys O W hD hnD rfl ⟨⟨v, hv, hrow, hvb, hO⟩, h3⟩ hK
    have hc : W.cell? ⟨w.heap.size, 0, none⟩ = some v := cell_of_row _ _ 0 _ _ (0, 0) hv
    have hDl := (Array.getElem?_eq_some_iff.1 hK).1
    have hvD : v.ownBlock ≠ some D := fun h => hnD ((hO D).2 (.inr h))
    have hfin : w.heap.size ≤ W.heap.size := by have := h3.size; omega
    gi_wp2
    refine ⟨by simp, .inl ⟨_, _, rfl, run_takeDeferred hK, ?_⟩⟩
    have hr' := (but_put W D (.deferred none)).own hrow (fun k hk h => hvD (by rw [hk, h]))
    exact ⟨_, results_tmp rfl _ _ _, v, rfl, hr', h3.trans ((but_put W D (.deferred none)).below (by omega) (fun j h => by omega))⟩
  case stop => exact fun D c pre O W _ _ _ h _ => h.elim
theorem collect_seq (w : World) (f : Value) (xs : List Nat) (g : Nat) (lb : Array Value) (Z : Nat → Prop) (hs : Sq Z w f xs g lb) (hl : xs.length ≤ 100000000) :
    Calls Try.prog 37 #[f] w fun e w' => ∃ v, e = .returned v ∧ w'.ownsRow w.heap.size 31 1 v xs.length (wv xs) ∧ Below w.heap.size w w' := by
  have H := Lib.hid (append_seq w f xs g lb Z hs hl)
  clear hs
  go_enter Try.func37, Try.ntmps37
  go_wp2_with (go_at_call 41; (with_reducible refine H.out.mono ?_); rintro e w2 ⟨v, rfl, h1, h2⟩; replace h1 := Lib.hid h1; replace h2 := Lib.hid h2)
  go_ret
  exact ⟨_, rfl, h1.out, h2.out⟩
end Go.Proofs.Ytepdhjcgpjjjlaa
end
section
namespace Go.Proofs.Ytepdhjcgpjjjlaa
set_option maxRecDepth 20000
open Go.RowKit Go.Shelf
namespace S
theorem ext_int : ∀ {l m : List Int}, l.Pairwise (· < ·) → m.Pairwise (· < ·) → (∀ x, x ∈ l ↔ x ∈ m) → l = m
  | [], [], _, _, _ => rfl
  | [], b :: m, _, _, h => absurd ((h b).2 (by simp)) (by simp)
  | a :: l, [], _, _, h => absurd ((h a).1 (by simp)) (by simp)
  | a :: l, b :: m, hl, hm, h => by
    obtain ⟨h1, h2⟩ := List.pairwise_cons.1 hl
    obtain ⟨h3, h4⟩ := List.pairwise_cons.1 hm
    have hab : a = b := by
      rcases List.mem_cons.1 ((h a).1 (by simp)) with e | ha
      · exact e
      · rcases List.mem_cons.1 ((h b).2 (by simp)) with e | hb
        · exact e.symm
        · have := h3 a ha
          have := h1 b hb
          omega
    subst hab
    rw [ext_int h2 h4 (fun x => ⟨fun hx => by
      rcases List.mem_cons.1 ((h x).1 (List.mem_cons_of_mem _ hx)) with e | h5
      · have := h1 x hx
        omega
      · exact h5, fun hx => by
      rcases List.mem_cons.1 ((h x).2 (List.mem_cons_of_mem _ hx)) with e | h5
      · have := h3 x hx
        omega
      · exact h5⟩)]
theorem cast_back {zs : List Int} {ks xs : List Nat} (hz : zs.Pairwise (· < ·)) (hk : K.Up ks) (h : ∀ x, x ∈ zs ↔ x ∈ xs.map (fun x : Nat => (x : Int))) (hm : ∀ x, x ∈ ks ↔ x ∈ xs) : zs = ks.map (fun x : Nat => (x : Int)) := by
  refine ext_int hz ?_ (fun x => (h x).trans ?_)
  · rw [List.pairwise_map]
    exact List.Pairwise.imp (fun h => by omega) hk
  · simp only [List.mem_map]
    constructor
    · rintro ⟨k, hk, rfl⟩; exact ⟨k, (hm k).2 hk, rfl⟩
    · rintro ⟨k, hk, rfl⟩; exact ⟨k, (hm k).1 hk, rfl⟩
end S
theorem hv_cast (xs : List Nat) : Kb.hv (xs.map fun x : Nat => (x : Int)) = wv xs := by simp [Kb.hv, wv]
set_option maxHeartbeats 4000000 in
theorem sorted_seq (w : World) (f : Value) (xs : List Nat) (g : Nat) (lb : Array Value) (Z : Nat → Prop) (hs : Sq Z w f xs g lb) (hl : xs.length ≤ 100000000) :
    Calls Try.prog 26 #[f] w fun e w' => ∃ v ys, e = .returned v ∧ ys.length = xs.length ∧ (∀ x, x ∈ ys ↔ x ∈ xs.map (fun x : Nat => (x : Int))) ∧ ys.Pairwise (· ≤ ·) ∧ w'.ownsRow w.heap.size 31 1 v ys.length (Kb.hv ys) ∧ Below w.heap.size w w' := by
  have H := Lib.hid (collect_seq w f xs g lb Z hs hl)
  clear hs
  go_enter Try.func26, Try.ntmps26
  go_wp2_with (go_at_call 37; (with_reducible refine H.out.mono ?_); rintro e w2 ⟨v, rfl, h1, h2⟩; replace h1 := Lib.hid h1; replace h2 := Lib.hid h2)
  have h1' : w2.ownsRow w.heap.size 31 1 v (xs.map fun x : Nat => (x : Int)).length (Kb.hv (xs.map fun x : Nat => (x : Int))) := by
    rw [hv_cast, List.length_map]; exact h1.out
  have hlm : (xs.map fun x : Nat => (x : Int)).length = xs.length := List.length_map _
  obtain ⟨zs, hzs⟩ : ∃ zs, xs.map (fun x : Nat => (x : Int)) = zs := ⟨_, rfl⟩
  rw [hzs] at h1' hlm
  have HZS := Lib.hid hzs
  clear hzs
  have HLM := Lib.hid hlm
  obtain ⟨n, hn⟩ : ∃ n, zs.length = n := ⟨_, rfl⟩
  rw [hn] at h1'
  have HN := Lib.hid hn
  rw [hn] at hlm
  rcases Kb.own_two h1' with ⟨rfl, h0⟩ | ⟨gg, cap, rfl, hgg⟩
  · have hz : zs = [] := List.eq_nil_of_length_eq_zero (by rw [HN.out]; exact h0)
    have HZ := Lib.hid hz
    clear hz h1' hlm hn h0 H h1
    go_wp2_with (go_at_call 38; (with_reducible refine (Kb.sort_nil 0 w2).mono ?_); rintro e w' ⟨rfl, rfl⟩)
    go_ret
    exact ⟨_, [], rfl, by rw [← HLM.out, HZ.out], fun x => by rw [HZS.out, HZ.out], List.Pairwise.nil, ⟨rfl, .inl ⟨rfl, rfl⟩⟩, h2.out⟩
  · have s1 := Lib.hid (Kb.so_sort w2 w.heap.size gg n cap zs h1' HN.out (by omega))
    clear h1' hlm hn H h1
    go_wp2_with (go_at_call 38; (with_reducible refine s1.out.mono ?_); rintro e w3 ⟨rfl, ys, p1, p2, p3, p4⟩; replace p1 := Lib.hid p1; replace p2 := Lib.hid p2; replace p3 := Lib.hid p3; replace p4 := Lib.hid p4)
    go_ret
    have hyl : ys.length = n := by rw [p1.out.length_eq, HN.out]
    exact ⟨_, ys, rfl, by rw [hyl, ← HN.out, HLM.out], fun x => by rw [HZS.out]; exact p1.out.mem_iff, p2.out, by rw [hyl]; exact p3.out, h2.out.trans (Kb.ButS.below p4.out h2.out.size (fun j e => by subst e; exact hgg))⟩
theorem rowV {w' : World} {base : Nat} {v : Value} {xs : List Nat} (h : w'.ownsRow base 31 1 v xs.length (wv xs)) : KX w' v xs := Kb.own_low h (Nat.zero_le _)
/-- A closure that tells a list. -/
theorem values_sq (w : World) (v : Value) (xs : List Nat) (hk : KX w v xs) (hl : xs.length ≤ 1000000000) :
    Calls Try.prog 24 #[v] w fun e w' => ∃ f g lb, e = .returned f ∧ Sq (fun j => v.ownBlock = some j) w' f xs g lb ∧ Below w.heap.size w w' := by
  obtain ⟨A, c, rfl⟩ := K.own_form hk
  refine (values_any w A xs.length c).mono ?_
  rintro e w' ⟨rfl, rfl⟩
  have hb : Below w.heap.size w (w.alloc (.cells #[.slice A xs.length c] 22)) := (Below.refl _ w).alloc (Nat.le_refl _) _
  refine ⟨_, _, _, rfl, ⟨rfl, enters_of Try.func36 (by kernel_rfl) rfl, fun j hj => Nat.lt_of_lt_of_le (vblk hk (own_map.1 hj)) hb.size, fun n => values_seq n w.heap.size _ xs _ (hk.below hb) hl (cell_of_row _ _ 0 _ _ (0, 0) (K.alloc_top _ _)) (by simp)⟩, hb⟩
theorem comp_anyV (w : World) (base : Nat) (v : Value) (ys : List Int) (h : w.ownsRow base 31 1 v ys.length (Kb.hv ys)) (hb : base ≤ w.heap.size) (ho : ys.Pairwise (· ≤ ·)) (few : ys.length ≤ 100000000) :
    Calls Try.prog 25 #[v] w fun e w' => ∃ v' zs, e = .returned v' ∧ zs.Pairwise (· < ·) ∧ (∀ x, x ∈ zs ↔ x ∈ ys) ∧ w'.ownsRow base 31 1 v' zs.length (Kb.hv zs) ∧ zs.length ≤ ys.length ∧ Below base w w' := by
  obtain ⟨n, hn⟩ : ∃ n, ys.length = n := ⟨_, rfl⟩
  rw [hn] at h few
  rcases Kb.own_two h with ⟨rfl, h0⟩ | ⟨g, cap, rfl, hg⟩
  · have hz : ys = [] := List.eq_nil_of_length_eq_zero (by rw [hn]; exact h0)
    subst hz
    refine (Kb.comp_nil 0 w).mono ?_
    rintro e w' ⟨rfl, rfl⟩
    exact ⟨_, [], rfl, List.Pairwise.nil, fun x => Iff.rfl, ⟨rfl, .inl ⟨rfl, rfl⟩⟩, Nat.le_refl _, Below.refl _ _⟩
  · refine (Kb.so_comp w base g n cap ys h hn ho (by omega)).mono ?_
    rintro e w' ⟨zs, rfl, q1, q2, q3, q4, q5⟩
    exact ⟨_, zs, rfl, q1, q2, q3, by omega, Kb.ButS.below q4 hb (fun j e => by subst e; exact hg)⟩
set_option maxHeartbeats 4000000 in
theorem sift_of (w : World) (v : Value) (xs ks : List Nat) (hk : KX w v xs) (hl : xs.length ≤ 100000000) (hu : K.Up ks) (hm : ∀ x, x ∈ ks ↔ x ∈ xs) :
    Calls Try.prog 9 #[v] w fun e w' => ∃ f g lb Z, e = .returned f ∧ Sq Z w' f ks g lb ∧ (∀ j, Z j → w.heap.size ≤ j) ∧ Below w.heap.size w w' := by
  have H := Lib.hid (values_sq w v xs hk (by omega))
  have HL := Lib.hid hl
  have HUM := Lib.hid (And.intro hu hm)
  clear hk hl hu hm
  go_enter Try.func9, Try.ntmps9
  go_wp2_with (first
    | (go_at_call 24; (with_reducible refine H4.out.mono ?_); rintro e w4 ⟨f4, g4, lb4, rfl, hs4, hb4⟩; have H5 := Lib.hid (And.intro hs4 (And.intro HN3.out (HB3.out.trans (hb4.mono HB3.out.size)))); clear hs4 hb4)
    | (go_at_call 25; (with_reducible refine HC.out.mono ?_); rintro e w3 ⟨v3, zs, rfl, hz1, hz2, hz3, hz4, hb3⟩
       have hzs := S.cast_back (xs := xs) hz1 HUM.out.1 (fun x => (hz2 x).trans (HY.out.2 x)) HUM.out.2
       have hlz : ks.length ≤ 100000000 := by
         have e1 := hz4
         rw [hzs, List.length_map, HY.out.1] at e1
         have := HL.out
         omega
       have hkx : KX w3 v3 ks := by
         have e1 := hz3
         rw [hzs, hv_cast, List.length_map] at e1
         exact rowV e1
       have HB3 := Lib.hid (HB2.out.trans (hb3.mono HB1.out.size))
       have HN3 := Lib.hid (fun j (hj : v3.ownBlock = some j) => Nat.le_trans HB1.out.size (hz3.lt j hj).1)
       have H4 := Lib.hid (values_sq w3 v3 ks hkx (by omega))
       clear hz1 hz2 hz3 hz4 hb3 hzs hlz hkx)
    | (go_at_call 24; (with_reducible refine H.out.mono ?_); rintro e w1 ⟨f1, g1, lb1, rfl, hs1, hb1⟩; have HB1 := Lib.hid hb1; have HS1 := Lib.hid (sorted_seq w1 f1 xs g1 lb1 _ hs1 HL.out); clear hs1 hb1)
    | (go_at_call 26; (with_reducible refine HS1.out.mono ?_); rintro e w2 ⟨v2, ys, rfl, hyl, hym, hyp, hyo, hb2⟩
       have HC := Lib.hid (comp_anyV w2 w1.heap.size v2 ys hyo hb2.size hyp (by rw [hyl]; exact HL.out))
       have HY := Lib.hid (And.intro hyl hym)
       have HB2 := Lib.hid (HB1.out.trans (hb2.mono HB1.out.size))
       clear hyl hym hyp hyo hb2))
  go_ret
  exact ⟨_, _, _, _, rfl, H5.out.1, H5.out.2.1, H5.out.2.2⟩
theorem kx_none (w : World) : KX w (.slice none 0 0) [] := World.ownsRow_nil _ _ _ _
set_option maxHeartbeats 4000000 in
theorem sift_none (w : World) : Calls Try.prog 9 #[.slice none 0 0] w fun e w' => ∃ f g lb Z, e = .returned f ∧ Sq Z w' f [] g lb ∧ (∀ j, Z j → w.heap.size ≤ j) ∧ Below w.heap.size w w' :=
  sift_of w _ [] [] (kx_none w) (by simp) List.Pairwise.nil (fun _ => Iff.rfl)
set_option maxHeartbeats 4000000 in
theorem nil_no (w : World) (g : FuncId) (lb : Array Value) : Sem.run Try.prog (binOp BinOp.eql 29 (Value.func (Fn.func g) #[] lb) Value.nilFunc) w = Result.ok (.bool false) w := by
  first | rfl | kernel_rfl | (simp [binOp, go_sem]; done)
theorem nil_yes (w : World) : Sem.run Try.prog (binOp BinOp.eql 29 Value.nilFunc Value.nilFunc) w = Result.ok (.bool true) w := by
  first | rfl | kernel_rfl | (simp [binOp, go_sem]; done)
theorem told_any (w : World) (f : Value) (xs : List Nat) (Z : Nat → Prop) (h : Sn Z w f xs) :
    Calls Try.prog 35 #[f] w fun e w' => ∃ f' g lb Z', e = .returned f' ∧ Sq Z' w' f' xs g lb ∧ (∀ j, Z' j → Z j ∨ w.heap.size ≤ j) ∧ Below w.heap.size w w' := by
  rcases h with ⟨rfl, rfl⟩ | ⟨g, lb, h⟩
  · have H := Lib.hid (sift_none w)
    have n1 := nil_yes
    go_enter Try.func35, Try.ntmps35
    go_wp2_with (go_at_call 9; (with_reducible refine H.out.mono ?_); rintro e w1 ⟨f1, g1, lb1, Z1, rfl, hs1, hn1, hb1⟩; replace hs1 := Lib.hid hs1; replace hb1 := Lib.hid (And.intro hn1 hb1); clear hn1)
    go_ret
    exact ⟨_, _, _, _, rfl, hs1.out, fun j hj => .inr (hb1.out.1 j hj), hb1.out.2⟩
  · have hf := h.f
    subst hf
    have H := Lib.hid h
    clear h
    have n1 := fun w => nil_no w g lb
    go_enter Try.func35, Try.ntmps35
    go_wp2
    go_ret
    exact ⟨_, _, _, _, rfl, H.out, fun j hj => .inl hj, Below.refl _ _⟩
end Go.Proofs.Ytepdhjcgpjjjlaa
end
section
namespace Go.Proofs.Ytepdhjcgpjjjlaa
set_option maxRecDepth 20000
open Go.RowKit Go.Shelf
attribute [local go_sem] Oper.semAt_some
attribute [local simp] wide_fnV
/-- The function gw tells whether a key is wanted, by who tells it. -/
structure Wq (q : Nat → Bool) (gw : FuncId) : Prop where
  ent : ∀ args w, (callFunc gw args).run Try.prog w = .ok (.enter gw args) w
  run : ∀ w (t : Nat), t ≤ 2 → Calls Try.prog gw #[.int .i64 (t : Int)] w fun e w' => e = .returned (.bool (q t)) ∧ w' = w
def qOr (_ : Nat) : Bool := true
def qAnd (t : Nat) : Bool := decide (t = 2)
def qLess (t : Nat) : Bool := decide (t = 0)
def qXor (t : Nat) : Bool := decide (t ≠ 2)
theorem w_or : Wq qOr 29 := ⟨enters_of Try.func29 (by kernel_rfl) rfl, fun w t ht => by
  unfold qOr
  go_enter Try.func29, Try.ntmps29
  go_wp2
  go_ret
  exact ⟨rfl, rfl⟩⟩
theorem w_and : Wq qAnd 30 := ⟨enters_of Try.func30 (by kernel_rfl) rfl, fun w t ht => by
  have e : ((t : Int) == 2) = decide (t = 2) := by rw [Bool.eq_iff_iff]; simp; omega
  unfold qAnd
  generalize decide (t = 2) = b at *
  go_enter Try.func30, Try.ntmps30
  go_wp2
  go_ret
  exact ⟨rfl, rfl⟩⟩
theorem w_less : Wq qLess 32 := ⟨enters_of Try.func32 (by kernel_rfl) rfl, fun w t ht => by
  have e : ((t : Int) == 0) = decide (t = 0) := by rw [Bool.eq_iff_iff]; simp
  unfold qLess
  generalize decide (t = 0) = b at *
  go_enter Try.func32, Try.ntmps32
  go_wp2
  go_ret
  exact ⟨rfl, rfl⟩⟩
theorem w_xor : Wq qXor 33 := ⟨enters_of Try.func33 (by kernel_rfl) rfl, fun w t ht => by
  have e : ((t : Int) != 2) = decide (t ≠ 2) := by rw [Bool.eq_iff_iff]; simp; omega
  unfold qXor
  generalize decide (t ≠ 2) = b at *
  go_enter Try.func33, Try.ntmps33
  go_wp2
  go_ret
  exact ⟨rfl, rfl⟩⟩
/-- What a body must do with a key that is told. -/
structure HV (Z : Nat → Prop) (zs : List Nat) (ly d0 : Nat) (J Jx : List Nat → (Nat → Prop) → World → Prop) : Prop where
  y : ∀ pre x R W1, J pre R W1 → pre ++ [x] <+: zs → YieldAt Fence.wide d0 Try.prog ly (senc x) W1 fun e W' =>
    ((e = .returned (.bool true) ∧ J (pre ++ [x]) R W') ∨ (e = .returned (.bool false) ∧ Jx (pre ++ [x]) R W')) ∧ ButS W1 W' (fun j => ¬ (Z j ∨ R j))
def tl (q : Nat → Bool) (t k : Nat) : List Nat := if q t then [k] else []
set_option maxHeartbeats 2000000 in
theorem tell_v (W1 : World) (Bw By gw ly d0 k t : Nat) (q : Nat → Bool) (hq : Wq q gw) (ht : t ≤ 2) (hw : W1.cell? ⟨Bw, 0, none⟩ = some (.func (.func gw) #[] #[])) (hy : W1.cell? ⟨By, 0, none⟩ = some (.func (.yield ly) #[] #[]))
    (Z : Nat → Prop) (zs : List Nat) (J Jx : List Nat → (Nat → Prop) → World → Prop) (H : HV Z zs ly d0 J Jx) (pre : List Nat) (R : Nat → Prop) (hj : J pre R W1) (hp : pre ++ tl q t k <+: zs) :
    Calls Try.prog 40 #[.int .u64 (k : Int), .int .i64 (t : Int), .pointer (some ⟨Bw, 0, none⟩), .pointer (some ⟨By, 0, none⟩)] W1 fun e W' =>
      ((e = .returned (.bool true) ∧ J (pre ++ tl q t k) R W') ∨ (e = .returned (.bool false) ∧ Jx (pre ++ tl q t k) R W')) ∧ ButS W1 W' (fun j => ¬ (Z j ∨ R j)) := by
  have hr := Lib.hid (hq.run W1 t ht)
  have hen := hq.ent
  cases hqt : q t with
  | false =>
    rw [hqt] at hr
    have e : pre ++ tl q t k = pre := by unfold tl; rw [hqt]; simp
    rw [e]
    have HJ := Lib.hid hj
    clear hj hp e hqt hq H
    go_enter Try.func40, Try.ntmps40
    go_wp2_with ((with_reducible refine hr.out.mono ?_); rintro e w1 ⟨rfl, rfl⟩)
    go_ret
    exact ⟨.inl ⟨rfl, HJ.out⟩, ButS.refl _ _⟩
  | true =>
    rw [hqt] at hr
    have e : pre ++ tl q t k = pre ++ [k] := by unfold tl; rw [hqt]; simp
    rw [e] at hp ⊢
    obtain ⟨fn, tm, asg, bd, hy2, hR⟩ := H.y pre k R W1 hj hp
    have HRR := Lib.hid hR
    clear hj hp e hqt hq H hR
    refine (callsIn_wide (n := 9)).1 ?_
    refine callsIn_of_wp Try.func40 rfl trivial ?_ rfl
    simp only [Try.ntmps40, List.size_toArray, List.length_cons, List.length_nil, Nat.reduceAdd, Nat.reduceSub, Array.replicate_succ, Array.replicate_zero, List.push_toArray, List.append_toArray, List.nil_append, List.cons_append]
    gi_wp2_with ((with_reducible refine (callsIn_wide.2 hr.out).mono ?_); rintro e w1 ⟨rfl, rfl⟩)
    refine (roundIn_wide' HRR.out).mono ?_
    rintro e W3 ⟨⟨rfl, hJ3⟩ | ⟨rfl, hJx3⟩, hbut⟩
    · have HJ3 := Lib.hid (And.intro hJ3 hbut)
      clear hJ3 hbut
      gi_wp2
      refine bodyPost_ret (results_tmp rfl _ _ _) rfl ?_
      exact ⟨.inl ⟨rfl, HJ3.out.1⟩, HJ3.out.2⟩
    · have HJ3 := Lib.hid (And.intro hJx3 hbut)
      clear hJx3 hbut
      gi_wp2
      refine bodyPost_ret (results_tmp rfl _ _ _) rfl ?_
      exact ⟨.inr ⟨rfl, HJ3.out.1⟩, HJ3.out.2⟩
end Go.Proofs.Ytepdhjcgpjjjlaa
end
section
namespace Go.Proofs.Ytepdhjcgpjjjlaa
namespace M
/-- The places that are true, rising. -/
def L (bs : List Bool) : List Int := ((List.range bs.length).filter fun i => bs[i]?.getD false).map fun i : Nat => (i : Int)
/-- All from f up to t are there (o), or not; n were changed. -/
def Chg (o : Bool) (l l' : List Int) (f t : Int) (n : Nat) : Prop :=
  l'.Pairwise (· < ·) ∧ (∀ y, y ∈ l' ↔ if f ≤ y ∧ y ≤ t then o = true else y ∈ l) ∧ (if o then n + l.length = l'.length else n + l'.length = l.length)
theorem Chg.same {o : Bool} {l a b : List Int} {f t : Int} {n m : Nat} (h : Chg o l a f t n) (k : Chg o l b f t m) : a = b ∧ n = m := by
  have e : a = b := sorted_ext h.1 k.1 fun y => (h.2.1 y).trans (k.2.1 y).symm
  subst e
  refine ⟨rfl, ?_⟩
  have h1 := h.2.2
  have h2 := k.2.2
  cases o
  · rw [if_neg (by decide)] at h1 h2; omega
  · rw [if_pos rfl] at h1 h2; omega
end M
end Go.Proofs.Ytepdhjcgpjjjlaa
end
section
namespace Go.Proofs.Ytepdhjcgpjjjlaa.Kb
set_option maxRecDepth 20000
open Go.RowKit
/-- What the halves hold. -/
def Half (xs : List Int) (v : Int) (i j : Nat) : Prop := (∀ k (h : k < xs.length), k < i → xs[k] < v) ∧ (∀ k (h : k < xs.length), j ≤ k → v ≤ xs[k])
def upv (xs : List Int) (v : Int) : Nat := if v ∈ xs then M.rRank xs v + 1 else M.rRank xs v
end Go.Proofs.Ytepdhjcgpjjjlaa.Kb
end
section
namespace Go.Proofs.Ytepdhjcgpjjjlaa.Kb
set_option maxRecDepth 20000
open Go.RowKit Go.Shelf
def cutA (A : Option Addr) (l c : Nat) : Option Addr := if c = l then A else A.map (·.add (l * 1))
theorem cut_l (A : Option Addr) (n c l : Nat) (L : Int) (hL : L = (l : Int)) (hl : l ≤ n) : (∀ w, (Instr.sliceAt 22 (.slice A n c) (some (.int .i64 L)) none none).run Try.prog w = .ok (.slice (cutA A l c) (n - l) (c - l)) w) ∧
    (∀ w, (Instr.slice 22 (.slice A n c) (some (.int .i64 L)) none none).run Try.prog w = .ok (.slice (cutA A l c) (n - l) (c - l)) w) := by
  subst hL
  have hu : Try.prog.underlying 22 = some (.slice (Try.prog.elem 22)) := by kernel_rfl
  have hz : ∀ w, (Go.sizeOf (Try.prog.elem 22)).run Try.prog w = .ok 1 w := fun w => Try.sizeOf31 w
  have h2 : ∀ w, (Instr.slice 22 (.slice A n c) (some (.int .i64 (l : Int))) none none).run Try.prog w = .ok (sliced A l n c 1) w := fun w => by
    have h := run_slice_l (P := Try.prog) (w := w) (t := 22) (a := A) (len := n) (cap := c) (ht := hu) (kl := .i64) (l := (l : Int)) (h0 := by omega) (h1 := by omega)
    rw [h, hz]
    simp [Result.andThen]
  exact ⟨fun w => (run_sliceAt_slice (w := w) (h := hu) ..).trans (h2 w), h2⟩
theorem cut_h (A : Option Addr) (n c l : Nat) (L : Int) (hL : L = (l : Int)) (hl : l ≤ n) (hc : n ≤ c) : (∀ w, (Instr.sliceAt 22 (.slice A n c) none (some (.int .i64 L)) none).run Try.prog w = .ok (.slice A l c) w) ∧
    (∀ w, (Instr.slice 22 (.slice A n c) none (some (.int .i64 L)) none).run Try.prog w = .ok (.slice A l c) w) := by
  subst hL
  have hu : Try.prog.underlying 22 = some (.slice (Try.prog.elem 22)) := by kernel_rfl
  have hz : ∀ w, (Go.sizeOf (Try.prog.elem 22)).run Try.prog w = .ok 1 w := fun w => Try.sizeOf31 w
  have h2 : ∀ w, (Instr.slice 22 (.slice A n c) none (some (.int .i64 (l : Int))) none).run Try.prog w = .ok (.slice A l c) w := fun w => by
    have h := run_slice_h (P := Try.prog) (w := w) (t := 22) (a := A) (len := n) (cap := c) (ht := hu) (kh := .i64) (h := (l : Int)) (h0 := by omega) (h2 := by omega)
    rw [h, hz]
    simp [Result.andThen]
    cases A <;> simp [sliced, Addr.add]
  exact ⟨fun w => (run_sliceAt_slice (w := w) (h := hu) ..).trans (h2 w), h2⟩
theorem take_lt {xs : List Int} {v : Int} {r : Nat} (h : Half xs v r r) {x : Int} (hx : x ∈ xs.take r) : x < v := by
  obtain ⟨k, hk, rfl⟩ := List.getElem_of_mem hx
  rw [List.getElem_take]
  rw [List.length_take] at hk
  exact h.1 k (by omega) (by omega)
end Go.Proofs.Ytepdhjcgpjjjlaa.Kb
end
section
namespace Go.Proofs.Ytepdhjcgpjjjlaa
set_option maxRecDepth 20000
open Go.RowKit Go.Shelf
attribute [local go_sem] Oper.semAt_some
attribute [local simp] wide_fnV
theorem size_setV (w : World) (p : Addr) (u : Value) : (w.setCell p u).heap.size = w.heap.size := by simp [World.setCell]
theorem cell_setV (w : World) (g b o : Nat) (u : Value) (h : g ≠ b) : (w.setCell ⟨g, 0, none⟩ u).cell? ⟨b, o, none⟩ = w.cell? ⟨b, o, none⟩ := World.cell?_setCell_far _ _ _ _ h
def slen : Option Value → Nat
  | some (.slice _ n _) => n
  | _ => 0
/-- What is left of the second sequence's list, in its box. -/
def LB (BL : Nat) (Rt0 : Nat → Prop) (rest : List Nat) (Rt : Nat → Prop) (W : World) : Prop :=
  (∀ j, Rt0 j → Rt j) ∧ Rt0 BL ∧ ∃ A c, W.heap[BL]? = some (.cells #[.slice A rest.length c] 22 (0, 0)) ∧ rest.length ≤ c ∧ (rest ≠ [] → ∃ b off, A = some ⟨b, off, none⟩ ∧ Rt0 b ∧ b < W.heap.size ∧ b ≠ BL ∧ ∀ (k : Nat) (h : k < rest.length), W.cell? ⟨b, off + k, none⟩ = some (.int .u64 (rest[k] : Int)))
theorem lb_fr {Z : Nat → Prop} {BL : Nat} {Rt0 : Nat → Prop} {rest : List Nat} : YFr Z (LB BL Rt0 rest) := by
  rintro Rt W W' R ⟨h1, h2, A, c, hr, hc, hn⟩ hw hR
  have hl := (Array.getElem?_eq_some_iff.1 hr).1
  refine ⟨h1, h2, A, c, (hw.block BL hl (fun h => (hR BL hl h).2 (h1 BL h2))).trans hr, hc, fun hne => ?_⟩
  obtain ⟨b, off, hA, hb, hlt, hbl, hcl⟩ := hn hne
  exact ⟨b, off, hA, hb, Nat.lt_of_lt_of_le hlt hw.size, hbl, fun k hk => (hw.cell hlt (fun h => (hR b hlt h).2 (h1 b hb)) _).trans (hcl k hk)⟩
theorem cutA_one {b off c : Nat} (h : c ≠ 1) : Kb.cutA (some ⟨b, off, none⟩) 1 c = some ⟨b, off + 1, none⟩ := by
  unfold Kb.cutA
  rw [if_neg h]
  simp [Addr.add]
/-- The list one shorter is stored. -/
theorem LB.tail {BL : Nat} {Rt0 Rt Rt' : Nat → Prop} {y : Nat} {r : List Nat} {W : World} {A : Option Addr} {c : Nat} (h : LB BL Rt0 (y :: r) Rt W) (hA : W.heap[BL]? = some (.cells #[.slice A (y :: r).length c] 22 (0, 0))) (ht : ∀ j, Rt j → Rt' j) : LB BL Rt0 r Rt' (W.setCell ⟨BL, 0, none⟩ (.slice (Kb.cutA A 1 c) r.length (c - 1))) := by
  obtain ⟨h1, h2, A', c', hr, hc, hn⟩ := h
  rw [hA] at hr
  injection hr with hr
  injection hr with e1 _ _
  injection e1 with e1
  have e2 : Value.slice A (y :: r).length c = Value.slice A' (y :: r).length c' := by simpa using e1
  injection e2 with eA _ eC
  subst eA eC
  refine ⟨fun j hj => ht j (h1 j hj), h2, Kb.cutA A 1 c, c - 1, ?_, ?_, fun hne => ?_⟩
  · have := row_set hA 0 (.slice (Kb.cutA A 1 c) r.length (c - 1))
    simpa using this
  · simp at hc
    omega
  · obtain ⟨b, off, rfl, hb, hlt, hbl, hcl⟩ := hn (by simp)
    have hc2 : c ≠ 1 := by
      have := List.length_pos_iff.2 hne
      simp at hc
      omega
    refine ⟨b, off + 1, cutA_one hc2, hb, by rw [size_setV]; exact hlt, hbl, fun k hk => ?_⟩
    have h5 := hcl (k + 1) (by simpa using hk)
    simp at h5
    rw [show off + 1 + k = off + (k + 1) by omega]
    rw [← h5]
    exact cell_setV W BL b _ _ (fun e => hbl e.symm)
namespace S
theorem step_pre (q : Nat → Bool) (s : List Nat × List Nat) (x i : Nat) : s.1 ++ (if q 1 then (s.2.takeWhile (fun y => decide (y < x))).take i else []) <+: (step q s x).1 := by
  unfold step
  dsimp only
  split
  · rename_i h
    refine ⟨(s.2.takeWhile (fun y => decide (y < x))).drop i ++ (if q (if (s.2.dropWhile (fun y => decide (y < x))).head? = some x then 2 else 0) then [x] else []), ?_⟩
    rw [← List.append_assoc, List.append_assoc s.1, List.take_append_drop]
  · exact ⟨_, by rw [List.append_assoc]⟩
theorem drop_lo (r : List Nat) (x i : Nat) (h : i < (r.takeWhile (fun y => decide (y < x))).length) : ∃ y, r.drop i = y :: r.drop (i + 1) ∧ y < x ∧ (r.takeWhile (fun y => decide (y < x)))[i]? = some y := by
  have e := List.takeWhile_append_dropWhile (p := fun y => decide (y < x)) (l := r)
  have hi : i < r.length := by
    have := congrArg List.length e
    rw [List.length_append] at this
    omega
  have hy : (r.takeWhile (fun y => decide (y < x)))[i]'h = r[i] := by
    have h1 : r[i]? = ((r.takeWhile (fun y => decide (y < x))) ++ (r.dropWhile (fun y => decide (y < x))))[i]? := by rw [e]
    rw [List.getElem?_append_left h, List.getElem?_eq_getElem h, List.getElem?_eq_getElem hi] at h1
    exact (Option.some.inj h1).symm
  refine ⟨r[i], List.drop_eq_getElem_cons hi, ?_, by rw [List.getElem?_eq_getElem h, hy]⟩
  have h2 := List.all_takeWhile (p := fun y => decide (y < x)) (l := r)
  rw [List.all_eq_true] at h2
  have h3 := h2 _ (List.getElem_mem h)
  rw [hy] at h3
  simpa using h3
theorem drop_hi (r : List Nat) (x : Nat) : r.drop (r.takeWhile (fun y => decide (y < x))).length = r.dropWhile (fun y => decide (y < x)) := by
  have e := List.takeWhile_append_dropWhile (p := fun y => decide (y < x)) (l := r)
  conv => lhs; rw [← e]
  rw [List.takeWhile_append_dropWhile]
  conv => lhs; arg 2; rw [← e]
  rw [List.drop_left]
theorem hi_head (r : List Nat) (x y : Nat) (t : List Nat) (h : r.dropWhile (fun y => decide (y < x)) = y :: t) : ¬ y < x := by
  have h1 := List.head?_dropWhile_not (p := fun y => decide (y < x)) r
  rw [h] at h1
  simpa using h1
end S
end Go.Proofs.Ytepdhjcgpjjjlaa
end
