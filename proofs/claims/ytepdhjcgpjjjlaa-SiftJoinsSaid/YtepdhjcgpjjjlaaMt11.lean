/- sift's join: the iterator walked. -/
import Derived.Laws.EntriesVeiled
import Derived.Test.YtepdhjcgpjjjlaaMt10
namespace Go.Proofs.Ytepdhjcgpjjjlaa
set_option maxRecDepth 20000
open Go.RowKit Go.Shelf
attribute [local go_sem] Oper.semAt_some
attribute [local simp] wide_fnV
set_option maxRecDepth 100000 in
set_option maxHeartbeats 4000000 in
theorem join_seq (w : World) (Ba Bb Bw : Nat) (fa fb : Value) (gw : Nat) (q : Nat → Bool) (xs ys : List Nat) (Za Zb : Nat → Prop) (hq : Wq q gw) (_hlx : xs.length ≤ 10000000) (hly : ys.length ≤ 10000000)
    (ca : w.cell? ⟨Ba, 0, none⟩ = some fa) (cb : w.cell? ⟨Bb, 0, none⟩ = some fb) (cw : w.cell? ⟨Bw, 0, none⟩ = some (.func (.func gw) #[] #[])) (la : Ba < w.heap.size) (lb : Bb < w.heap.size) (lw : Bw < w.heap.size) (ha : Sn Za w fa xs) (hb : Sn Zb w fb ys) (hZa : ∀ j, Za j → j < w.heap.size) (n : Nat) :
    SeqW Fence.wide n Try.prog 39 #[.pointer (some ⟨Bw, 0, none⟩), .pointer (some ⟨Bb, 0, none⟩), .pointer (some ⟨Ba, 0, none⟩)] senc (fun j => j = Bw ∨ Za j) (fun zs => zs = S.jn q xs ys) (fun pre => pre <+: S.jn q xs ys) (fun pre => pre <+: S.jn q xs ys) w := by
  intro l J Jx W hW hJ hJx hY h0
  have HA := Lib.hid (fun V (hV : Below w.heap.size w V) => told_any V fa xs Za (ha.below hV))
  have HB := Lib.hid (fun V (hV : Below w.heap.size w V) => told_any V fb ys Zb (hb.below hV))
  have HC := Lib.hid (fun V (hV : Below w.heap.size w V) => And.intro ((hV.cell (p := ⟨Ba, 0, none⟩) la).trans ca) ((hV.cell (p := ⟨Bb, 0, none⟩) lb).trans cb))
  have hZl : ∀ j, (j = Bw ∨ Za j) → j < w.heap.size := fun j hj => by
    rcases hj with rfl | hj
    · exact lw
    · exact hZa j hj
  obtain ⟨Z, hZ⟩ : ∃ Z, (fun j => j = Bw ∨ Za j) = Z := ⟨_, rfl⟩
  have hZw : Z Bw := by rw [← hZ]; exact .inl rfl
  have hZza : ∀ j, Za j → Z j := fun j hj => by rw [← hZ]; exact .inr hj
  have hZlt : ∀ j, Z j → j < w.heap.size := fun j hj => by rw [← hZ] at hj; exact hZl j hj
  obtain ⟨zs, hzs⟩ : ∃ zs, S.jn q xs ys = zs := ⟨_, rfl⟩
  have hrun : ∀ pre x i, pre ++ [x] <+: xs → (S.run q ys pre).1 ++ (if q 1 then ((S.run q ys pre).2.takeWhile (fun y => decide (y < x))).take i else []) <+: zs := fun pre x i hp => by
    obtain ⟨t, ht⟩ := hp
    rw [← hzs, ← ht]
    refine (S.step_pre q _ x i).trans ?_
    rw [← S.run_snoc]
    exact S.run_mono q ys (pre ++ [x]) t
  have hrun1 : ∀ pre x, pre ++ [x] <+: xs → (S.run q ys (pre ++ [x])).1 <+: zs := fun pre x hp => by
    obtain ⟨t, ht⟩ := hp
    rw [← hzs, ← ht]
    exact S.run_mono q ys (pre ++ [x]) t
  have hEnd : zs = (S.run q ys xs).1 ++ if q 1 then (S.run q ys xs).2 else [] := by rw [← hzs]; rfl
  have hrl : ∀ pre, (S.run q ys pre).2.length ≤ ys.length := fun pre => by
    obtain ⟨d, h⟩ := S.run_suf q ys pre
    have := congrArg List.length h
    rw [List.length_append] at this
    omega
  rw [hzs]
  rw [hzs, hZ] at hY
  have HH : Hid (HV Z zs l (n - 1) J Jx) := Lib.hid ⟨hY⟩
  have HRUN := Lib.hid (And.intro hrun (And.intro hrun1 (And.intro hEnd hrl)))
  have HJ := Lib.hid hJ
  have HJX := Lib.hid hJx
  have H0 := Lib.hid h0
  have HW := Lib.hid hW
  have HQ := Lib.hid hq
  have HCW := Lib.hid cw
  have HZZ := Lib.hid (And.intro hZw (And.intro hZza hZlt))
  have hWs := hW.size
  refine callsIn_wide.2 ((callsIn_wide (n := 9)).1 ?_)
  have hb0 : Below W.heap.size W (W.alloc (.cells #[.func (.yield l) #[] #[]] 56)) := (Below.refl _ W).alloc (Nat.le_refl _) _
  have hr0 : (W.alloc (.cells #[.func (.yield l) #[] #[]] 56)).heap[W.heap.size]? = some (.cells #[.func (.yield l) #[] #[]] 56 (0, 0)) := K.alloc_top _ _
  have hb1 : Below W.heap.size W ((W.alloc (.cells #[.func (.yield l) #[] #[]] 56)).alloc (.cells #[.func (.func 40) #[] #[.pointer (some ⟨Bw, 0, none⟩), .pointer (some ⟨W.heap.size, 0, none⟩)]] 58)) := hb0.alloc (by simp) _
  have hr1 : ((W.alloc (.cells #[.func (.yield l) #[] #[]] 56)).alloc (.cells #[.func (.func 40) #[] #[.pointer (some ⟨Bw, 0, none⟩), .pointer (some ⟨W.heap.size, 0, none⟩)]] 58)).heap[W.heap.size + 1]? = some (.cells #[.func (.func 40) #[] #[.pointer (some ⟨Bw, 0, none⟩), .pointer (some ⟨W.heap.size, 0, none⟩)]] 58 (0, 0)) := alloc_topV _ _ (by simp)
  have hr0' := (Below.heap_alloc (W.alloc (.cells #[.func (.yield l) #[] #[]] 56)) (.cells #[.func (.func 40) #[] #[.pointer (some ⟨Bw, 0, none⟩), .pointer (some ⟨W.heap.size, 0, none⟩)]] 58) W.heap.size (by simp)).trans hr0
  have hs1 : ((W.alloc (.cells #[.func (.yield l) #[] #[]] 56)).alloc (.cells #[.func (.func 40) #[] #[.pointer (some ⟨Bw, 0, none⟩), .pointer (some ⟨W.heap.size, 0, none⟩)]] 58)).heap.size = W.heap.size + 2 := by simp
  have hw1 := hW.trans (hb1.mono hWs)
  have xb := (HC.out _ hw1).2
  have HB1 := Lib.hid (And.intro hb1 (And.intro hr0' (And.intro hr1 hs1)))
  have HB0 := Lib.hid (HB.out _ hw1)
  clear hq ca cb cw la lb lw ha hb hZa hW hJ hJx hY h0 hZl hZ hZw hZza hZlt hzs hrun hrun1 hEnd hrl hr0 hb0 hb1 hr1 hr0' hw1 _hlx
  refine callsIn_of_wp_marks Try.func39 rfl trivial ?_ rfl
  simp only [Try.ntmps39, List.size_toArray, List.length_cons, List.length_nil, Nat.reduceAdd, Nat.reduceSub, Array.replicate_succ, Array.replicate_zero, List.push_toArray, List.append_toArray, List.nil_append, List.cons_append]
  gi_wp2_with (first
    | (gi_at_call 35; refine (callsIn_wide.2 HA3.out).mono ?_; rintro e w4 ⟨f4, g4, lb4, Z4, rfl, hs4, hz4, hb4⟩; have HS4 := Lib.hid (And.intro hs4 (And.intro hz4 hb4)); clear hs4 hz4 hb4)
    | (gi_at_call 35; refine (callsIn_wide.2 HB0.out).mono ?_; rintro e w1 ⟨f1, g1, lb1, Z1, rfl, hs, hz, hbl⟩; have hsz1 := hbl.size; rw [hs1] at hsz1; have HS1 := Lib.hid (And.intro (collect_seq w1 f1 ys g1 lb1 Z1 hs (by omega)) hbl); clear hs hz hbl)
    | (gi_at_call 37; refine (callsIn_wide.2 HS1.out.1).mono ?_; rintro e w2 ⟨v, rfl, ho, hbl⟩
       obtain ⟨A0, c0, rfl⟩ := K.own_form ho
       have hsz2 := hbl.size
       have hb3 : Below W.heap.size W (w2.alloc (.cells #[.slice A0 ys.length c0] 22)) := ((HB1.out.1.trans (HS1.out.2.mono (by omega))).trans (hbl.mono (by omega))).alloc (by omega) _
       have hw3 := HW.out.trans (hb3.mono hWs)
       have xa := (HC.out _ hw3).1
       have HA3 := Lib.hid (HA.out _ hw3)
       have HS2 := Lib.hid (And.intro ho (And.intro hbl hb3))
       clear ho hbl hb3 hw3))
  have hf4 := HS4.out.1.f
  subst hf4
  obtain ⟨BL, hBL⟩ : ∃ BL, w2.heap.size = BL := ⟨_, rfl⟩
  obtain ⟨Rt0, hRt⟩ : ∃ Rt0 : Nat → Prop, (fun j => j = BL ∨ A0.map (·.block) = some j) = Rt0 := ⟨_, rfl⟩
  obtain ⟨SS, hS⟩ : ∃ SS : Nat → Prop, (fun j => (W.heap.size ≤ j ∧ j < w4.heap.size) ∧ ¬ Rt0 j) = SS := ⟨_, rfl⟩
  have hb4 := HS4.out.2.2
  have hz4 := HS4.out.2.1
  have hs3 : (w2.alloc (.cells #[.slice A0 ys.length c0] 22)).heap.size = BL + 1 := by simp [hBL]
  have hs4 := hb4.size
  rw [hs3] at hs4 hz4
  have hB4 : Below W.heap.size W w4 := HS2.out.2.2.trans (hb4.mono HS2.out.2.2.size)
  have hrowBL : w4.heap[BL]? = some (.cells #[.slice A0 ys.length c0] 22 (0, 0)) := (hb4.block BL (by rw [hs3]; omega)).trans (alloc_topV _ _ hBL.symm)
  have hbl2 := HS2.out.2.1
  have hsz2 := hbl2.size
  have hA1 : w4.heap[W.heap.size + 1]? = some (.cells #[.func (.func 40) #[] #[.pointer (some ⟨Bw, 0, none⟩), .pointer (some ⟨W.heap.size, 0, none⟩)]] 58 (0, 0)) := by
    refine (hb4.block _ (by rw [hs3]; omega)).trans ((Below.heap_alloc _ _ _ (by omega)).trans ((hbl2.block _ (by omega)).trans ((HS1.out.2.block _ (by rw [hs1]; omega)).trans HB1.out.2.2.1)))
  have hA0 : w4.heap[W.heap.size]? = some (.cells #[.func (.yield l) #[] #[]] 56 (0, 0)) := by
    refine (hb4.block _ (by rw [hs3]; omega)).trans ((Below.heap_alloc _ _ _ (by omega)).trans ((hbl2.block _ (by omega)).trans ((HS1.out.2.block _ (by rw [hs1]; omega)).trans HB1.out.2.1)))
  have hkv : KX w2 (.slice A0 ys.length c0) ys := rowV HS2.out.1
  have hrb : ∀ j, A0.map (·.block) = some j → w1.heap.size ≤ j ∧ j < BL := fun j hj => by
    have := HS2.out.1.lt j (own_map.2 hj)
    exact ⟨this.1, by omega⟩
  have hRl : ∀ j, Rt0 j → W.heap.size + 2 ≤ j ∧ j < w4.heap.size := fun j hj => by
    rw [← hRt] at hj
    rcases hj with rfl | hj
    · exact ⟨by omega, by omega⟩
    · have := hrb j hj
      exact ⟨by omega, by omega⟩
  have hZq : ∀ j, Z j → j < W.heap.size := fun j hj => by have := HZZ.out.2.2 j hj; omega
  have hZ4 : ∀ j, Z j → j < w4.heap.size := fun j hj => by have := hZq j hj; omega
  have hSl : ∀ j, SS j → j < w4.heap.size ∧ ¬ Z j := fun j hj => by
    rw [← hS] at hj
    exact ⟨hj.1.2, fun hz => by have := hZq j hz; omega⟩
  have hS0 : SS W.heap.size := by rw [← hS]; exact ⟨⟨by omega, by omega⟩, fun h => by have := hRl _ h; omega⟩
  have hS1 : SS (W.heap.size + 1) := by rw [← hS]; exact ⟨⟨by omega, by omega⟩, fun h => by have := hRl _ h; omega⟩
  have hlb : LB BL Rt0 ys Rt0 w4 := by
    refine ⟨fun j hj => hj, by rw [← hRt]; exact .inl rfl, A0, c0, hrowBL, ?_, fun hne => ?_⟩
    · rcases hkv.form with ⟨e, e2⟩ | ⟨g, cc, hv, hc, _⟩
      · rw [e2]; simp
      · injection hv with _ _ e3
        rw [e3]; exact hc
    · rcases hkv.form with ⟨e, e2⟩ | ⟨g, cc, hv, _, hgl, hcell⟩
      · exact absurd e2 hne
      · injection hv with e1 _ _
        refine ⟨g, 0, e1, by rw [← hRt]; exact .inr (by rw [e1]; rfl), by omega, by omega, fun k hk => ?_⟩
        have hg2 : g < w2.heap.size := hgl
        rw [Nat.zero_add, ← hcell k hk]
        exact (hb4.cell (p := ⟨g, k, none⟩) (by rw [hs3]; show g < BL + 1; omega)).trans (((Below.refl _ w2).alloc (Nat.le_refl _) _).cell (p := ⟨g, k, none⟩) hg2)
  have hJq : IKY Z SS w4 (LB BL Rt0 (S.run q ys []).2) J (S.run q ys []).1 (fun j => j < w4.heap.size ∧ ¬ Z j ∧ ¬ SS j) w4 := by
    refine ⟨Rt0, fun j hj => ⟨hj.2.1, hj.2.2, hj.1⟩, fun j hj => ⟨(hRl j hj).2, fun hz => by have := hZq j hz; have := (hRl j hj).1; omega, fun hs => by rw [← hS] at hs; exact hs.2 hj⟩, ButS.refl _ _, hlb, ?_⟩
    refine HJ.out _ _ _ _ _ H0.out (ButS.of_below hB4 (Nat.le_refl _)) (fun j hj => ⟨.inr ?_, hj.1⟩)
    rcases hj.2.2 with h | h
    · have : SS j := Classical.byContradiction fun h2 => h ⟨hj.1, hj.2.1, h2⟩
      rw [← hS] at this
      exact this.1.1
    · have := (hRl j h).1
      omega
  have hcells : ∀ V, ButS w4 V (fun j => ¬ (Z j ∨ SS j)) → V.cell? ⟨Bw, 0, none⟩ = some (.func (.func gw) #[] #[]) ∧ V.cell? ⟨W.heap.size, 0, none⟩ = some (.func (.yield l) #[] #[]) ∧ V.cell? ⟨W.heap.size + 1, 0, none⟩ = some (.func (.func 40) #[] #[.pointer (some ⟨Bw, 0, none⟩), .pointer (some ⟨W.heap.size, 0, none⟩)]) := fun V hV => by
    refine ⟨?_, ?_, ?_⟩
    · exact (hV.cell (hZ4 _ HZZ.out.1) (fun h => h (.inl HZZ.out.1)) 0).trans ((hB4.cell (p := ⟨Bw, 0, none⟩) (hZq _ HZZ.out.1)).trans ((HW.out.cell (p := ⟨Bw, 0, none⟩) (HZZ.out.2.2 _ HZZ.out.1)).trans HCW.out))
    · exact (hV.cell (hSl _ hS0).1 (fun h => h (.inr hS0)) 0).trans (cell_of_row _ _ 0 _ _ (0, 0) hA0)
    · exact (hV.cell (hSl _ hS1).1 (fun h => h (.inr hS1)) 0).trans (cell_of_row _ _ 0 _ _ (0, 0) hA1)
  have HCL := Lib.hid hcells
  have HTELL : Hid (∀ (V : World) (out : List Nat) (R : Nat → Prop) (k t : Nat), ButS w4 V (fun j => ¬ (Z j ∨ SS j)) → t ≤ 2 → J out R V → out ++ tl q t k <+: zs → Calls Try.prog 40 #[.int .u64 (k : Int), .int .i64 (t : Int), .pointer (some ⟨Bw, 0, none⟩), .pointer (some ⟨W.heap.size, 0, none⟩)] V fun e W' =>
      ((e = .returned (.bool true) ∧ J (out ++ tl q t k) R W') ∨ (e = .returned (.bool false) ∧ Jx (out ++ tl q t k) R W')) ∧ ButS V W' (fun j => ¬ (Z j ∨ R j))) :=
    Lib.hid (fun V out R k t hV ht hj hp => tell_v V Bw W.heap.size gw l (n - 1) k t q HQ.out ht (hcells V hV).1 (hcells V hV).2.1 Z zs J Jx HH.out out R hj hp)
  have hZ4a : ∀ j, Z4 j → Z j ∨ SS j := fun j hj => by
    rcases hz4 j hj with h | h
    · exact .inl (HZZ.out.2.1 j h)
    · refine .inr ?_
      rw [← hS]
      refine ⟨⟨by omega, HS4.out.1.lt j hj⟩, fun hr => ?_⟩
      rw [← hRt] at hr
      rcases hr with e | e
      · omega
      · have := hrb j e
        omega
  have HZ4A := Lib.hid hZ4a
  have HSL := Lib.hid hSl
  have HZ4 := Lib.hid hZ4
  have HRL := Lib.hid hRl
  have HRBL : Hid (Rt0 BL) := Lib.hid (by rw [← hRt]; exact .inl rfl)
  have HS41 := Lib.hid HS4.out.1
  have HBL := Lib.hid hBL
  have HSZ : Hid (W.heap.size + 2 ≤ BL ∧ BL < w4.heap.size) := Lib.hid ⟨by omega, by omega⟩
  have HTE : Hid (∀ (V : World) (O9 : Nat → Prop) (rest9 out9 : List Nat) (k t : Nat), t ≤ 2 → IKY Z SS w4 (LB BL Rt0 rest9) J out9 O9 V → out9 ++ tl q t k <+: zs → Calls Try.prog 40 #[.int .u64 (k : Int), .int .i64 (t : Int), .pointer (some ⟨Bw, 0, none⟩), .pointer (some ⟨W.heap.size, 0, none⟩)] V fun e W' =>
      (e = .returned (.bool true) ∧ ∃ O', OwnStep O9 O' V W' ∧ IKY Z SS w4 (LB BL Rt0 rest9) J (out9 ++ tl q t k) O' W') ∨ (e = .returned (.bool false) ∧ ∃ O', OwnStep O9 O' V W' ∧ IKY Z SS w4 (LB BL Rt0 rest9) Jx (out9 ++ tl q t k) O' W')) :=
    Lib.hid (fun V O9 rest9 out9 k t ht hi hp => by
      obtain ⟨Rt9, r1, r2, r3, r4, r5⟩ := hi
      refine (HTELL.out V out9 _ k t r3 ht r5 hp).mono ?_
      rintro e W2 ⟨⟨rfl, hj2⟩ | ⟨rfl, hj2⟩, hb2⟩
      · obtain ⟨O4, ho4, hI4⟩ := IKY.next r1 r2 r3 r4 HJ.out lb_fr HSL.out hj2 hb2
        exact .inl ⟨rfl, O4, ho4, hI4⟩
      · obtain ⟨O4, ho4, hI4⟩ := IKY.next r1 r2 r3 r4 HJX.out lb_fr HSL.out hj2 hb2
        exact .inr ⟨rfl, O4, ho4, hI4⟩)
  rw [hBL]
  clear hcells hZ4a hZ4 hSl hRl hRt hS hb4 hz4 hs3 hs4 hB4 hrowBL hbl2 hsz2 hA1 hA0 hkv hrb hZq hlb hBL hS0 hS1 HS4 HS2 HS1 HA3 HB0 HB1 HA HB HC hs1 xb xa
  refine wpIn_rangeW (Q := _) rfl (by decide) (gf := g4) (lb := lb4) rfl trivial HS41.out.ent (HS41.out.seq 8) (fun j hj => HS41.out.lt j hj) (Below.refl _ _) (fun _ => rfl)
    (fun pre O W' => IKY Z SS w4 (LB BL Rt0 (S.run q ys pre).2) J (S.run q ys pre).1 O W' ∧ pre <+: xs)
    (fun c pre O W' => c = .ret ∧ ∃ out rest, out <+: zs ∧ IKY Z SS w4 (LB BL Rt0 rest) Jx out O W')
    (fun pp a1 O W' => a1 = { tmps := #[.func (.yield l) #[] #[], .pointer (some ⟨Bw, 0, none⟩), .pointer (some ⟨Bb, 0, none⟩), .pointer (some ⟨Ba, 0, none⟩), .pointer (some ⟨W.heap.size, 0, none⟩), .pointer (some ⟨W.heap.size + 1, 0, none⟩), .pointer (some ⟨BL, 0, none⟩), .int .u64 (pp.2 : Int), undef, undef, undef, .func (.func 40) #[] #[.pointer (some ⟨Bw, 0, none⟩), .pointer (some ⟨W.heap.size, 0, none⟩)], fb, f1, .slice A0 ys.length c0, fa, .func (.func g4) #[] lb4, .int .u64 (pp.2 : Int), undef, undef, undef, undef, undef, undef, undef, undef, undef, undef, undef, undef, undef, undef, undef, undef, undef, undef, undef, undef, undef, undef, undef, undef, undef, undef, undef, undef, undef, undef, undef, undef, undef, undef, undef, undef, undef, undef, undef, undef, undef, undef, undef, undef, undef, undef], defers := [] } ∧ pp.1 ++ [pp.2] <+: xs ∧ IKY Z SS w4 (LB BL Rt0 (S.run q ys pp.1).2) J (S.run q ys pp.1).1 O W')
    ?hI ?hIx ?hA (fun pre O W' hi j hj hz => by
      obtain ⟨⟨Rt, h1, _⟩, _⟩ := hi
      rcases HZ4A.out j hz with h | h
      · exact (h1 j hj).1 h
      · exact (h1 j hj).2.1 h)
    (fun j => j < w4.heap.size ∧ ¬ Z j ∧ ¬ SS j) (fun j hj => hj.1) ⟨hJq, List.nil_prefix⟩ ?assign ?body ?done ?stop
  case hI =>
    intro s O W' W'' R hi hw hR
    exact ⟨IKY.abides (fun _ : List Nat => (S.run q ys s).1) HJ.out lb_fr HZ4.out [] O W' W'' R hi.1 hw hR, hi.2⟩
  case hIx =>
    intro c s O W' W'' R hi hw hR
    obtain ⟨e, out, rest, h1, h2⟩ := hi
    exact ⟨e, out, rest, h1, IKY.abides (fun _ : List Nat => out) HJX.out lb_fr HZ4.out [] O W' W'' R h2 hw hR⟩
  case hA =>
    intro a' s O W' W'' R hi hw hR
    exact ⟨hi.1, hi.2.1, IKY.abides (fun _ : List Nat => (S.run q ys s.1).1) HJ.out lb_fr HZ4.out [] O W' W'' R hi.2.2 hw hR⟩
  case assign =>
    intro l2 pre y O1 W' hi hT1
    gi_wp2
    exact ⟨O1, ⟨ButS.refl _ _, fun j hj => ⟨.inl hj, by obtain ⟨⟨Rt, h1, _⟩, _⟩ := hi; exact (h1 j hj).2.2⟩⟩, by first | trivial | rfl, hT1, hi.1⟩
  case body =>
    rintro l2 pre x O1 a1 Wc ⟨rfl, hpx, hi⟩
    obtain ⟨s, hs⟩ : ∃ s, S.run q ys pre = s := ⟨_, rfl⟩
    have hs2 : S.run q ys (pre ++ [x]) = S.step q s x := by rw [S.run_snoc, hs]
    have hrl := HRUN.out.2.2.2 pre
    have hpre1 := fun i => HRUN.out.1 pre x i hpx
    have hpre2 := HRUN.out.2.1 pre x hpx
    rw [hs] at hrl hi
    simp only [hs] at hpre1
    rw [hs2] at hpre2
    obtain ⟨out, rest⟩ := s
    dsimp only at hrl hpre1 hpre2 hi
    have hdl := S.drop_lo rest x
    have hdh := S.drop_hi rest x
    have hhh := S.hi_head rest x
    have hst1 : (S.step q (out, rest) x).1 = out ++ (if q 1 then rest.takeWhile (fun y => decide (y < x)) else []) ++ tl q (if (rest.dropWhile (fun y => decide (y < x))).head? = some x then 2 else 0) x := rfl
    have hst2 : (S.step q (out, rest) x).2 = if (rest.dropWhile (fun y => decide (y < x))).head? = some x then (rest.dropWhile (fun y => decide (y < x))).tail else rest.dropWhile (fun y => decide (y < x)) := rfl
    obtain ⟨st, hst⟩ : ∃ st, S.step q (out, rest) x = st := ⟨_, rfl⟩
    rw [hst] at hst1 hst2 hs2 hpre2
    obtain ⟨lo, hlo⟩ : ∃ lo, rest.takeWhile (fun y => decide (y < x)) = lo := ⟨_, rfl⟩
    obtain ⟨hi', hhi'⟩ : ∃ hi', rest.dropWhile (fun y => decide (y < x)) = hi' := ⟨_, rfl⟩
    simp only [hlo] at hpre1 hdl hst1
    rw [hlo, hhi'] at hdh
    rw [hhi'] at hst1 hst2 hhh
    have hlr : ∀ i, (rest.drop i).length ≤ 10000000 := fun i => by rw [List.length_drop]; omega
    have hI0 : IKY Z SS w4 (LB BL Rt0 (rest.drop 0)) J (out ++ if q 1 then lo.take 0 else []) O1 Wc := by
      rw [List.drop_zero, List.take_zero]
      simpa using hi
    have hos0 : OwnStep O1 O1 Wc Wc := ⟨ButS.refl _ _, fun j hj => ⟨.inl hj, by obtain ⟨Rt, h1, _⟩ := hi; exact (h1 j hj).2.2⟩⟩
    have HI0 := Lib.hid hI0
    have HOS0 := Lib.hid hos0
    have HPX := Lib.hid hpx
    have HS2 := Lib.hid (And.intro hs2 (And.intro hst1 (And.intro hst2 hpre2)))
    have HPRE := Lib.hid hpre1
    have HDL := Lib.hid hdl
    have HDH := Lib.hid (And.intro hdh hhh)
    have HLR := Lib.hid hlr
    clear hI0 hos0 hpx hs2 hst1 hst2 hpre1 hpre2 hdl hdh hhh hlr hi hs hst hlo hhi' hrl
    gi_wp2
    gi_loopw [] (fun wr => ∃ (i : Nat) (O3 : Nat → Prop), i ≤ lo.length ∧ Hid (OwnStep O1 O3 Wc wr) ∧ Hid (IKY Z SS w4 (LB BL Rt0 (rest.drop i)) J (out ++ if q 1 then lo.take i else []) O3 wr)) (fun wr => slen (wr.cell? ⟨BL, 0, none⟩))
    case atStart => exact ⟨0, O1, by omega, HOS0, HI0⟩
    case round =>
      obtain ⟨i, O3, hi1, HO3, HI3⟩ := hrel
      clear HI0 HOS0
      obtain ⟨Rt3, q1, q2, q3, q4, q5⟩ := HI3.out
      obtain ⟨p1, p2, A, c, prow, pc, pn⟩ := q4
      have xBL : wr.cell? ⟨BL, 0, none⟩ = some (.slice A (rest.drop i).length c) := cell_of_row wr _ 0 _ _ (0, 0) prow
      have fBL := frozen_of_row wr _ 0 _ _ prow
      have hLL := HLR.out i
      clear q1 q2 q5 p1 p2
      rcases Nat.lt_or_ge i lo.length with hlt | hge
      · obtain ⟨y, hd, hyx, hly⟩ := HDL.out i hlt
        obtain ⟨b, off, rfl, hb0, hbl, hbne, hcl⟩ := pn (by rw [hd]; simp)
        have xe := hcl 0 (by rw [hd]; simp)
        simp only [hd, List.getElem_cons_zero, Nat.add_zero] at xe
        have hLm : (rest.drop i).length = (rest.drop (i + 1)).length + 1 := by rw [hd]; rfl
        obtain ⟨L, hL⟩ : ∃ L, (rest.drop i).length = L := ⟨_, rfl⟩
        rw [hL] at xBL prow pc hLL hLm
        have gL : (0 : Int) < (L : Int) := by omega
        have gL2 : 0 < L := by omega
        have g1 : decide ((0 : Int) < (L : Int)) = true := decide_eq_true gL
        have g2 : decide (0 < L) = true := decide_eq_true gL2
        have g3 : decide ((y : Int) < (x : Int)) = true := decide_eq_true (by omega)
        have g4 : decide (y < x) = true := decide_eq_true hyx
        have xs4 := (HCL.out wr q3).2.2
        have hdr : ButS wr wr.drew (fun _ => False) := (ButS.refl wr _).drewN 1
        have HI4 := Lib.hid (IKY.abides (fun _ : List Nat => out ++ if q 1 then lo.take i else []) HJ.out lb_fr HZ4.out [] O3 wr wr.drew (fun _ => False) HI3.out hdr (fun _ h => h.elim))
        have HO4 := Lib.hid (HO3.out.trans (show OwnStep O3 O3 wr wr.drew from ⟨(ButS.refl wr _).drewN 1, fun j hj => ⟨.inl hj, by obtain ⟨Rt, h1, _⟩ := HI3.out; exact (h1 j hj).2.2⟩⟩))
        have HM := Lib.hid (And.intro hd (And.intro hL (And.intro hly (And.intro hb0 (And.intro hbne hLm)))))
        have HQ3 := Lib.hid q3
        have hSS : wr.drew.cell? ⟨W.heap.size + 1, 0, none⟩ = some (.func (.func 40) #[] #[.pointer (some ⟨Bw, 0, none⟩), .pointer (some ⟨W.heap.size, 0, none⟩)]) ∧ wr.drew.cell? ⟨BL, 0, none⟩ = some (.slice (some ⟨b, off, none⟩) L c) ∧ wr.drew.cell? ⟨b, off, none⟩ = some (.int .u64 (y : Int)) := ⟨xs4, xBL, xe⟩
        have HSS := Lib.hid hSS
        clear hd hL hly hb0 hbne hLm hSS hdr prow pn hcl q3 hyx hbl pc fBL
        gi_wp2
        refine wpIn_region_held_round (fun V => V.cell? ⟨W.heap.size + 1, 0, none⟩ = some (.func (.func 40) #[] #[.pointer (some ⟨Bw, 0, none⟩), .pointer (some ⟨W.heap.size, 0, none⟩)]) ∧ V.cell? ⟨BL, 0, none⟩ = some (.slice (some ⟨b, off, none⟩) L c) ∧ V.cell? ⟨b, off, none⟩ = some (.int .u64 (y : Int))) (by kernel_rfl) (by kernel_rfl) ?lo HSS.out (fun hSd => ?_)
        case lo => exact fun ⟨_, _, h⟩ => h
        refine wpAnyH_take (i := 0) (oi := _) (v := .func (.func 40) #[] #[.pointer (some ⟨Bw, 0, none⟩), .pointer (some ⟨W.heap.size, 0, none⟩)]) rfl (by kernel_rfl) (by kernel_rfl) (by kernel_rfl) (fun _ _ _ h => h) (Or.inl ⟨by rfl, ?_⟩) (by assumption) ?_
        · intro w hSw; obtain ⟨q1, q2, q3⟩ := hSw; go_simp
        try simp only [Act.put, List.setIfInBounds_toArray]
        refine wpAnyH_take (i := 1) (oi := _) (v := .slice (some ⟨b, off, none⟩) L c) rfl (by kernel_rfl) (by kernel_rfl) (by kernel_rfl) (fun _ _ _ h => h) (Or.inl ⟨by rfl, ?_⟩) (by assumption) ?_
        · intro w hSw; obtain ⟨q1, q2, q3⟩ := hSw; go_simp
        try simp only [Act.put]
        refine wpAnyH_take (i := 2) (oi := _) (v := .pointer (some ⟨b, off, none⟩)) rfl (by kernel_rfl) (by kernel_rfl) (by kernel_rfl) (fun _ _ _ h => h) (Or.inl ⟨by rfl, ?_⟩) (by assumption) ?_
        · intro w hSw; obtain ⟨q1, q2, q3⟩ := hSw; go_simp
        try simp only [Act.put]
        refine wpAnyH_take (i := 3) (oi := _) (v := .int .u64 (y : Int)) rfl (by kernel_rfl) (by kernel_rfl) (by kernel_rfl) (fun _ _ _ h => h) (Or.inl ⟨by rfl, ?_⟩) (by assumption) ?_
        · intro w hSw; obtain ⟨q1, q2, q3⟩ := hSw; go_simp
        try simp only [Act.put]
        refine wpAnyH_ready (rs := [4]) (by kernel_rfl) (by simp) ?_
        refine AllReadyH.cons rfl (fun K hK => ?_) AllReadyH.nil
        go_simp
        have eq1 : (out ++ if q 1 then lo.take i else []) ++ tl q 1 y = out ++ if q 1 then lo.take (i + 1) else [] := by
          unfold tl
          have hly := HM.out.2.2.1
          by_cases h : q 1 = true
          · rw [if_pos h, if_pos h, if_pos h, List.take_add_one, hly, List.append_assoc]; rfl
          · rw [if_neg h, if_neg h, if_neg h, List.append_nil]
        obtain ⟨Rt5, r1, r2, r3, r4, r5⟩ := HI4.out
        have hRR : ∀ j, Rt0 j → j < wr.drew.heap.size ∧ ¬ Z j ∧ (¬ O3 j ∨ Rt5 j) := fun j hj => ⟨(r1 j (r2 j (r4.1 j hj))).2.2, (r1 j (r2 j (r4.1 j hj))).1, .inr (r4.1 j hj)⟩
        have ht := HTELL.out wr.drew (out ++ if q 1 then lo.take i else []) _ y 1 r3 (by omega) r5 (by rw [eq1]; exact HPRE.out (i + 1))
        refine ht.mono ?_
        clear ht
        rintro e W2 ⟨⟨rfl, hj2⟩ | ⟨rfl, hj2⟩, hb2⟩
        · obtain ⟨O4, ho4, hI4⟩ := IKY.next r1 r2 r3 r4 HJ.out lb_fr HSL.out hj2 hb2
          rw [eq1] at hI4
          have hc1 := (HCL.out W2 (by obtain ⟨_, _, _, h2, _⟩ := hI4; exact h2)).2.2
          have hc2 := (hb2.cell (hRR BL HRBL.out).1 (fun h => h (.inr (hRR BL HRBL.out))) 0).trans HSS.out.2.1
          have hc3 := (hb2.cell (hRR b HM.out.2.2.2.1).1 (fun h => h (.inr (hRR b HM.out.2.2.2.1))) off).trans HSS.out.2.2
          have HC4 := Lib.hid (And.intro hc1 (And.intro hc2 hc3))
          have HO5 := Lib.hid (HO4.out.trans ho4)
          have hI5 := hI4
          obtain ⟨Rt6, s1, s2, s3, s4, s5⟩ := hI4
          have hrow6 : ∃ A6 c6, W2.heap[BL]? = some (.cells #[.slice A6 (rest.drop i).length c6] 22 (0, 0)) := by
            obtain ⟨_, _, A6, c6, h6, _⟩ := s4
            exact ⟨A6, c6, h6⟩
          obtain ⟨A6, c6, row6⟩ := hrow6
          have hL1 : (rest.drop (i + 1)).length = L - 1 := by have := HM.out.2.2.2.2.2; omega
          have hW3 : ∃ O5, OwnStep O4 O5 W2 (W2.setCell ⟨BL, 0, none⟩ (.slice (Kb.cutA A6 1 c6) (L - 1) (c6 - 1))) ∧ IKY Z SS w4 (LB BL Rt0 (rest.drop (i + 1))) J (out ++ if q 1 then lo.take (i + 1) else []) O5 (W2.setCell ⟨BL, 0, none⟩ (.slice (Kb.cutA A6 1 c6) (L - 1) (c6 - 1))) := by
            refine IKY.wrote (Y := LB BL Rt0 (rest.drop (i + 1))) s1 s2 s3 s5 HJ.out HZ4.out (fun j hj => (HSL.out j hj).1) (but_set' W2 BL 0 _ Rt6 (s4.1 BL HRBL.out)) ?_
            have hd := HM.out.1
            have row7 := row6
            rw [hd] at s4 row7
            have := LB.tail s4 row7 (Rt' := fun j => Rt6 j ∨ (W2.heap.size ≤ j ∧ j < (W2.setCell ⟨BL, 0, none⟩ (.slice (Kb.cutA A6 1 c6) (L - 1) (c6 - 1))).heap.size)) (fun j hj => .inl hj)
            rw [hL1] at this
            exact this
          rw [HM.out.2.1] at row6
          have z6 : W2.cell? ⟨BL, 0, none⟩ = some (.slice A6 L c6) := cell_of_row W2 _ 0 _ _ (0, 0) row6
          have f6 := frozen_of_row W2 _ 0 _ _ row6
          have m6 : (W2.setCell ⟨BL, 0, none⟩ (.slice (Kb.cutA A6 1 c6) (L - 1) (c6 - 1))).cell? ⟨BL, 0, none⟩ = some (.slice (Kb.cutA A6 1 c6) (L - 1) (c6 - 1)) := by
            have := row_set row6 0 (.slice (Kb.cutA A6 1 c6) (L - 1) (c6 - 1))
            exact cell_of_row _ _ 0 _ _ (0, 0) (by simpa using this)
          have hms : slen ((W2.setCell ⟨BL, 0, none⟩ (.slice (Kb.cutA A6 1 c6) (L - 1) (c6 - 1))).cell? ⟨BL, 0, none⟩) < slen (wr.cell? ⟨BL, 0, none⟩) := by
            rw [m6, xBL]
            show L - 1 < L
            omega
          have HMS := Lib.hid hms
          obtain ⟨kk1, kk2⟩ := Kb.cut_l A6 L c6 1 1 rfl gL2
          have HW3 := Lib.hid hW3
          refine hK.out _ _ HC4.out (fun hHeld => ?_)
          clear hK K
          clear hj2 hb2 ho4 hI5 s1 s2 s3 s4 s5 row6 hW3 hc1 hc2 hc3 r1 r2 r3 r4 r5 hRR hms m6 hL1 xe
          try simp only [Act.put, List.setIfInBounds_toArray, List.set_cons_zero, List.set_cons_succ]
          refine wpAnyH_ready (rs := [5]) (by kernel_rfl) (by simp) ?_
          refine AllReadyH.cons rfl (fun K hK => ?_) AllReadyH.nil
          go_simp
          refine hK.out _ _ HC4.out (fun hHeld => ?_)
          clear hK K
          try simp only [Act.put, List.setIfInBounds_toArray, List.set_cons_zero, List.set_cons_succ]
          refine wpAnyH_done (by kernel_rfl) ?_ _
          clear hHeld hSd
          generalize hV3 : W2.setCell ⟨BL, 0, none⟩ (.slice (Kb.cutA A6 1 c6) (L - 1) (c6 - 1)) = V3 at HW3 HMS
          gi_wp2
          obtain ⟨O6, ho6, hI6⟩ := HW3.out
          exact ⟨⟨i + 1, O6, by omega, Lib.hid (HO5.out.trans ho6), Lib.hid hI6⟩, HMS.out⟩
        · obtain ⟨O4, ho4, hI4⟩ := IKY.next r1 r2 r3 r4 HJX.out lb_fr HSL.out hj2 hb2
          have hc1 := (HCL.out W2 (by obtain ⟨_, _, _, h2, _⟩ := hI4; exact h2)).2.2
          have hc2 := (hb2.cell (hRR BL HRBL.out).1 (fun h => h (.inr (hRR BL HRBL.out))) 0).trans HSS.out.2.1
          have hc3 := (hb2.cell (hRR b HM.out.2.2.2.1).1 (fun h => h (.inr (hRR b HM.out.2.2.2.1))) off).trans HSS.out.2.2
          have HC4 := Lib.hid (And.intro hc1 (And.intro hc2 hc3))
          have HI5 := Lib.hid hI4
          have HO5 := Lib.hid (HO4.out.trans ho4)
          have HPR := Lib.hid (show (out ++ if q 1 then lo.take i else []) ++ tl q 1 y <+: zs by rw [eq1]; exact HPRE.out (i + 1))
          refine hK.out _ _ HC4.out (fun hHeld => ?_)
          clear hK K
          clear hj2 hb2 ho4 hI4 hc1 hc2 hc3 r1 r2 r3 r4 r5 hRR xe eq1
          try simp only [Act.put, List.setIfInBounds_toArray, List.set_cons_zero, List.set_cons_succ]
          refine wpAnyH_ready (rs := [5]) (by kernel_rfl) (by simp) ?_
          refine AllReadyH.cons rfl (fun K hK => ?_) AllReadyH.nil
          go_simp
          refine hK.out _ _ HC4.out (fun hHeld => ?_)
          clear hK K
          try simp only [Act.put, List.setIfInBounds_toArray, List.set_cons_zero, List.set_cons_succ]
          refine wpAnyH_done (by kernel_rfl) ?_ _
          clear hHeld hSd
          gi_wp2
          exact ⟨O4, HO5.out, rfl, _, _, HPR.out, HI5.out⟩
      · obtain rfl : i = lo.length := by omega
        have hdd := HDH.out.1
        rw [hdd] at xBL prow pc pn hLL
        have hI3 := HI3.out
        rw [hdd, List.take_of_length_le (Nat.le_refl _)] at hI3
        have xs4 := (HCL.out wr q3).2.2
        have hh9 := HDH.out.2
        clear HI3 hdd q3
        cases hi' with
        | nil =>
          have e1 := HS2.out.2.1
          have e2 := HS2.out.2.2.1
          have hh0 : ([] : List Nat).head? ≠ some x := by simp
          rw [if_neg hh0] at e1 e2
          have hp2 := HS2.out.2.2.2
          rw [e1] at hp2
          have htt : Calls Try.prog 40 #[.int .u64 (x : Int), .int .i64 0, .pointer (some ⟨Bw, 0, none⟩), .pointer (some ⟨W.heap.size, 0, none⟩)] wr _ := HTE.out wr O3 _ _ x 0 (by omega) hI3 hp2
          have HTT := Lib.hid htt
          have HE := Lib.hid (And.intro e1 e2)
          have HP2 := Lib.hid hp2
          have HOX := HO3
          clear e1 e2 hp2 hh0 prow pc pn htt hI3 hh9
          simp only [List.length_nil] at xBL
          gi_wp2_with (gi_at_call 40; refine (CallsIn.inRound l2 (callsIn_wide.2 HTT.out)).mono ?_; (rintro e W2 (⟨rfl, O9, ho9, hI9⟩ | ⟨rfl, O9, ho9, hI9⟩) <;> (have H9 := Lib.hid (And.intro ho9 hI9); clear ho9 hI9)))
          · obtain ⟨ho9, hI9⟩ := H9.out
            refine ⟨O9, HOX.out.trans ho9, ?_, HPX.out⟩
            rw [HS2.out.1]
            rw [← HE.out.1, ← HE.out.2] at hI9
            exact hI9
          · obtain ⟨ho9, hI9⟩ := H9.out
            exact ⟨O9, HOX.out.trans ho9, rfl, _, _, HP2.out, hI9⟩
        | cons y t =>
          obtain ⟨b, off, rfl, hb0, hbl, hbne, hcl⟩ := pn (by simp)
          have xe : wr.cell? ⟨b, off, none⟩ = some (.int .u64 (y : Int)) := hcl 0 (by simp)
          have hnl := hh9 y t rfl
          obtain ⟨L, hL⟩ : ∃ L, (y :: t).length = L := ⟨_, rfl⟩
          have hL0 : t.length + 1 = L := by rw [← hL]; rfl
          have prow' := prow
          rw [hL] at xBL prow pc hLL
          have gL : (0 : Int) < (L : Int) := by omega
          have gL2 : 0 < L := by omega
          have g1 : decide ((0 : Int) < (L : Int)) = true := decide_eq_true gL
          have g2 : decide (0 < L) = true := decide_eq_true gL2
          have g3 : decide ((y : Int) < (x : Int)) = false := decide_eq_false (by omega)
          have g4' : decide (y < x) = false := decide_eq_false hnl
          have e1 := HS2.out.2.1
          have e2 := HS2.out.2.2.1
          have hp2 := HS2.out.2.2.2
          by_cases hyx : y = x
          · have hh0 : (y :: t).head? = some x := by rw [hyx]; rfl
            rw [if_pos hh0] at e1 e2
            rw [e1] at hp2
            have g5 : ((y : Int) == (x : Int)) = true := by rw [hyx]; simp
            have hyx2 : (y : Int) = (x : Int) := by rw [hyx]
            have hL1 : t.length = L - 1 := by omega
            have hI7 := IKY.abides (fun _ : List Nat => out ++ if q 1 then lo else []) HJ.out lb_fr HZ4.out [] O3 wr wr.drew (fun _ => False) hI3 (show ButS wr wr.drew _ from (ButS.refl wr _).drewN 1) (fun _ h => h.elim)
            have HO7 := Lib.hid (HO3.out.trans (show OwnStep O3 O3 wr wr.drew from ⟨(ButS.refl wr _).drewN 1, fun j hj => ⟨.inl hj, by obtain ⟨Rt, h1, _⟩ := hI3; exact (h1 j hj).2.2⟩⟩))
            obtain ⟨Rt6, s1, s2, s3, s4, s5⟩ := hI7
            have row6 : wr.drew.heap[BL]? = some (.cells #[.slice (some ⟨b, off, none⟩) (y :: t).length c] 22 (0, 0)) := prow'
            have hW3 : ∃ O5, OwnStep O3 O5 wr.drew (wr.drew.setCell ⟨BL, 0, none⟩ (.slice (Kb.cutA (some ⟨b, off, none⟩) 1 c) (L - 1) (c - 1))) ∧ IKY Z SS w4 (LB BL Rt0 t) J (out ++ if q 1 then lo else []) O5 (wr.drew.setCell ⟨BL, 0, none⟩ (.slice (Kb.cutA (some ⟨b, off, none⟩) 1 c) (L - 1) (c - 1))) := by
              refine IKY.wrote (Y := LB BL Rt0 t) s1 s2 s3 s5 HJ.out HZ4.out (fun j hj => (HSL.out j hj).1) (but_set' wr.drew BL 0 _ Rt6 (s4.1 BL HRBL.out)) ?_
              have := LB.tail s4 row6 (Rt' := fun j => Rt6 j ∨ (wr.drew.heap.size ≤ j ∧ j < (wr.drew.setCell ⟨BL, 0, none⟩ (.slice (Kb.cutA (some ⟨b, off, none⟩) 1 c) (L - 1) (c - 1))).heap.size)) (fun j hj => .inl hj)
              rw [hL1] at this
              exact this
            obtain ⟨O5, ho5, hI5⟩ := hW3
            have z6 : wr.drew.cell? ⟨BL, 0, none⟩ = some (.slice (some ⟨b, off, none⟩) L c) := xBL
            have f6 : wr.drew.frozen? ⟨BL, 0, none⟩ = false := fBL
            obtain ⟨kk1, kk2⟩ := Kb.cut_l (some ⟨b, off, none⟩) L c 1 1 rfl gL2
            have xs5 := (HCL.out _ (by obtain ⟨_, _, _, h2, _⟩ := hI5; exact h2)).2.2
            have htt : Calls Try.prog 40 #[.int .u64 (x : Int), .int .i64 2, .pointer (some ⟨Bw, 0, none⟩), .pointer (some ⟨W.heap.size, 0, none⟩)] (wr.drew.setCell ⟨BL, 0, none⟩ (.slice (Kb.cutA (some ⟨b, off, none⟩) 1 c) (L - 1) (c - 1))) _ := HTE.out (wr.drew.setCell ⟨BL, 0, none⟩ (.slice (Kb.cutA (some ⟨b, off, none⟩) 1 c) (L - 1) (c - 1))) O5 _ _ x 2 (by omega) hI5 hp2
            have HTT := Lib.hid htt
            have HE := Lib.hid (And.intro e1 (show st.2 = t from e2))
            have HP2 := Lib.hid hp2
            have HOX := Lib.hid (HO7.out.trans ho5)
            have HXS5 := Lib.hid xs5
            have HYX := Lib.hid hyx
            clear e1 e2 hp2 hh0 prow prow' pc htt hI3 hh9 hcl hL hL0 hL1 s1 s2 s3 s4 s5 ho5 hI5 row6 xs5 hnl hyx HO7
            gi_wp2
            refine wpIn_region_held_round (fun _ => True) (by kernel_rfl) (by kernel_rfl) ?lo trivial (fun hSd => ?_)
            case lo => exact fun ⟨_, _, h⟩ => h
            refine wpAnyH_take (i := 2) (oi := _) (v := .int .i64 2) rfl (by kernel_rfl) (by kernel_rfl) (by kernel_rfl) (fun _ _ _ h => h) (Or.inl ⟨by rfl, ?_⟩) trivial ?_
            · intro w hSw; go_simp
            try simp only [Act.put, List.setIfInBounds_toArray]
            refine wpAnyH_ready (rs := [0]) (by kernel_rfl) (by simp) ?_
            refine AllReadyH.cons rfl (fun K hK => ?_) AllReadyH.nil
            go_simp
            refine hK.out _ _ trivial (fun hHeld => ?_)
            clear hK K hHeld
            try simp only [Act.put, List.setIfInBounds_toArray, List.set_cons_zero, List.set_cons_succ]
            refine wpAnyH_ready (rs := [1]) (by kernel_rfl) (by simp) ?_
            refine AllReadyH.cons rfl (fun K hK => ?_) AllReadyH.nil
            go_simp
            refine hK.out _ _ trivial (fun hHeld => ?_)
            clear hK K hHeld
            try simp only [Act.put, List.setIfInBounds_toArray, List.set_cons_zero, List.set_cons_succ]
            refine wpAnyH_ready (rs := [3]) (by kernel_rfl) (by simp) ?_
            refine AllReadyH.cons rfl (fun K hK => ?_) AllReadyH.nil
            go_simp
            refine hK.out _ _ trivial (fun hHeld => ?_)
            clear hK K hHeld
            try simp only [Act.put, List.setIfInBounds_toArray, List.set_cons_zero, List.set_cons_succ]
            refine wpAnyH_done (by kernel_rfl) ?_ _
            rw [show (wr.setCell ⟨BL, 0, none⟩ (.slice (Kb.cutA (some ⟨b, off, none⟩) 1 c) (L - 1) (c - 1))).drew = wr.drew.setCell ⟨BL, 0, none⟩ (.slice (Kb.cutA (some ⟨b, off, none⟩) 1 c) (L - 1) (c - 1)) from rfl]
            have xs5 := HXS5.out
            generalize hV3 : wr.drew.setCell ⟨BL, 0, none⟩ (.slice (Kb.cutA (some ⟨b, off, none⟩) 1 c) (L - 1) (c - 1)) = V3 at HTT HOX xs5 ⊢
            clear hV3
            gi_wp2_with (gi_at_call 40; refine (CallsIn.inRound l2 (callsIn_wide.2 HTT.out)).mono ?_; (rintro e W2 (⟨rfl, O9, ho9, hI9⟩ | ⟨rfl, O9, ho9, hI9⟩) <;> (have H9 := Lib.hid (And.intro ho9 hI9); clear ho9 hI9)))
            · obtain ⟨ho9, hI9⟩ := H9.out
              refine ⟨O9, HOX.out.trans ho9, ?_, HPX.out⟩
              rw [HS2.out.1]
              rw [← HE.out.1, ← HE.out.2] at hI9
              exact hI9
            · obtain ⟨ho9, hI9⟩ := H9.out
              exact ⟨O9, HOX.out.trans ho9, rfl, _, _, HP2.out, hI9⟩
          · have hh0 : (y :: t).head? ≠ some x := by simp [hyx]
            rw [if_neg hh0] at e1 e2
            rw [e1] at hp2
            have g5 : ((y : Int) == (x : Int)) = false := by rw [Bool.eq_false_iff]; intro e; rw [beq_iff_eq] at e; omega
            have htt : Calls Try.prog 40 #[.int .u64 (x : Int), .int .i64 0, .pointer (some ⟨Bw, 0, none⟩), .pointer (some ⟨W.heap.size, 0, none⟩)] wr _ := HTE.out wr O3 _ _ x 0 (by omega) hI3 hp2
            have HTT := Lib.hid htt
            have HE := Lib.hid (And.intro e1 e2)
            have HP2 := Lib.hid hp2
            have HOX := HO3
            clear e1 e2 hp2 hh0 prow prow' pc htt hI3 hh9 hcl hL hL0 hyx
            gi_wp2_with (gi_at_call 40; refine (CallsIn.inRound l2 (callsIn_wide.2 HTT.out)).mono ?_; (rintro e W2 (⟨rfl, O9, ho9, hI9⟩ | ⟨rfl, O9, ho9, hI9⟩) <;> (have H9 := Lib.hid (And.intro ho9 hI9); clear ho9 hI9)))
            · obtain ⟨ho9, hI9⟩ := H9.out
              refine ⟨O9, HOX.out.trans ho9, ?_, HPX.out⟩
              rw [HS2.out.1]
              rw [← HE.out.1, ← HE.out.2] at hI9
              exact hI9
            · obtain ⟨ho9, hI9⟩ := H9.out
              exact ⟨O9, HOX.out.trans ho9, rfl, _, _, HP2.out, hI9⟩
  case done =>
    rintro D pre O W' hD hOD rfl ⟨hI, _⟩ hK
    have hEnd := HRUN.out.2.2.1
    have hrl := HRUN.out.2.2.2 pre
    obtain ⟨Rt, h1, hr, h2, hy, h3⟩ := hI
    obtain ⟨s, hs⟩ : ∃ s, S.run q ys pre = s := ⟨_, rfl⟩
    rw [hs] at hEnd hrl h3 hy
    obtain ⟨out, rest⟩ := s
    dsimp only at hEnd hrl h3 hy
    obtain ⟨p1, p2, A, c, prow, pc, pn⟩ := hy
    have hDl := (Array.getElem?_eq_some_iff.1 hK).1
    have hsw := h2.size
    obtain ⟨R9, hR9⟩ : ∃ R9 : Nat → Prop, (fun j => j < W'.heap.size ∧ ¬ Z j ∧ (¬ O j ∨ Rt j)) = R9 := ⟨_, rfl⟩
    have hRR : ∀ j, Rt0 j → R9 j := fun j hj => by rw [← hR9]; exact ⟨(h1 j (hr j (p1 j hj))).2.2, (h1 j (hr j (p1 j hj))).1, .inr (p1 j hj)⟩
    have hRS : ∀ j, SS j → R9 j := fun j hj => by rw [← hR9]; exact ⟨by have := (HSL.out j hj).1; omega, (HSL.out j hj).2, .inl (fun ho => (h1 j ho).2.1 hj)⟩
    have hRD : R9 D := by rw [← hR9]; exact ⟨hDl, fun hz => by have := HZ4.out D hz; omega, .inl hOD⟩
    have hRl : ∀ j, R9 j → j < W'.heap.size := fun j hj => by rw [← hR9] at hj; exact hj.1
    rw [hR9] at h3
    have xBL : W'.cell? ⟨BL, 0, none⟩ = some (.slice A rest.length c) := cell_of_row W' _ 0 _ _ (0, 0) prow
    obtain ⟨L, hL⟩ : ∃ L, rest.length = L := ⟨_, rfl⟩
    rw [hL] at xBL pc hrl
    have h20 : ButS W' W' (fun j => ¬ (Z j ∨ R9 j)) := ButS.refl _ _
    have hJ0 : J (out ++ if q 1 then rest.take 0 else []) R9 W' := by rw [List.take_zero]; simpa using h3
    have HJ0 := Lib.hid hJ0
    have HB0 := Lib.hid h20
    have HR := Lib.hid (And.intro hRR (And.intro hRS (And.intro hRD hRl)))
    have H2 := Lib.hid h2
    have HPN := Lib.hid pn
    have HL := Lib.hid (And.intro hL hEnd)
    have HK := Lib.hid hK
    have hfinX : Hid (∀ V p, ButS W' V (fun j => ¬ (Z j ∨ R9 j)) → Jx p R9 V → V.heap[D]? = some (.deferred (some [])) ∧ Jx p R9 (V.putObj D (.deferred none))) := Lib.hid (fun V p hV hj => by
      have hs' := hV.size
      refine ⟨(hV.block D hDl (fun h => h (.inr hRD))).trans hK, HJX.out _ _ R9 _ _ hj ((but_put V D (.deferred none)).mono (fun j _ e => by have e2 : j = D := e; rw [e2]; exact hRD)) (fun j hj => ⟨.inl hj, by have := hRl j hj; rw [World.putObj_size]; omega⟩)⟩)
    have hfinJ : Hid (∀ V p, ButS W' V (fun j => ¬ (Z j ∨ R9 j)) → J p R9 V → V.heap[D]? = some (.deferred (some [])) ∧ J p R9 (V.putObj D (.deferred none))) := Lib.hid (fun V p hV hj => by
      have hs' := hV.size
      refine ⟨(hV.block D hDl (fun h => h (.inr hRD))).trans hK, HJ.out _ _ R9 _ _ hj ((but_put V D (.deferred none)).mono (fun j _ e => by have e2 : j = D := e; rw [e2]; exact hRD)) (fun j hj => ⟨.inl hj, by have := hRl j hj; rw [World.putObj_size]; omega⟩)⟩)
    clear hEnd h1 hr h2 h3 hs p1 p2 prow pc pn hR9 hRR hRS hRD hRl h20 hJ0 hK hL hsw
    gi_wp2
    gi_loopw [55] (fun cv wr => ∃ (i : Nat), i ≤ L ∧ cv = .int .i64 (i : Int) ∧ Hid (J (out ++ if q 1 then rest.take i else []) R9 wr) ∧ Hid (ButS W' wr (fun j => ¬ (Z j ∨ R9 j)))) (fun cv _ => L - (intOf cv).toNat)
    case atStart => exact ⟨0, by omega, rfl, HJ0, HB0⟩
    case round =>
      obtain ⟨i, hi1, rfl, HJi, HBi⟩ := hrel
      clear HJ0 HB0 xBL
      rcases Nat.lt_or_ge i L with hlt | hge
      · have hir : i < rest.length := by rw [HL.out.1]; exact hlt
        obtain ⟨b, off, rfl, hb0, hbl, hbne, hcl⟩ := HPN.out (by intro e; rw [e] at hir; cases hir)
        have xe := (HBi.out.cell hbl (fun h => h (.inr (HR.out.1 b hb0))) (off + i)).trans (hcl i hir)
        have hV : ButS w4 wr (fun j => ¬ (Z j ∨ SS j)) := H2.out.then HBi.out (fun j hj => .inl (fun h => hj (h.imp id (HR.out.2.1 j))))
        have xs4 := (HCL.out wr hV).2.2
        have htk : (out ++ if q 1 then rest.take i else []) ++ tl q 1 rest[i] = out ++ if q 1 then rest.take (i + 1) else [] := by
          unfold tl
          by_cases h : q 1 = true
          · rw [if_pos h, if_pos h, if_pos h, List.take_succ_eq_append_getElem hir, List.append_assoc]
          · rw [if_neg h, if_neg h, if_neg h, List.append_nil]
        have hpr : (out ++ if q 1 then rest.take (i + 1) else []) <+: zs := by
          rw [HL.out.2]
          refine (List.prefix_append_right_inj _).2 ?_
          split
          · exact List.take_prefix _ _
          · exact List.prefix_refl _
        have htt : Calls Try.prog 40 #[.int .u64 ((rest[i] : Nat) : Int), .int .i64 1, .pointer (some ⟨Bw, 0, none⟩), .pointer (some ⟨W.heap.size, 0, none⟩)] wr _ := HTELL.out wr _ R9 rest[i] 1 hV (by omega) HJi.out (by rw [htk]; exact hpr)
        rw [htk] at htt
        have HTT := Lib.hid htt
        have HPR := Lib.hid hpr
        have g1 : decide ((i : Int) < (L : Int)) = true := decide_eq_true (by omega)
        have g2 : (i : Int) < (L : Int) := by omega
        have wi : IntKind.i64.wrap ((i : Int) + 1) = ((i + 1 : Nat) : Int) := by rw [IntWalk.i64_in _ (by omega)]; omega
        generalize rest[i] = k at *
        clear htk hpr htt hV hcl hb0 hbl hbne hir
        gi_wp2_with (gi_at_call 40; refine (callsIn_wide.2 HTT.out).mono ?_; (rintro e W2 ⟨⟨rfl, hj2⟩ | ⟨rfl, hj2⟩, hb2⟩ <;> (have H9 := Lib.hid (And.intro hj2 (HBi.out.trans hb2)); clear hj2 hb2)))
        · go_roundw
          case rel => exact ⟨i + 1, by omega, by go_num, Lib.hid H9.out.1, Lib.hid H9.out.2⟩
          case measure => first | (simp [intOf]; done) | (simp [intOf]; omega)
        · obtain ⟨hk2, hx2⟩ := hfinX.out _ _ H9.out.2 H9.out.1
          refine ⟨by simp, .inl ⟨_, _, rfl, run_takeDeferred hk2, ?_⟩⟩
          exact ⟨_, results_none rfl _ _ _, ⟨_, rfl⟩, .inr ⟨_, _, HPR.out, hx2⟩⟩
      · obtain rfl : i = L := by omega
        have g1 : decide ((i : Int) < (i : Int)) = false := decide_eq_false (by omega)
        have hj2 := HJi.out
        rw [List.take_of_length_le (by rw [HL.out.1]; exact Nat.le_refl _), ← HL.out.2] at hj2
        obtain ⟨hk2, hx2⟩ := hfinJ.out _ _ HBi.out hj2
        have HX2 := Lib.hid (And.intro hk2 hx2)
        clear hk2 hx2 hj2
        gi_wp2
        refine ⟨by simp, .inl ⟨_, _, rfl, run_takeDeferred HX2.out.1, ?_⟩⟩
        exact ⟨_, results_none rfl _ _ _, ⟨_, rfl⟩, .inl ⟨_, _, rfl, HX2.out.2⟩⟩
  case stop =>
    rintro D c pre O W' hD hOD hpre ⟨rfl, out, rest, hys, hI⟩ hK
    obtain ⟨Rt, h1, hr, h2, hy, h3⟩ := hI
    have hDl := (Array.getElem?_eq_some_iff.1 hK).1
    have hZD : ¬ Z D := fun hz => by have := HZ4.out D hz; omega
    have hb := but_put W' D (.deferred none)
    have hfin := HJX.out _ _ Rt _ _ h3 (hb.mono (fun j hlt hj => by
      have hj : j = D := hj
      subst hj
      exact ⟨hlt, hZD, .inl hOD⟩)) (fun j hj => ⟨.inl ⟨(h1 j (hr j hj)).2.2, (h1 j (hr j hj)).1, .inr hj⟩, by have := (h1 j (hr j hj)).2.2; rw [World.putObj_size]; exact this⟩)
    have HF := Lib.hid hfin
    have HYS := Lib.hid hys
    have HK := Lib.hid hK
    clear hK hfin hy h1 hr h2 h3 hb hys
    gi_wp2
    refine ⟨by simp, .inl ⟨_, _, rfl, run_takeDeferred HK.out, ?_⟩⟩
    exact ⟨_, results_none rfl _ _ _, ⟨_, rfl⟩, .inr ⟨out, Rt, HYS.out, HF.out⟩⟩
end Go.Proofs.Ytepdhjcgpjjjlaa
