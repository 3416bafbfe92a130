/- Has, Next, Prev, Min, Max, Len, Used, Buckets of a y-fast trie, told by its buckets. What a law of y-fast tries keeps; keys that rise, put in one behind another. Each of rising keys; the text walked. -/
import Derived.Test.YtialjokdaniofaaGreatMq40
import Derived.Test.YtialjokdaniofaaGreatMq36
section
namespace Go.Proofs.YtialjokdaniofaaGreat
set_option maxRecDepth 20000
open Go.RowKit
section
variable {w : World} {P lim tk : Nat} {l : Bk.BL} {O : Nat → Prop}
theorem Inv.none {BL : Yp.LL} {rs : List Nat} {es : Es} {ns : List (Yp.Nd × Bool)} {fs : List Nat} {G : Nat → List Nat} (h : Inv BL [] rs es ns fs G) : BL = [] ∧ rs = [] ∧ es = [] ∧ ns.length - fs.length = 0 := by
  have hB : BL = [] := List.eq_nil_of_length_eq_zero h.len.symm
  subst hB
  exact ⟨rfl, h.rr, List.perm_nil.1 h.ee, h.cnt⟩
theorem sel_none {es : Es} {ns : List (Yp.Nd × Bool)} {k : Nat} : Sel [] es ns k (-1) ⟨0, none, 0, 0, -1, -1⟩ := .inl ⟨by simp [K.pvb, K.fo, K.fi], rfl, rfl⟩
set_option maxHeartbeats 1000000 in
theorem ys_nearNext (h : YS w P l lim tk O) (k : Nat) (hk : k < 18446744073709551616) : Calls Tryz.prog 58 #[.pointer (some ⟨P, 0, none⟩), .int .u64 (k : Int), .func (.func 59) #[] #[], .func (.func 60) #[] #[]] w (YOp w P O (.tuple #[.int .u64 ((K.nx (Bk.keys l) k : Nat) : Int), .bool (K.nxb (Bk.keys l) k)]) l lim 12) := by
  obtain ⟨M, X, T, Q, rs, es, ns, fs, G, BL, hT, hI, hO, hU⟩ := h
  have b5 := (YR.start hT).bounds.2.2.2.2.1
  have b4 := (YR.start hT).bounds.2.2.2.1
  have hno : AtH ns (-1) false 0 none 0 0 0 0 := .inr ⟨rfl, Yp.lvq_neg (by decide), rfl, rfl, rfl, rfl, rfl, rfl⟩
  by_cases hl : l = []
  · subst hl
    obtain ⟨rfl, rfl, rfl, _⟩ := hI.none
    refine (near_Next_no_T hT k hk (-1) 0 none 0 0 (-1) (-1) sel_none [] (.inl ⟨rfl, rfl, rfl⟩) List.Pairwise.nil (by decide) (by simp [K.nxb, K.fi]) false 0 none 0 0 0 0 hno [] (.inl ⟨rfl, rfl⟩) List.Pairwise.nil (by decide)).mono ?_
    rintro e w' ⟨rfl, t, ht, hy⟩
    exact hy.yop rfl hI hO hU (by omega) _
  · obtain ⟨L1, c, L2, hcut, h1, h2⟩ := hO.at hl k
    subst hcut
    obtain ⟨B1, x, B2, hB, e1, e2, e3⟩ := hI.cut rfl
    subst e1 e2 e3 hB
    have hsel := hI.sel hO rfl h1 h2 rfl rfl (by omega)
    have hnd := nd_at hI.seg
    have hg : Bk.Good (toB G x) := hO.cup
    have hlen : (G x.1).length ≤ 128 := hg.2.1
    have hfound : Found ns G (x.1 : Int) ⟨x.2.1, x.2.2.1, x.2.2.2.1, x.2.2.2.2, Yp.lst (-1) B1, Yp.hd B2 (-1)⟩ (G x.1) := .inr ⟨x.1, rfl, hnd, rfl⟩
    have hcase := hO.next h1 h2
    rcases hcase with ⟨g1, g2, g3⟩ | ⟨g1, g2⟩
    · refine (near_Next_yes_T hT k hk (x.1 : Int) x.2.1 x.2.2.1 x.2.2.2.1 x.2.2.2.2 (Yp.lst (-1) B1) (Yp.hd B2 (-1)) hsel (G x.1) hfound hg.2.2.1 (by omega) g1).mono ?_
      rintro e w' ⟨rfl, t, ht, hy⟩
      rw [g2, g3]
      exact hy.yop rfl hI hO hU (by omega) _
    · have hnb : ∃ b1 rb Ab nb cb ab bb ys, AtH ns (Yp.hd B2 (-1)) b1 rb Ab nb cb ab bb ∧ ((b1 = false ∧ ys = []) ∨ (b1 = true ∧ ys = G ((Yp.hd B2 (-1))).toNat)) ∧ K.Up ys ∧ ys.length ≤ 900 ∧ K.nx (Bk.keys (B1.map (toB G) ++ toB G x :: B2.map (toB G))) k = K.nx ys k ∧ K.nxb (Bk.keys (B1.map (toB G) ++ toB G x :: B2.map (toB G))) k = K.nxb ys k := by
        rcases g2 with ⟨q1, q2, q3⟩ | ⟨d, L3, q1, q2, q3⟩
        · have hB2 : B2 = [] := List.map_eq_nil_iff.1 q1
          subst hB2
          refine ⟨false, 0, none, 0, 0, 0, 0, [], hno, .inl ⟨rfl, rfl⟩, List.Pairwise.nil, by decide, ?_, ?_⟩
          · rw [q2]
            simp [K.nx, K.fi]
          · rw [q3]
            simp [K.nxb, K.fi]
        · obtain ⟨z, B3, e4, e5, e6⟩ := List.map_eq_cons_iff.1 q1
          subst e4 e5 e6
          have hs : Yp.Seg ns (-1) ((B1 ++ [x]) ++ z :: B3) (-1) := by
            have := hI.seg
            rw [List.append_assoc]
            exact this
          have hz := nd_at hs
          have hgz : Bk.Good (toB G z) := hO.good _ (by simp)
          have hlz : (G z.1).length ≤ 128 := hgz.2.1
          exact ⟨true, _, _, _, _, _, _, G z.1, .inl ⟨rfl, z.1, rfl, hz⟩, .inr ⟨rfl, rfl⟩, hgz.2.2.1, by omega, q2, q3⟩
      obtain ⟨b1, rb, Ab, nb, cb, ab, bb, ys, r1, r2, r3, r4, r5, r6⟩ := hnb
      refine (near_Next_no_T hT k hk (x.1 : Int) x.2.1 x.2.2.1 x.2.2.2.1 x.2.2.2.2 (Yp.lst (-1) B1) (Yp.hd B2 (-1)) hsel (G x.1) hfound hg.2.2.1 (by omega) g1 b1 rb Ab nb cb ab bb r1 ys r2 r3 r4).mono ?_
      rintro e w' ⟨rfl, t, ht, hy⟩
      rw [r5, r6]
      exact hy.yop rfl hI hO hU (by omega) _
theorem ys_next (h : YS w P l lim tk O) (k : Nat) (hk : k < 18446744073709551616) : Calls Tryz.prog 30 #[.pointer (some ⟨P, 0, none⟩), .int .u64 (k : Int)] w (YOp w P O (.tuple #[.int .u64 ((K.nx (Bk.keys l) k : Nat) : Int), .bool (K.nxb (Bk.keys l) k)]) l lim 12) := by
  have H := Lib.hid (ys_nearNext h k hk)
  generalize K.nx (Bk.keys l) k = a at *
  generalize K.nxb (Bk.keys l) k = b at *
  clear h
  unfold YOp at H ⊢
  go_enter Tryz.func30, Tryz.ntmps30
  go_wp2_with (go_at_call 58; (with_reducible refine H.out.mono ?_); rintro e w1 ⟨rfl, hy⟩; have HY := Lib.hid hy; clear hy)
  go_ret2
  exact ⟨rfl, HY.out⟩
set_option maxHeartbeats 1000000 in
theorem ys_nearPrev (h : YS w P l lim tk O) (k : Nat) (hk : k < 18446744073709551616) : Calls Tryz.prog 58 #[.pointer (some ⟨P, 0, none⟩), .int .u64 (k : Int), .func (.func 61) #[] #[], .func (.func 62) #[] #[]] w (YOp w P O (.tuple #[.int .u64 ((K.pv (Bk.keys l) k : Nat) : Int), .bool (K.pvb (Bk.keys l) k)]) l lim 12) := by
  obtain ⟨M, X, T, Q, rs, es, ns, fs, G, BL, hT, hI, hO, hU⟩ := h
  have b5 := (YR.start hT).bounds.2.2.2.2.1
  have b4 := (YR.start hT).bounds.2.2.2.1
  have hno : AtH ns (-1) false 0 none 0 0 0 0 := .inr ⟨rfl, Yp.lvq_neg (by decide), rfl, rfl, rfl, rfl, rfl, rfl⟩
  by_cases hl : l = []
  · subst hl
    obtain ⟨rfl, rfl, rfl, _⟩ := hI.none
    refine (near_Prev_no_T hT k hk (-1) 0 none 0 0 (-1) (-1) sel_none [] (.inl ⟨rfl, rfl, rfl⟩) List.Pairwise.nil (by decide) (by simp [K.pvb, K.fo, K.fi]) false 0 none 0 0 0 0 hno [] (.inl ⟨rfl, rfl⟩) List.Pairwise.nil (by decide)).mono ?_
    rintro e w' ⟨rfl, t, ht, hy⟩
    exact hy.yop rfl hI hO hU (by omega) _
  · obtain ⟨L1, c, L2, hcut, h1, h2⟩ := hO.at hl k
    subst hcut
    obtain ⟨B1, x, B2, hB, e1, e2, e3⟩ := hI.cut rfl
    subst e1 e2 e3 hB
    have hsel := hI.sel hO rfl h1 h2 rfl rfl (by omega)
    have hnd := nd_at hI.seg
    have hg : Bk.Good (toB G x) := hO.cup
    have hlen : (G x.1).length ≤ 128 := hg.2.1
    have hfound : Found ns G (x.1 : Int) ⟨x.2.1, x.2.2.1, x.2.2.2.1, x.2.2.2.2, Yp.lst (-1) B1, Yp.hd B2 (-1)⟩ (G x.1) := .inr ⟨x.1, rfl, hnd, rfl⟩
    have hcase := hO.prev h1 h2
    rcases hcase with ⟨g1, g2, g3⟩ | ⟨g1, g2⟩
    · refine (near_Prev_yes_T hT k hk (x.1 : Int) x.2.1 x.2.2.1 x.2.2.2.1 x.2.2.2.2 (Yp.lst (-1) B1) (Yp.hd B2 (-1)) hsel (G x.1) hfound hg.2.2.1 (by omega) g1).mono ?_
      rintro e w' ⟨rfl, t, ht, hy⟩
      rw [g2, g3]
      exact hy.yop rfl hI hO hU (by omega) _
    · have hnb : ∃ b1 rb Ab nb cb ab bb ys, AtH ns (Yp.lst (-1) B1) b1 rb Ab nb cb ab bb ∧ ((b1 = false ∧ ys = []) ∨ (b1 = true ∧ ys = G ((Yp.lst (-1) B1)).toNat)) ∧ K.Up ys ∧ ys.length ≤ 900 ∧ K.pv (Bk.keys (B1.map (toB G) ++ toB G x :: B2.map (toB G))) k = K.pv ys k ∧ K.pvb (Bk.keys (B1.map (toB G) ++ toB G x :: B2.map (toB G))) k = K.pvb ys k := by
        rcases g2 with ⟨q1, q2, q3⟩ | ⟨L0, d, q1, q2, q3⟩
        · have hB1 : B1 = [] := List.map_eq_nil_iff.1 q1
          subst hB1
          refine ⟨false, 0, none, 0, 0, 0, 0, [], hno, .inl ⟨rfl, rfl⟩, List.Pairwise.nil, by decide, ?_, ?_⟩
          · rw [q2]
            simp [K.pv, K.fo, K.fi]
          · rw [q3]
            simp [K.pvb, K.fo, K.fi]
        · obtain ⟨B0, Bz, e4, e5, e6⟩ := List.map_eq_append_iff.1 q1
          obtain ⟨z, B3, e7, e8, e9⟩ := List.map_eq_cons_iff.1 e6
          have hB3 : B3 = [] := List.map_eq_nil_iff.1 e9
          subst hB3 e7 e8
          subst e4
          have hs : Yp.Seg ns (-1) (B0 ++ z :: (x :: B2)) (-1) := by
            have := hI.seg
            rw [List.append_assoc] at this
            exact this
          have hz := nd_at hs
          have hls : Yp.lst (-1) (B0 ++ [z]) = (z.1 : Int) := by rw [Yp.lst_app]; rfl
          have hgz : Bk.Good (toB G z) := hO.good _ (by simp)
          have hlz : (G z.1).length ≤ 128 := hgz.2.1
          exact ⟨true, _, _, _, _, _, _, G z.1, .inl ⟨rfl, z.1, hls, hz⟩, .inr ⟨rfl, by rw [hls]; rfl⟩, hgz.2.2.1, by omega, q2, q3⟩
      obtain ⟨b1, rb, Ab, nb, cb, ab, bb, ys, r1, r2, r3, r4, r5, r6⟩ := hnb
      refine (near_Prev_no_T hT k hk (x.1 : Int) x.2.1 x.2.2.1 x.2.2.2.1 x.2.2.2.2 (Yp.lst (-1) B1) (Yp.hd B2 (-1)) hsel (G x.1) hfound hg.2.2.1 (by omega) g1 b1 rb Ab nb cb ab bb r1 ys r2 r3 r4).mono ?_
      rintro e w' ⟨rfl, t, ht, hy⟩
      rw [r5, r6]
      exact hy.yop rfl hI hO hU (by omega) _
theorem ys_prev (h : YS w P l lim tk O) (k : Nat) (hk : k < 18446744073709551616) : Calls Tryz.prog 31 #[.pointer (some ⟨P, 0, none⟩), .int .u64 (k : Int)] w (YOp w P O (.tuple #[.int .u64 ((K.pv (Bk.keys l) k : Nat) : Int), .bool (K.pvb (Bk.keys l) k)]) l lim 12) := by
  have H := Lib.hid (ys_nearPrev h k hk)
  generalize K.pv (Bk.keys l) k = a at *
  generalize K.pvb (Bk.keys l) k = b at *
  clear h
  unfold YOp at H ⊢
  go_enter Tryz.func31, Tryz.ntmps31
  go_wp2_with (go_at_call 58; (with_reducible refine H.out.mono ?_); rintro e w1 ⟨rfl, hy⟩; have HY := Lib.hid hy; clear hy)
  go_ret2
  exact ⟨rfl, HY.out⟩
theorem YS.low (h : YS w P l lim tk O) : ∀ j, O j → j < w.heap.size := by
  obtain ⟨M, X, T, Q, rs, es, ns, fs, G, BL, hT, hI, hO, hU⟩ := h
  exact hT.lt.1
theorem ys_buckets (h : YS w P l lim tk O) : Calls Tryz.prog 16 #[.pointer (some ⟨P, 0, none⟩)] w (YOp w P O (.int .i64 (l.length : Int)) l lim tk) := by
  obtain ⟨M, X, T, Q, rs, es, ns, fs, G, BL, hT, hI, hO, hU⟩ := h
  refine ((YR.start hT).buckets).mono ?_
  rintro e w' ⟨rfl, hy⟩
  rw [hI.cnt, ← hI.len]
  exact hy.yop rfl hI hO hU (Nat.le_refl _) _
theorem ys_new (w : World) (sd n : Nat) (hn : n ≤ 500000) : Calls Tryz.prog 9 #[.int .u64 (sd : Int), .int .i64 (n : Int)] w fun e w' => ∃ P O, e = .returned (.tuple #[.pointer (some ⟨P, 0, none⟩), .int .i64 0]) ∧ YS w' P [] n 0 O ∧ Below w.heap.size w w' ∧ ∀ j, O j → w.heap.size ≤ j := by
  refine (y_new w sd n hn).mono ?_
  rintro e w' ⟨P, M, X, T, Q, O, he, hT, hb, hO⟩
  exact ⟨P, O, he, ⟨M, X, T, Q, [], [], [], [], _, [], hT, Inv.nil rfl, Bk.Ok.nil, Nat.zero_le _⟩, hb, hO⟩
end
end Go.Proofs.YtialjokdaniofaaGreat
end
section
namespace Go.Proofs.YtialjokdaniofaaGreat
set_option maxRecDepth 20000
open Go.RowKit
namespace Bk
theorem len_le : ∀ (l : BL), (∀ b ∈ l, b.2 ≠ []) → l.length ≤ (keys l).length
  | [], _ => Nat.le_refl _
  | b :: l, h => by
    have h1 := len_le l (fun c hc => h c (by simp [hc]))
    have h2 := List.length_pos_iff.2 (h b (by simp))
    rw [keys_cons, List.length_append, List.length_cons]
    omega
theorem used_le {l : BL} (h : Ok l) : usedB l ≤ 68 * (keys l).length := by
  have h1 := len_le l (fun b hb => (h.good b hb).1)
  have h2 := K.xfs_le (reps l) 65
  have h3 : (reps l).length = l.length := by simp [reps]
  unfold usedB K.xfast
  rw [h3] at h2
  omega
/-- Buckets that rising keys have made. -/
def Sp (l : BL) : Prop := l = [] ∨ ∃ L1 c, l = L1 ++ [c] ∧ (∀ b ∈ L1, b.2.length = 65) ∧ (L1 ≠ [] → 64 ≤ c.2.length)
theorem len_same : ∀ (l : BL), (∀ b ∈ l, b.2.length = 65) → (keys l).length = 65 * l.length
  | [], _ => rfl
  | b :: l, h => by
    have h1 := len_same l (fun c hc => h c (by simp [hc]))
    have h2 := h b (by simp)
    rw [keys_cons, List.length_append, List.length_cons, h1, h2]
    omega
theorem Sp.count {l : BL} (h : Sp l) (ho : Ok l) (hn : 0 < (keys l).length) : l.length ≤ 1 + (keys l).length / 64 ∧ ((keys l).length + 127) / 128 ≤ l.length := by
  rcases h with rfl | ⟨L1, c, rfl, h1, h2⟩
  · exact absurd hn (Nat.lt_irrefl _)
  · have h3 := len_same L1 h1
    have h4 : c.2.length ≤ 128 := (ho.good c (by simp)).2.1
    have e : (keys (L1 ++ [c])).length = 65 * L1.length + c.2.length := by rw [keys_app, List.length_append, h3]; simp [keys]
    have e2 : (L1 ++ [c]).length = L1.length + 1 := by simp
    rw [e, e2]
    by_cases hL : L1 = []
    · subst hL
      simp only [List.length_nil]
      omega
    · have := h2 hL
      have := List.length_pos_iff.2 hL
      omega
theorem Sp.ins {l l' : BL} {k : Nat} (h : Sp l) (ho : Ok l) (hi : InsTo l k l') (hk : ∀ x ∈ keys l, x < k) : Sp l' := by
  rcases hi with ⟨rfl, rfl⟩ | ⟨L1, c, L2, rfl, h1, h2, rfl⟩
  · exact .inr ⟨[], (0, [k]), rfl, (fun b hb => by cases hb), fun e => absurd rfl e⟩
  · have hL2 : L2 = [] := by
      cases L2 with
      | nil => rfl
      | cons d L2 =>
        have g := ho.good d (by simp)
        obtain ⟨x, hx⟩ := List.exists_mem_of_ne_nil _ g.1
        have q1 := (g.2.2.2 x hx).1
        have q2 := h2 d (by simp)
        have q3 := hk x (mem_keys.2 ⟨d, by simp, hx⟩)
        omega
    subst hL2
    have hg := ho.cup
    have hfo : K.fo c.2 k = false := by
      rw [Bool.eq_false_iff]
      intro hf
      have := hk k (mem_keys.2 ⟨c, by simp, (K.fo_mem hg.2.2.1 k).1 hf⟩)
      omega
    have hal := add_len1 hfo
    have hcl := hg.2.1
    rcases h with e | ⟨L1', c', e, h3, h4⟩
    · simp at e
    · obtain ⟨e1, e2⟩ := List.append_inj' e rfl
      injection e2 with e2 _
      subst e1 e2
      rw [List.append_nil]
      unfold put
      split
      · refine .inr ⟨L1 ++ [(c.1, (K.add c.2 k).take ((K.add c.2 k).length - (K.add c.2 k).length / 2))], _, by simp; rfl, fun b hb => ?_, fun _ => ?_⟩
        · rcases List.mem_append.1 hb with hb | hb
          · exact h3 b hb
          · obtain rfl := List.mem_singleton.1 hb
            show ((K.add c.2 k).take _).length = 65
            rw [List.length_take]
            omega
        · show 64 ≤ ((K.add c.2 k).drop _).length
          rw [List.length_drop]
          omega
      · refine .inr ⟨L1, _, rfl, h3, fun hL => ?_⟩
        have := h4 hL
        show 64 ≤ (K.add c.2 k).length
        omega
end Bk
/-- The trie at P holds these buckets; these lists of the law's own lie apart. -/
def TYs (w W : World) (P lim : Nat) (l : Bk.BL) (S : List (Value × List Nat)) : Prop :=
  ∃ tk O, YS W P l lim tk O ∧ Below w.heap.size w W ∧ (∀ j, O j → w.heap.size ≤ j) ∧ ∀ p ∈ S, KX W p.1 p.2 ∧ ∀ g, p.1.ownBlock = some g → ¬ O g
section
variable {w W W' : World} {P lim : Nat} {l : Bk.BL} {S : List (Value × List Nat)}
theorem YS.below {tk : Nat} {O : Nat → Prop} (h : YS W P l lim tk O) (hb : Below W.heap.size W W') : YS W' P l lim tk O := by
  obtain ⟨M, X, T, Q, rs, es, ns, fs, G, BL, hT, hI⟩ := h
  exact ⟨M, X, T, Q, rs, es, ns, fs, G, BL, hT.below hb, hI⟩
theorem TYs.low (h : TYs w W P lim l S) : Below w.heap.size w W := by
  obtain ⟨_, _, _, hb, _, _⟩ := h
  exact hb
theorem TYs.kx (h : TYs w W P lim l S) {v : Value} {xs : List Nat} (hm : (v, xs) ∈ S) : KX W v xs := by
  obtain ⟨_, _, _, _, _, hS⟩ := h
  exact (hS _ hm).1
theorem TYs.fresh (h : TYs w W P lim l S) {v : Value} {xs : List Nat} (hk : KX W' v xs) (hb : Below W.heap.size W W') (hf : ∀ g, v.ownBlock = some g → W.heap.size ≤ g) : TYs w W' P lim l ((v, xs) :: S) := by
  obtain ⟨tk, O, hT, hb0, hO, hS⟩ := h
  refine ⟨tk, O, hT.below hb, hb0.trans (hb.mono hb0.size), hO, fun p hp => ?_⟩
  rcases List.mem_cons.1 hp with rfl | hp
  · exact ⟨hk, fun g hg ho => by have := hf g hg; have := hT.low g ho; omega⟩
  · exact ⟨(hS p hp).1.below hb, (hS p hp).2⟩
theorem yop_tys {O : Nat → Prop} (hb : Below w.heap.size w W) (hO : ∀ j, O j → w.heap.size ≤ j) (hS : ∀ p ∈ S, KX W p.1 p.2 ∧ ∀ g, p.1.ownBlock = some g → ¬ O g) {v : Value} {l' : Bk.BL} {m : Nat} {e : Ending} {w' : World} (h : YOp W P O v l' lim m e w') : e = .returned v ∧ TYs w w' P lim l' S := by
  obtain ⟨rfl, tk', O', _, hT', hC, hO'⟩ := h
  refine ⟨rfl, tk', O', hT', hb.trans (hC.below hb.size hO), fun j hj => ?_, fun p hp => ?_⟩
  · rcases hO' j hj with h1 | h1
    · exact hO j h1
    · exact Nat.le_trans hb.size h1
  · obtain ⟨h1, h2⟩ := hS p hp
    refine ⟨hC.kx h1 h2, fun g hg ho => ?_⟩
    rcases hO' g ho with h3 | h3
    · exact h2 g hg h3
    · rcases h1.form with ⟨e1, _⟩ | ⟨g', c, e1, _, hg', _⟩
      · rw [e1] at hg; simp [Value.ownBlock] at hg
      · rw [e1] at hg
        simp [Value.ownBlock] at hg
        omega
theorem TYs.op (h : TYs w W P lim l S) {f : FuncId} {args : Array Value} {v : Value} {l' : Bk.BL} {m : Nat → Nat}
    (hc : ∀ tk O, YS W P l lim tk O → Calls Tryz.prog f args W (YOp W P O v l' lim (m tk))) : Calls Tryz.prog f args W fun e w' => e = .returned v ∧ TYs w w' P lim l' S := by
  obtain ⟨tk, O, hT, hb, hO, hS⟩ := h
  exact (hc tk O hT).mono fun e w' hy => yop_tys hb hO hS hy
/-- A key that is above all. -/
theorem tys_insert (h : TYs w W P lim l S) (k : Nat) (hk : k < 18446744073709551616) (hs : Bk.Sp l) (hm : ∀ x ∈ Bk.keys l, x < k) (hl : 68 * ((Bk.keys l).length + 1) ≤ lim) {ys : List Nat} (hys : K.add (Bk.keys l) k = ys) :
    Calls Tryz.prog 24 #[.pointer (some ⟨P, 0, none⟩), .int .u64 (k : Int)] W fun e w' => e = .returned (.int .i64 0) ∧ ∃ l', Bk.keys l' = ys ∧ Bk.Sp l' ∧ TYs w w' P lim l' S := by
  obtain ⟨tk, O, hT, hb, hO, hS⟩ := h
  have hok : Bk.Ok l := by
    obtain ⟨_, _, _, _, _, _, _, _, _, _, _, _, h, _⟩ := hT
    exact h
  have hfo : K.fo (Bk.keys l) k = false := by
    rw [Bool.eq_false_iff]
    intro hf
    have := hm k ((K.fo_mem hok.kup k).1 hf)
    omega
  refine (ys_insert hT k hk).mono ?_
  rintro e w' (⟨h1, _⟩ | ⟨_, l', h1, h2, h3, h4⟩)
  · rw [hfo] at h1
    cases h1
  · have hu := Bk.used_le h2
    rw [h3, Bk.add_len1 hfo] at hu
    rcases h4 with ⟨h5, _⟩ | ⟨_, h5⟩
    · omega
    · obtain ⟨he, hy⟩ := yop_tys hb hO hS h5
      exact ⟨he, l', by rw [h3, hys], hs.ins hok h1 hm, hy⟩
theorem TYs.ok (h : TYs w W P lim l S) : Bk.Ok l := by
  obtain ⟨_, _, ⟨_, _, _, _, _, _, _, _, _, _, _, _, h, _⟩, _⟩ := h
  exact h
end
end Go.Proofs.YtialjokdaniofaaGreat
end
section
namespace Go.Proofs.YtialjokdaniofaaGreat
set_option maxRecDepth 20000
open Go.RowKit
namespace Bk
theorem up_take {xs : List Nat} (h : K.Up xs) (j : Nat) : K.Up (xs.take j) := List.Pairwise.sublist (List.take_sublist j xs) h
theorem take_lt {xs : List Nat} (h : K.Up xs) {j : Nat} (hj : j < xs.length) : ∀ x ∈ xs.take j, x < xs[j] := fun x hx => by
  obtain ⟨i, hi, e⟩ := List.mem_take_iff_getElem.1 hx
  rw [← e]
  exact List.pairwise_iff_getElem.1 h i j (by omega) hj (by omega)
theorem add_take {xs : List Nat} (h : K.Up xs) {j : Nat} (hj : j < xs.length) : K.add (xs.take j) xs[j] = xs.take (j + 1) := by
  refine T.up_ext (K.add_up (up_take h j) _) (up_take h (j + 1)) fun x => ?_
  rw [K.add_mem (up_take h j), List.take_succ_eq_append_getElem hj, List.mem_append, List.mem_singleton]
  exact or_comm
end Bk
section
variable {w W : World} {P lim : Nat} {xs : List Nat} {S : List (Value × List Nat)}
theorem tys_cell {l : Bk.BL} {ks : List Nat} (h : TYs w W P lim l S) {g n c : Nat} (hm : (Value.slice (some ⟨g, 0, none⟩) n c, ks) ∈ S) {j z : Nat} (hj : ks[j]? = some z) : W.cell? ⟨g, j, none⟩ = some (.int .u64 (z : Int)) := by
  obtain ⟨hj1, hj2⟩ := List.getElem?_eq_some_iff.1 hj
  rcases (h.kx hm).form with ⟨e, _⟩ | ⟨g', c', e, _, _, hc⟩
  · cases e
  · cases e
    rw [← hj2]
    exact hc j hj1
set_option maxHeartbeats 1000000 in
theorem tys_each (h : TYs w W P lim [] S) (A : Option Addr) (c : Nat) (hm : (Value.slice A xs.length c, xs) ∈ S) (hu : K.Up xs) (hx : ∀ x ∈ xs, x < 18446744073709551616) (hl : xs.length ≤ 1000) (hlim : 68 * xs.length ≤ lim) :
    Calls Tryz.prog 34 #[.pointer (some ⟨P, 0, none⟩), .slice A xs.length c] W fun e w' => e = .returned (.int .i64 (xs.length : Int)) ∧ ∃ l', Bk.keys l' = xs ∧ Bk.Sp l' ∧ TYs w w' P lim l' S := by
  have HXU := Lib.hid (And.intro hu hx)
  obtain ⟨n, hn⟩ : ∃ n, xs.length = n := ⟨_, rfl⟩
  rw [hn] at hm hl hlim ⊢
  have HN := Lib.hid hn
  have HM := Lib.hid hm
  have H0 : Hid (Bk.keys [] = xs.take 0 ∧ Bk.Sp [] ∧ TYs w W P lim [] S) := Lib.hid ⟨rfl, .inl rfl, h⟩
  clear h hu hx hm hn
  go_enter Tryz.func34, Tryz.ntmps34
  go_wp2
  go_loopw [5, 10] (fun acc ix wr => ∃ (j : Nat) (l : Bk.BL), j ≤ n ∧ acc = .int .i64 (j : Int) ∧ ix = .int .i64 (j : Int) ∧ Hid (Bk.keys l = xs.take j ∧ Bk.Sp l ∧ TYs w wr P lim l S)) (fun _ ix _ => n - (intOf ix).toNat)
  case atStart => exact ⟨0, [], by omega, rfl, rfl, H0⟩
  case round =>
    obtain ⟨j, l, hj, rfl, rfl, HT⟩ := hrel
    clear H0
    rcases Nat.lt_or_ge j n with hjr | hjr
    · have hjk : j < xs.length := by rw [HN.out]; exact hjr
      have hkx := HT.out.2.2.kx HM.out
      rcases hkx.form with ⟨_, e⟩ | ⟨g, cc, hv, _, _, -⟩
      · rw [e] at hjk
        cases hjk
      injection hv with hA hn2 hc2
      clear hn2 hc2
      subst hA
      have hcell := tys_cell HT.out.2.2 HM.out (List.getElem?_eq_getElem hjk)
      have hkl := HXU.out.2 xs[j] (List.getElem_mem hjk)
      have hlt := Bk.take_lt HXU.out.1 hjk
      have had := Bk.add_take HXU.out.1 hjk
      have htk : (xs.take j).length ≤ j := List.length_take_le _ _
      generalize xs[j] = k at *
      have hins : Hid (Calls Tryz.prog 24 #[.pointer (some ⟨P, 0, none⟩), .int .u64 (k : Int)] wr fun e w' => e = .returned (.int .i64 0) ∧ ∃ l', Bk.keys l' = xs.take (j + 1) ∧ Bk.Sp l' ∧ TYs w w' P lim l' S) := Lib.hid (tys_insert HT.out.2.2 k hkl HT.out.2.1 (by rw [HT.out.1]; exact hlt) (by rw [HT.out.1]; omega) (by rw [HT.out.1]; exact had))
      have gk : (j : Int) < (n : Int) := by omega
      have wj : IntKind.i64.wrap ((j : Int) + 1) = ((j + 1 : Nat) : Int) := by rw [IntWalk.i64_in _ (by omega)]; omega
      clear hkx hkl hlt had htk hjk
      go_wp2_with (go_at_call 24; (with_reducible refine hins.out.mono ?_); rintro e w5 ⟨rfl, l5, h5⟩; have H5 := Lib.hid h5; clear h5)
      go_roundw
      case rel => exact ⟨j + 1, l5, by omega, by go_num, by go_num, H5⟩
      case measure => simp [intOf]; omega
    · obtain rfl : j = n := by omega
      have g0 : decide ((j : Int) < (j : Int)) = false := decide_eq_false (by omega)
      have HS : Hid (Bk.keys l = xs ∧ Bk.Sp l ∧ TYs w wr P lim l S) := Lib.hid (by
        have h1 := HT.out
        rw [List.take_of_length_le (by rw [HN.out]; omega)] at h1
        exact h1)
      clear HT
      go_wp2
      go_ret
      exact ⟨rfl, l, HS.out⟩
end
end Go.Proofs.YtialjokdaniofaaGreat
end
