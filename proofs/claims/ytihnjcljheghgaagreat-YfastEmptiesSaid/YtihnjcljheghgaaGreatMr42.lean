/- Has, Next, Prev, Min, Max, Len, Used, Buckets of a y-fast trie, told by its buckets. A key less, and the buckets then: plain. -/
import Derived.Test.YtihnjcljheghgaaGreatMr41
import Derived.Test.YtihnjcljheghgaaGreatMr38
section
namespace Go.Proofs.YtihnjcljheghgaaGreat
set_option maxRecDepth 20000
open Go.RowKit
section
variable {w : World} {P lim tk : Nat} {l : Bk.BL} {O : Nat → Prop}
theorem Inv.none {BL : Yp.LL} {rs : List Nat} {es : Es} {ns : List (Yp.Nd × Bool)} {fs : List Nat} {G : Nat → List Nat} (h : Inv BL [] rs es ns fs G) : BL = [] ∧ rs = [] ∧ es = [] ∧ ns.length - fs.length = 0 := by
  have hB : BL = [] := List.eq_nil_of_length_eq_zero h.len.symm
  subst hB
  exact ⟨rfl, h.rr, List.perm_nil.1 h.ee, h.cnt⟩
theorem sel_none {es : Es} {ns : List (Yp.Nd × Bool)} {k : Nat} : Sel [] es ns k (-1) ⟨0, none, 0, 0, -1, -1⟩ := .inl ⟨by simp [K.pvb, K.fo, K.fi], rfl, rfl⟩
theorem ys_has (h : YS w P l lim tk O) (k : Nat) (hk : k < 18446744073709551616) : Calls Tryz.prog 27 #[.pointer (some ⟨P, 0, none⟩), .int .u64 (k : Int)] w (YOp w P O (.bool (K.fo (Bk.keys l) k)) l lim 11) := by
  obtain ⟨M, X, T, Q, rs, es, ns, fs, G, BL, hT, hI, hO, hU⟩ := h
  have b5 := (YR.start hT).bounds.2.2.2.2.1
  have b4 := (YR.start hT).bounds.2.2.2.1
  by_cases hl : l = []
  · subst hl
    obtain ⟨rfl, rfl, rfl, _⟩ := hI.none
    refine (has_T hT k hk (-1) 0 none 0 0 (-1) (-1) sel_none [] (.inl ⟨rfl, rfl, rfl⟩) List.Pairwise.nil (by decide)).mono ?_
    rintro e w' ⟨rfl, t, ht, hy⟩
    exact hy.yop rfl hI hO hU (by omega) _
  · obtain ⟨L1, c, L2, hcut, h1, h2⟩ := hO.at hl k
    subst hcut
    obtain ⟨B1, x, B2, hB, e1, e2, e3⟩ := hI.cut rfl
    subst e1 e2 e3 hB
    have hsel := hI.sel hO rfl h1 h2 rfl rfl (by omega)
    have hnd := nd_at hI.seg
    have hg : Bk.Good (toB G x) := hO.cup
    have hlen : (G x.1).length ≤ 128 := hg.2.1
    refine (has_T hT k hk (x.1 : Int) x.2.1 x.2.2.1 x.2.2.2.1 x.2.2.2.2 (Yp.lst (-1) B1) (Yp.hd B2 (-1)) hsel (G x.1) (.inr ⟨x.1, rfl, hnd, rfl⟩) hg.2.2.1 (by omega)).mono ?_
    rintro e w' ⟨rfl, t, ht, hy⟩
    rw [show K.fo (G x.1) k = K.fo (Bk.keys (B1.map (toB G) ++ toB G x :: B2.map (toB G))) k from (hO.fo h1 h2).symm]
    exact hy.yop rfl hI hO hU (by omega) _
set_option maxHeartbeats 1000000 in
theorem ys_nearNext (h : YS w P l lim tk O) (k : Nat) (hk : k < 18446744073709551616) : Calls Tryz.prog 58 #[.pointer (some ⟨P, 0, none⟩), .int .u64 (k : Int), .func (.func 59) #[] #[], .func (.func 60) #[] #[]] w (YOp w P O (.tuple #[.int .u64 ((K.nx (Bk.keys l) k : Nat) : Int), .bool (K.nxb (Bk.keys l) k)]) l lim 12) := by
  obtain ⟨M, X, T, Q, rs, es, ns, fs, G, BL, hT, hI, hO, hU⟩ := h
  have b5 := (YR.start hT).bounds.2.2.2.2.1
  have b4 := (YR.start hT).bounds.2.2.2.1
  have hno : AtH ns (-1) false 0 none 0 0 0 0 := .inr ⟨rfl, Yp.lvq_neg (by decide), rfl, rfl, rfl, rfl, rfl, rfl⟩
  by_cases hl : l = []
  · subst hl
    obtain ⟨rfl, rfl, rfl, _⟩ := hI.none
    refine (near_Next_no_T hT k hk (-1) 0 none 0 0 (-1) (-1) sel_none [] (.inl ⟨rfl, rfl, rfl⟩) List.Pairwise.nil (by decide) (by simp [K.nxb, K.fi]) false 0 none 0 0 0 0 hno [] (.inl ⟨rfl, rfl⟩) List.Pairwise.nil (by decide)).mono ?_
    rintro e w' ⟨rfl, t, ht, hy⟩
    exact hy.yop rfl hI hO hU (by omega) _
  · obtain ⟨L1, c, L2, hcut, h1, h2⟩ := hO.at hl k
    subst hcut
    obtain ⟨B1, x, B2, hB, e1, e2, e3⟩ := hI.cut rfl
    subst e1 e2 e3 hB
    have hsel := hI.sel hO rfl h1 h2 rfl rfl (by omega)
    have hnd := nd_at hI.seg
    have hg : Bk.Good (toB G x) := hO.cup
    have hlen : (G x.1).length ≤ 128 := hg.2.1
    have hfound : Found ns G (x.1 : Int) ⟨x.2.1, x.2.2.1, x.2.2.2.1, x.2.2.2.2, Yp.lst (-1) B1, Yp.hd B2 (-1)⟩ (G x.1) := .inr ⟨x.1, rfl, hnd, rfl⟩
    have hcase := hO.next h1 h2
    rcases hcase with ⟨g1, g2, g3⟩ | ⟨g1, g2⟩
    · refine (near_Next_yes_T hT k hk (x.1 : Int) x.2.1 x.2.2.1 x.2.2.2.1 x.2.2.2.2 (Yp.lst (-1) B1) (Yp.hd B2 (-1)) hsel (G x.1) hfound hg.2.2.1 (by omega) g1).mono ?_
      rintro e w' ⟨rfl, t, ht, hy⟩
      rw [g2, g3]
      exact hy.yop rfl hI hO hU (by omega) _
    · have hnb : ∃ b1 rb Ab nb cb ab bb ys, AtH ns (Yp.hd B2 (-1)) b1 rb Ab nb cb ab bb ∧ ((b1 = false ∧ ys = []) ∨ (b1 = true ∧ ys = G ((Yp.hd B2 (-1))).toNat)) ∧ K.Up ys ∧ ys.length ≤ 900 ∧ K.nx (Bk.keys (B1.map (toB G) ++ toB G x :: B2.map (toB G))) k = K.nx ys k ∧ K.nxb (Bk.keys (B1.map (toB G) ++ toB G x :: B2.map (toB G))) k = K.nxb ys k := by
        rcases g2 with ⟨q1, q2, q3⟩ | ⟨d, L3, q1, q2, q3⟩
        · have hB2 : B2 = [] := List.map_eq_nil_iff.1 q1
          subst hB2
          refine ⟨false, 0, none, 0, 0, 0, 0, [], hno, .inl ⟨rfl, rfl⟩, List.Pairwise.nil, by decide, ?_, ?_⟩
          · rw [q2]
            simp [K.nx, K.fi]
          · rw [q3]
            simp [K.nxb, K.fi]
        · obtain ⟨z, B3, e4, e5, e6⟩ := List.map_eq_cons_iff.1 q1
          subst e4 e5 e6
          have hs : Yp.Seg ns (-1) ((B1 ++ [x]) ++ z :: B3) (-1) := by
            have := hI.seg
            rw [List.append_assoc]
            exact this
          have hz := nd_at hs
          have hgz : Bk.Good (toB G z) := hO.good _ (by simp)
          have hlz : (G z.1).length ≤ 128 := hgz.2.1
          exact ⟨true, _, _, _, _, _, _, G z.1, .inl ⟨rfl, z.1, rfl, hz⟩, .inr ⟨rfl, rfl⟩, hgz.2.2.1, by omega, q2, q3⟩
      obtain ⟨b1, rb, Ab, nb, cb, ab, bb, ys, r1, r2, r3, r4, r5, r6⟩ := hnb
      refine (near_Next_no_T hT k hk (x.1 : Int) x.2.1 x.2.2.1 x.2.2.2.1 x.2.2.2.2 (Yp.lst (-1) B1) (Yp.hd B2 (-1)) hsel (G x.1) hfound hg.2.2.1 (by omega) g1 b1 rb Ab nb cb ab bb r1 ys r2 r3 r4).mono ?_
      rintro e w' ⟨rfl, t, ht, hy⟩
      rw [r5, r6]
      exact hy.yop rfl hI hO hU (by omega) _
theorem ys_next (h : YS w P l lim tk O) (k : Nat) (hk : k < 18446744073709551616) : Calls Tryz.prog 30 #[.pointer (some ⟨P, 0, none⟩), .int .u64 (k : Int)] w (YOp w P O (.tuple #[.int .u64 ((K.nx (Bk.keys l) k : Nat) : Int), .bool (K.nxb (Bk.keys l) k)]) l lim 12) := by
  have H := Lib.hid (ys_nearNext h k hk)
  generalize K.nx (Bk.keys l) k = a at *
  generalize K.nxb (Bk.keys l) k = b at *
  clear h
  unfold YOp at H ⊢
  go_enter Tryz.func30, Tryz.ntmps30
  go_wp2_with (go_at_call 58; (with_reducible refine H.out.mono ?_); rintro e w1 ⟨rfl, hy⟩; have HY := Lib.hid hy; clear hy)
  go_ret2
  exact ⟨rfl, HY.out⟩
theorem ys_min (h : YS w P l lim tk O) : Calls Tryz.prog 28 #[.pointer (some ⟨P, 0, none⟩)] w (YOp w P O (.tuple #[.int .u64 ((K.nx (Bk.keys l) 0 : Nat) : Int), .bool (K.nxb (Bk.keys l) 0)]) l lim 12) := by
  have H : Hid (Calls Tryz.prog 30 #[.pointer (some ⟨P, 0, none⟩), .int .u64 0] w (YOp w P O (.tuple #[.int .u64 ((K.nx (Bk.keys l) 0 : Nat) : Int), .bool (K.nxb (Bk.keys l) 0)]) l lim 12)) := Lib.hid (ys_next h 0 (by decide))
  generalize K.nx (Bk.keys l) 0 = a at *
  generalize K.nxb (Bk.keys l) 0 = b at *
  clear h
  unfold YOp at H ⊢
  go_enter Tryz.func28, Tryz.ntmps28
  go_wp2_with (go_at_call 30; (with_reducible refine H.out.mono ?_); rintro e w1 ⟨rfl, hy⟩; have HY := Lib.hid hy; clear hy)
  go_ret2
  exact ⟨rfl, HY.out⟩
set_option maxHeartbeats 1000000 in
theorem ys_nearPrev (h : YS w P l lim tk O) (k : Nat) (hk : k < 18446744073709551616) : Calls Tryz.prog 58 #[.pointer (some ⟨P, 0, none⟩), .int .u64 (k : Int), .func (.func 61) #[] #[], .func (.func 62) #[] #[]] w (YOp w P O (.tuple #[.int .u64 ((K.pv (Bk.keys l) k : Nat) : Int), .bool (K.pvb (Bk.keys l) k)]) l lim 12) := by
  obtain ⟨M, X, T, Q, rs, es, ns, fs, G, BL, hT, hI, hO, hU⟩ := h
  have b5 := (YR.start hT).bounds.2.2.2.2.1
  have b4 := (YR.start hT).bounds.2.2.2.1
  have hno : AtH ns (-1) false 0 none 0 0 0 0 := .inr ⟨rfl, Yp.lvq_neg (by decide), rfl, rfl, rfl, rfl, rfl, rfl⟩
  by_cases hl : l = []
  · subst hl
    obtain ⟨rfl, rfl, rfl, _⟩ := hI.none
    refine (near_Prev_no_T hT k hk (-1) 0 none 0 0 (-1) (-1) sel_none [] (.inl ⟨rfl, rfl, rfl⟩) List.Pairwise.nil (by decide) (by simp [K.pvb, K.fo, K.fi]) false 0 none 0 0 0 0 hno [] (.inl ⟨rfl, rfl⟩) List.Pairwise.nil (by decide)).mono ?_
    rintro e w' ⟨rfl, t, ht, hy⟩
    exact hy.yop rfl hI hO hU (by omega) _
  · obtain ⟨L1, c, L2, hcut, h1, h2⟩ := hO.at hl k
    subst hcut
    obtain ⟨B1, x, B2, hB, e1, e2, e3⟩ := hI.cut rfl
    subst e1 e2 e3 hB
    have hsel := hI.sel hO rfl h1 h2 rfl rfl (by omega)
    have hnd := nd_at hI.seg
    have hg : Bk.Good (toB G x) := hO.cup
    have hlen : (G x.1).length ≤ 128 := hg.2.1
    have hfound : Found ns G (x.1 : Int) ⟨x.2.1, x.2.2.1, x.2.2.2.1, x.2.2.2.2, Yp.lst (-1) B1, Yp.hd B2 (-1)⟩ (G x.1) := .inr ⟨x.1, rfl, hnd, rfl⟩
    have hcase := hO.prev h1 h2
    rcases hcase with ⟨g1, g2, g3⟩ | ⟨g1, g2⟩
    · refine (near_Prev_yes_T hT k hk (x.1 : Int) x.2.1 x.2.2.1 x.2.2.2.1 x.2.2.2.2 (Yp.lst (-1) B1) (Yp.hd B2 (-1)) hsel (G x.1) hfound hg.2.2.1 (by omega) g1).mono ?_
      rintro e w' ⟨rfl, t, ht, hy⟩
      rw [g2, g3]
      exact hy.yop rfl hI hO hU (by omega) _
    · have hnb : ∃ b1 rb Ab nb cb ab bb ys, AtH ns (Yp.lst (-1) B1) b1 rb Ab nb cb ab bb ∧ ((b1 = false ∧ ys = []) ∨ (b1 = true ∧ ys = G ((Yp.lst (-1) B1)).toNat)) ∧ K.Up ys ∧ ys.length ≤ 900 ∧ K.pv (Bk.keys (B1.map (toB G) ++ toB G x :: B2.map (toB G))) k = K.pv ys k ∧ K.pvb (Bk.keys (B1.map (toB G) ++ toB G x :: B2.map (toB G))) k = K.pvb ys k := by
        rcases g2 with ⟨q1, q2, q3⟩ | ⟨L0, d, q1, q2, q3⟩
        · have hB1 : B1 = [] := List.map_eq_nil_iff.1 q1
          subst hB1
          refine ⟨false, 0, none, 0, 0, 0, 0, [], hno, .inl ⟨rfl, rfl⟩, List.Pairwise.nil, by decide, ?_, ?_⟩
          · rw [q2]
            simp [K.pv, K.fo, K.fi]
          · rw [q3]
            simp [K.pvb, K.fo, K.fi]
        · obtain ⟨B0, Bz, e4, e5, e6⟩ := List.map_eq_append_iff.1 q1
          obtain ⟨z, B3, e7, e8, e9⟩ := List.map_eq_cons_iff.1 e6
          have hB3 : B3 = [] := List.map_eq_nil_iff.1 e9
          subst hB3 e7 e8
          subst e4
          have hs : Yp.Seg ns (-1) (B0 ++ z :: (x :: B2)) (-1) := by
            have := hI.seg
            rw [List.append_assoc] at this
            exact this
          have hz := nd_at hs
          have hls : Yp.lst (-1) (B0 ++ [z]) = (z.1 : Int) := by rw [Yp.lst_app]; rfl
          have hgz : Bk.Good (toB G z) := hO.good _ (by simp)
          have hlz : (G z.1).length ≤ 128 := hgz.2.1
          exact ⟨true, _, _, _, _, _, _, G z.1, .inl ⟨rfl, z.1, hls, hz⟩, .inr ⟨rfl, by rw [hls]; rfl⟩, hgz.2.2.1, by omega, q2, q3⟩
      obtain ⟨b1, rb, Ab, nb, cb, ab, bb, ys, r1, r2, r3, r4, r5, r6⟩ := hnb
      refine (near_Prev_no_T hT k hk (x.1 : Int) x.2.1 x.2.2.1 x.2.2.2.1 x.2.2.2.2 (Yp.lst (-1) B1) (Yp.hd B2 (-1)) hsel (G x.1) hfound hg.2.2.1 (by omega) g1 b1 rb Ab nb cb ab bb r1 ys r2 r3 r4).mono ?_
      rintro e w' ⟨rfl, t, ht, hy⟩
      rw [r5, r6]
      exact hy.yop rfl hI hO hU (by omega) _
theorem ys_prev (h : YS w P l lim tk O) (k : Nat) (hk : k < 18446744073709551616) : Calls Tryz.prog 31 #[.pointer (some ⟨P, 0, none⟩), .int .u64 (k : Int)] w (YOp w P O (.tuple #[.int .u64 ((K.pv (Bk.keys l) k : Nat) : Int), .bool (K.pvb (Bk.keys l) k)]) l lim 12) := by
  have H := Lib.hid (ys_nearPrev h k hk)
  generalize K.pv (Bk.keys l) k = a at *
  generalize K.pvb (Bk.keys l) k = b at *
  clear h
  unfold YOp at H ⊢
  go_enter Tryz.func31, Tryz.ntmps31
  go_wp2_with (go_at_call 58; (with_reducible refine H.out.mono ?_); rintro e w1 ⟨rfl, hy⟩; have HY := Lib.hid hy; clear hy)
  go_ret2
  exact ⟨rfl, HY.out⟩
theorem ys_max (h : YS w P l lim tk O) : Calls Tryz.prog 29 #[.pointer (some ⟨P, 0, none⟩)] w (YOp w P O (.tuple #[.int .u64 ((K.pv (Bk.keys l) 18446744073709551615 : Nat) : Int), .bool (K.pvb (Bk.keys l) 18446744073709551615)]) l lim 12) := by
  have H : Hid (Calls Tryz.prog 31 #[.pointer (some ⟨P, 0, none⟩), .int .u64 18446744073709551615] w (YOp w P O (.tuple #[.int .u64 ((K.pv (Bk.keys l) 18446744073709551615 : Nat) : Int), .bool (K.pvb (Bk.keys l) 18446744073709551615)]) l lim 12)) := Lib.hid (ys_prev h 18446744073709551615 (by decide))
  generalize K.pv (Bk.keys l) 18446744073709551615 = a at *
  generalize K.pvb (Bk.keys l) 18446744073709551615 = b at *
  clear h
  unfold YOp at H ⊢
  go_enter Tryz.func29, Tryz.ntmps29
  go_wp2_with (go_at_call 31; (with_reducible refine H.out.mono ?_); rintro e w1 ⟨rfl, hy⟩; have HY := Lib.hid hy; clear hy)
  go_ret2
  exact ⟨rfl, HY.out⟩
theorem YS.low (h : YS w P l lim tk O) : ∀ j, O j → j < w.heap.size := by
  obtain ⟨M, X, T, Q, rs, es, ns, fs, G, BL, hT, hI, hO, hU⟩ := h
  exact hT.lt.1
theorem ys_len (h : YS w P l lim tk O) : Calls Tryz.prog 33 #[.pointer (some ⟨P, 0, none⟩)] w fun e w' => e = .returned (.int .i64 ((Bk.keys l).length : Int)) ∧ w' = w := by
  obtain ⟨M, X, T, Q, rs, es, ns, fs, G, BL, hT, hI, hO, hU⟩ := h
  exact (YR.start hT).len
theorem ys_used (h : YS w P l lim tk O) : Calls Tryz.prog 12 #[.pointer (some ⟨P, 0, none⟩)] w (YOp w P O (.int .i64 (usedB l : Int)) l lim tk) := by
  obtain ⟨M, X, T, Q, rs, es, ns, fs, G, BL, hT, hI, hO, hU⟩ := h
  have b4 := (YR.start hT).bounds.2.2.2.1
  have hkl : (Bk.keys l).length ≤ 500000 := by
    unfold usedB at hU
    omega
  refine ((YR.start hT).used _ rfl (by omega)).mono ?_
  rintro e w' ⟨rfl, hy⟩
  rw [show K.xfast rs + (ns.length - fs.length) + (Bk.keys l).length = usedB l by unfold usedB; rw [hI.rr, hI.cnt, hI.len]]
  exact hy.yop rfl hI hO hU (Nat.le_refl _) _
theorem ys_new (w : World) (sd n : Nat) (hn : n ≤ 500000) : Calls Tryz.prog 9 #[.int .u64 (sd : Int), .int .i64 (n : Int)] w fun e w' => ∃ P O, e = .returned (.tuple #[.pointer (some ⟨P, 0, none⟩), .int .i64 0]) ∧ YS w' P [] n 0 O ∧ Below w.heap.size w w' ∧ ∀ j, O j → w.heap.size ≤ j := by
  refine (y_new w sd n hn).mono ?_
  rintro e w' ⟨P, M, X, T, Q, O, he, hT, hb, hO⟩
  exact ⟨P, O, he, ⟨M, X, T, Q, [], [], [], [], _, [], hT, Inv.nil rfl, Bk.Ok.nil, Nat.zero_le _⟩, hb, hO⟩
end
end Go.Proofs.YtihnjcljheghgaaGreat
end
section
namespace Go.Proofs.YtihnjcljheghgaaGreat
set_option maxRecDepth 20000
open Go.RowKit
namespace Bk
/-- Are the keys of two buckets to be one's? -/
def few (a b : List Nat) : Prop := a.length = 0 ∨ b.length = 0 ∨ a.length + b.length ≤ 64
section
variable {L1 L2 : BL} {b c : Nat × List Nat} {k : Nat}
/-- Two buckets that stand behind one another are one. -/
theorem Ok.join (h : Ok (L1 ++ b :: c :: L2)) (ys : List Nat) (hg : Good (b.1, ys)) (hb : ∀ d ∈ L2, ∀ x ∈ ys, x < d.1) : Ok (L1 ++ (b.1, ys) :: L2) := by
  have h1 : Ok (L1 ++ b :: L2) := by
    refine ⟨List.Pairwise.sublist (List.Sublist.append (List.Sublist.refl _) ((List.sublist_cons_self c L2).cons_cons b)) h.pw, fun d hd => h.good d ?_, fun d l' e => ?_⟩
    · rcases List.mem_append.1 hd with hd | hd
      · simp [hd]
      · rcases List.mem_cons.1 hd with rfl | hd
        · simp
        · simp [hd]
    · cases L1 with
      | nil =>
        injection e with e _
        rw [← e]
        exact h.fst b _ rfl
      | cons a L1 =>
        injection e with e _
        rw [← e]
        exact h.fst a _ rfl
  exact h1.swap ys hg hb
theorem good_drop (h : Good c) (hn : K.drop c.2 k ≠ []) : Good (c.1, K.drop c.2 k) :=
  ⟨hn, Nat.le_trans (drop_le c.2 k) h.2.1, K.drop_up h.2.2.1 k, fun x hx => h.2.2.2 x ((K.drop_mem h.2.2.1 k x).1 hx).2⟩
theorem good_cat {xs ys : List Nat} {r : Nat} (hx : K.Up xs) (hy : K.Up ys) (h : ∀ x ∈ xs, ∀ y ∈ ys, x < y) (hn : xs ++ ys ≠ []) (lx : xs.length ≤ 128) (ly : ys.length ≤ 128) (hf : few xs ys) (hr : ∀ x ∈ xs ++ ys, r ≤ x ∧ x < 18446744073709551616) : Good (r, xs ++ ys) := by
  refine ⟨hn, ?_, List.pairwise_append.2 ⟨hx, hy, h⟩, hr⟩
  show (xs ++ ys).length ≤ 128
  rw [List.length_append]
  rcases hf with h | h | h <;> omega
theorem Ok.join1 (h : Ok (L1 ++ c :: b :: L2)) (hf : few (K.drop c.2 k) b.2) : Ok (L1 ++ (c.1, K.drop c.2 k ++ b.2) :: L2) := by
  have hc := h.good c (by simp)
  have hb := h.good b (by simp)
  have h2 : Ok (L1 ++ c :: (b :: L2)) := h
  have hbe := h2.behind b (by simp)
  have hm := fun x => K.drop_mem hc.2.2.1 k x
  refine h.join _ (good_cat (K.drop_up hc.2.2.1 k) hb.2.2.1 (fun x hx y hy => ?_) (fun e => hb.1 (List.append_eq_nil_iff.1 e).2) (Nat.le_trans (drop_le c.2 k) hc.2.1) hb.2.1 hf (fun x hx => ?_)) (fun d hd x hx => ?_)
  · have := hbe.2.1 x ((hm x).1 hx).2
    have := hbe.2.2 y hy
    omega
  · rcases List.mem_append.1 hx with hx | hx
    · exact hc.2.2.2 x ((hm x).1 hx).2
    · have := hb.2.2.2 x hx
      exact ⟨by omega, this.2⟩
  · have h3 : Ok ((L1 ++ [c]) ++ b :: L2) := by simpa using h
    rcases List.mem_append.1 hx with hx | hx
    · exact (h2.behind d (by simp [hd])).2.1 x ((hm x).1 hx).2
    · exact h3.after d hd x hx
theorem Ok.join2 (h : Ok (L1 ++ b :: c :: L2)) (hf : few b.2 (K.drop c.2 k)) : Ok (L1 ++ (b.1, b.2 ++ K.drop c.2 k) :: L2) := by
  have hc := h.good c (by simp)
  have hb := h.good b (by simp)
  have h2 : Ok (L1 ++ b :: (c :: L2)) := h
  have hbe := h2.behind c (by simp)
  have hm := fun x => K.drop_mem hc.2.2.1 k x
  refine h.join _ (good_cat hb.2.2.1 (K.drop_up hc.2.2.1 k) (fun x hx y hy => ?_) (fun e => hb.1 (List.append_eq_nil_iff.1 e).1) hb.2.1 (Nat.le_trans (drop_le c.2 k) hc.2.1) hf (fun x hx => ?_)) (fun d hd x hx => ?_)
  · have := hbe.2.1 x hx
    have := hbe.2.2 y ((hm y).1 hy).2
    omega
  · rcases List.mem_append.1 hx with hx | hx
    · exact hb.2.2.2 x hx
    · have := hc.2.2.2 x ((hm x).1 hx).2
      exact ⟨by omega, this.2⟩
  · have h3 : Ok ((L1 ++ [b]) ++ c :: L2) := by simpa using h
    rcases List.mem_append.1 hx with hx | hx
    · exact (h2.behind d (by simp [hd])).2.1 x hx
    · exact h3.after d hd x ((hm x).1 hx).2
theorem Ok.less (h : Ok (L1 ++ c :: L2)) (hn : K.drop c.2 k ≠ []) : Ok (L1 ++ (c.1, K.drop c.2 k) :: L2) :=
  h.swap _ (good_drop h.cup hn) (fun d hd x hx => h.after d hd x ((K.drop_mem h.cup.2.2.1 k x).1 hx).2)
/-- All keys, a key less. -/
theorem Ok.keys_drop (h : Ok (L1 ++ c :: L2)) (h1 : c.1 ≤ k) (h2 : ∀ d ∈ L2, k < d.1) : keys L1 ++ K.drop c.2 k ++ keys L2 = K.drop (keys (L1 ++ c :: L2)) k := by
  have hL1 : ∀ x ∈ keys L1, x ≠ k := fun x hx e => by
    have := h.before x hx
    omega
  have hL2 : ∀ x ∈ keys L2, x ≠ k := fun x hx e => by
    obtain ⟨d, hd, hx⟩ := mem_keys.1 hx
    have := h2 d hd
    have := (h.behind d hd).2.2 x hx
    omega
  have hup : K.Up (keys L1 ++ K.drop c.2 k ++ keys L2) := by
    have hk := h.kup
    rw [keys_app, keys_cons] at hk
    obtain ⟨g1, g2, g3⟩ := List.pairwise_append.1 hk
    obtain ⟨g4, g5, g6⟩ := List.pairwise_append.1 g2
    have hm := fun x => K.drop_mem g4 k x
    rw [List.append_assoc]
    refine List.pairwise_append.2 ⟨g1, List.pairwise_append.2 ⟨K.drop_up g4 k, g5, fun x hx y hy => g6 x ((hm x).1 hx).2 y hy⟩, fun x hx y hy => g3 x hx y ?_⟩
    rcases List.mem_append.1 hy with hy | hy
    · exact List.mem_append_left _ ((hm y).1 hy).2
    · exact List.mem_append_right _ hy
  refine up_extY hup (K.drop_up h.kup k) fun x => ?_
  rw [K.drop_mem h.kup, mem3, List.mem_append, List.mem_append, K.drop_mem h.cup.2.2.1]
  constructor
  · rintro ((h | h) | h)
    · exact ⟨hL1 x h, .inl h⟩
    · exact ⟨h.1, .inr (.inl h.2)⟩
    · exact ⟨hL2 x h, .inr (.inr h)⟩
  · rintro ⟨h1, h | h | h⟩
    · exact .inl (.inl h)
    · exact .inl (.inr ⟨h1, h⟩)
    · exact .inr h
theorem drop_len1 {xs : List Nat} {k : Nat} (hu : K.Up xs) (h : K.fo xs k = true) : (K.drop xs k).length + 1 = xs.length := T.drop_len hu ((K.fo_mem hu k).1 h)
/-- A representative less. -/
theorem reps_less {A B : List Nat} {r : Nat} (hu : K.Up (A ++ r :: B)) (hx : ∀ x ∈ A ++ r :: B, x < 18446744073709551616) : K.drop (A ++ r :: B) r = A ++ B ∧ K.xfast (A ++ B) ≤ K.xfast (A ++ r :: B) := by
  obtain ⟨g1, g2, g3⟩ := List.pairwise_append.1 hu
  obtain ⟨g4, g5⟩ := List.pairwise_cons.1 g2
  have hu2 : K.Up (A ++ B) := List.pairwise_append.2 ⟨g1, g5, fun x hx y hy => g3 x hx y (by simp [hy])⟩
  have hn : r ∉ A ++ B := fun hr => by
    rcases List.mem_append.1 hr with hr | hr
    · have := g3 r hr r (by simp)
      omega
    · have := g4 r hr
      omega
  have e : K.drop (A ++ r :: B) r = A ++ B := by
    refine up_extY (K.drop_up hu r) hu2 fun x => ?_
    rw [K.drop_mem hu]
    simp only [List.mem_append, List.mem_cons] at hn ⊢
    constructor
    · rintro ⟨h1, h | h | h⟩
      · exact .inl h
      · exact absurd h h1
      · exact .inr h
    · rintro (h | h)
      · exact ⟨fun e => hn (.inl (e ▸ h)), .inl h⟩
      · exact ⟨fun e => hn (.inr (e ▸ h)), .inr (.inr h)⟩
  have ea : K.add (A ++ B) r = A ++ r :: B := by
    refine up_extY (K.add_up hu2 r) hu fun x => ?_
    rw [K.add_mem hu2]
    simp only [List.mem_append, List.mem_cons]
    constructor
    · rintro (h | h | h)
      · exact .inr (.inl h)
      · exact .inl h
      · exact .inr (.inr h)
    · rintro (h | h | h)
      · exact .inr (.inl h)
      · exact .inl h
      · exact .inr (.inr h)
  refine ⟨e, ?_⟩
  have hg := (xfast_grows (y := r) hu2 (fun x hxm => hx x (by
    rcases List.mem_append.1 hxm with h | h
    · simp [h]
    · simp [h])) (hx r (by simp)) (by rw [Bool.eq_false_iff]; exact fun hf => hn ((K.fo_mem hu2 r).1 hf))).1
  rw [ea] at hg
  exact hg
end
end Bk
theorem setb_set {ns : List (Yp.Nd × Bool)} {n : Nat} {x : Yp.Nd × Bool} {i b : Int} (h : i ≠ (n : Int)) : Yp.setb (ns.set n x) i b = (Yp.setb ns i b).set n x := by
  have hl : Yp.lvq (ns.set n x) i = Yp.lvq ns i := by
    unfold Yp.lvq
    by_cases h0 : 0 ≤ i
    · rw [List.getElem?_set_ne (by omega)]
    · rw [decide_eq_false h0]
      rfl
  unfold Yp.setb
  rw [hl]
  split
  · rename_i hv
    obtain ⟨k, rfl, _⟩ := Yp.lvq_form hv
    have hn : Yp.ndi (ns.set n x) (k : Int) = Yp.ndi ns (k : Int) := by
      unfold Yp.ndi
      rw [List.getElem?_set_ne (by omega)]
    rw [hn, Int.toNat_natCast, List.set_comm _ _ (by omega)]
  · rfl
theorem seta_set {ns : List (Yp.Nd × Bool)} {n : Nat} {x : Yp.Nd × Bool} {i b : Int} (h : i ≠ (n : Int)) : Yp.seta (ns.set n x) i b = (Yp.seta ns i b).set n x := by
  have hl : Yp.lvq (ns.set n x) i = Yp.lvq ns i := by
    unfold Yp.lvq
    by_cases h0 : 0 ≤ i
    · rw [List.getElem?_set_ne (by omega)]
    · rw [decide_eq_false h0]
      rfl
  unfold Yp.seta
  rw [hl]
  split
  · rename_i hv
    obtain ⟨k, rfl, _⟩ := Yp.lvq_form hv
    have hn : Yp.ndi (ns.set n x) (k : Int) = Yp.ndi ns (k : Int) := by
      unfold Yp.ndi
      rw [List.getElem?_set_ne (by omega)]
    rw [hn, Int.toNat_natCast, List.set_comm _ _ (by omega)]
  · rfl
section
variable {l : Bk.BL} {rs : List Nat} {es : Es} {ns : List (Yp.Nd × Bool)} {fs : List Nat} {G : Nat → List Nat}
/-- A bucket less. -/
theorem Inv.less {B1 B2 : Yp.LL} {x : Nat × Yp.Kd} (h : Inv (B1 ++ x :: B2) l rs es ns fs G) (hfs : fs.length < ns.length) :
    Inv (B1 ++ B2) (B1.map (toB G) ++ B2.map (toB G)) (Bk.reps (B1.map (toB G) ++ B2.map (toB G))) ((B1 ++ B2).map fun x => ((0, x.2.1), x.1)) ((Yp.seta (Yp.setb ns (Yp.lst (-1) B1) (Yp.hd B2 (-1))) (Yp.hd B2 (-1)) (Yp.lst (-1) B1)).set x.1 (Yp.Nd.z, false)) (fs ++ [x.1]) G ∧
      es.Perm (((0, x.2.1), x.1) :: (B1 ++ B2).map fun x => ((0, x.2.1), x.1)) := by
  obtain ⟨n1, n2⟩ := nod_ne h.nod
  obtain ⟨n, kd⟩ := x
  have a1 : Yp.lst (-1) B1 ≠ (n : Int) := fun e => Yp.lst_ne n1 e.symm
  have a2 : Yp.hd B2 (-1) ≠ (n : Int) := fun e => Yp.hd_ne n2 e.symm
  refine ⟨⟨?_, ?_, (List.map_append ..).symm, rfl, List.Perm.refl _, ?_⟩, ?_⟩
  · have hs := Yp.seg_less (x := (Yp.Nd.z, false)) h.seg h.nod
    rw [setb_set a1, seta_set a2] at hs
    exact hs
  · exact h.nod.sublist (List.Sublist.map _ (List.Sublist.append (List.Sublist.refl _) (List.sublist_cons_self _ _)))
  · rw [List.length_set, Yp.seta_len, Yp.setb_len, List.length_append, List.length_append]
    have := h.cnt
    rw [List.length_append, List.length_cons] at this
    simp only [List.length_cons, List.length_nil]
    omega
  · refine h.ee.trans ?_
    rw [List.map_append, List.map_cons, List.map_append]
    exact List.perm_middle
end
end Go.Proofs.YtihnjcljheghgaaGreat
end
