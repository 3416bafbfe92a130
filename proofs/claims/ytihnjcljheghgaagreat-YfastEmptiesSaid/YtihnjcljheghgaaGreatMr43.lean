/- A key is taken out of a y-fast trie: its buckets then. Clear of a y-fast trie; the text walked. What a law of y-fast tries keeps; keys that rise, put in one behind another. Buckets of which any two neighbours have more than 64 keys: they stay so behind a deletion; how many they are, and what is used. Where a representative's bucket is: of the blocks that were there the table's alone change; the text walked. -/
import Derived.Test.YtihnjcljheghgaaGreatMr42
section
namespace Go.Proofs.YtihnjcljheghgaaGreat
open Go.RowKit
/-- The buckets behind a deletion. -/
def DelTo (l : Bk.BL) (k : Nat) (l' : Bk.BL) : Prop :=
  ∃ L1 c L2, l = L1 ++ c :: L2 ∧ c.1 ≤ k ∧ (∀ d ∈ L2, k < d.1) ∧
    ((∃ b L3, L2 = b :: L3 ∧ Bk.few (K.drop c.2 k) b.2 ∧ l' = L1 ++ (c.1, K.drop c.2 k ++ b.2) :: L3) ∨
     ((∀ b L3, L2 = b :: L3 → ¬ Bk.few (K.drop c.2 k) b.2) ∧
      ((∃ L0 b, L1 = L0 ++ [b] ∧ Bk.few b.2 (K.drop c.2 k) ∧ l' = L0 ++ (b.1, b.2 ++ K.drop c.2 k) :: L2) ∨
       ((∀ L0 b, L1 = L0 ++ [b] → ¬ Bk.few b.2 (K.drop c.2 k)) ∧
        ((K.drop c.2 k = [] ∧ L1 = [] ∧ L2 = [] ∧ l' = []) ∨ (K.drop c.2 k ≠ [] ∧ l' = L1 ++ (c.1, K.drop c.2 k) :: L2))))))
theorem kx_count {w : World} {P M X T Q lim tk : Nat} {kn : Int} {rs : List Nat} {es : Es} {ns : List (Yp.Nd × Bool)} {fs : List Nat} {G : Nat → List Nat} {O : Nat → Prop} (h : YT w P M X T Q lim tk kn rs es ns fs G O) {j r n c : Nat} {A : Option Addr} {a b : Int} (hj : ns[j]? = some (⟨r, A, n, c, a, b⟩, true)) : n = (G j).length := by
  obtain ⟨A', c', e, _⟩ := Kb.kx_rh (h.kx hj)
  injection e with _ e _
section
variable {w : World} {P lim tk : Nat} {l : Bk.BL} {O : Nat → Prop}
set_option maxHeartbeats 4000000 in
theorem ys_delete (h : YS w P l lim tk O) (k : Nat) (hk : k < 18446744073709551616) :
    Calls Tryz.prog 26 #[.pointer (some ⟨P, 0, none⟩), .int .u64 (k : Int)] w fun e w' =>
      (K.fo (Bk.keys l) k = false ∧ YOp w P O (.int .i64 3) l lim 120 e w') ∨
      (K.fo (Bk.keys l) k = true ∧ ∃ l', DelTo l k l' ∧ Bk.keys l' = K.drop (Bk.keys l) k ∧ YOp w P O (.int .i64 0) l' lim 120 e w') := by
  obtain ⟨M, X, T, Q, rs, es, ns, fs, G, BL, hT, hI, hO, hU⟩ := h
  obtain ⟨b1, b2, b3, b4, b5, b6⟩ := (YR.start hT).bounds
  have hkl : (Bk.keys l).length ≤ 500000 := by
    unfold usedB at hU
    omega
  by_cases hl : l = []
  · subst hl
    obtain ⟨rfl, rfl, rfl, _⟩ := hI.none
    refine (del_out_T hT k hk (-1) 0 none 0 0 (-1) (-1) sel_none [] (.inl ⟨rfl, rfl, rfl⟩) List.Pairwise.nil (by decide) (add_nilY k).1).mono ?_
    rintro e w' ⟨rfl, t, ht, hy⟩
    exact .inl ⟨(add_nilY k).1, hy.yop rfl hI hO hU (by omega) _⟩
  · obtain ⟨L1, c, L2, hcut, h1, h2⟩ := hO.at hl k
    subst hcut
    obtain ⟨B1, x, B2, hB, e1, e2, e3⟩ := hI.cut rfl
    subst e1 e2 e3 hB
    have hsel := hI.sel hO rfl h1 h2 rfl rfl (by omega)
    have hnd := nd_at hI.seg
    have hg : Bk.Good (toB G x) := hO.cup
    have hfo : K.fo (Bk.keys (B1.map (toB G) ++ toB G x :: B2.map (toB G))) k = K.fo (G x.1) k := hO.fo h1 h2
    have hfound : Found ns G (x.1 : Int) ⟨x.2.1, x.2.2.1, x.2.2.2.1, x.2.2.2.2, Yp.lst (-1) B1, Yp.hd B2 (-1)⟩ (G x.1) := .inr ⟨x.1, rfl, hnd, rfl⟩
    have hlen : (G x.1).length ≤ 128 := hg.2.1
    cases hf : K.fo (G x.1) k with
    | false =>
      refine (del_out_T hT k hk (x.1 : Int) x.2.1 x.2.2.1 x.2.2.2.1 x.2.2.2.2 (Yp.lst (-1) B1) (Yp.hd B2 (-1)) hsel (G x.1) hfound hg.2.2.1 (by omega) hf).mono ?_
      rintro e w' ⟨rfl, t, ht, hy⟩
      exact .inl ⟨by rw [hfo]; exact hf, hy.yop rfl hI hO hU (by omega) _⟩
    | true =>
      have hkd := hO.keys_drop h1 h2
      have hk1 := Bk.drop_len1 hO.kup (k := k) (by rw [hfo]; exact hf)
      have hk2 : ((((Bk.keys (B1.map (toB G) ++ toB G x :: B2.map (toB G))).length : Nat) : Int) - 1) = ((K.drop (Bk.keys (B1.map (toB G) ++ toB G x :: B2.map (toB G))) k).length : Int) := by omega
      have hfs : fs.length < ns.length := by
        have := hI.cnt
        rw [List.length_append, List.length_cons] at this
        omega
      have hreps0 : rs = Bk.reps (B1.map (toB G)) ++ x.2.1 :: Bk.reps (B2.map (toB G)) := by rw [hI.rr]; simp [Bk.reps, toB]
      have hlB := hI.len
      obtain ⟨n1, n2⟩ := nod_ne hI.nod
      have hdl : (K.drop (G x.1) k).length ≤ 128 := Nat.le_trans (drop_le _ k) hlen
      have hno : AtH ns (-1) false 0 none 0 0 0 0 := .inr ⟨rfl, Yp.lvq_neg (by decide), rfl, rfl, rfl, rfl, rfl, rfl⟩
      have hxl : x.2.1 < 18446744073709551616 := hO.rbnd (b := toB G x) (by simp)
      have hel : es.length < 1000000 := by rw [hI.elen]; rw [hI.cnt.symm]; omega
      -- the bucket behind
      by_cases hb : ∃ z B3, B2 = z :: B3 ∧ Bk.few (K.drop (G x.1) k) (G z.1)
      · obtain ⟨z, B3, rfl, hfew⟩ := hb
        have hI' : Inv ((B1 ++ [x]) ++ z :: B3) (B1.map (toB G) ++ toB G x :: (z :: B3).map (toB G)) rs es ns fs G := by
          have := hI
          rw [show B1 ++ x :: z :: B3 = (B1 ++ [x]) ++ z :: B3 by simp] at this
          exact this
        have hz := nd_at hI'.seg
        have hper := (hI'.less hfs).2
        have hls : ∀ (x' : Nat × Yp.Kd), Yp.lst (-1) (B1 ++ [x']) = (x'.1 : Int) := fun x' => by rw [Yp.lst_app]; rfl
        rw [hls] at hz
        have hzc := kx_count hT hz
        have hzg : Bk.Good (toB G z) := hO.good _ (by simp)
        have hzl : (G z.1).length ≤ 128 := hzg.2.1
        have hxz : x.1 ≠ z.1 := fun e => n2 z (by simp) e.symm
        have hok : Bk.Ok (B1.map (toB G) ++ (x.2.1, K.drop (G x.1) k ++ G z.1) :: B3.map (toB G)) := Bk.Ok.join1 (c := toB G x) (b := toB G z) hO hfew
        have hkeys : Bk.keys (B1.map (toB G) ++ (x.2.1, K.drop (G x.1) k ++ G z.1) :: B3.map (toB G)) = K.drop (Bk.keys (B1.map (toB G) ++ toB G x :: (z :: B3).map (toB G))) k := by
          rw [← hkd, Bk.keys_swap, List.map_cons, Bk.keys_cons]
          simp [toB]
        have hrl : K.drop rs z.2.1 = Bk.reps (B1.map (toB G) ++ (x.2.1, K.drop (G x.1) k ++ G z.1) :: B3.map (toB G)) ∧ K.xfast (Bk.reps (B1.map (toB G) ++ (x.2.1, K.drop (G x.1) k ++ G z.1) :: B3.map (toB G))) ≤ K.xfast rs := by
          have e : rs = (Bk.reps (B1.map (toB G)) ++ [x.2.1]) ++ z.2.1 :: Bk.reps (B3.map (toB G)) := by rw [hreps0]; simp [Bk.reps, toB]
          have e2 : Bk.reps (B1.map (toB G) ++ (x.2.1, K.drop (G x.1) k ++ G z.1) :: B3.map (toB G)) = (Bk.reps (B1.map (toB G)) ++ [x.2.1]) ++ Bk.reps (B3.map (toB G)) := by simp [Bk.reps]
          have q := Bk.reps_less (by rw [← e]; exact b1) (by rw [← e]; exact b2)
          rw [← e] at q
          rw [e2]
          exact q
        have hU2 : usedB (B1.map (toB G) ++ (x.2.1, K.drop (G x.1) k ++ G z.1) :: B3.map (toB G)) ≤ lim := by
          unfold usedB at hU ⊢
          rw [hkeys]
          rw [← hI.rr] at hU
          simp only [List.length_append, List.length_cons, List.length_map] at hU ⊢
          have := hrl.2
          omega
        refine (del_m1_T hT k hk x.1 x.2.1 x.2.2.1 x.2.2.2.1 x.2.2.2.2 (Yp.lst (-1) B1) (Yp.hd (z :: B3) (-1)) hsel (G x.1) hfound hg.2.2.1 (by omega) hnd hf _ rfl hkl (K.drop (G x.1) k).length rfl z.2.1 z.2.2.1 z.2.2.2.1 z.2.2.2.2 (x.1 : Int) (Yp.hd B3 (-1)) z.1 rfl hz hxz (by omega) (by rw [hzc]; exact hfew) (K.drop (G x.1) k ++ G z.1) (hok.good (x.2.1, K.drop (G x.1) k ++ G z.1) (by simp)).2.2.1 (fun y => List.mem_append) (hO.rbnd (b := toB G z) (by simp)) _ hper (by have := hper.length_eq; rw [List.length_cons] at this; omega)).mono ?_
        rintro e w' ⟨rfl, t, ht, A, c, A4, c4, hy⟩
        refine .inr ⟨by rw [hfo]; exact hf, _, ⟨_, _, _, rfl, h1, h2, .inl ⟨toB G z, B3.map (toB G), rfl, hfew, rfl⟩⟩, hkeys, ?_⟩
        have hI1 := hI.keep rfl A (K.drop (G x.1) k).length c (K.drop (G x.1) k)
        have hI2 := hI1.keep rfl A4 (K.drop (G x.1) k ++ G z.1).length c4 (K.drop (G x.1) k ++ G z.1)
        rw [show B1 ++ (x.1, (x.2.1, A4, (K.drop (G x.1) k ++ G z.1).length, c4)) :: z :: B3 = (B1 ++ [(x.1, (x.2.1, A4, (K.drop (G x.1) k ++ G z.1).length, c4))]) ++ z :: B3 by simp] at hI2
        have hI3 := (hI2.less (by rw [setk_len, setk_len]; exact hfs)).1
        have m1 : ∀ (ks1 ks2 : List Nat), B1.map (toB (upd (upd G x.1 ks1) x.1 ks2)) = B1.map (toB G) := fun ks1 ks2 => by rw [map_upd n1, map_upd n1]
        have m2 : ∀ (ks1 ks2 : List Nat), B3.map (toB (upd (upd G x.1 ks1) x.1 ks2)) = B3.map (toB G) := fun ks1 ks2 => by rw [map_upd (fun y hy => n2 y (by simp [hy])), map_upd (fun y hy => n2 y (by simp [hy]))]
        have hto : toB (upd (upd G x.1 (K.drop (G x.1) k)) x.1 (K.drop (G x.1) k ++ G z.1)) (x.1, (x.2.1, A4, (K.drop (G x.1) k ++ G z.1).length, c4)) = (x.2.1, K.drop (G x.1) k ++ G z.1) := by unfold toB upd; simp
        rw [hls, List.map_append, List.map_singleton, m1, m2, hto] at hI3
        simp only [List.append_assoc, List.singleton_append] at hI3
        rw [hrl.1] at hy
        have e5 : ((B1 ++ [x]) ++ B3).map (fun y => (((0, y.2.1), y.1) : Hs.H.Key × Nat)) = (B1 ++ (x.1, (x.2.1, A4, (K.drop (G x.1) k ++ G z.1).length, c4)) :: B3).map (fun y => (((0, y.2.1), y.1) : Hs.H.Key × Nat)) := by simp
        rw [← e5] at hI3
        exact hy.yop (by rw [hkeys]; exact hk2) hI3 hok hU2 ht _
      · have hbeh : ∃ bb1 rb Ab nb cb ab bb, AtH ns (Yp.hd B2 (-1)) bb1 rb Ab nb cb ab bb ∧ Yp.hd B2 (-1) ≠ (x.1 : Int) ∧ (bb1 = false ∨ (nb ≤ 1000 ∧ ¬ ((K.drop (G x.1) k).length = 0 ∨ nb = 0 ∨ (K.drop (G x.1) k).length + nb ≤ 64))) := by
          cases B2 with
          | nil => exact ⟨false, 0, none, 0, 0, 0, 0, hno, (by show (-1 : Int) ≠ _; omega), .inl rfl⟩
          | cons z B3 =>
            have hI' : Inv ((B1 ++ [x]) ++ z :: B3) (B1.map (toB G) ++ toB G x :: (z :: B3).map (toB G)) rs es ns fs G := by
              have := hI
              rw [show B1 ++ x :: z :: B3 = (B1 ++ [x]) ++ z :: B3 by simp] at this
              exact this
            have hz := nd_at hI'.seg
            have hzc := kx_count hT hz
            have hzg : Bk.Good (toB G z) := hO.good _ (by simp)
            have hzl : (G z.1).length ≤ 128 := hzg.2.1
            have hne := n2 z (by simp)
            refine ⟨true, _, _, _, _, _, _, .inl ⟨rfl, z.1, rfl, hz⟩, (by show (z.1 : Int) ≠ _; omega), .inr ⟨by omega, fun hq => hb ⟨z, B3, rfl, ?_⟩⟩⟩
            rw [hzc] at hq
            exact hq
        obtain ⟨bb1, rb, Ab, nb, cb, ab, bb, r1, r2, r3⟩ := hbeh
        have hnb : ∀ b L3, B2.map (toB G) = b :: L3 → ¬ Bk.few (K.drop (toB G x).2 k) b.2 := fun b L3 e hq => by
          obtain ⟨z, B3, e1, e2, _⟩ := List.map_eq_cons_iff.1 e
          exact hb ⟨z, B3, e1, by rw [← e2] at hq; exact hq⟩
        by_cases ha : ∃ B0 y, B1 = B0 ++ [y] ∧ Bk.few (G y.1) (K.drop (G x.1) k)
        · obtain ⟨B0, y, rfl, hfew⟩ := ha
          have hls : ∀ (y' : Nat × Yp.Kd), Yp.lst (-1) (B0 ++ [y']) = (y'.1 : Int) := fun y' => by rw [Yp.lst_app]; rfl
          have hI' : Inv (B0 ++ y :: x :: B2) ((B0 ++ [y]).map (toB G) ++ toB G x :: B2.map (toB G)) rs es ns fs G := by
            have := hI
            rw [show (B0 ++ [y]) ++ x :: B2 = B0 ++ y :: x :: B2 by simp] at this
            exact this
          have hyn := nd_at hI'.seg
          have hyc := kx_count hT hyn
          have hper := (hI.less hfs).2
          have hO' : Bk.Ok (B0.map (toB G) ++ toB G y :: toB G x :: B2.map (toB G)) := by
            have := hO
            rw [List.map_append, List.map_singleton, List.append_assoc, List.singleton_append] at this
            exact this
          have hyg : Bk.Good (toB G y) := hO'.good _ (by simp)
          have hyl : (G y.1).length ≤ 128 := hyg.2.1
          obtain ⟨p1, p2⟩ := nod_ne hI'.nod
          have hyx : y.1 ≠ x.1 := n1 y (by simp)
          have hok : Bk.Ok (B0.map (toB G) ++ (y.2.1, G y.1 ++ K.drop (G x.1) k) :: B2.map (toB G)) := Bk.Ok.join2 (b := toB G y) (c := toB G x) hO' hfew
          have hkeys : Bk.keys (B0.map (toB G) ++ (y.2.1, G y.1 ++ K.drop (G x.1) k) :: B2.map (toB G)) = K.drop (Bk.keys ((B0 ++ [y]).map (toB G) ++ toB G x :: B2.map (toB G))) k := by
            rw [← hkd, Bk.keys_swap, List.map_append, Bk.keys_app]
            simp [toB, Bk.keys]
          have hrl : K.drop rs x.2.1 = Bk.reps (B0.map (toB G) ++ (y.2.1, G y.1 ++ K.drop (G x.1) k) :: B2.map (toB G)) ∧ K.xfast (Bk.reps (B0.map (toB G) ++ (y.2.1, G y.1 ++ K.drop (G x.1) k) :: B2.map (toB G))) ≤ K.xfast rs := by
            have e2 : Bk.reps (B0.map (toB G) ++ (y.2.1, G y.1 ++ K.drop (G x.1) k) :: B2.map (toB G)) = Bk.reps ((B0 ++ [y]).map (toB G)) ++ Bk.reps (B2.map (toB G)) := by simp [Bk.reps, toB]
            have q := Bk.reps_less (by rw [← hreps0]; exact b1) (by rw [← hreps0]; exact b2)
            rw [← hreps0] at q
            rw [e2]
            exact q
          have hU2 : usedB (B0.map (toB G) ++ (y.2.1, G y.1 ++ K.drop (G x.1) k) :: B2.map (toB G)) ≤ lim := by
            unfold usedB at hU ⊢
            rw [hkeys]
            rw [← hI.rr] at hU
            simp only [List.length_append, List.length_cons, List.length_map] at hU ⊢
            have := hrl.2
            omega
          refine (del_m2_T hT k hk x.1 x.2.1 x.2.2.1 x.2.2.2.1 x.2.2.2.2 (Yp.lst (-1) (B0 ++ [y])) (Yp.hd B2 (-1)) hsel (G x.1) hfound hg.2.2.1 (by omega) hnd hf _ rfl hkl (K.drop (G x.1) k).length rfl rb Ab nb cb ab bb bb1 r1 r2 r3 y.2.1 y.2.2.1 y.2.2.2.1 y.2.2.2.2 (Yp.lst (-1) B0) (x.1 : Int) y.1 (hls y) hyn hyx (by omega) (by rw [hyc]; exact hfew) (G y.1 ++ K.drop (G x.1) k) (hok.good (y.2.1, G y.1 ++ K.drop (G x.1) k) (by simp)).2.2.1 (fun z => List.mem_append) hxl _ hper (by have := hper.length_eq; rw [List.length_cons] at this; omega)).mono ?_
          rintro e w' ⟨rfl, t, ht, A, c, A4, c4, hy⟩
          refine .inr ⟨by rw [hfo]; exact hf, _, ⟨_, _, _, rfl, h1, h2, .inr ⟨hnb, .inl ⟨B0.map (toB G), toB G y, by simp, hfew, rfl⟩⟩⟩, hkeys, ?_⟩
          have hI1 := hI.keep rfl A (K.drop (G x.1) k).length c (K.drop (G x.1) k)
          rw [show (B0 ++ [y]) ++ (x.1, (x.2.1, A, (K.drop (G x.1) k).length, c)) :: B2 = B0 ++ y :: (x.1, (x.2.1, A, (K.drop (G x.1) k).length, c)) :: B2 by simp] at hI1
          have hI2 := hI1.keep rfl A4 (G y.1 ++ K.drop (G x.1) k).length c4 (G y.1 ++ K.drop (G x.1) k)
          rw [show B0 ++ (y.1, (y.2.1, A4, (G y.1 ++ K.drop (G x.1) k).length, c4)) :: (x.1, (x.2.1, A, (K.drop (G x.1) k).length, c)) :: B2 = (B0 ++ [(y.1, (y.2.1, A4, (G y.1 ++ K.drop (G x.1) k).length, c4))]) ++ (x.1, (x.2.1, A, (K.drop (G x.1) k).length, c)) :: B2 by simp] at hI2
          have hI3 := (hI2.less (by rw [setk_len, setk_len]; exact hfs)).1
          have m1 : ∀ (ks1 ks2 : List Nat), B0.map (toB (upd (upd G x.1 ks1) y.1 ks2)) = B0.map (toB G) := fun ks1 ks2 => by rw [map_upd p1, map_upd (fun z hz => n1 z (by simp [hz]))]
          have m2 : ∀ (ks1 ks2 : List Nat), B2.map (toB (upd (upd G x.1 ks1) y.1 ks2)) = B2.map (toB G) := fun ks1 ks2 => by rw [map_upd (fun z hz => p2 z (by simp [hz])), map_upd n2]
          have hto : toB (upd (upd G x.1 (K.drop (G x.1) k)) y.1 (G y.1 ++ K.drop (G x.1) k)) (y.1, (y.2.1, A4, (G y.1 ++ K.drop (G x.1) k).length, c4)) = (y.2.1, G y.1 ++ K.drop (G x.1) k) := by unfold toB upd; simp
          rw [hls, List.map_append, List.map_singleton, m1, m2, hto] at hI3
          simp only [List.append_assoc, List.singleton_append] at hI3
          rw [hrl.1, hls] at hy
          have e5 : ((B0 ++ [y]) ++ B2).map (fun z => (((0, z.2.1), z.1) : Hs.H.Key × Nat)) = (B0 ++ (y.1, (y.2.1, A4, (G y.1 ++ K.drop (G x.1) k).length, c4)) :: B2).map (fun z => (((0, z.2.1), z.1) : Hs.H.Key × Nat)) := by simp
          rw [← e5] at hI3
          exact hy.yop (by rw [hkeys]; exact hk2) hI3 hok hU2 ht _
        · have hahd : ∃ aa1 ra Aa na ca aa ba, AtH ns (Yp.lst (-1) B1) aa1 ra Aa na ca aa ba ∧ Yp.lst (-1) B1 ≠ (x.1 : Int) ∧ (aa1 = false ∨ (na ≤ 1000 ∧ ¬ (na = 0 ∨ (K.drop (G x.1) k).length = 0 ∨ na + (K.drop (G x.1) k).length ≤ 64))) := by
            rcases List.eq_nil_or_concat B1 with rfl | ⟨B0, y, rfl⟩
            · exact ⟨false, 0, none, 0, 0, 0, 0, hno, (by show (-1 : Int) ≠ _; omega), .inl rfl⟩
            · rw [List.concat_eq_append] at *
              have hls : Yp.lst (-1) (B0 ++ [y]) = (y.1 : Int) := by rw [Yp.lst_app]; rfl
              have hI' : Inv (B0 ++ y :: x :: B2) ((B0 ++ [y]).map (toB G) ++ toB G x :: B2.map (toB G)) rs es ns fs G := by
                have := hI
                rw [show (B0 ++ [y]) ++ x :: B2 = B0 ++ y :: x :: B2 by simp] at this
                exact this
              have hyn := nd_at hI'.seg
              have hyc := kx_count hT hyn
              have hyg : Bk.Good (toB G y) := hO.good _ (by simp)
              have hyl : (G y.1).length ≤ 128 := hyg.2.1
              have hne := n1 y (by simp)
              refine ⟨true, _, _, _, _, _, _, .inl ⟨rfl, y.1, hls, hyn⟩, (by rw [hls]; omega), .inr ⟨by omega, fun hq => ha ⟨B0, y, rfl, ?_⟩⟩⟩
              rw [hyc] at hq
              exact hq
          obtain ⟨aa1, ra, Aa, na, ca, aa, ba, s1, s2, s3⟩ := hahd
          have hna : ∀ L0 b, B1.map (toB G) = L0 ++ [b] → ¬ Bk.few b.2 (K.drop (toB G x).2 k) := fun L0 b e hq => by
            obtain ⟨B0, Bz, e4, e5, e6⟩ := List.map_eq_append_iff.1 e
            obtain ⟨y, B3, e7, e8, e9⟩ := List.map_eq_cons_iff.1 e6
            have hB3 : B3 = [] := List.map_eq_nil_iff.1 e9
            subst hB3 e7
            exact ha ⟨B0, y, e4, by rw [← e8] at hq; exact hq⟩
          by_cases hd0 : K.drop (G x.1) k = []
          · have hB1 : B1 = [] := by
              rcases List.eq_nil_or_concat B1 with h | ⟨B0, y, h⟩
              · exact h
              · exact absurd ⟨B0, y, by rw [h, List.concat_eq_append], .inr (.inl (by rw [hd0]; rfl))⟩ ha
            have hB2 : B2 = [] := by
              cases B2 with
              | nil => rfl
              | cons z B3 => exact absurd ⟨z, B3, rfl, .inl (by rw [hd0]; rfl)⟩ hb
            subst hB1 hB2
            have hper := (hI.less (B1 := []) (B2 := []) hfs).2
            have hkeys : Bk.keys [] = K.drop (Bk.keys (([] : Yp.LL).map (toB G) ++ toB G x :: ([] : Yp.LL).map (toB G))) k := by
              rw [← hkd, show K.drop (toB G x).2 k = [] from hd0]
              rfl
            refine (del_en_T hT k hk x.1 x.2.1 x.2.2.1 x.2.2.2.1 x.2.2.2.2 (Yp.lst (-1) []) (Yp.hd [] (-1)) hsel (G x.1) hfound hg.2.2.1 (by omega) hnd hf _ rfl hkl (K.drop (G x.1) k).length rfl rb Ab nb cb ab bb bb1 r1 r2 r3 ra Aa na ca aa ba aa1 s1 s2 s3 (by rw [hd0]; rfl) hxl _ hper (by simp)).mono ?_
            rintro e w' ⟨rfl, t, ht, A, c, hy⟩
            refine .inr ⟨by rw [hfo]; exact hf, [], ⟨_, _, _, rfl, h1, h2, .inr ⟨hnb, .inr ⟨hna, .inl ⟨hd0, rfl, rfl, rfl⟩⟩⟩⟩, hkeys, ?_⟩
            have hI1 := hI.keep (B1 := []) (B2 := []) rfl A (K.drop (G x.1) k).length c (K.drop (G x.1) k)
            have hI3 := (hI1.less (B1 := []) (B2 := []) (by rw [setk_len]; exact hfs)).1
            have hrl : K.drop rs x.2.1 = [] := by
              rw [hreps0]
              exact (Bk.reps_less (A := []) (B := []) (by rw [← List.nil_append [x.2.1]]; have := b1; rw [hreps0] at this; exact this) (by have := b2; rw [hreps0] at this; exact this)).1
            rw [hrl] at hy
            exact hy.yop (l := []) (by rw [hkeys]; exact hk2) hI3 Bk.Ok.nil (Nat.zero_le _) ht _
          · have hok : Bk.Ok (B1.map (toB G) ++ (x.2.1, K.drop (G x.1) k) :: B2.map (toB G)) := Bk.Ok.less (c := toB G x) hO hd0
            have hkeys : Bk.keys (B1.map (toB G) ++ (x.2.1, K.drop (G x.1) k) :: B2.map (toB G)) = K.drop (Bk.keys (B1.map (toB G) ++ toB G x :: B2.map (toB G))) k := by
              rw [← hkd, Bk.keys_swap]
              rfl
            have hU2 : usedB (B1.map (toB G) ++ (x.2.1, K.drop (G x.1) k) :: B2.map (toB G)) ≤ lim := by
              unfold usedB at hU ⊢
              rw [hkeys, show Bk.reps (B1.map (toB G) ++ (x.2.1, K.drop (G x.1) k) :: B2.map (toB G)) = Bk.reps (B1.map (toB G) ++ toB G x :: B2.map (toB G)) by simp [Bk.reps, toB]]
              simp only [List.length_append, List.length_cons, List.length_map] at hU ⊢
              omega
            refine (del_no_T hT k hk x.1 x.2.1 x.2.2.1 x.2.2.2.1 x.2.2.2.2 (Yp.lst (-1) B1) (Yp.hd B2 (-1)) hsel (G x.1) hfound hg.2.2.1 (by omega) hnd hf _ rfl hkl (K.drop (G x.1) k).length rfl rb Ab nb cb ab bb bb1 r1 r2 r3 ra Aa na ca aa ba aa1 s1 s2 s3 (List.length_pos_iff.2 hd0)).mono ?_
            rintro e w' ⟨rfl, t, ht, A, c, hy⟩
            refine .inr ⟨by rw [hfo]; exact hf, _, ⟨_, _, _, rfl, h1, h2, .inr ⟨hnb, .inr ⟨hna, .inr ⟨hd0, rfl⟩⟩⟩⟩, hkeys, ?_⟩
            exact hy.yop (by rw [hkeys]; exact hk2) (hI.keep rfl A _ c _) hok hU2 ht _
end
end Go.Proofs.YtihnjcljheghgaaGreat
end
section
namespace Go.Proofs.YtihnjcljheghgaaGreat
open Go.RowKit
section
variable {w0 w : World} {O : Nat → Prop} {P M X T Q lim tk : Nat} {kn : Int} {rs : List Nat} {es : Es} {ns : List (Yp.Nd × Bool)} {fs : List Nat} {G : Nat → List Nat}
end
section
variable {w : World} {P lim tk : Nat} {l : Bk.BL} {O : Nat → Prop}
end
end Go.Proofs.YtihnjcljheghgaaGreat
end
section
namespace Go.Proofs.YtihnjcljheghgaaGreat
set_option maxRecDepth 20000
open Go.RowKit
namespace Bk
theorem len_le : ∀ (l : BL), (∀ b ∈ l, b.2 ≠ []) → l.length ≤ (keys l).length
  | [], _ => Nat.le_refl _
  | b :: l, h => by
    have h1 := len_le l (fun c hc => h c (by simp [hc]))
    have h2 := List.length_pos_iff.2 (h b (by simp))
    rw [keys_cons, List.length_append, List.length_cons]
    omega
theorem used_le {l : BL} (h : Ok l) : usedB l ≤ 68 * (keys l).length := by
  have h1 := len_le l (fun b hb => (h.good b hb).1)
  have h2 := K.xfs_le (reps l) 65
  have h3 : (reps l).length = l.length := by simp [reps]
  unfold usedB K.xfast
  rw [h3] at h2
  omega
/-- Buckets that rising keys have made. -/
def Sp (l : BL) : Prop := l = [] ∨ ∃ L1 c, l = L1 ++ [c] ∧ (∀ b ∈ L1, b.2.length = 65) ∧ (L1 ≠ [] → 64 ≤ c.2.length)
end Bk
/-- The trie at P holds these buckets; these lists of the law's own lie apart. -/
def TYs (w W : World) (P lim : Nat) (l : Bk.BL) (S : List (Value × List Nat)) : Prop :=
  ∃ tk O, YS W P l lim tk O ∧ Below w.heap.size w W ∧ (∀ j, O j → w.heap.size ≤ j) ∧ ∀ p ∈ S, KX W p.1 p.2 ∧ ∀ g, p.1.ownBlock = some g → ¬ O g
section
variable {w W W' : World} {P lim : Nat} {l : Bk.BL} {S : List (Value × List Nat)}
theorem YS.below {tk : Nat} {O : Nat → Prop} (h : YS W P l lim tk O) (hb : Below W.heap.size W W') : YS W' P l lim tk O := by
  obtain ⟨M, X, T, Q, rs, es, ns, fs, G, BL, hT, hI⟩ := h
  exact ⟨M, X, T, Q, rs, es, ns, fs, G, BL, hT.below hb, hI⟩
theorem TYs.low (h : TYs w W P lim l S) : Below w.heap.size w W := by
  obtain ⟨_, _, _, hb, _, _⟩ := h
  exact hb
theorem TYs.kx (h : TYs w W P lim l S) {v : Value} {xs : List Nat} (hm : (v, xs) ∈ S) : KX W v xs := by
  obtain ⟨_, _, _, _, _, hS⟩ := h
  exact (hS _ hm).1
theorem TYs.fresh (h : TYs w W P lim l S) {v : Value} {xs : List Nat} (hk : KX W' v xs) (hb : Below W.heap.size W W') (hf : ∀ g, v.ownBlock = some g → W.heap.size ≤ g) : TYs w W' P lim l ((v, xs) :: S) := by
  obtain ⟨tk, O, hT, hb0, hO, hS⟩ := h
  refine ⟨tk, O, hT.below hb, hb0.trans (hb.mono hb0.size), hO, fun p hp => ?_⟩
  rcases List.mem_cons.1 hp with rfl | hp
  · exact ⟨hk, fun g hg ho => by have := hf g hg; have := hT.low g ho; omega⟩
  · exact ⟨(hS p hp).1.below hb, (hS p hp).2⟩
theorem yop_tys {O : Nat → Prop} (hb : Below w.heap.size w W) (hO : ∀ j, O j → w.heap.size ≤ j) (hS : ∀ p ∈ S, KX W p.1 p.2 ∧ ∀ g, p.1.ownBlock = some g → ¬ O g) {v : Value} {l' : Bk.BL} {m : Nat} {e : Ending} {w' : World} (h : YOp W P O v l' lim m e w') : e = .returned v ∧ TYs w w' P lim l' S := by
  obtain ⟨rfl, tk', O', _, hT', hC, hO'⟩ := h
  refine ⟨rfl, tk', O', hT', hb.trans (hC.below hb.size hO), fun j hj => ?_, fun p hp => ?_⟩
  · rcases hO' j hj with h1 | h1
    · exact hO j h1
    · exact Nat.le_trans hb.size h1
  · obtain ⟨h1, h2⟩ := hS p hp
    refine ⟨hC.kx h1 h2, fun g hg ho => ?_⟩
    rcases hO' g ho with h3 | h3
    · exact h2 g hg h3
    · rcases h1.form with ⟨e1, _⟩ | ⟨g', c, e1, _, hg', _⟩
      · rw [e1] at hg; simp [Value.ownBlock] at hg
      · rw [e1] at hg
        simp [Value.ownBlock] at hg
        omega
theorem TYs.op (h : TYs w W P lim l S) {f : FuncId} {args : Array Value} {v : Value} {l' : Bk.BL} {m : Nat → Nat}
    (hc : ∀ tk O, YS W P l lim tk O → Calls Tryz.prog f args W (YOp W P O v l' lim (m tk))) : Calls Tryz.prog f args W fun e w' => e = .returned v ∧ TYs w w' P lim l' S := by
  obtain ⟨tk, O, hT, hb, hO, hS⟩ := h
  exact (hc tk O hT).mono fun e w' hy => yop_tys hb hO hS hy
theorem TYs.ok (h : TYs w W P lim l S) : Bk.Ok l := by
  obtain ⟨_, _, ⟨_, _, _, _, _, _, _, _, _, _, _, _, h, _⟩, _⟩ := h
  exact h
end
end Go.Proofs.YtihnjcljheghgaaGreat
end
section
namespace Go.Proofs.YtihnjcljheghgaaGreat
open Go.RowKit
namespace Bk
/-- Any two neighbours have more than 64 keys. -/
def Sh : BL → Prop
  | [] => True
  | a :: l => (∀ b l', l = b :: l' → 64 < a.2.length + b.2.length) ∧ Sh l
theorem sh_cons {L : BL} {a b : Nat × List Nat} : Sh (a :: b :: L) ↔ 64 < a.2.length + b.2.length ∧ Sh (b :: L) := by
  constructor
  · rintro ⟨h1, h2⟩
    exact ⟨h1 b L rfl, h2⟩
  · rintro ⟨h1, h2⟩
    refine ⟨fun c l' e => ?_, h2⟩
    injection e with e _
    rw [← e]
    exact h1
theorem sh_one (a : Nat × List Nat) : Sh [a] := ⟨(fun b l' e => by cases e), trivial⟩
theorem Sh.half : ∀ (l : BL), Sh l → (∀ b ∈ l, b.2 ≠ []) → 65 * (l.length / 2) + l.length % 2 ≤ (keys l).length
  | [], _, _ => Nat.le_refl _
  | [a], _, h => by
    have := List.length_pos_iff.2 (h a (by simp))
    rw [keys_cons, List.length_append]
    simp only [List.length_cons, List.length_nil]
    omega
  | a :: b :: l, hs, h => by
    obtain ⟨h1, h2⟩ := sh_cons.1 hs
    have ih := Sh.half l h2.2 (fun c hc => h c (by simp [hc]))
    rw [keys_cons, keys_cons, List.length_append, List.length_append, List.length_cons, List.length_cons]
    omega
theorem Sh.used {l : BL} (h : Sh l) (ho : Ok l) : usedB l ≤ 4 * (keys l).length + 68 := by
  have h1 := Sh.half l h (fun b hb => (ho.good b hb).1)
  have h2 := K.xfs_le (reps l) 65
  have h3 : (reps l).length = l.length := by simp [reps]
  unfold usedB K.xfast
  rw [h3] at h2
  omega
theorem Sh.same : ∀ (l : BL) (c : Nat × List Nat), (∀ b ∈ l, b.2.length = 65) → (l ≠ [] → 64 ≤ c.2.length) → Sh (l ++ [c])
  | [], c, _, _ => sh_one c
  | [a], c, h, hc => by
    refine sh_cons.2 ⟨?_, sh_one c⟩
    have := h a (by simp)
    have := hc (by simp)
    omega
  | a :: b :: l, c, h, hc => by
    refine sh_cons.2 ⟨?_, Sh.same (b :: l) c (fun d hd => h d (by simp [hd])) (fun _ => hc (by simp))⟩
    have := h a (by simp)
    have := h b (by simp)
    omega
theorem Sp.sh {l : BL} (h : Sp l) : Sh l := by
  rcases h with rfl | ⟨L1, c, rfl, h1, h2⟩
  · exact trivial
  · exact Sh.same L1 c h1 h2
end Bk
end Go.Proofs.YtihnjcljheghgaaGreat
end
section
namespace Go.Proofs.YtihnjcljheghgaaGreat
open Go.RowKit
section
variable {w : World} {P M X T Q lim tk : Nat} {kn : Int} {rs : List Nat} {es : Es} {ns : List (Yp.Nd × Bool)} {fs : List Nat} {G : Nat → List Nat} {OX : Nat → Prop} {r c : Int} {seed Qt Mt n pr : Nat} {An : Option Addr} {cn : Nat} {Af : Option Addr} {cf : Nat}
theorem YB.c2 (h : YB w P M X T Q lim tk kn rs es ns fs G OX r c seed Qt Mt n pr An cn Af cf) : w.cell? ⟨P, 2, none⟩ = some (.pointer (some ⟨T, 0, none⟩)) := cell_of_row w P 2 _ _ (0, 0) h.row
theorem yb_get (h : YB w P M X T Q lim tk kn rs es ns fs G OX r c seed Qt Mt n pr An cn Af cf) (k v : Nat) (hv : ((0, k), v) ∈ es) :
    Calls Tryz.prog 111 #[.pointer (some ⟨T, 0, none⟩), .agg #[.int .u8 0, .int .u64 (k : Int)]] w fun e w' => e = .returned (.tuple #[.int .u64 (v : Int), .bool true]) ∧ ∃ cl, Hs.TStep w T Qt Mt seed n es cl w' :=
  (Hs.tab_get w T Qt Mt seed n pr 0 es h.tab (0, k) (show (0 : Nat) < 256 by decide) (by decide) v true (.inl ⟨rfl, hv⟩)).mono fun e w' ⟨h1, h2⟩ => ⟨h1, _, h2⟩
set_option maxHeartbeats 1000000 in
theorem y_place_b (h : YB w P M X T Q lim tk kn rs es ns fs G OX r c seed Qt Mt n pr An cn Af cf) (k v : Nat) (hv : ((0, k), v) ∈ es) (hvl : v < 1048576) :
    Calls Tryz.prog 79 #[.pointer (some ⟨P, 0, none⟩), .int .u64 (k : Int)] w fun e w' => e = .returned (.int .i64 (v : Int)) ∧ ∃ Qt' n' pr', YB w' P M X T Q lim tk kn rs es ns fs G OX r c seed Qt' Mt n' pr' An cn Af cf ∧ K.Chg w w' (Hs.TF T Qt Mt) ∧ (Qt' = Qt ∨ w.heap.size ≤ Qt') := by
  have hw : IntKind.i64.wrap (v : Int) = (v : Int) := IntWalk.i64_in _ (by omega)
  have HV := Lib.hid hv
  have hd : YB w.drew P M X T Q lim tk kn rs es ns fs G OX r c seed Qt Mt n pr An cn Af cf := h.drewN 1
  have HS0 : Hid (w.drew.cell? ⟨P, 2, none⟩ = some (.pointer (some ⟨T, 0, none⟩))) := Lib.hid hd.c2
  have H := Lib.hid hd
  clear h hv hd
  go_enter Tryz.func79, Tryz.ntmps79
  go_wp2
  go_region_held3 (fun Y => Y.cell? ⟨P, 2, none⟩ = some (.pointer (some ⟨T, 0, none⟩))) (first | (with_reducible exact HS0.out) | (with_reducible exact HS1.out) | (with_reducible exact HS2.out) | go_keep) (first
    | (go_at_call 95; (with_reducible refine (y_name _ k).mono ?_); rintro e w1 ⟨rfl, hb1⟩
       have h1 := H.out.below hb1
       have HS1 := Lib.hid h1.c2
       have HG := Lib.hid (yb_get h1 k v HV.out)
       have H1 := Lib.hid h1
       have HB1 := Lib.hid hb1
       clear hb1 h1)
    | (go_at_call 111; (with_reducible refine HG.out.mono ?_); rintro e w2 ⟨rfl, cl, hst⟩
       obtain ⟨Qt', n', pr', h2, b2, q2⟩ := H1.out.tabs hst
       have HS2 := Lib.hid h2.c2
       have H2 := Lib.hid (And.intro h2 (And.intro b2 q2))
       clear h2 b2 q2 hst))
  all_goals
    go_wp2
    go_ret
    refine ⟨rfl, Qt', n', pr', H2.out.1, ?_, ?_⟩
    · have hd0 : K.Chg w w.drew (Hs.TF T Qt Mt) := (chg_refl w _).drewN 1
      exact (hd0.same (K.Chg.of_below HB1.out)).same H2.out.2.1
    · rcases H2.out.2.2 with h | h
      · exact .inl h
      · exact .inr (Nat.le_trans HB1.out.size h)
end
end Go.Proofs.YtihnjcljheghgaaGreat
end
