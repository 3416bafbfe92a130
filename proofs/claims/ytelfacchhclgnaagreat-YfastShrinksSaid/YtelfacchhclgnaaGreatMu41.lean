/- A key less, and the buckets then: plain. A key is taken out of a y-fast trie: its buckets then. Clear of a y-fast trie; the text walked. -/
import Derived.Test.YtelfacchhclgnaaGreatMu40
section
namespace Go.Proofs.YtelfacchhclgnaaGreat
set_option maxRecDepth 20000
open Go.RowKit
namespace Bk
/-- Are the keys of two buckets to be one's? -/
def few (a b : List Nat) : Prop := a.length = 0 ∨ b.length = 0 ∨ a.length + b.length ≤ 64
section
variable {L1 L2 : BL} {b c : Nat × List Nat} {k : Nat}
/-- Two buckets that stand behind one another are one. -/
theorem Ok.join (h : Ok (L1 ++ b :: c :: L2)) (ys : List Nat) (hg : Good (b.1, ys)) (hb : ∀ d ∈ L2, ∀ x ∈ ys, x < d.1) : Ok (L1 ++ (b.1, ys) :: L2) := by
  have h1 : Ok (L1 ++ b :: L2) := by
    refine ⟨List.Pairwise.sublist (List.Sublist.append (List.Sublist.refl _) ((List.sublist_cons_self c L2).cons_cons b)) h.pw, fun d hd => h.good d ?_, fun d l' e => ?_⟩
    · rcases List.mem_append.1 hd with hd | hd
      · simp [hd]
      · rcases List.mem_cons.1 hd with rfl | hd
        · simp
        · simp [hd]
    · cases L1 with
      | nil =>
        injection e with e _
        rw [← e]
        exact h.fst b _ rfl
      | cons a L1 =>
        injection e with e _
        rw [← e]
        exact h.fst a _ rfl
  exact h1.swap ys hg hb
theorem good_drop (h : Good c) (hn : K.drop c.2 k ≠ []) : Good (c.1, K.drop c.2 k) :=
  ⟨hn, Nat.le_trans (drop_le c.2 k) h.2.1, K.drop_up h.2.2.1 k, fun x hx => h.2.2.2 x ((K.drop_mem h.2.2.1 k x).1 hx).2⟩
theorem good_cat {xs ys : List Nat} {r : Nat} (hx : K.Up xs) (hy : K.Up ys) (h : ∀ x ∈ xs, ∀ y ∈ ys, x < y) (hn : xs ++ ys ≠ []) (lx : xs.length ≤ 128) (ly : ys.length ≤ 128) (hf : few xs ys) (hr : ∀ x ∈ xs ++ ys, r ≤ x ∧ x < 18446744073709551616) : Good (r, xs ++ ys) := by
  refine ⟨hn, ?_, List.pairwise_append.2 ⟨hx, hy, h⟩, hr⟩
  show (xs ++ ys).length ≤ 128
  rw [List.length_append]
  rcases hf with h | h | h <;> omega
theorem Ok.join1 (h : Ok (L1 ++ c :: b :: L2)) (hf : few (K.drop c.2 k) b.2) : Ok (L1 ++ (c.1, K.drop c.2 k ++ b.2) :: L2) := by
  have hc := h.good c (by simp)
  have hb := h.good b (by simp)
  have h2 : Ok (L1 ++ c :: (b :: L2)) := h
  have hbe := h2.behind b (by simp)
  have hm := fun x => K.drop_mem hc.2.2.1 k x
  refine h.join _ (good_cat (K.drop_up hc.2.2.1 k) hb.2.2.1 (fun x hx y hy => ?_) (fun e => hb.1 (List.append_eq_nil_iff.1 e).2) (Nat.le_trans (drop_le c.2 k) hc.2.1) hb.2.1 hf (fun x hx => ?_)) (fun d hd x hx => ?_)
  · have := hbe.2.1 x ((hm x).1 hx).2
    have := hbe.2.2 y hy
    omega
  · rcases List.mem_append.1 hx with hx | hx
    · exact hc.2.2.2 x ((hm x).1 hx).2
    · have := hb.2.2.2 x hx
      exact ⟨by omega, this.2⟩
  · have h3 : Ok ((L1 ++ [c]) ++ b :: L2) := by simpa using h
    rcases List.mem_append.1 hx with hx | hx
    · exact (h2.behind d (by simp [hd])).2.1 x ((hm x).1 hx).2
    · exact h3.after d hd x hx
theorem Ok.join2 (h : Ok (L1 ++ b :: c :: L2)) (hf : few b.2 (K.drop c.2 k)) : Ok (L1 ++ (b.1, b.2 ++ K.drop c.2 k) :: L2) := by
  have hc := h.good c (by simp)
  have hb := h.good b (by simp)
  have h2 : Ok (L1 ++ b :: (c :: L2)) := h
  have hbe := h2.behind c (by simp)
  have hm := fun x => K.drop_mem hc.2.2.1 k x
  refine h.join _ (good_cat hb.2.2.1 (K.drop_up hc.2.2.1 k) (fun x hx y hy => ?_) (fun e => hb.1 (List.append_eq_nil_iff.1 e).1) hb.2.1 (Nat.le_trans (drop_le c.2 k) hc.2.1) hf (fun x hx => ?_)) (fun d hd x hx => ?_)
  · have := hbe.2.1 x hx
    have := hbe.2.2 y ((hm y).1 hy).2
    omega
  · rcases List.mem_append.1 hx with hx | hx
    · exact hb.2.2.2 x hx
    · have := hc.2.2.2 x ((hm x).1 hx).2
      exact ⟨by omega, this.2⟩
  · have h3 : Ok ((L1 ++ [b]) ++ c :: L2) := by simpa using h
    rcases List.mem_append.1 hx with hx | hx
    · exact (h2.behind d (by simp [hd])).2.1 x hx
    · exact h3.after d hd x ((hm x).1 hx).2
theorem Ok.less (h : Ok (L1 ++ c :: L2)) (hn : K.drop c.2 k ≠ []) : Ok (L1 ++ (c.1, K.drop c.2 k) :: L2) :=
  h.swap _ (good_drop h.cup hn) (fun d hd x hx => h.after d hd x ((K.drop_mem h.cup.2.2.1 k x).1 hx).2)
/-- All keys, a key less. -/
theorem Ok.keys_drop (h : Ok (L1 ++ c :: L2)) (h1 : c.1 ≤ k) (h2 : ∀ d ∈ L2, k < d.1) : keys L1 ++ K.drop c.2 k ++ keys L2 = K.drop (keys (L1 ++ c :: L2)) k := by
  have hL1 : ∀ x ∈ keys L1, x ≠ k := fun x hx e => by
    have := h.before x hx
    omega
  have hL2 : ∀ x ∈ keys L2, x ≠ k := fun x hx e => by
    obtain ⟨d, hd, hx⟩ := mem_keys.1 hx
    have := h2 d hd
    have := (h.behind d hd).2.2 x hx
    omega
  have hup : K.Up (keys L1 ++ K.drop c.2 k ++ keys L2) := by
    have hk := h.kup
    rw [keys_app, keys_cons] at hk
    obtain ⟨g1, g2, g3⟩ := List.pairwise_append.1 hk
    obtain ⟨g4, g5, g6⟩ := List.pairwise_append.1 g2
    have hm := fun x => K.drop_mem g4 k x
    rw [List.append_assoc]
    refine List.pairwise_append.2 ⟨g1, List.pairwise_append.2 ⟨K.drop_up g4 k, g5, fun x hx y hy => g6 x ((hm x).1 hx).2 y hy⟩, fun x hx y hy => g3 x hx y ?_⟩
    rcases List.mem_append.1 hy with hy | hy
    · exact List.mem_append_left _ ((hm y).1 hy).2
    · exact List.mem_append_right _ hy
  refine up_extY hup (K.drop_up h.kup k) fun x => ?_
  rw [K.drop_mem h.kup, mem3, List.mem_append, List.mem_append, K.drop_mem h.cup.2.2.1]
  constructor
  · rintro ((h | h) | h)
    · exact ⟨hL1 x h, .inl h⟩
    · exact ⟨h.1, .inr (.inl h.2)⟩
    · exact ⟨hL2 x h, .inr (.inr h)⟩
  · rintro ⟨h1, h | h | h⟩
    · exact .inl (.inl h)
    · exact .inl (.inr ⟨h1, h⟩)
    · exact .inr h
theorem drop_len1 {xs : List Nat} {k : Nat} (hu : K.Up xs) (h : K.fo xs k = true) : (K.drop xs k).length + 1 = xs.length := T.drop_len hu ((K.fo_mem hu k).1 h)
/-- A representative less. -/
theorem reps_less {A B : List Nat} {r : Nat} (hu : K.Up (A ++ r :: B)) (hx : ∀ x ∈ A ++ r :: B, x < 18446744073709551616) : K.drop (A ++ r :: B) r = A ++ B ∧ K.xfast (A ++ B) ≤ K.xfast (A ++ r :: B) := by
  obtain ⟨g1, g2, g3⟩ := List.pairwise_append.1 hu
  obtain ⟨g4, g5⟩ := List.pairwise_cons.1 g2
  have hu2 : K.Up (A ++ B) := List.pairwise_append.2 ⟨g1, g5, fun x hx y hy => g3 x hx y (by simp [hy])⟩
  have hn : r ∉ A ++ B := fun hr => by
    rcases List.mem_append.1 hr with hr | hr
    · have := g3 r hr r (by simp)
      omega
    · have := g4 r hr
      omega
  have e : K.drop (A ++ r :: B) r = A ++ B := by
    refine up_extY (K.drop_up hu r) hu2 fun x => ?_
    rw [K.drop_mem hu]
    simp only [List.mem_append, List.mem_cons] at hn ⊢
    constructor
    · rintro ⟨h1, h | h | h⟩
      · exact .inl h
      · exact absurd h h1
      · exact .inr h
    · rintro (h | h)
      · exact ⟨fun e => hn (.inl (e ▸ h)), .inl h⟩
      · exact ⟨fun e => hn (.inr (e ▸ h)), .inr (.inr h)⟩
  have ea : K.add (A ++ B) r = A ++ r :: B := by
    refine up_extY (K.add_up hu2 r) hu fun x => ?_
    rw [K.add_mem hu2]
    simp only [List.mem_append, List.mem_cons]
    constructor
    · rintro (h | h | h)
      · exact .inr (.inl h)
      · exact .inl h
      · exact .inr (.inr h)
    · rintro (h | h | h)
      · exact .inr (.inl h)
      · exact .inl h
      · exact .inr (.inr h)
  refine ⟨e, ?_⟩
  have hg := (xfast_grows (y := r) hu2 (fun x hxm => hx x (by
    rcases List.mem_append.1 hxm with h | h
    · simp [h]
    · simp [h])) (hx r (by simp)) (by rw [Bool.eq_false_iff]; exact fun hf => hn ((K.fo_mem hu2 r).1 hf))).1
  rw [ea] at hg
  exact hg
end
end Bk
theorem setb_set {ns : List (Yp.Nd × Bool)} {n : Nat} {x : Yp.Nd × Bool} {i b : Int} (h : i ≠ (n : Int)) : Yp.setb (ns.set n x) i b = (Yp.setb ns i b).set n x := by
  have hl : Yp.lvq (ns.set n x) i = Yp.lvq ns i := by
    unfold Yp.lvq
    by_cases h0 : 0 ≤ i
    · rw [List.getElem?_set_ne (by omega)]
    · rw [decide_eq_false h0]
      rfl
  unfold Yp.setb
  rw [hl]
  split
  · rename_i hv
    obtain ⟨k, rfl, _⟩ := Yp.lvq_form hv
    have hn : Yp.ndi (ns.set n x) (k : Int) = Yp.ndi ns (k : Int) := by
      unfold Yp.ndi
      rw [List.getElem?_set_ne (by omega)]
    rw [hn, Int.toNat_natCast, List.set_comm _ _ (by omega)]
  · rfl
theorem seta_set {ns : List (Yp.Nd × Bool)} {n : Nat} {x : Yp.Nd × Bool} {i b : Int} (h : i ≠ (n : Int)) : Yp.seta (ns.set n x) i b = (Yp.seta ns i b).set n x := by
  have hl : Yp.lvq (ns.set n x) i = Yp.lvq ns i := by
    unfold Yp.lvq
    by_cases h0 : 0 ≤ i
    · rw [List.getElem?_set_ne (by omega)]
    · rw [decide_eq_false h0]
      rfl
  unfold Yp.seta
  rw [hl]
  split
  · rename_i hv
    obtain ⟨k, rfl, _⟩ := Yp.lvq_form hv
    have hn : Yp.ndi (ns.set n x) (k : Int) = Yp.ndi ns (k : Int) := by
      unfold Yp.ndi
      rw [List.getElem?_set_ne (by omega)]
    rw [hn, Int.toNat_natCast, List.set_comm _ _ (by omega)]
  · rfl
section
variable {l : Bk.BL} {rs : List Nat} {es : Es} {ns : List (Yp.Nd × Bool)} {fs : List Nat} {G : Nat → List Nat}
/-- A bucket less. -/
theorem Inv.less {B1 B2 : Yp.LL} {x : Nat × Yp.Kd} (h : Inv (B1 ++ x :: B2) l rs es ns fs G) (hfs : fs.length < ns.length) :
    Inv (B1 ++ B2) (B1.map (toB G) ++ B2.map (toB G)) (Bk.reps (B1.map (toB G) ++ B2.map (toB G))) ((B1 ++ B2).map fun x => ((0, x.2.1), x.1)) ((Yp.seta (Yp.setb ns (Yp.lst (-1) B1) (Yp.hd B2 (-1))) (Yp.hd B2 (-1)) (Yp.lst (-1) B1)).set x.1 (Yp.Nd.z, false)) (fs ++ [x.1]) G ∧
      es.Perm (((0, x.2.1), x.1) :: (B1 ++ B2).map fun x => ((0, x.2.1), x.1)) := by
  obtain ⟨n1, n2⟩ := nod_ne h.nod
  obtain ⟨n, kd⟩ := x
  have a1 : Yp.lst (-1) B1 ≠ (n : Int) := fun e => Yp.lst_ne n1 e.symm
  have a2 : Yp.hd B2 (-1) ≠ (n : Int) := fun e => Yp.hd_ne n2 e.symm
  refine ⟨⟨?_, ?_, (List.map_append ..).symm, rfl, List.Perm.refl _, ?_⟩, ?_⟩
  · have hs := Yp.seg_less (x := (Yp.Nd.z, false)) h.seg h.nod
    rw [setb_set a1, seta_set a2] at hs
    exact hs
  · exact h.nod.sublist (List.Sublist.map _ (List.Sublist.append (List.Sublist.refl _) (List.sublist_cons_self _ _)))
  · rw [List.length_set, Yp.seta_len, Yp.setb_len, List.length_append, List.length_append]
    have := h.cnt
    rw [List.length_append, List.length_cons] at this
    simp only [List.length_cons, List.length_nil]
    omega
  · refine h.ee.trans ?_
    rw [List.map_append, List.map_cons, List.map_append]
    exact List.perm_middle
end
end Go.Proofs.YtelfacchhclgnaaGreat
end
section
namespace Go.Proofs.YtelfacchhclgnaaGreat
open Go.RowKit
/-- The buckets behind a deletion. -/
def DelTo (l : Bk.BL) (k : Nat) (l' : Bk.BL) : Prop :=
  ∃ L1 c L2, l = L1 ++ c :: L2 ∧ c.1 ≤ k ∧ (∀ d ∈ L2, k < d.1) ∧
    ((∃ b L3, L2 = b :: L3 ∧ Bk.few (K.drop c.2 k) b.2 ∧ l' = L1 ++ (c.1, K.drop c.2 k ++ b.2) :: L3) ∨
     ((∀ b L3, L2 = b :: L3 → ¬ Bk.few (K.drop c.2 k) b.2) ∧
      ((∃ L0 b, L1 = L0 ++ [b] ∧ Bk.few b.2 (K.drop c.2 k) ∧ l' = L0 ++ (b.1, b.2 ++ K.drop c.2 k) :: L2) ∨
       ((∀ L0 b, L1 = L0 ++ [b] → ¬ Bk.few b.2 (K.drop c.2 k)) ∧
        ((K.drop c.2 k = [] ∧ L1 = [] ∧ L2 = [] ∧ l' = []) ∨ (K.drop c.2 k ≠ [] ∧ l' = L1 ++ (c.1, K.drop c.2 k) :: L2))))))
theorem kx_count {w : World} {P M X T Q lim tk : Nat} {kn : Int} {rs : List Nat} {es : Es} {ns : List (Yp.Nd × Bool)} {fs : List Nat} {G : Nat → List Nat} {O : Nat → Prop} (h : YT w P M X T Q lim tk kn rs es ns fs G O) {j r n c : Nat} {A : Option Addr} {a b : Int} (hj : ns[j]? = some (⟨r, A, n, c, a, b⟩, true)) : n = (G j).length := by
  obtain ⟨A', c', e, _⟩ := Kb.kx_rh (h.kx hj)
  injection e with _ e _
section
variable {w : World} {P lim tk : Nat} {l : Bk.BL} {O : Nat → Prop}
set_option maxHeartbeats 4000000 in
theorem ys_delete (h : YS w P l lim tk O) (k : Nat) (hk : k < 18446744073709551616) :
    Calls Tryz.prog 26 #[.pointer (some ⟨P, 0, none⟩), .int .u64 (k : Int)] w fun e w' =>
      (K.fo (Bk.keys l) k = false ∧ YOp w P O (.int .i64 3) l lim 120 e w') ∨
      (K.fo (Bk.keys l) k = true ∧ ∃ l', DelTo l k l' ∧ Bk.keys l' = K.drop (Bk.keys l) k ∧ YOp w P O (.int .i64 0) l' lim 120 e w') := by
  obtain ⟨M, X, T, Q, rs, es, ns, fs, G, BL, hT, hI, hO, hU⟩ := h
  obtain ⟨b1, b2, b3, b4, b5, b6⟩ := (YR.start hT).bounds
  have hkl : (Bk.keys l).length ≤ 500000 := by
    unfold usedB at hU
    omega
  by_cases hl : l = []
  · subst hl
    obtain ⟨rfl, rfl, rfl, _⟩ := hI.none
    refine (del_out_T hT k hk (-1) 0 none 0 0 (-1) (-1) sel_none [] (.inl ⟨rfl, rfl, rfl⟩) List.Pairwise.nil (by decide) (add_nilY k).1).mono ?_
    rintro e w' ⟨rfl, t, ht, hy⟩
    exact .inl ⟨(add_nilY k).1, hy.yop rfl hI hO hU (by omega) _⟩
  · obtain ⟨L1, c, L2, hcut, h1, h2⟩ := hO.at hl k
    subst hcut
    obtain ⟨B1, x, B2, hB, e1, e2, e3⟩ := hI.cut rfl
    subst e1 e2 e3 hB
    have hsel := hI.sel hO rfl h1 h2 rfl rfl (by omega)
    have hnd := nd_at hI.seg
    have hg : Bk.Good (toB G x) := hO.cup
    have hfo : K.fo (Bk.keys (B1.map (toB G) ++ toB G x :: B2.map (toB G))) k = K.fo (G x.1) k := hO.fo h1 h2
    have hfound : Found ns G (x.1 : Int) ⟨x.2.1, x.2.2.1, x.2.2.2.1, x.2.2.2.2, Yp.lst (-1) B1, Yp.hd B2 (-1)⟩ (G x.1) := .inr ⟨x.1, rfl, hnd, rfl⟩
    have hlen : (G x.1).length ≤ 128 := hg.2.1
    cases hf : K.fo (G x.1) k with
    | false =>
      refine (del_out_T hT k hk (x.1 : Int) x.2.1 x.2.2.1 x.2.2.2.1 x.2.2.2.2 (Yp.lst (-1) B1) (Yp.hd B2 (-1)) hsel (G x.1) hfound hg.2.2.1 (by omega) hf).mono ?_
      rintro e w' ⟨rfl, t, ht, hy⟩
      exact .inl ⟨by rw [hfo]; exact hf, hy.yop rfl hI hO hU (by omega) _⟩
    | true =>
      have hkd := hO.keys_drop h1 h2
      have hk1 := Bk.drop_len1 hO.kup (k := k) (by rw [hfo]; exact hf)
      have hk2 : ((((Bk.keys (B1.map (toB G) ++ toB G x :: B2.map (toB G))).length : Nat) : Int) - 1) = ((K.drop (Bk.keys (B1.map (toB G) ++ toB G x :: B2.map (toB G))) k).length : Int) := by omega
      have hfs : fs.length < ns.length := by
        have := hI.cnt
        rw [List.length_append, List.length_cons] at this
        omega
      have hreps0 : rs = Bk.reps (B1.map (toB G)) ++ x.2.1 :: Bk.reps (B2.map (toB G)) := by rw [hI.rr]; simp [Bk.reps, toB]
      have hlB := hI.len
      obtain ⟨n1, n2⟩ := nod_ne hI.nod
      have hdl : (K.drop (G x.1) k).length ≤ 128 := Nat.le_trans (drop_le _ k) hlen
      have hno : AtH ns (-1) false 0 none 0 0 0 0 := .inr ⟨rfl, Yp.lvq_neg (by decide), rfl, rfl, rfl, rfl, rfl, rfl⟩
      have hxl : x.2.1 < 18446744073709551616 := hO.rbnd (b := toB G x) (by simp)
      have hel : es.length < 1000000 := by rw [hI.elen]; rw [hI.cnt.symm]; omega
      -- the bucket behind
      by_cases hb : ∃ z B3, B2 = z :: B3 ∧ Bk.few (K.drop (G x.1) k) (G z.1)
      · obtain ⟨z, B3, rfl, hfew⟩ := hb
        have hI' : Inv ((B1 ++ [x]) ++ z :: B3) (B1.map (toB G) ++ toB G x :: (z :: B3).map (toB G)) rs es ns fs G := by
          have := hI
          rw [show B1 ++ x :: z :: B3 = (B1 ++ [x]) ++ z :: B3 by simp] at this
          exact this
        have hz := nd_at hI'.seg
        have hper := (hI'.less hfs).2
        have hls : ∀ (x' : Nat × Yp.Kd), Yp.lst (-1) (B1 ++ [x']) = (x'.1 : Int) := fun x' => by rw [Yp.lst_app]; rfl
        rw [hls] at hz
        have hzc := kx_count hT hz
        have hzg : Bk.Good (toB G z) := hO.good _ (by simp)
        have hzl : (G z.1).length ≤ 128 := hzg.2.1
        have hxz : x.1 ≠ z.1 := fun e => n2 z (by simp) e.symm
        have hok : Bk.Ok (B1.map (toB G) ++ (x.2.1, K.drop (G x.1) k ++ G z.1) :: B3.map (toB G)) := Bk.Ok.join1 (c := toB G x) (b := toB G z) hO hfew
        have hkeys : Bk.keys (B1.map (toB G) ++ (x.2.1, K.drop (G x.1) k ++ G z.1) :: B3.map (toB G)) = K.drop (Bk.keys (B1.map (toB G) ++ toB G x :: (z :: B3).map (toB G))) k := by
          rw [← hkd, Bk.keys_swap, List.map_cons, Bk.keys_cons]
          simp [toB]
        have hrl : K.drop rs z.2.1 = Bk.reps (B1.map (toB G) ++ (x.2.1, K.drop (G x.1) k ++ G z.1) :: B3.map (toB G)) ∧ K.xfast (Bk.reps (B1.map (toB G) ++ (x.2.1, K.drop (G x.1) k ++ G z.1) :: B3.map (toB G))) ≤ K.xfast rs := by
          have e : rs = (Bk.reps (B1.map (toB G)) ++ [x.2.1]) ++ z.2.1 :: Bk.reps (B3.map (toB G)) := by rw [hreps0]; simp [Bk.reps, toB]
          have e2 : Bk.reps (B1.map (toB G) ++ (x.2.1, K.drop (G x.1) k ++ G z.1) :: B3.map (toB G)) = (Bk.reps (B1.map (toB G)) ++ [x.2.1]) ++ Bk.reps (B3.map (toB G)) := by simp [Bk.reps]
          have q := Bk.reps_less (by rw [← e]; exact b1) (by rw [← e]; exact b2)
          rw [← e] at q
          rw [e2]
          exact q
        have hU2 : usedB (B1.map (toB G) ++ (x.2.1, K.drop (G x.1) k ++ G z.1) :: B3.map (toB G)) ≤ lim := by
          unfold usedB at hU ⊢
          rw [hkeys]
          rw [← hI.rr] at hU
          simp only [List.length_append, List.length_cons, List.length_map] at hU ⊢
          have := hrl.2
          omega
        refine (del_m1_T hT k hk x.1 x.2.1 x.2.2.1 x.2.2.2.1 x.2.2.2.2 (Yp.lst (-1) B1) (Yp.hd (z :: B3) (-1)) hsel (G x.1) hfound hg.2.2.1 (by omega) hnd hf _ rfl hkl (K.drop (G x.1) k).length rfl z.2.1 z.2.2.1 z.2.2.2.1 z.2.2.2.2 (x.1 : Int) (Yp.hd B3 (-1)) z.1 rfl hz hxz (by omega) (by rw [hzc]; exact hfew) (K.drop (G x.1) k ++ G z.1) (hok.good (x.2.1, K.drop (G x.1) k ++ G z.1) (by simp)).2.2.1 (fun y => List.mem_append) (hO.rbnd (b := toB G z) (by simp)) _ hper (by have := hper.length_eq; rw [List.length_cons] at this; omega)).mono ?_
        rintro e w' ⟨rfl, t, ht, A, c, A4, c4, hy⟩
        refine .inr ⟨by rw [hfo]; exact hf, _, ⟨_, _, _, rfl, h1, h2, .inl ⟨toB G z, B3.map (toB G), rfl, hfew, rfl⟩⟩, hkeys, ?_⟩
        have hI1 := hI.keep rfl A (K.drop (G x.1) k).length c (K.drop (G x.1) k)
        have hI2 := hI1.keep rfl A4 (K.drop (G x.1) k ++ G z.1).length c4 (K.drop (G x.1) k ++ G z.1)
        rw [show B1 ++ (x.1, (x.2.1, A4, (K.drop (G x.1) k ++ G z.1).length, c4)) :: z :: B3 = (B1 ++ [(x.1, (x.2.1, A4, (K.drop (G x.1) k ++ G z.1).length, c4))]) ++ z :: B3 by simp] at hI2
        have hI3 := (hI2.less (by rw [setk_len, setk_len]; exact hfs)).1
        have m1 : ∀ (ks1 ks2 : List Nat), B1.map (toB (upd (upd G x.1 ks1) x.1 ks2)) = B1.map (toB G) := fun ks1 ks2 => by rw [map_upd n1, map_upd n1]
        have m2 : ∀ (ks1 ks2 : List Nat), B3.map (toB (upd (upd G x.1 ks1) x.1 ks2)) = B3.map (toB G) := fun ks1 ks2 => by rw [map_upd (fun y hy => n2 y (by simp [hy])), map_upd (fun y hy => n2 y (by simp [hy]))]
        have hto : toB (upd (upd G x.1 (K.drop (G x.1) k)) x.1 (K.drop (G x.1) k ++ G z.1)) (x.1, (x.2.1, A4, (K.drop (G x.1) k ++ G z.1).length, c4)) = (x.2.1, K.drop (G x.1) k ++ G z.1) := by unfold toB upd; simp
        rw [hls, List.map_append, List.map_singleton, m1, m2, hto] at hI3
        simp only [List.append_assoc, List.singleton_append] at hI3
        rw [hrl.1] at hy
        have e5 : ((B1 ++ [x]) ++ B3).map (fun y => (((0, y.2.1), y.1) : Hs.H.Key × Nat)) = (B1 ++ (x.1, (x.2.1, A4, (K.drop (G x.1) k ++ G z.1).length, c4)) :: B3).map (fun y => (((0, y.2.1), y.1) : Hs.H.Key × Nat)) := by simp
        rw [← e5] at hI3
        exact hy.yop (by rw [hkeys]; exact hk2) hI3 hok hU2 ht _
      · have hbeh : ∃ bb1 rb Ab nb cb ab bb, AtH ns (Yp.hd B2 (-1)) bb1 rb Ab nb cb ab bb ∧ Yp.hd B2 (-1) ≠ (x.1 : Int) ∧ (bb1 = false ∨ (nb ≤ 1000 ∧ ¬ ((K.drop (G x.1) k).length = 0 ∨ nb = 0 ∨ (K.drop (G x.1) k).length + nb ≤ 64))) := by
          cases B2 with
          | nil => exact ⟨false, 0, none, 0, 0, 0, 0, hno, (by show (-1 : Int) ≠ _; omega), .inl rfl⟩
          | cons z B3 =>
            have hI' : Inv ((B1 ++ [x]) ++ z :: B3) (B1.map (toB G) ++ toB G x :: (z :: B3).map (toB G)) rs es ns fs G := by
              have := hI
              rw [show B1 ++ x :: z :: B3 = (B1 ++ [x]) ++ z :: B3 by simp] at this
              exact this
            have hz := nd_at hI'.seg
            have hzc := kx_count hT hz
            have hzg : Bk.Good (toB G z) := hO.good _ (by simp)
            have hzl : (G z.1).length ≤ 128 := hzg.2.1
            have hne := n2 z (by simp)
            refine ⟨true, _, _, _, _, _, _, .inl ⟨rfl, z.1, rfl, hz⟩, (by show (z.1 : Int) ≠ _; omega), .inr ⟨by omega, fun hq => hb ⟨z, B3, rfl, ?_⟩⟩⟩
            rw [hzc] at hq
            exact hq
        obtain ⟨bb1, rb, Ab, nb, cb, ab, bb, r1, r2, r3⟩ := hbeh
        have hnb : ∀ b L3, B2.map (toB G) = b :: L3 → ¬ Bk.few (K.drop (toB G x).2 k) b.2 := fun b L3 e hq => by
          obtain ⟨z, B3, e1, e2, _⟩ := List.map_eq_cons_iff.1 e
          exact hb ⟨z, B3, e1, by rw [← e2] at hq; exact hq⟩
        by_cases ha : ∃ B0 y, B1 = B0 ++ [y] ∧ Bk.few (G y.1) (K.drop (G x.1) k)
        · obtain ⟨B0, y, rfl, hfew⟩ := ha
          have hls : ∀ (y' : Nat × Yp.Kd), Yp.lst (-1) (B0 ++ [y']) = (y'.1 : Int) := fun y' => by rw [Yp.lst_app]; rfl
          have hI' : Inv (B0 ++ y :: x :: B2) ((B0 ++ [y]).map (toB G) ++ toB G x :: B2.map (toB G)) rs es ns fs G := by
            have := hI
            rw [show (B0 ++ [y]) ++ x :: B2 = B0 ++ y :: x :: B2 by simp] at this
            exact this
          have hyn := nd_at hI'.seg
          have hyc := kx_count hT hyn
          have hper := (hI.less hfs).2
          have hO' : Bk.Ok (B0.map (toB G) ++ toB G y :: toB G x :: B2.map (toB G)) := by
            have := hO
            rw [List.map_append, List.map_singleton, List.append_assoc, List.singleton_append] at this
            exact this
          have hyg : Bk.Good (toB G y) := hO'.good _ (by simp)
          have hyl : (G y.1).length ≤ 128 := hyg.2.1
          obtain ⟨p1, p2⟩ := nod_ne hI'.nod
          have hyx : y.1 ≠ x.1 := n1 y (by simp)
          have hok : Bk.Ok (B0.map (toB G) ++ (y.2.1, G y.1 ++ K.drop (G x.1) k) :: B2.map (toB G)) := Bk.Ok.join2 (b := toB G y) (c := toB G x) hO' hfew
          have hkeys : Bk.keys (B0.map (toB G) ++ (y.2.1, G y.1 ++ K.drop (G x.1) k) :: B2.map (toB G)) = K.drop (Bk.keys ((B0 ++ [y]).map (toB G) ++ toB G x :: B2.map (toB G))) k := by
            rw [← hkd, Bk.keys_swap, List.map_append, Bk.keys_app]
            simp [toB, Bk.keys]
          have hrl : K.drop rs x.2.1 = Bk.reps (B0.map (toB G) ++ (y.2.1, G y.1 ++ K.drop (G x.1) k) :: B2.map (toB G)) ∧ K.xfast (Bk.reps (B0.map (toB G) ++ (y.2.1, G y.1 ++ K.drop (G x.1) k) :: B2.map (toB G))) ≤ K.xfast rs := by
            have e2 : Bk.reps (B0.map (toB G) ++ (y.2.1, G y.1 ++ K.drop (G x.1) k) :: B2.map (toB G)) = Bk.reps ((B0 ++ [y]).map (toB G)) ++ Bk.reps (B2.map (toB G)) := by simp [Bk.reps, toB]
            have q := Bk.reps_less (by rw [← hreps0]; exact b1) (by rw [← hreps0]; exact b2)
            rw [← hreps0] at q
            rw [e2]
            exact q
          have hU2 : usedB (B0.map (toB G) ++ (y.2.1, G y.1 ++ K.drop (G x.1) k) :: B2.map (toB G)) ≤ lim := by
            unfold usedB at hU ⊢
            rw [hkeys]
            rw [← hI.rr] at hU
            simp only [List.length_append, List.length_cons, List.length_map] at hU ⊢
            have := hrl.2
            omega
          refine (del_m2_T hT k hk x.1 x.2.1 x.2.2.1 x.2.2.2.1 x.2.2.2.2 (Yp.lst (-1) (B0 ++ [y])) (Yp.hd B2 (-1)) hsel (G x.1) hfound hg.2.2.1 (by omega) hnd hf _ rfl hkl (K.drop (G x.1) k).length rfl rb Ab nb cb ab bb bb1 r1 r2 r3 y.2.1 y.2.2.1 y.2.2.2.1 y.2.2.2.2 (Yp.lst (-1) B0) (x.1 : Int) y.1 (hls y) hyn hyx (by omega) (by rw [hyc]; exact hfew) (G y.1 ++ K.drop (G x.1) k) (hok.good (y.2.1, G y.1 ++ K.drop (G x.1) k) (by simp)).2.2.1 (fun z => List.mem_append) hxl _ hper (by have := hper.length_eq; rw [List.length_cons] at this; omega)).mono ?_
          rintro e w' ⟨rfl, t, ht, A, c, A4, c4, hy⟩
          refine .inr ⟨by rw [hfo]; exact hf, _, ⟨_, _, _, rfl, h1, h2, .inr ⟨hnb, .inl ⟨B0.map (toB G), toB G y, by simp, hfew, rfl⟩⟩⟩, hkeys, ?_⟩
          have hI1 := hI.keep rfl A (K.drop (G x.1) k).length c (K.drop (G x.1) k)
          rw [show (B0 ++ [y]) ++ (x.1, (x.2.1, A, (K.drop (G x.1) k).length, c)) :: B2 = B0 ++ y :: (x.1, (x.2.1, A, (K.drop (G x.1) k).length, c)) :: B2 by simp] at hI1
          have hI2 := hI1.keep rfl A4 (G y.1 ++ K.drop (G x.1) k).length c4 (G y.1 ++ K.drop (G x.1) k)
          rw [show B0 ++ (y.1, (y.2.1, A4, (G y.1 ++ K.drop (G x.1) k).length, c4)) :: (x.1, (x.2.1, A, (K.drop (G x.1) k).length, c)) :: B2 = (B0 ++ [(y.1, (y.2.1, A4, (G y.1 ++ K.drop (G x.1) k).length, c4))]) ++ (x.1, (x.2.1, A, (K.drop (G x.1) k).length, c)) :: B2 by simp] at hI2
          have hI3 := (hI2.less (by rw [setk_len, setk_len]; exact hfs)).1
          have m1 : ∀ (ks1 ks2 : List Nat), B0.map (toB (upd (upd G x.1 ks1) y.1 ks2)) = B0.map (toB G) := fun ks1 ks2 => by rw [map_upd p1, map_upd (fun z hz => n1 z (by simp [hz]))]
          have m2 : ∀ (ks1 ks2 : List Nat), B2.map (toB (upd (upd G x.1 ks1) y.1 ks2)) = B2.map (toB G) := fun ks1 ks2 => by rw [map_upd (fun z hz => p2 z (by simp [hz])), map_upd n2]
          have hto : toB (upd (upd G x.1 (K.drop (G x.1) k)) y.1 (G y.1 ++ K.drop (G x.1) k)) (y.1, (y.2.1, A4, (G y.1 ++ K.drop (G x.1) k).length, c4)) = (y.2.1, G y.1 ++ K.drop (G x.1) k) := by unfold toB upd; simp
          rw [hls, List.map_append, List.map_singleton, m1, m2, hto] at hI3
          simp only [List.append_assoc, List.singleton_append] at hI3
          rw [hrl.1, hls] at hy
          have e5 : ((B0 ++ [y]) ++ B2).map (fun z => (((0, z.2.1), z.1) : Hs.H.Key × Nat)) = (B0 ++ (y.1, (y.2.1, A4, (G y.1 ++ K.drop (G x.1) k).length, c4)) :: B2).map (fun z => (((0, z.2.1), z.1) : Hs.H.Key × Nat)) := by simp
          rw [← e5] at hI3
          exact hy.yop (by rw [hkeys]; exact hk2) hI3 hok hU2 ht _
        · have hahd : ∃ aa1 ra Aa na ca aa ba, AtH ns (Yp.lst (-1) B1) aa1 ra Aa na ca aa ba ∧ Yp.lst (-1) B1 ≠ (x.1 : Int) ∧ (aa1 = false ∨ (na ≤ 1000 ∧ ¬ (na = 0 ∨ (K.drop (G x.1) k).length = 0 ∨ na + (K.drop (G x.1) k).length ≤ 64))) := by
            rcases List.eq_nil_or_concat B1 with rfl | ⟨B0, y, rfl⟩
            · exact ⟨false, 0, none, 0, 0, 0, 0, hno, (by show (-1 : Int) ≠ _; omega), .inl rfl⟩
            · rw [List.concat_eq_append] at *
              have hls : Yp.lst (-1) (B0 ++ [y]) = (y.1 : Int) := by rw [Yp.lst_app]; rfl
              have hI' : Inv (B0 ++ y :: x :: B2) ((B0 ++ [y]).map (toB G) ++ toB G x :: B2.map (toB G)) rs es ns fs G := by
                have := hI
                rw [show (B0 ++ [y]) ++ x :: B2 = B0 ++ y :: x :: B2 by simp] at this
                exact this
              have hyn := nd_at hI'.seg
              have hyc := kx_count hT hyn
              have hyg : Bk.Good (toB G y) := hO.good _ (by simp)
              have hyl : (G y.1).length ≤ 128 := hyg.2.1
              have hne := n1 y (by simp)
              refine ⟨true, _, _, _, _, _, _, .inl ⟨rfl, y.1, hls, hyn⟩, (by rw [hls]; omega), .inr ⟨by omega, fun hq => ha ⟨B0, y, rfl, ?_⟩⟩⟩
              rw [hyc] at hq
              exact hq
          obtain ⟨aa1, ra, Aa, na, ca, aa, ba, s1, s2, s3⟩ := hahd
          have hna : ∀ L0 b, B1.map (toB G) = L0 ++ [b] → ¬ Bk.few b.2 (K.drop (toB G x).2 k) := fun L0 b e hq => by
            obtain ⟨B0, Bz, e4, e5, e6⟩ := List.map_eq_append_iff.1 e
            obtain ⟨y, B3, e7, e8, e9⟩ := List.map_eq_cons_iff.1 e6
            have hB3 : B3 = [] := List.map_eq_nil_iff.1 e9
            subst hB3 e7
            exact ha ⟨B0, y, e4, by rw [← e8] at hq; exact hq⟩
          by_cases hd0 : K.drop (G x.1) k = []
          · have hB1 : B1 = [] := by
              rcases List.eq_nil_or_concat B1 with h | ⟨B0, y, h⟩
              · exact h
              · exact absurd ⟨B0, y, by rw [h, List.concat_eq_append], .inr (.inl (by rw [hd0]; rfl))⟩ ha
            have hB2 : B2 = [] := by
              cases B2 with
              | nil => rfl
              | cons z B3 => exact absurd ⟨z, B3, rfl, .inl (by rw [hd0]; rfl)⟩ hb
            subst hB1 hB2
            have hper := (hI.less (B1 := []) (B2 := []) hfs).2
            have hkeys : Bk.keys [] = K.drop (Bk.keys (([] : Yp.LL).map (toB G) ++ toB G x :: ([] : Yp.LL).map (toB G))) k := by
              rw [← hkd, show K.drop (toB G x).2 k = [] from hd0]
              rfl
            refine (del_en_T hT k hk x.1 x.2.1 x.2.2.1 x.2.2.2.1 x.2.2.2.2 (Yp.lst (-1) []) (Yp.hd [] (-1)) hsel (G x.1) hfound hg.2.2.1 (by omega) hnd hf _ rfl hkl (K.drop (G x.1) k).length rfl rb Ab nb cb ab bb bb1 r1 r2 r3 ra Aa na ca aa ba aa1 s1 s2 s3 (by rw [hd0]; rfl) hxl _ hper (by simp)).mono ?_
            rintro e w' ⟨rfl, t, ht, A, c, hy⟩
            refine .inr ⟨by rw [hfo]; exact hf, [], ⟨_, _, _, rfl, h1, h2, .inr ⟨hnb, .inr ⟨hna, .inl ⟨hd0, rfl, rfl, rfl⟩⟩⟩⟩, hkeys, ?_⟩
            have hI1 := hI.keep (B1 := []) (B2 := []) rfl A (K.drop (G x.1) k).length c (K.drop (G x.1) k)
            have hI3 := (hI1.less (B1 := []) (B2 := []) (by rw [setk_len]; exact hfs)).1
            have hrl : K.drop rs x.2.1 = [] := by
              rw [hreps0]
              exact (Bk.reps_less (A := []) (B := []) (by rw [← List.nil_append [x.2.1]]; have := b1; rw [hreps0] at this; exact this) (by have := b2; rw [hreps0] at this; exact this)).1
            rw [hrl] at hy
            exact hy.yop (l := []) (by rw [hkeys]; exact hk2) hI3 Bk.Ok.nil (Nat.zero_le _) ht _
          · have hok : Bk.Ok (B1.map (toB G) ++ (x.2.1, K.drop (G x.1) k) :: B2.map (toB G)) := Bk.Ok.less (c := toB G x) hO hd0
            have hkeys : Bk.keys (B1.map (toB G) ++ (x.2.1, K.drop (G x.1) k) :: B2.map (toB G)) = K.drop (Bk.keys (B1.map (toB G) ++ toB G x :: B2.map (toB G))) k := by
              rw [← hkd, Bk.keys_swap]
              rfl
            have hU2 : usedB (B1.map (toB G) ++ (x.2.1, K.drop (G x.1) k) :: B2.map (toB G)) ≤ lim := by
              unfold usedB at hU ⊢
              rw [hkeys, show Bk.reps (B1.map (toB G) ++ (x.2.1, K.drop (G x.1) k) :: B2.map (toB G)) = Bk.reps (B1.map (toB G) ++ toB G x :: B2.map (toB G)) by simp [Bk.reps, toB]]
              simp only [List.length_append, List.length_cons, List.length_map] at hU ⊢
              omega
            refine (del_no_T hT k hk x.1 x.2.1 x.2.2.1 x.2.2.2.1 x.2.2.2.2 (Yp.lst (-1) B1) (Yp.hd B2 (-1)) hsel (G x.1) hfound hg.2.2.1 (by omega) hnd hf _ rfl hkl (K.drop (G x.1) k).length rfl rb Ab nb cb ab bb bb1 r1 r2 r3 ra Aa na ca aa ba aa1 s1 s2 s3 (List.length_pos_iff.2 hd0)).mono ?_
            rintro e w' ⟨rfl, t, ht, A, c, hy⟩
            refine .inr ⟨by rw [hfo]; exact hf, _, ⟨_, _, _, rfl, h1, h2, .inr ⟨hnb, .inr ⟨hna, .inr ⟨hd0, rfl⟩⟩⟩⟩, hkeys, ?_⟩
            exact hy.yop (by rw [hkeys]; exact hk2) (hI.keep rfl A _ c _) hok hU2 ht _
end
end Go.Proofs.YtelfacchhclgnaaGreat
end
section
namespace Go.Proofs.YtelfacchhclgnaaGreat
open Go.RowKit
section
variable {w0 w : World} {O : Nat → Prop} {P M X T Q lim tk : Nat} {kn : Int} {rs : List Nat} {es : Es} {ns : List (Yp.Nd × Bool)} {fs : List Nat} {G : Nat → List Nat}
end
section
variable {w : World} {P lim tk : Nat} {l : Bk.BL} {O : Nat → Prop}
end
end Go.Proofs.YtelfacchhclgnaaGreat
end
