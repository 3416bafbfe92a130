/- A y-fast trie holds buckets: what is so of its nodes, its places and its representatives. -/
import Derived.Test.YtialjokdaniofaaGreatMq36
import Derived.Test.YtialjokdaniofaaGreatMq38
namespace Go.Proofs.YtialjokdaniofaaGreat
set_option maxRecDepth 20000
open Go.RowKit
/-- A bucket as a node tells it. -/
def toB (G : Nat → List Nat) (x : Nat × Yp.Kd) : Nat × List Nat := (x.2.1, G x.1)
def usedB (l : Bk.BL) : Nat := K.xfast (Bk.reps l) + l.length + (Bk.keys l).length
structure Inv (BL : Yp.LL) (l : Bk.BL) (rs : List Nat) (es : Es) (ns : List (Yp.Nd × Bool)) (fs : List Nat) (G : Nat → List Nat) : Prop where
  seg : Yp.Seg ns (-1) BL (-1)
  nod : (BL.map (·.1)).Nodup
  ll : l = BL.map (toB G)
  rr : rs = Bk.reps l
  ee : es.Perm (BL.map fun x => ((0, x.2.1), x.1))
  cnt : ns.length - fs.length = BL.length
theorem Inv.len {BL : Yp.LL} {l : Bk.BL} {rs : List Nat} {es : Es} {ns : List (Yp.Nd × Bool)} {fs : List Nat} {G : Nat → List Nat} (h : Inv BL l rs es ns fs G) : l.length = BL.length := by
  rw [h.ll, List.length_map]
theorem Inv.elen {BL : Yp.LL} {l : Bk.BL} {rs : List Nat} {es : Es} {ns : List (Yp.Nd × Bool)} {fs : List Nat} {G : Nat → List Nat} (h : Inv BL l rs es ns fs G) : es.length = BL.length := by
  rw [h.ee.length_eq, List.length_map]
theorem nd_at {x : Nat × Yp.Kd} {B1 B2 : Yp.LL} {ns : List (Yp.Nd × Bool)} (h : Yp.Seg ns (-1) (B1 ++ x :: B2) (-1)) : ns[x.1]? = some (⟨x.2.1, x.2.2.1, x.2.2.2.1, x.2.2.2.2, Yp.lst (-1) B1, Yp.hd B2 (-1)⟩, true) := by
  obtain ⟨n, kd⟩ := x
  exact Yp.seg_at h
section
variable {BL : Yp.LL} {l : Bk.BL} {rs : List Nat} {es : Es} {ns : List (Yp.Nd × Bool)} {fs : List Nat} {G : Nat → List Nat}
/-- The node of a bucket. -/
theorem Inv.cut (h : Inv BL l rs es ns fs G) {L1 L2 : Bk.BL} {c : Nat × List Nat} (hl : l = L1 ++ c :: L2) :
    ∃ B1 x B2, BL = B1 ++ x :: B2 ∧ L1 = B1.map (toB G) ∧ c = toB G x ∧ L2 = B2.map (toB G) := by
  have e := h.ll
  rw [hl] at e
  obtain ⟨B1, B2, e1, e2, e3⟩ := List.map_eq_append_iff.1 e.symm
  obtain ⟨x, B3, e4, e5, e6⟩ := List.map_eq_cons_iff.1 e3
  exact ⟨B1, x, B3, by rw [e1, e4], e2.symm, e5.symm, e6.symm⟩
theorem Inv.sel (h : Inv BL l rs es ns fs G) (hok : Bk.Ok l) {L1 L2 : Bk.BL} {c : Nat × List Nat} (hl : l = L1 ++ c :: L2) {k : Nat} (h1 : c.1 ≤ k) (h2 : ∀ d ∈ L2, k < d.1) {B1 B2 : Yp.LL} {x : Nat × Yp.Kd} (hB : BL = B1 ++ x :: B2) (hc : c = toB G x) (hn : ns.length ≤ 1048576) :
    Sel rs es ns k (x.1 : Int) ⟨x.2.1, x.2.2.1, x.2.2.2.1, x.2.2.2.2, Yp.lst (-1) B1, Yp.hd B2 (-1)⟩ := by
  rw [hl] at hok
  obtain ⟨p1, p2⟩ := hok.pv h1 h2
  have hs := h.seg
  rw [hB] at hs
  have hnd := nd_at hs
  refine .inr ⟨by rw [h.rr, hl]; exact p1, x.1, rfl, ?_, ?_, hnd⟩
  · rw [h.rr, hl, p2, hc]
    refine h.ee.mem_iff.2 (List.mem_map.2 ⟨x, ?_, rfl⟩)
    rw [hB]
    simp
  · have := (List.getElem?_eq_some_iff.1 hnd).1
    omega
/-- A bucket's place is none of another one. -/
theorem nod_ne {B1 B2 : Yp.LL} {x : Nat × Yp.Kd} (h : ((B1 ++ x :: B2).map (·.1)).Nodup) : (∀ y ∈ B1, y.1 ≠ x.1) ∧ ∀ y ∈ B2, y.1 ≠ x.1 := by
  rw [List.map_append, List.map_cons, List.nodup_append] at h
  obtain ⟨_, h2, h3⟩ := h
  rw [List.nodup_cons] at h2
  refine ⟨fun y hy => h3 y.1 (List.mem_map.2 ⟨y, hy, rfl⟩) x.1 (by simp), fun y hy e => h2.1 (List.mem_map.2 ⟨y, hy, e⟩)⟩
theorem map_upd {B : Yp.LL} {n : Nat} {ks : List Nat} (h : ∀ y ∈ B, y.1 ≠ n) : B.map (toB (upd G n ks)) = B.map (toB G) := by
  refine List.map_congr_left fun y hy => ?_
  unfold toB upd
  rw [if_neg (h y hy)]
theorem seg_setk {B1 B2 : Yp.LL} {x : Nat × Yp.Kd} (h : Yp.Seg ns (-1) (B1 ++ x :: B2) (-1)) (hn : ((B1 ++ x :: B2).map (·.1)).Nodup) (A : Option Addr) (n c : Nat) :
    Yp.Seg (Yp.setk ns (x.1 : Int) A n c) (-1) (B1 ++ (x.1, (x.2.1, A, n, c)) :: B2) (-1) := by
  obtain ⟨n1, n2⟩ := nod_ne hn
  obtain ⟨s1, s2, s3⟩ := Yp.seg_app.1 h
  have e := nd_at h
  refine Yp.seg_app.2 ⟨Yp.seg_frame s1 (fun y hy => setk_ne (n1 y hy)), ?_, Yp.seg_frame s3 (fun y hy => setk_ne (n2 y hy))⟩
  exact setk_at e
/-- A bucket with other keys. -/
theorem Inv.keep (h : Inv BL l rs es ns fs G) {B1 B2 : Yp.LL} {x : Nat × Yp.Kd} (hB : BL = B1 ++ x :: B2) (A : Option Addr) (n c : Nat) (ks : List Nat) :
    Inv (B1 ++ (x.1, (x.2.1, A, n, c)) :: B2) (B1.map (toB G) ++ (x.2.1, ks) :: B2.map (toB G)) rs es (Yp.setk ns (x.1 : Int) A n c) fs (upd G x.1 ks) := by
  subst hB
  obtain ⟨n1, n2⟩ := nod_ne h.nod
  refine ⟨seg_setk h.seg h.nod A n c, ?_, ?_, ?_, ?_, ?_⟩
  · have := h.nod
    simp only [List.map_append, List.map_cons] at this ⊢
    exact this
  · rw [List.map_append, List.map_cons, map_upd n1, map_upd n2]
    congr 2
    unfold toB upd
    simp
  · rw [h.rr, h.ll]
    simp [Bk.reps, toB]
  · have := h.ee
    simp only [List.map_append, List.map_cons] at this ⊢
    exact this
  · rw [setk_len]
    have := h.cnt
    simpa using this
/-- A bucket more. -/
theorem Inv.begin {B1 B2 : Yp.LL} (h : Inv (B1 ++ B2) l rs es ns fs G) (y : Nat) (A : Option Addr) (n c : Nat) (ks : List Nat) (a : Nat) (ns2 : List (Yp.Nd × Bool)) (fs2 : List Nat) (hF : AllocF ns fs ⟨y, A, n, c, 0, 0⟩ a ns2 fs2) :
    Inv (B1 ++ (a, (y, A, n, c)) :: B2) (B1.map (toB G) ++ (y, ks) :: B2.map (toB G)) (Bk.reps (B1.map (toB G) ++ (y, ks) :: B2.map (toB G))) (((0, y), a) :: es) (Yp.seta (Yp.setb (Yp.seta (Yp.setb ns2 (Yp.lst (-1) B1) a) a (Yp.lst (-1) B1)) a (Yp.hd B2 (-1))) (Yp.hd B2 (-1)) a) fs2 (upd G a ks) := by
  obtain ⟨f1, f2, f3, f4, f5, f6⟩ := hF
  have hne : ∀ z ∈ B1 ++ B2, z.1 ≠ a := fun z hz e => by
    obtain ⟨nd, h1, _⟩ := Yp.seg_live h.seg hz
    rw [e] at h1
    rcases f2 with ⟨h2, h3⟩ | h2
    · rw [List.getElem?_eq_getElem h2] at h1
      injection h1 with h1
      rw [h1] at h3
      cases h3
    · rw [List.getElem?_eq_none h2] at h1
      cases h1
  have m1 : B1.map (toB (upd G a ks)) = B1.map (toB G) := map_upd (fun z hz => hne z (List.mem_append_left _ hz))
  have m2 : B2.map (toB (upd G a ks)) = B2.map (toB G) := map_upd (fun z hz => hne z (List.mem_append_right _ hz))
  refine ⟨Yp.seg_more h.seg h.nod hne f3 rfl f4, ?_, ?_, rfl, ?_, ?_⟩
  · have h1 := h.nod
    rw [List.map_append] at h1
    rw [List.map_append, List.map_cons]
    obtain ⟨g1, g2, g3⟩ := List.nodup_append.1 h1
    refine List.nodup_append.2 ⟨g1, List.nodup_cons.2 ⟨fun hm => ?_, g2⟩, fun p hp q hq => ?_⟩
    · obtain ⟨z, hz, e⟩ := List.mem_map.1 hm
      exact hne z (List.mem_append_right _ hz) e
    · rcases List.mem_cons.1 hq with rfl | hq
      · obtain ⟨z, hz, e⟩ := List.mem_map.1 hp
        rw [← e]
        exact hne z (List.mem_append_left _ hz)
      · exact g3 p hp q hq
  · rw [List.map_append, List.map_cons, m1, m2]
    congr 2
    unfold toB upd
    simp
  · have h1 := h.ee
    rw [List.map_append] at h1 ⊢
    rw [List.map_cons]
    exact (List.Perm.cons _ h1).trans List.perm_middle.symm
  · rw [Yp.seta_len, Yp.setb_len, Yp.seta_len, Yp.setb_len, f5, h.cnt]
    simp
    omega
theorem Inv.nil (hns : ns.length - fs.length = 0) : Inv [] [] [] [] ns fs G := ⟨trivial, List.nodup_nil, rfl, rfl, List.Perm.refl _, hns⟩
end
/-- A y-fast trie at P that holds these buckets. -/
def YS (w : World) (P : Nat) (l : Bk.BL) (lim tk : Nat) (O : Nat → Prop) : Prop :=
  ∃ M X T Q rs es ns fs G BL, YT w P M X T Q lim tk ((Bk.keys l).length : Int) rs es ns fs G O ∧ Inv BL l rs es ns fs G ∧ Bk.Ok l ∧ usedB l ≤ lim
/-- What a call leaves. -/
def YOp (w : World) (P : Nat) (O : Nat → Prop) (v : Value) (l : Bk.BL) (lim most : Nat) (e : Ending) (w' : World) : Prop :=
  e = .returned v ∧ ∃ t O', t ≤ most ∧ YS w' P l lim t O' ∧ K.Chg w w' O ∧ ∀ j, O' j → O j ∨ w.heap.size ≤ j
theorem YR.yop {w w' : World} {O : Nat → Prop} {P M X T Q lim t most : Nat} {kn : Int} {rs : List Nat} {es : Es} {ns : List (Yp.Nd × Bool)} {fs : List Nat} {G : Nat → List Nat} {BL : Yp.LL} {l : Bk.BL} (h : YR w O P M X T Q lim t kn rs es ns fs G w') (hk : kn = ((Bk.keys l).length : Int)) (hi : Inv BL l rs es ns fs G) (ho : Bk.Ok l) (hu : usedB l ≤ lim) (ht : t ≤ most) (v : Value) : YOp w P O v l lim most (.returned v) w' := by
  subst hk
  obtain ⟨O', hT, hC, hO⟩ := h
  exact ⟨rfl, t, O', ht, ⟨M, X, T, Q, rs, es, ns, fs, G, BL, hT, hi, ho, hu⟩, hC, hO⟩
/-- What a key makes of its bucket. -/
def put (c : Nat × List Nat) (k : Nat) : Bk.BL :=
  if 128 < (K.add c.2 k).length then [(c.1, (K.add c.2 k).take ((K.add c.2 k).length - (K.add c.2 k).length / 2)), (((K.add c.2 k).drop ((K.add c.2 k).length - (K.add c.2 k).length / 2)).headD 0, (K.add c.2 k).drop ((K.add c.2 k).length - (K.add c.2 k).length / 2))]
  else [(c.1, K.add c.2 k)]
/-- The buckets behind an insertion. -/
def InsTo (l : Bk.BL) (k : Nat) (l' : Bk.BL) : Prop :=
  (l = [] ∧ l' = [(0, [k])]) ∨ ∃ L1 c L2, l = L1 ++ c :: L2 ∧ c.1 ≤ k ∧ (∀ d ∈ L2, k < d.1) ∧ l' = L1 ++ put c k ++ L2
end Go.Proofs.YtialjokdaniofaaGreat
