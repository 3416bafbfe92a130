/- A y-fast trie holds buckets: what is so of its nodes, its places and its representatives. A key is put into a y-fast trie: its buckets then. Has, Next, Prev, Min, Max, Len, Used, Buckets of a y-fast trie, told by its buckets. -/
import Derived.Test.YtelfacchhclgnaaGreatMu37
import Derived.Test.YtelfacchhclgnaaGreatMu39
section
namespace Go.Proofs.YtelfacchhclgnaaGreat
set_option maxRecDepth 20000
open Go.RowKit
/-- A bucket as a node tells it. -/
def toB (G : Nat → List Nat) (x : Nat × Yp.Kd) : Nat × List Nat := (x.2.1, G x.1)
def usedB (l : Bk.BL) : Nat := K.xfast (Bk.reps l) + l.length + (Bk.keys l).length
structure Inv (BL : Yp.LL) (l : Bk.BL) (rs : List Nat) (es : Es) (ns : List (Yp.Nd × Bool)) (fs : List Nat) (G : Nat → List Nat) : Prop where
  seg : Yp.Seg ns (-1) BL (-1)
  nod : (BL.map (·.1)).Nodup
  ll : l = BL.map (toB G)
  rr : rs = Bk.reps l
  ee : es.Perm (BL.map fun x => ((0, x.2.1), x.1))
  cnt : ns.length - fs.length = BL.length
theorem Inv.len {BL : Yp.LL} {l : Bk.BL} {rs : List Nat} {es : Es} {ns : List (Yp.Nd × Bool)} {fs : List Nat} {G : Nat → List Nat} (h : Inv BL l rs es ns fs G) : l.length = BL.length := by
  rw [h.ll, List.length_map]
theorem Inv.elen {BL : Yp.LL} {l : Bk.BL} {rs : List Nat} {es : Es} {ns : List (Yp.Nd × Bool)} {fs : List Nat} {G : Nat → List Nat} (h : Inv BL l rs es ns fs G) : es.length = BL.length := by
  rw [h.ee.length_eq, List.length_map]
theorem nd_at {x : Nat × Yp.Kd} {B1 B2 : Yp.LL} {ns : List (Yp.Nd × Bool)} (h : Yp.Seg ns (-1) (B1 ++ x :: B2) (-1)) : ns[x.1]? = some (⟨x.2.1, x.2.2.1, x.2.2.2.1, x.2.2.2.2, Yp.lst (-1) B1, Yp.hd B2 (-1)⟩, true) := by
  obtain ⟨n, kd⟩ := x
  exact Yp.seg_at h
section
variable {BL : Yp.LL} {l : Bk.BL} {rs : List Nat} {es : Es} {ns : List (Yp.Nd × Bool)} {fs : List Nat} {G : Nat → List Nat}
/-- The node of a bucket. -/
theorem Inv.cut (h : Inv BL l rs es ns fs G) {L1 L2 : Bk.BL} {c : Nat × List Nat} (hl : l = L1 ++ c :: L2) :
    ∃ B1 x B2, BL = B1 ++ x :: B2 ∧ L1 = B1.map (toB G) ∧ c = toB G x ∧ L2 = B2.map (toB G) := by
  have e := h.ll
  rw [hl] at e
  obtain ⟨B1, B2, e1, e2, e3⟩ := List.map_eq_append_iff.1 e.symm
  obtain ⟨x, B3, e4, e5, e6⟩ := List.map_eq_cons_iff.1 e3
  exact ⟨B1, x, B3, by rw [e1, e4], e2.symm, e5.symm, e6.symm⟩
theorem Inv.sel (h : Inv BL l rs es ns fs G) (hok : Bk.Ok l) {L1 L2 : Bk.BL} {c : Nat × List Nat} (hl : l = L1 ++ c :: L2) {k : Nat} (h1 : c.1 ≤ k) (h2 : ∀ d ∈ L2, k < d.1) {B1 B2 : Yp.LL} {x : Nat × Yp.Kd} (hB : BL = B1 ++ x :: B2) (hc : c = toB G x) (hn : ns.length ≤ 1048576) :
    Sel rs es ns k (x.1 : Int) ⟨x.2.1, x.2.2.1, x.2.2.2.1, x.2.2.2.2, Yp.lst (-1) B1, Yp.hd B2 (-1)⟩ := by
  rw [hl] at hok
  obtain ⟨p1, p2⟩ := hok.pv h1 h2
  have hs := h.seg
  rw [hB] at hs
  have hnd := nd_at hs
  refine .inr ⟨by rw [h.rr, hl]; exact p1, x.1, rfl, ?_, ?_, hnd⟩
  · rw [h.rr, hl, p2, hc]
    refine h.ee.mem_iff.2 (List.mem_map.2 ⟨x, ?_, rfl⟩)
    rw [hB]
    simp
  · have := (List.getElem?_eq_some_iff.1 hnd).1
    omega
/-- A bucket's place is none of another one. -/
theorem nod_ne {B1 B2 : Yp.LL} {x : Nat × Yp.Kd} (h : ((B1 ++ x :: B2).map (·.1)).Nodup) : (∀ y ∈ B1, y.1 ≠ x.1) ∧ ∀ y ∈ B2, y.1 ≠ x.1 := by
  rw [List.map_append, List.map_cons, List.nodup_append] at h
  obtain ⟨_, h2, h3⟩ := h
  rw [List.nodup_cons] at h2
  refine ⟨fun y hy => h3 y.1 (List.mem_map.2 ⟨y, hy, rfl⟩) x.1 (by simp), fun y hy e => h2.1 (List.mem_map.2 ⟨y, hy, e⟩)⟩
theorem map_upd {B : Yp.LL} {n : Nat} {ks : List Nat} (h : ∀ y ∈ B, y.1 ≠ n) : B.map (toB (upd G n ks)) = B.map (toB G) := by
  refine List.map_congr_left fun y hy => ?_
  unfold toB upd
  rw [if_neg (h y hy)]
theorem seg_setk {B1 B2 : Yp.LL} {x : Nat × Yp.Kd} (h : Yp.Seg ns (-1) (B1 ++ x :: B2) (-1)) (hn : ((B1 ++ x :: B2).map (·.1)).Nodup) (A : Option Addr) (n c : Nat) :
    Yp.Seg (Yp.setk ns (x.1 : Int) A n c) (-1) (B1 ++ (x.1, (x.2.1, A, n, c)) :: B2) (-1) := by
  obtain ⟨n1, n2⟩ := nod_ne hn
  obtain ⟨s1, s2, s3⟩ := Yp.seg_app.1 h
  have e := nd_at h
  refine Yp.seg_app.2 ⟨Yp.seg_frame s1 (fun y hy => setk_ne (n1 y hy)), ?_, Yp.seg_frame s3 (fun y hy => setk_ne (n2 y hy))⟩
  exact setk_at e
/-- A bucket with other keys. -/
theorem Inv.keep (h : Inv BL l rs es ns fs G) {B1 B2 : Yp.LL} {x : Nat × Yp.Kd} (hB : BL = B1 ++ x :: B2) (A : Option Addr) (n c : Nat) (ks : List Nat) :
    Inv (B1 ++ (x.1, (x.2.1, A, n, c)) :: B2) (B1.map (toB G) ++ (x.2.1, ks) :: B2.map (toB G)) rs es (Yp.setk ns (x.1 : Int) A n c) fs (upd G x.1 ks) := by
  subst hB
  obtain ⟨n1, n2⟩ := nod_ne h.nod
  refine ⟨seg_setk h.seg h.nod A n c, ?_, ?_, ?_, ?_, ?_⟩
  · have := h.nod
    simp only [List.map_append, List.map_cons] at this ⊢
    exact this
  · rw [List.map_append, List.map_cons, map_upd n1, map_upd n2]
    congr 2
    unfold toB upd
    simp
  · rw [h.rr, h.ll]
    simp [Bk.reps, toB]
  · have := h.ee
    simp only [List.map_append, List.map_cons] at this ⊢
    exact this
  · rw [setk_len]
    have := h.cnt
    simpa using this
/-- A bucket more. -/
theorem Inv.begin {B1 B2 : Yp.LL} (h : Inv (B1 ++ B2) l rs es ns fs G) (y : Nat) (A : Option Addr) (n c : Nat) (ks : List Nat) (a : Nat) (ns2 : List (Yp.Nd × Bool)) (fs2 : List Nat) (hF : AllocF ns fs ⟨y, A, n, c, 0, 0⟩ a ns2 fs2) :
    Inv (B1 ++ (a, (y, A, n, c)) :: B2) (B1.map (toB G) ++ (y, ks) :: B2.map (toB G)) (Bk.reps (B1.map (toB G) ++ (y, ks) :: B2.map (toB G))) (((0, y), a) :: es) (Yp.seta (Yp.setb (Yp.seta (Yp.setb ns2 (Yp.lst (-1) B1) a) a (Yp.lst (-1) B1)) a (Yp.hd B2 (-1))) (Yp.hd B2 (-1)) a) fs2 (upd G a ks) := by
  obtain ⟨f1, f2, f3, f4, f5, f6⟩ := hF
  have hne : ∀ z ∈ B1 ++ B2, z.1 ≠ a := fun z hz e => by
    obtain ⟨nd, h1, _⟩ := Yp.seg_live h.seg hz
    rw [e] at h1
    rcases f2 with ⟨h2, h3⟩ | h2
    · rw [List.getElem?_eq_getElem h2] at h1
      injection h1 with h1
      rw [h1] at h3
      cases h3
    · rw [List.getElem?_eq_none h2] at h1
      cases h1
  have m1 : B1.map (toB (upd G a ks)) = B1.map (toB G) := map_upd (fun z hz => hne z (List.mem_append_left _ hz))
  have m2 : B2.map (toB (upd G a ks)) = B2.map (toB G) := map_upd (fun z hz => hne z (List.mem_append_right _ hz))
  refine ⟨Yp.seg_more h.seg h.nod hne f3 rfl f4, ?_, ?_, rfl, ?_, ?_⟩
  · have h1 := h.nod
    rw [List.map_append] at h1
    rw [List.map_append, List.map_cons]
    obtain ⟨g1, g2, g3⟩ := List.nodup_append.1 h1
    refine List.nodup_append.2 ⟨g1, List.nodup_cons.2 ⟨fun hm => ?_, g2⟩, fun p hp q hq => ?_⟩
    · obtain ⟨z, hz, e⟩ := List.mem_map.1 hm
      exact hne z (List.mem_append_right _ hz) e
    · rcases List.mem_cons.1 hq with rfl | hq
      · obtain ⟨z, hz, e⟩ := List.mem_map.1 hp
        rw [← e]
        exact hne z (List.mem_append_left _ hz)
      · exact g3 p hp q hq
  · rw [List.map_append, List.map_cons, m1, m2]
    congr 2
    unfold toB upd
    simp
  · have h1 := h.ee
    rw [List.map_append] at h1 ⊢
    rw [List.map_cons]
    exact (List.Perm.cons _ h1).trans List.perm_middle.symm
  · rw [Yp.seta_len, Yp.setb_len, Yp.seta_len, Yp.setb_len, f5, h.cnt]
    simp
    omega
theorem Inv.nil (hns : ns.length - fs.length = 0) : Inv [] [] [] [] ns fs G := ⟨trivial, List.nodup_nil, rfl, rfl, List.Perm.refl _, hns⟩
end
/-- A y-fast trie at P that holds these buckets. -/
def YS (w : World) (P : Nat) (l : Bk.BL) (lim tk : Nat) (O : Nat → Prop) : Prop :=
  ∃ M X T Q rs es ns fs G BL, YT w P M X T Q lim tk ((Bk.keys l).length : Int) rs es ns fs G O ∧ Inv BL l rs es ns fs G ∧ Bk.Ok l ∧ usedB l ≤ lim
/-- What a call leaves. -/
def YOp (w : World) (P : Nat) (O : Nat → Prop) (v : Value) (l : Bk.BL) (lim most : Nat) (e : Ending) (w' : World) : Prop :=
  e = .returned v ∧ ∃ t O', t ≤ most ∧ YS w' P l lim t O' ∧ K.Chg w w' O ∧ ∀ j, O' j → O j ∨ w.heap.size ≤ j
theorem YR.yop {w w' : World} {O : Nat → Prop} {P M X T Q lim t most : Nat} {kn : Int} {rs : List Nat} {es : Es} {ns : List (Yp.Nd × Bool)} {fs : List Nat} {G : Nat → List Nat} {BL : Yp.LL} {l : Bk.BL} (h : YR w O P M X T Q lim t kn rs es ns fs G w') (hk : kn = ((Bk.keys l).length : Int)) (hi : Inv BL l rs es ns fs G) (ho : Bk.Ok l) (hu : usedB l ≤ lim) (ht : t ≤ most) (v : Value) : YOp w P O v l lim most (.returned v) w' := by
  subst hk
  obtain ⟨O', hT, hC, hO⟩ := h
  exact ⟨rfl, t, O', ht, ⟨M, X, T, Q, rs, es, ns, fs, G, BL, hT, hi, ho, hu⟩, hC, hO⟩
/-- What a key makes of its bucket. -/
def put (c : Nat × List Nat) (k : Nat) : Bk.BL :=
  if 128 < (K.add c.2 k).length then [(c.1, (K.add c.2 k).take ((K.add c.2 k).length - (K.add c.2 k).length / 2)), (((K.add c.2 k).drop ((K.add c.2 k).length - (K.add c.2 k).length / 2)).headD 0, (K.add c.2 k).drop ((K.add c.2 k).length - (K.add c.2 k).length / 2))]
  else [(c.1, K.add c.2 k)]
/-- The buckets behind an insertion. -/
def InsTo (l : Bk.BL) (k : Nat) (l' : Bk.BL) : Prop :=
  (l = [] ∧ l' = [(0, [k])]) ∨ ∃ L1 c L2, l = L1 ++ c :: L2 ∧ c.1 ≤ k ∧ (∀ d ∈ L2, k < d.1) ∧ l' = L1 ++ put c k ++ L2
end Go.Proofs.YtelfacchhclgnaaGreat
end
section
namespace Go.Proofs.YtelfacchhclgnaaGreat
set_option maxRecDepth 20000
open Go.RowKit
namespace Bk
theorem add_len1 {xs : List Nat} {k : Nat} (h : K.fo xs k = false) : (K.add xs k).length = xs.length + 1 := by
  unfold K.add
  rw [if_neg (by rw [h]; simp)]
  have := K.fi_le xs k
  simp
  omega
theorem up_mid {A B : List Nat} {r y : Nat} (h : K.Up (A ++ r :: y :: B)) : K.fo (A ++ r :: B) y = false ∧ K.add (A ++ r :: B) y = A ++ r :: y :: B := by
  obtain ⟨h1, h2, h3⟩ := List.pairwise_append.1 h
  obtain ⟨h4, h5⟩ := List.pairwise_cons.1 h2
  obtain ⟨h6, h7⟩ := List.pairwise_cons.1 h5
  have hu : K.Up (A ++ r :: B) := List.pairwise_append.2 ⟨h1, List.pairwise_cons.2 ⟨fun b hb => h4 b (by simp [hb]), h7⟩, fun a ha b hb => h3 a ha b (by
    rcases List.mem_cons.1 hb with rfl | hb
    · simp
    · simp [hb])⟩
  have hn : y ∉ A ++ r :: B := fun hy => by
    rcases List.mem_append.1 hy with hy | hy
    · have := h3 y hy y (by simp)
      omega
    · rcases List.mem_cons.1 hy with rfl | hy
      · have := h4 y (by simp)
        omega
      · have := h6 y hy
        omega
  refine ⟨by rw [Bool.eq_false_iff]; exact fun hf => hn ((K.fo_mem hu y).1 hf), ?_⟩
  refine T.up_ext (K.add_up hu y) h fun x => ?_
  rw [K.add_mem hu]
  simp only [List.mem_append, List.mem_cons]
  constructor
  · rintro (h | h | h | h)
    · exact .inr (.inr (.inl h))
    · exact .inl h
    · exact .inr (.inl h)
    · exact .inr (.inr (.inr h))
  · rintro (h | h | h | h)
    · exact .inr (.inl h)
    · exact .inr (.inr (.inl h))
    · exact .inl h
    · exact .inr (.inr (.inr h))
theorem xfast_grows {xs : List Nat} {y : Nat} (hu : K.Up xs) (hx : ∀ x ∈ xs, x < 18446744073709551616) (hy : y < 18446744073709551616) (hf : K.fo xs y = false) : K.xfast xs ≤ K.xfast (K.add xs y) ∧ K.xfast (K.add xs y) ≤ K.xfast xs + 66 := by
  letI : Gh := ⟨0, 0⟩
  have h := X.xfast_add (L := xs.map fun r => (0, r)) (xs := xs) (by simp [Function.comp_def]) hu hx hy (fun hm => by rw [(K.fo_mem hu y).2 hm] at hf; cases hf)
  omega
section
variable {L1 L2 : BL} {c : Nat × List Nat} {k : Nat}
theorem put_all (hl : (K.add c.2 k).length ≤ 128) : put c k = [(c.1, K.add c.2 k)] := by
  unfold put
  rw [if_neg (by omega)]
theorem put_two (hl : 128 < (K.add c.2 k).length) {y : Nat} {ys : List Nat} (hy : (K.add c.2 k).drop ((K.add c.2 k).length - (K.add c.2 k).length / 2) = y :: ys) : put c k = [(c.1, (K.add c.2 k).take ((K.add c.2 k).length - (K.add c.2 k).length / 2)), (y, y :: ys)] := by
  unfold put
  rw [if_pos hl, hy]
  rfl
theorem Ok.parted (h : Ok (L1 ++ c :: L2)) (hk : k < 18446744073709551616) (h1 : c.1 ≤ k) (h2 : ∀ d ∈ L2, k < d.1) (hl : 128 < (K.add c.2 k).length) {y : Nat} {ys : List Nat} (hy : (K.add c.2 k).drop ((K.add c.2 k).length - (K.add c.2 k).length / 2) = y :: ys) :
    Ok (L1 ++ (c.1, (K.add c.2 k).take ((K.add c.2 k).length - (K.add c.2 k).length / 2)) :: (y, y :: ys) :: L2) ∧ y < 18446744073709551616 := by
  have hc := h.cup
  have hal := K.add_len c.2 k
  have hcl := hc.2.1
  obtain ⟨m, hm⟩ : ∃ m, (K.add c.2 k).length - (K.add c.2 k).length / 2 = m := ⟨_, rfl⟩
  rw [hm] at hy ⊢
  have hu := K.add_up hc.2.2.1 k
  have hmem := fun x => K.add_mem hc.2.2.1 k x
  have e : (K.add c.2 k).take m ++ y :: ys = K.add c.2 k := by rw [← hy, List.take_append_drop]
  have hl2 : (y :: ys).length = (K.add c.2 k).length - m := by rw [← hy, List.length_drop]
  have hb : ∀ x ∈ K.add c.2 k, c.1 ≤ x ∧ x < 18446744073709551616 := fun x hx => by
    rcases (hmem x).1 hx with rfl | hx
    · exact ⟨h1, hk⟩
    · exact hc.2.2.2 x hx
  have hym : y ∈ K.add c.2 k := by rw [← e]; simp
  refine ⟨h.part _ y ys (by rw [e]; exact hu) (by rw [e]; exact hb) (by
    rw [e]
    intro d hd x hx
    rcases (hmem x).1 hx with rfl | hx
    · exact h2 d hd
    · exact h.after d hd x hx) (fun e0 => ?_) ?_ (by omega), (hb y hym).2⟩
  · have := congrArg List.length e0
    rw [List.length_take] at this
    simp only [List.length_nil] at this
    omega
  · rw [List.length_take]
    omega
end
end Bk
theorem up_extY {l m : List Nat} (hl : K.Up l) (hm : K.Up m) (h : ∀ x, x ∈ l ↔ x ∈ m) : l = m := T.up_ext hl hm h
theorem add_nilY (k : Nat) : K.fo [] k = false ∧ K.add [] k = [k] := by
  refine ⟨by rw [Bool.eq_false_iff]; exact (fun hf => (by have := (K.fo_mem List.Pairwise.nil k).1 hf; cases this)), ?_⟩
  refine T.up_ext (K.add_up List.Pairwise.nil k) (List.pairwise_singleton _ _) fun x => ?_
  rw [K.add_mem List.Pairwise.nil]
  simp
theorem used_one (k : Nat) : usedB [(0, [k])] = 68 := by
  show K.xfast [0] + 1 + 1 = 68
  rw [show K.xfast [0] = 66 by decide]
section
variable {w : World} {P lim tk : Nat} {l : Bk.BL} {O : Nat → Prop}
set_option maxHeartbeats 2000000 in
theorem ys_insert (h : YS w P l lim tk O) (k : Nat) (hk : k < 18446744073709551616) :
    Calls Tryz.prog 24 #[.pointer (some ⟨P, 0, none⟩), .int .u64 (k : Int)] w fun e w' =>
      (K.fo (Bk.keys l) k = true ∧ YOp w P O (.int .i64 4) l lim 111 e w') ∨
      (K.fo (Bk.keys l) k = false ∧ ∃ l', InsTo l k l' ∧ Bk.Ok l' ∧ Bk.keys l' = K.add (Bk.keys l) k ∧ ((lim < usedB l' ∧ YOp w P O (.int .i64 5) l lim 111 e w') ∨ (usedB l' ≤ lim ∧ YOp w P O (.int .i64 0) l' lim 111 e w'))) := by
  obtain ⟨M, X, T, Q, rs, es, ns, fs, G, BL, hT, hI, hO, hU⟩ := h
  obtain ⟨b1, b2, b3, b4, b5, b6⟩ := (YR.start hT).bounds
  have hkl : (Bk.keys l).length ≤ 500000 := by
    unfold usedB at hU
    omega
  by_cases hl : l = []
  · subst hl
    have hB : BL = [] := by
      have := hI.len
      exact List.eq_nil_of_length_eq_zero this.symm
    subst hB
    have hrs : rs = [] := hI.rr
    have hes : es = [] := List.perm_nil.1 hI.ee
    subst hrs hes
    have hcnt : ns.length - fs.length = 0 := hI.cnt
    have hneg : ∀ (A : Option Addr) (n c : Nat), Yp.setk ns (-1) A n c = ns := fun A n c => by
      unfold Yp.setk
      rw [if_neg (by rw [Yp.lvq_neg (by decide)]; decide)]
    have hbh : beh ns (-1) = -1 := by
      unfold beh
      rw [if_neg (by rw [Yp.lvq_neg (by decide)]; decide)]
    have hOk : Bk.Ok [(0, [k])] := Bk.Ok.one hk
    obtain ⟨hfo, hadd⟩ := add_nilY k
    by_cases hfit : usedB [(0, [k])] ≤ lim
    · rw [used_one] at hfit
      refine (ins_ok1_T hT k hk (-1) 0 none 0 0 (-1) (-1) (.inl ⟨rfl, rfl, rfl⟩) [] (.inl ⟨rfl, rfl, rfl⟩) List.Pairwise.nil (by decide) hfo 0 rfl (by decide) 0 [] [k] rfl rfl (by rw [hadd]; rfl) 0 1 rfl rfl (by decide) (by decide) (fun _ => ⟨by decide, by decide⟩) 0 68 (by rw [hcnt]; rfl) (by unfold needN; rw [if_neg (by simp)]; decide) G rfl (by omega) (by decide) (by omega) (by simp) (by decide)).mono ?_
      rintro e w' ⟨rfl, t, ht, A1, c1, A2, c2, a, ns2, fs2, hF, hy⟩
      rw [hneg] at hF hy
      rw [hbh] at hy
      refine .inr ⟨hfo, [(0, [k])], .inl ⟨rfl, rfl⟩, hOk, by rw [show Bk.keys [] = [] from rfl, hadd]; rfl, .inr ⟨by rw [used_one]; exact hfit, ?_⟩⟩
      have hI2 := Inv.begin (B1 := []) (B2 := []) (Inv.nil (ns := ns) (fs := fs) (G := G) hcnt) 0 A2 1 c2 [k] a ns2 fs2 hF
      have hin : K.inL K.xfast [] lim 0 = [0] := by
        unfold K.inL
        rw [show K.fo [] 0 = false by decide, show K.add [] 0 = [0] by decide, if_neg (by simp), if_neg (by rw [show K.xfast [0] = 66 by decide]; omega)]
      rw [hin] at hy
      exact hy.yop rfl hI2 hOk (show usedB [(0, [k])] ≤ lim by rw [used_one]; exact hfit) ht _
    · refine (ins_full_T hT k hk (-1) 0 none 0 0 (-1) (-1) (.inl ⟨rfl, rfl, rfl⟩) [] (.inl ⟨rfl, rfl, rfl⟩) List.Pairwise.nil (by decide) hfo 0 rfl (by decide) 0 [] [k] rfl rfl (by rw [hadd]; rfl) 0 1 rfl rfl (by decide) (by decide) (fun _ => ⟨by decide, by decide⟩) 0 68 (by rw [hcnt]; rfl) (by unfold needN; rw [if_neg (by simp)]; decide) (by rw [used_one] at hfit; omega)).mono ?_
      rintro e w' ⟨rfl, t, ht, hy⟩
      refine .inr ⟨hfo, [(0, [k])], .inl ⟨rfl, rfl⟩, hOk, by rw [show Bk.keys [] = [] from rfl, hadd]; rfl, .inl ⟨by omega, ?_⟩⟩
      exact hy.yop rfl hI hO hU (by omega) _
  · obtain ⟨L1, c, L2, hcut, h1, h2⟩ := hO.at hl k
    subst hcut
    obtain ⟨B1, x, B2, hB, e1, e2, e3⟩ := hI.cut rfl
    subst e1 e2 e3 hB
    have hsel := hI.sel hO rfl h1 h2 rfl rfl (by omega)
    have hnd := nd_at hI.seg
    have hg : Bk.Good (toB G x) := hO.cup
    have hfo : K.fo (Bk.keys (B1.map (toB G) ++ toB G x :: B2.map (toB G))) k = K.fo (G x.1) k := hO.fo h1 h2
    have hfound : Found ns G (x.1 : Int) ⟨x.2.1, x.2.2.1, x.2.2.2.1, x.2.2.2.2, Yp.lst (-1) B1, Yp.hd B2 (-1)⟩ (G x.1) := .inr ⟨x.1, rfl, hnd, rfl⟩
    have hlen : (G x.1).length ≤ 128 := hg.2.1
    have hne : (x.1 : Int) ≠ -1 := by omega
    cases hf : K.fo (G x.1) k with
    | true =>
      refine (ins_in_T hT k hk (x.1 : Int) x.2.1 x.2.2.1 x.2.2.2.1 x.2.2.2.2 (Yp.lst (-1) B1) (Yp.hd B2 (-1)) hsel (G x.1) hfound hg.2.2.1 (by omega) hf).mono ?_
      rintro e w' ⟨rfl, t, ht, hy⟩
      exact .inl ⟨by rw [hfo]; exact hf, hy.yop rfl hI hO hU (by omega) _⟩
    | false =>
      have hkl1 : (K.add (G x.1) k).length = (G x.1).length + 1 := Bk.add_len1 hf
      have hUeq : K.xfast rs + (ns.length - fs.length) + (Bk.keys (B1.map (toB G) ++ toB G x :: B2.map (toB G))).length = usedB (B1.map (toB G) ++ toB G x :: B2.map (toB G)) := by
        unfold usedB
        rw [hI.rr, hI.cnt, hI.len]
      by_cases hsp : 128 < (K.add (G x.1) k).length
      · obtain ⟨y, ys, hy⟩ : ∃ y ys, (K.add (G x.1) k).drop ((K.add (G x.1) k).length - (K.add (G x.1) k).length / 2) = y :: ys := by
          cases hd : (K.add (G x.1) k).drop ((K.add (G x.1) k).length - (K.add (G x.1) k).length / 2) with
          | nil =>
            have := congrArg List.length hd
            rw [List.length_drop] at this
            simp only [List.length_nil] at this
            omega
          | cons y ys => exact ⟨y, ys, rfl⟩
        obtain ⟨hok', hyb⟩ := hO.parted hk h1 h2 hsp hy
        have hput : put (toB G x) k = [(x.2.1, (K.add (G x.1) k).take ((K.add (G x.1) k).length - (K.add (G x.1) k).length / 2)), (y, y :: ys)] := Bk.put_two hsp hy
        have e0 : cuty (x.1 : Int) (K.add (G x.1) k) = y := by unfold cuty; rw [if_neg hne, if_pos hsp, hy]; rfl
        have e1 : cut1 (x.1 : Int) (K.add (G x.1) k) = (K.add (G x.1) k).take ((K.add (G x.1) k).length - (K.add (G x.1) k).length / 2) := by unfold cut1; rw [if_neg hne, if_pos hsp]
        have e2 : cut2 (x.1 : Int) (K.add (G x.1) k) = y :: ys := by unfold cut2; rw [if_neg hne, if_pos hsp, hy]
        have e3 : (K.add (G x.1) k).take ((K.add (G x.1) k).length - (K.add (G x.1) k).length / 2) ++ y :: ys = K.add (G x.1) k := by rw [← hy, List.take_append_drop]
        have hok'' : Bk.Ok (B1.map (toB G) ++ (x.2.1, (K.add (G x.1) k).take ((K.add (G x.1) k).length - (K.add (G x.1) k).length / 2)) :: (y, y :: ys) :: B2.map (toB G)) := hok'
        clear hok'
        have hlys : (y :: ys).length ≤ 1000 := by
          have := congrArg List.length e3
          rw [List.length_append] at this
          omega
        generalize (K.add (G x.1) k).take ((K.add (G x.1) k).length - (K.add (G x.1) k).length / 2) = ks1 at *
        have hkeys : Bk.keys (B1.map (toB G) ++ (x.2.1, ks1) :: (y, y :: ys) :: B2.map (toB G)) = K.add (Bk.keys (B1.map (toB G) ++ toB G x :: B2.map (toB G))) k := by
          refine up_extY hok''.kup (K.add_up hO.kup k) fun z => ?_
          rw [K.add_mem hO.kup, Bk.keys_part, e3, Bk.mem3, List.mem_append, List.mem_append, show z ∈ K.add (G x.1) k ↔ z = k ∨ z ∈ G x.1 from K.add_mem hg.2.2.1 k z]
          show (z ∈ _ ∨ z = k ∨ z ∈ G x.1) ∨ z ∈ _ ↔ z = k ∨ z ∈ _ ∨ z ∈ G x.1 ∨ z ∈ _
          constructor
          · rintro ((h | h | h) | h)
            · exact .inr (.inl h)
            · exact .inl h
            · exact .inr (.inr (.inl h))
            · exact .inr (.inr (.inr h))
          · rintro (h | h | h | h)
            · exact .inl (.inr (.inl h))
            · exact .inl (.inl h)
            · exact .inl (.inr (.inr h))
            · exact .inr h
        have hreps : Bk.reps (B1.map (toB G) ++ (x.2.1, ks1) :: (y, y :: ys) :: B2.map (toB G)) = Bk.reps (B1.map (toB G)) ++ x.2.1 :: y :: Bk.reps (B2.map (toB G)) := by simp [Bk.reps]
        have hreps0 : rs = Bk.reps (B1.map (toB G)) ++ x.2.1 :: Bk.reps (B2.map (toB G)) := by rw [hI.rr]; simp [Bk.reps, toB]
        have hrup := hok''.rup
        rw [hreps] at hrup
        obtain ⟨hfr, hadr⟩ := Bk.up_mid hrup
        rw [← hreps0] at hfr hadr
        obtain ⟨hx1, hx2⟩ := Bk.xfast_grows b1 b2 hyb hfr
        have hU' : usedB (B1.map (toB G) ++ (x.2.1, ks1) :: (y, y :: ys) :: B2.map (toB G)) = usedB (B1.map (toB G) ++ toB G x :: B2.map (toB G)) + needN rs y (y :: ys) := by
          rw [← hUeq]
          unfold usedB needN
          rw [hkeys, Bk.add_len1 (by rw [hfo]; exact hf), hreps, ← hadr, if_neg (by simp), hI.cnt]
          simp only [List.length_append, List.length_cons, List.length_map]
          omega
        have hins : InsTo (B1.map (toB G) ++ toB G x :: B2.map (toB G)) k (B1.map (toB G) ++ (x.2.1, ks1) :: (y, y :: ys) :: B2.map (toB G)) := .inr ⟨_, _, _, rfl, h1, h2, by rw [hput]; simp⟩
        have hnd2 : (y :: ys) ≠ [] → K.fo rs y = false ∧ K.xfast (K.add rs y) ≤ 1000000 := fun _ => ⟨hfr, by omega⟩
        by_cases hfit : usedB (B1.map (toB G) ++ (x.2.1, ks1) :: (y, y :: ys) :: B2.map (toB G)) ≤ lim
        · have hle : (B1.map (toB G) ++ toB G x :: B2.map (toB G)).length + 1 ≤ lim := by
            unfold usedB at hfit
            simp only [List.length_append, List.length_cons, List.length_map] at hfit ⊢
            omega
          have hlB := hI.len
          refine (ins_ok1_T hT k hk (x.1 : Int) x.2.1 x.2.2.1 x.2.2.2.1 x.2.2.2.2 (Yp.lst (-1) B1) (Yp.hd B2 (-1)) hsel (G x.1) hfound hg.2.2.1 (by omega) hf _ rfl hkl y ks1 (y :: ys) e0 e1 e2 ks1.length (y :: ys).length rfl rfl hlys hyb hnd2 _ _ hUeq rfl (upd G x.1 ks1) (by rw [if_neg hne]; rfl) (by rw [← hU']; exact hfit) (by simp) (by rw [hI.cnt]; omega) (fun z hz e => ?_) (by rw [hI.elen]; omega)).mono ?_
          · have hz2 := hI.ee.mem_iff.1 hz
            obtain ⟨b, hb, e4⟩ := List.mem_map.1 hz2
            rw [← e4] at e
            injection e with _ e
            have : y ∈ rs := by
              rw [hI.rr, ← e]
              unfold Bk.reps
              rw [← List.map_cons, ← List.map_append, List.map_map]
              exact List.mem_map.2 ⟨b, hb, rfl⟩
            rw [(K.fo_mem b1 y).2 this] at hfr
            cases hfr
          · rintro e w' ⟨rfl, t, ht, A1, c1, A2, c2, a, ns2, fs2, hF, hyr⟩
            refine .inr ⟨by rw [hfo]; exact hf, _, hins, hok'', hkeys, .inr ⟨hfit, ?_⟩⟩
            have hI1 := hI.keep rfl A1 ks1.length c1 ks1
            rw [show B1 ++ (x.1, (x.2.1, A1, ks1.length, c1)) :: B2 = (B1 ++ [(x.1, (x.2.1, A1, ks1.length, c1))]) ++ B2 by simp] at hI1
            have hI2 := hI1.begin y A2 (y :: ys).length c2 (y :: ys) a ns2 fs2 hF
            obtain ⟨n1, n2⟩ := nod_ne hI.nod
            have hls : Yp.lst (-1) (B1 ++ [(x.1, (x.2.1, A1, ks1.length, c1))]) = (x.1 : Int) := by rw [Yp.lst_app]; rfl
            have hto : toB (upd G x.1 ks1) (x.1, (x.2.1, A1, ks1.length, c1)) = (x.2.1, ks1) := by unfold toB upd; simp
            rw [hls, List.map_append, List.map_singleton, map_upd n1, map_upd n2, hto] at hI2
            simp only [List.append_assoc, List.singleton_append] at hI2
            have hat := setk_at (A := A1) (n := ks1.length) (c := c1) hnd
            have hbh : beh (Yp.setk ns (x.1 : Int) A1 ks1.length c1) (x.1 : Int) = Yp.hd B2 (-1) := by
              unfold beh
              rw [if_pos (Yp.lvq_some hat), Yp.ndi_some hat]
            have hin : K.inL K.xfast rs lim y = Bk.reps (B1.map (toB G) ++ (x.2.1, ks1) :: (y, y :: ys) :: B2.map (toB G)) := by
              unfold K.inL
              rw [hfr, if_neg (by simp), hadr, hreps, if_neg (by unfold usedB at hfit; rw [hreps] at hfit; omega)]
            rw [hbh, hin] at hyr
            exact hyr.yop (by rw [hkeys, Bk.add_len1 (by rw [hfo]; exact hf)]; rfl) hI2 hok'' hfit ht _
        · refine (ins_full_T hT k hk (x.1 : Int) x.2.1 x.2.2.1 x.2.2.2.1 x.2.2.2.2 (Yp.lst (-1) B1) (Yp.hd B2 (-1)) hsel (G x.1) hfound hg.2.2.1 (by omega) hf _ rfl hkl y ks1 (y :: ys) e0 e1 e2 ks1.length (y :: ys).length rfl rfl hlys hyb hnd2 _ _ hUeq rfl (by rw [← hU']; omega)).mono ?_
          rintro e w' ⟨rfl, t, ht, hyr⟩
          exact .inr ⟨by rw [hfo]; exact hf, _, hins, hok'', hkeys, .inl ⟨by omega, hyr.yop rfl hI hO hU (by omega) _⟩⟩
      · have hok' : Bk.Ok (B1.map (toB G) ++ (x.2.1, K.add (G x.1) k) :: B2.map (toB G)) := hO.more hk h1 h2 (by show (K.add (G x.1) k).length ≤ 128; omega)
        have hput : put (toB G x) k = [(x.2.1, K.add (G x.1) k)] := Bk.put_all (by show (K.add (G x.1) k).length ≤ 128; omega)
        have hkeys : Bk.keys (B1.map (toB G) ++ (x.2.1, K.add (G x.1) k) :: B2.map (toB G)) = K.add (Bk.keys (B1.map (toB G) ++ toB G x :: B2.map (toB G))) k := Bk.keys_add hO hok'
        have e0 : cuty (x.1 : Int) (K.add (G x.1) k) = 0 := by unfold cuty; rw [if_neg hne, if_neg hsp]
        have e1 : cut1 (x.1 : Int) (K.add (G x.1) k) = K.add (G x.1) k := by unfold cut1; rw [if_neg hne, if_neg hsp]
        have e2 : cut2 (x.1 : Int) (K.add (G x.1) k) = [] := by unfold cut2; rw [if_neg hne, if_neg hsp]
        have hU' : usedB (B1.map (toB G) ++ (x.2.1, K.add (G x.1) k) :: B2.map (toB G)) = usedB (B1.map (toB G) ++ toB G x :: B2.map (toB G)) + 1 := by
          unfold usedB
          rw [hkeys, Bk.add_len1 (by rw [hfo]; exact hf), show Bk.reps (B1.map (toB G) ++ (x.2.1, K.add (G x.1) k) :: B2.map (toB G)) = Bk.reps (B1.map (toB G) ++ toB G x :: B2.map (toB G)) by simp [Bk.reps, toB]]
          simp only [List.length_append, List.length_cons]
          omega
        have hins : InsTo (B1.map (toB G) ++ toB G x :: B2.map (toB G)) k (B1.map (toB G) ++ (x.2.1, K.add (G x.1) k) :: B2.map (toB G)) := .inr ⟨_, _, _, rfl, h1, h2, by rw [hput]; simp⟩
        by_cases hfit : usedB (B1.map (toB G) ++ (x.2.1, K.add (G x.1) k) :: B2.map (toB G)) ≤ lim
        · refine (ins_ok0_T hT k hk (x.1 : Int) x.2.1 x.2.2.1 x.2.2.2.1 x.2.2.2.2 (Yp.lst (-1) B1) (Yp.hd B2 (-1)) hsel (G x.1) hfound hg.2.2.1 (by omega) hf _ rfl hkl 0 (K.add (G x.1) k) [] e0 e1 e2 (K.add (G x.1) k).length 0 rfl rfl (by decide) (by decide) (fun e => absurd rfl e) _ 1 hUeq rfl (upd G x.1 (K.add (G x.1) k)) (by rw [if_neg hne]; rfl) (by omega) rfl).mono ?_
          rintro e w' ⟨rfl, t, ht, A1, c1, hyr⟩
          refine .inr ⟨by rw [hfo]; exact hf, _, hins, hok', hkeys, .inr ⟨hfit, ?_⟩⟩
          exact hyr.yop (by rw [hkeys, Bk.add_len1 (by rw [hfo]; exact hf)]; rfl) (hI.keep rfl A1 _ c1 _) hok' hfit (by omega) _
        · refine (ins_full_T hT k hk (x.1 : Int) x.2.1 x.2.2.1 x.2.2.2.1 x.2.2.2.2 (Yp.lst (-1) B1) (Yp.hd B2 (-1)) hsel (G x.1) hfound hg.2.2.1 (by omega) hf _ rfl hkl 0 (K.add (G x.1) k) [] e0 e1 e2 (K.add (G x.1) k).length 0 rfl rfl (by decide) (by decide) (fun e => absurd rfl e) _ 1 hUeq rfl (by omega)).mono ?_
          rintro e w' ⟨rfl, t, ht, hyr⟩
          exact .inr ⟨by rw [hfo]; exact hf, _, hins, hok', hkeys, .inl ⟨by omega, hyr.yop rfl hI hO hU (by omega) _⟩⟩
end
end Go.Proofs.YtelfacchhclgnaaGreat
end
section
namespace Go.Proofs.YtelfacchhclgnaaGreat
set_option maxRecDepth 20000
open Go.RowKit
section
variable {w : World} {P lim tk : Nat} {l : Bk.BL} {O : Nat → Prop}
theorem Inv.none {BL : Yp.LL} {rs : List Nat} {es : Es} {ns : List (Yp.Nd × Bool)} {fs : List Nat} {G : Nat → List Nat} (h : Inv BL [] rs es ns fs G) : BL = [] ∧ rs = [] ∧ es = [] ∧ ns.length - fs.length = 0 := by
  have hB : BL = [] := List.eq_nil_of_length_eq_zero h.len.symm
  subst hB
  exact ⟨rfl, h.rr, List.perm_nil.1 h.ee, h.cnt⟩
theorem sel_none {es : Es} {ns : List (Yp.Nd × Bool)} {k : Nat} : Sel [] es ns k (-1) ⟨0, none, 0, 0, -1, -1⟩ := .inl ⟨by simp [K.pvb, K.fo, K.fi], rfl, rfl⟩
theorem YS.low (h : YS w P l lim tk O) : ∀ j, O j → j < w.heap.size := by
  obtain ⟨M, X, T, Q, rs, es, ns, fs, G, BL, hT, hI, hO, hU⟩ := h
  exact hT.lt.1
theorem ys_len (h : YS w P l lim tk O) : Calls Tryz.prog 33 #[.pointer (some ⟨P, 0, none⟩)] w fun e w' => e = .returned (.int .i64 ((Bk.keys l).length : Int)) ∧ w' = w := by
  obtain ⟨M, X, T, Q, rs, es, ns, fs, G, BL, hT, hI, hO, hU⟩ := h
  exact (YR.start hT).len
theorem ys_used (h : YS w P l lim tk O) : Calls Tryz.prog 12 #[.pointer (some ⟨P, 0, none⟩)] w (YOp w P O (.int .i64 (usedB l : Int)) l lim tk) := by
  obtain ⟨M, X, T, Q, rs, es, ns, fs, G, BL, hT, hI, hO, hU⟩ := h
  have b4 := (YR.start hT).bounds.2.2.2.1
  have hkl : (Bk.keys l).length ≤ 500000 := by
    unfold usedB at hU
    omega
  refine ((YR.start hT).used _ rfl (by omega)).mono ?_
  rintro e w' ⟨rfl, hy⟩
  rw [show K.xfast rs + (ns.length - fs.length) + (Bk.keys l).length = usedB l by unfold usedB; rw [hI.rr, hI.cnt, hI.len]]
  exact hy.yop rfl hI hO hU (Nat.le_refl _) _
theorem ys_buckets (h : YS w P l lim tk O) : Calls Tryz.prog 16 #[.pointer (some ⟨P, 0, none⟩)] w (YOp w P O (.int .i64 (l.length : Int)) l lim tk) := by
  obtain ⟨M, X, T, Q, rs, es, ns, fs, G, BL, hT, hI, hO, hU⟩ := h
  refine ((YR.start hT).buckets).mono ?_
  rintro e w' ⟨rfl, hy⟩
  rw [hI.cnt, ← hI.len]
  exact hy.yop rfl hI hO hU (Nat.le_refl _) _
theorem ys_new (w : World) (sd n : Nat) (hn : n ≤ 500000) : Calls Tryz.prog 9 #[.int .u64 (sd : Int), .int .i64 (n : Int)] w fun e w' => ∃ P O, e = .returned (.tuple #[.pointer (some ⟨P, 0, none⟩), .int .i64 0]) ∧ YS w' P [] n 0 O ∧ Below w.heap.size w w' ∧ ∀ j, O j → w.heap.size ≤ j := by
  refine (y_new w sd n hn).mono ?_
  rintro e w' ⟨P, M, X, T, Q, O, he, hT, hb, hO⟩
  exact ⟨P, O, he, ⟨M, X, T, Q, [], [], [], [], _, [], hT, Inv.nil rfl, Bk.Ok.nil, Nat.zero_le _⟩, hb, hO⟩
end
end Go.Proofs.YtelfacchhclgnaaGreat
end
