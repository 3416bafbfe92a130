/- Two buckets that stand behind one another are made one, or not: merge; the text walked. -/
import Derived.Test.YtelfacchhclgnaaGreatMu34
namespace Go.Proofs.YtelfacchhclgnaaGreat
set_option maxRecDepth 20000
open Go.RowKit
/-- What is at a place: a bucket, or none. -/
def AtH (ns : List (Yp.Nd × Bool)) (i : Int) (b : Bool) (rep : Nat) (A : Option Addr) (n c : Nat) (ah be : Int) : Prop := (b = true ∧ ∃ k : Nat, i = (k : Int) ∧ ns[k]? = some (⟨rep, A, n, c, ah, be⟩, true)) ∨ (b = false ∧ Yp.lvq ns i = false ∧ rep = 0 ∧ A = none ∧ n = 0 ∧ c = 0 ∧ ah = 0 ∧ be = 0)
section
variable {w0 w : World} {O : Nat → Prop} {P M X T Q lim tk : Nat} {kn : Int} {rs : List Nat} {es : Es} {ns : List (Yp.Nd × Bool)} {fs : List Nat} {G : Nat → List Nat}
theorem y_at_any (h : YR w0 O P M X T Q lim tk kn rs es ns fs G w) (htk : tk ≤ 900) (i : Int) (b : Bool) (rep : Nat) (A : Option Addr) (n c : Nat) (ah be : Int) (hi : AtH ns i b rep A n c ah be) :
    Calls Tryz.prog 84 #[.pointer (some ⟨Q, 0, none⟩), .int .i64 i] w fun e w' => e = .returned (.tuple #[Yp.ndv rep A n c ah be, .bool b]) ∧ ∃ t, t ≤ 1 ∧ YR w0 O P M X T Q lim (tk + t) kn rs es ns fs G w' := by
  rcases hi with ⟨rfl, k, rfl, hk⟩ | ⟨rfl, hl, rfl, rfl, rfl, rfl, rfl, rfl⟩
  · refine (y_at_nd h (by omega) k rep A n c ah be hk).mono ?_
    rintro e w' ⟨he, h1⟩
    exact ⟨he, 1, by omega, h1⟩
  · refine (y_at_no h i hl).mono ?_
    rintro e w' ⟨he, h1⟩
    exact ⟨he, 0, by omega, h1⟩
set_option maxHeartbeats 4000000 in
theorem merge_no_T (h : YT w P M X T Q lim tk kn rs es ns fs G O) (htk : tk ≤ 100) (i j : Int) (bi bj : Bool) (r1 : Nat) (A1 : Option Addr) (n1 c1 : Nat) (a1 b1 : Int) (r2 : Nat) (A2 : Option Addr) (n2 c2 : Nat) (a2 b2 : Int) (hi : AtH ns i bi r1 A1 n1 c1 a1 b1) (hj : AtH ns j bj r2 A2 n2 c2 a2 b2) (hno : bi = false ∨ bj = false ∨ (n1 ≤ 1000 ∧ n2 ≤ 1000 ∧ ¬ (n1 = 0 ∨ n2 = 0 ∨ n1 + n2 ≤ 64))) :
    Calls Tryz.prog 55 #[.pointer (some ⟨P, 0, none⟩), .int .i64 i, .int .i64 j] w fun e w' => e = .returned (.bool false) ∧ ∃ t, t ≤ 2 ∧ YR w O P M X T Q lim (tk + t) kn rs es ns fs G w' := by
  cases bi with
  | false =>
    have HA := Lib.hid (y_at_any (YR.start h) (by omega) i _ r1 A1 n1 c1 a1 b1 hi)
    have HJ := Lib.hid hj
    have c3 := (YR.start h).c3
    clear h hi hj hno
    go_enter Tryz.func55, Tryz.ntmps55
    go_wp2_with (first
      | (go_at_call 84; (with_reducible refine HB.out.mono ?_); rintro e w2 ⟨rfl, t2, ht2, h2⟩
         have q1 := (h2.same (row_lt R1.out) HN1.out).trans R1.out
         have q2 := Below.heap_alloc w2 (Yp.ndo r2 A2 n2 c2 a2 b2) _ (row_lt q1)
         have q3 := q2.trans q1
         have rr2 : (w2.alloc (Yp.ndo r2 A2 n2 c2 a2 b2)).heap[w2.heap.size]? = some (Yp.ndo r2 A2 n2 c2 a2 b2) := K.alloc_top _ _
         obtain ⟨_, m1, _, _⟩ := Yp.nd_cells q3
         obtain ⟨_, m2, _, _⟩ := Yp.nd_cells rr2
         have H2 := Lib.hid h2
         have R3 := Lib.hid q3
         have R2 := Lib.hid rr2
         have HT2 := Lib.hid ht2
         clear h2 q1 q2 q3 rr2 ht2)
      | (go_at_call 84; (with_reducible refine HA.out.mono ?_); rintro e w1 ⟨rfl, t1, ht1, h1⟩
         obtain ⟨O1, hT1, hC1, hO1⟩ := h1
         have hb1 : Below w1.heap.size w1 (w1.alloc (Yp.ndo r1 A1 n1 c1 a1 b1)) := (Below.refl _ w1).alloc (Nat.le_refl _) _
         have hl1 := hT1.lt
         have hn1 : ¬ O1 w1.heap.size := fun ho => (by have := hl1.1 _ ho; omega)
         have hy1 := YR.start (hT1.below hb1)
         have c0 := hy1.c3
         have r1 : (w1.alloc (Yp.ndo r1 A1 n1 c1 a1 b1)).heap[w1.heap.size]? = some (Yp.ndo r1 A1 n1 c1 a1 b1) := K.alloc_top _ _
         have HB := Lib.hid (y_at_any hy1 (by omega) j _ r2 A2 n2 c2 a2 b2 HJ.out)
         have R1 := Lib.hid r1
         have HN1 := Lib.hid hn1
         have HC1 := Lib.hid hC1
         have HO1 := Lib.hid hO1
         have HBW := Lib.hid hb1
         have HT1 := Lib.hid ht1
         clear hT1 hC1 hO1 hb1 hl1 hn1 hy1 r1 ht1))
    go_ret
    have h5 := YR.trans ((HC1.out).trans (K.Chg.of_below (O := O1) HBW.out) (fun q hq => HO1.out q hq)) HO1.out H2.out
    have h6 := h5.below ((Below.refl _ w2).alloc (Nat.le_refl _) (Yp.ndo r2 A2 n2 c2 a2 b2))
    exact ⟨rfl, t1 + t2, by have := HT1.out; have := HT2.out; omega, by rw [← Nat.add_assoc]; exact h6⟩
  | true =>
    cases bj with
    | false =>
      have HA := Lib.hid (y_at_any (YR.start h) (by omega) i _ r1 A1 n1 c1 a1 b1 hi)
      have HJ := Lib.hid hj
      have c3 := (YR.start h).c3
      clear h hi hj hno
      go_enter Tryz.func55, Tryz.ntmps55
      go_wp2_with (first
        | (go_at_call 84; (with_reducible refine HB.out.mono ?_); rintro e w2 ⟨rfl, t2, ht2, h2⟩
           have q1 := (h2.same (row_lt R1.out) HN1.out).trans R1.out
           have q2 := Below.heap_alloc w2 (Yp.ndo r2 A2 n2 c2 a2 b2) _ (row_lt q1)
           have q3 := q2.trans q1
           have rr2 : (w2.alloc (Yp.ndo r2 A2 n2 c2 a2 b2)).heap[w2.heap.size]? = some (Yp.ndo r2 A2 n2 c2 a2 b2) := K.alloc_top _ _
           obtain ⟨_, m1, _, _⟩ := Yp.nd_cells q3
           obtain ⟨_, m2, _, _⟩ := Yp.nd_cells rr2
           have H2 := Lib.hid h2
           have R3 := Lib.hid q3
           have R2 := Lib.hid rr2
           have HT2 := Lib.hid ht2
           clear h2 q1 q2 q3 rr2 ht2)
        | (go_at_call 84; (with_reducible refine HA.out.mono ?_); rintro e w1 ⟨rfl, t1, ht1, h1⟩
           obtain ⟨O1, hT1, hC1, hO1⟩ := h1
           have hb1 : Below w1.heap.size w1 (w1.alloc (Yp.ndo r1 A1 n1 c1 a1 b1)) := (Below.refl _ w1).alloc (Nat.le_refl _) _
           have hl1 := hT1.lt
           have hn1 : ¬ O1 w1.heap.size := fun ho => (by have := hl1.1 _ ho; omega)
           have hy1 := YR.start (hT1.below hb1)
           have c0 := hy1.c3
           have r1 : (w1.alloc (Yp.ndo r1 A1 n1 c1 a1 b1)).heap[w1.heap.size]? = some (Yp.ndo r1 A1 n1 c1 a1 b1) := K.alloc_top _ _
           have HB := Lib.hid (y_at_any hy1 (by omega) j _ r2 A2 n2 c2 a2 b2 HJ.out)
           have R1 := Lib.hid r1
           have HN1 := Lib.hid hn1
           have HC1 := Lib.hid hC1
           have HO1 := Lib.hid hO1
           have HBW := Lib.hid hb1
           have HT1 := Lib.hid ht1
           clear hT1 hC1 hO1 hb1 hl1 hn1 hy1 r1 ht1))
      go_ret
      have h5 := YR.trans ((HC1.out).trans (K.Chg.of_below (O := O1) HBW.out) (fun q hq => HO1.out q hq)) HO1.out H2.out
      have h6 := h5.below ((Below.refl _ w2).alloc (Nat.le_refl _) (Yp.ndo r2 A2 n2 c2 a2 b2))
      exact ⟨rfl, t1 + t2, by have := HT1.out; have := HT2.out; omega, by rw [← Nat.add_assoc]; exact h6⟩
    | true =>
      obtain ⟨z1, z2, z3⟩ : n1 ≤ 1000 ∧ n2 ≤ 1000 ∧ ¬ (n1 = 0 ∨ n2 = 0 ∨ n1 + n2 ≤ 64) := by
        rcases hno with e | e | e
        · cases e
        · cases e
        · exact e
      have HF := fun W => Lib.hid (y_few W A1 n1 c1 A2 n2 c2 z1 z2)
      rw [decide_eq_false z3] at HF
      have HA := Lib.hid (y_at_any (YR.start h) (by omega) i _ r1 A1 n1 c1 a1 b1 hi)
      have HJ := Lib.hid hj
      have c3 := (YR.start h).c3
      clear h hi hj hno
      go_enter Tryz.func55, Tryz.ntmps55
      go_wp2_with (first
        | (go_at_call 84; (with_reducible refine HB.out.mono ?_); rintro e w2 ⟨rfl, t2, ht2, h2⟩
           have q1 := (h2.same (row_lt R1.out) HN1.out).trans R1.out
           have q2 := Below.heap_alloc w2 (Yp.ndo r2 A2 n2 c2 a2 b2) _ (row_lt q1)
           have q3 := q2.trans q1
           have rr2 : (w2.alloc (Yp.ndo r2 A2 n2 c2 a2 b2)).heap[w2.heap.size]? = some (Yp.ndo r2 A2 n2 c2 a2 b2) := K.alloc_top _ _
           obtain ⟨_, m1, _, _⟩ := Yp.nd_cells q3
           obtain ⟨_, m2, _, _⟩ := Yp.nd_cells rr2
           have H2 := Lib.hid h2
           have R3 := Lib.hid q3
           have R2 := Lib.hid rr2
           have HT2 := Lib.hid ht2
           clear h2 q1 q2 q3 rr2 ht2)
        | (go_at_call 84; (with_reducible refine HA.out.mono ?_); rintro e w1 ⟨rfl, t1, ht1, h1⟩
           obtain ⟨O1, hT1, hC1, hO1⟩ := h1
           have hb1 : Below w1.heap.size w1 (w1.alloc (Yp.ndo r1 A1 n1 c1 a1 b1)) := (Below.refl _ w1).alloc (Nat.le_refl _) _
           have hl1 := hT1.lt
           have hn1 : ¬ O1 w1.heap.size := fun ho => (by have := hl1.1 _ ho; omega)
           have hy1 := YR.start (hT1.below hb1)
           have c0 := hy1.c3
           have r1 : (w1.alloc (Yp.ndo r1 A1 n1 c1 a1 b1)).heap[w1.heap.size]? = some (Yp.ndo r1 A1 n1 c1 a1 b1) := K.alloc_top _ _
           have HB := Lib.hid (y_at_any hy1 (by omega) j _ r2 A2 n2 c2 a2 b2 HJ.out)
           have R1 := Lib.hid r1
           have HN1 := Lib.hid hn1
           have HC1 := Lib.hid hC1
           have HO1 := Lib.hid hO1
           have HBW := Lib.hid hb1
           have HT1 := Lib.hid ht1
           clear hT1 hC1 hO1 hb1 hl1 hn1 hy1 r1 ht1)
        | (go_at_call 98; (with_reducible refine (HF _).out.mono ?_); rintro e w' ⟨rfl, rfl⟩))
      go_ret
      have h5 := YR.trans ((HC1.out).trans (K.Chg.of_below (O := O1) HBW.out) (fun q hq => HO1.out q hq)) HO1.out H2.out
      have h6 := h5.below ((Below.refl _ w2).alloc (Nat.le_refl _) (Yp.ndo r2 A2 n2 c2 a2 b2))
      exact ⟨rfl, t1 + t2, by have := HT1.out; have := HT2.out; omega, by rw [← Nat.add_assoc]; exact h6⟩
set_option maxHeartbeats 4000000 in
theorem merge_yes_T (h : YT w P M X T Q lim tk kn rs es ns fs G O) (htk : tk ≤ 90) (i j : Nat) (r1 : Nat) (A1 : Option Addr) (n1 c1 : Nat) (a1 b1 : Int) (r2 : Nat) (A2 : Option Addr) (n2 c2 : Nat) (a2 b2 : Int) (hi : ns[i]? = some (⟨r1, A1, n1, c1, a1, b1⟩, true)) (hj : ns[j]? = some (⟨r2, A2, n2, c2, a2, b2⟩, true)) (hij : i ≠ j)
    (z1 : n1 ≤ 1000) (z2 : n2 ≤ 1000) (z3 : n1 = 0 ∨ n2 = 0 ∨ n1 + n2 ≤ 64) (zs : List Nat) (hz : K.Up zs) (hm : ∀ x, x ∈ zs ↔ x ∈ G i ∨ x ∈ G j) (hr2 : r2 < 18446744073709551616) (es' : Es) (he : es.Perm (((0, r2), j) :: es')) (hes : es'.length < 1000000) :
    Calls Tryz.prog 55 #[.pointer (some ⟨P, 0, none⟩), .int .i64 (i : Int), .int .i64 (j : Int)] w fun e w' => e = .returned (.bool true) ∧ ∃ t A c, t ≤ 102 ∧
      YR w O P M X T Q lim (tk + t) kn (K.drop rs r2) es' ((Yp.seta (Yp.setb (Yp.setk ns i A zs.length c) a2 b2) b2 a2).set j (Yp.Nd.z, false)) (fs ++ [j]) (upd G i zs) w' := by
  have l1 : (G i).length = n1 := by
    have := h.kx hi
    obtain ⟨A, c, e, _⟩ := Kb.kx_rh this
    injection e with _ e _
    exact e.symm
  have l2 : (G j).length = n2 := by
    have := h.kx hj
    obtain ⟨A, c, e, _⟩ := Kb.kx_rh this
    injection e with _ e _
    exact e.symm
  have HF := fun W => Lib.hid (y_few W A1 n1 c1 A2 n2 c2 z1 z2)
  rw [decide_eq_true z3] at HF
  have HI := Lib.hid hi
  have HJ2 := Lib.hid hj
  have HLV := Lib.hid (Yp.lvq_some hi)
  have hj : AtH ns (j : Int) true r2 A2 n2 c2 a2 b2 := .inl ⟨rfl, j, rfl, hj⟩
  have hi : AtH ns (i : Int) true r1 A1 n1 c1 a1 b1 := .inl ⟨rfl, i, rfl, hi⟩
  have HA := Lib.hid (y_at_any (YR.start h) (by omega) i _ r1 A1 n1 c1 a1 b1 hi)
  have HJ := Lib.hid hj
  have c3 := (YR.start h).c3
  have HZ := Lib.hid (And.intro hz hm)
  have HL := Lib.hid (And.intro l1 l2)
  have HE := Lib.hid he
  have HSK : Hid (∀ A n c, (Yp.setk ns (i : Int) A n c)[j]? = some (⟨r2, A2, n2, c2, a2, b2⟩, true)) := Lib.hid (fun A n c => by
    unfold Yp.setk
    rw [if_pos HLV.out, Int.toNat_natCast, List.getElem?_set_ne hij]
    exact HJ2.out)
  clear h hi hj hz hm l1 l2 he
  go_enter Tryz.func55, Tryz.ntmps55
  go_wp2_with (first
    | (go_at_call 84; (with_reducible refine HB.out.mono ?_); rintro e w2 ⟨rfl, t2, ht2, h2⟩
       have q1 := (h2.same (row_lt R1.out) HN1.out).trans R1.out
       have q2 := Below.heap_alloc w2 (Yp.ndo r2 A2 n2 c2 a2 b2) _ (row_lt q1)
       have q3 := q2.trans q1
       have rr2 : (w2.alloc (Yp.ndo r2 A2 n2 c2 a2 b2)).heap[w2.heap.size]? = some (Yp.ndo r2 A2 n2 c2 a2 b2) := K.alloc_top _ _
       obtain ⟨_, m1, _, _⟩ := Yp.nd_cells q3
       obtain ⟨_, m2, _, _⟩ := Yp.nd_cells rr2
       have H2 := Lib.hid h2
       have R3 := Lib.hid q3
       have R2 := Lib.hid rr2
       have HT2 := Lib.hid ht2
       have kA : KX (w2.alloc (Yp.ndo r2 A2 n2 c2 a2 b2)) (.slice A1 n1 c1) (G i) := KX.below (h2.kx HI.out) ((Below.refl _ w2).alloc (Nat.le_refl _) _)
       have kB : KX (w2.alloc (Yp.ndo r2 A2 n2 c2 a2 b2)) (.slice A2 n2 c2) (G j) := KX.below (h2.kx HJ2.out) ((Below.refl _ w2).alloc (Nat.le_refl _) _)
       have hmm := Kb.merge_two (w2.alloc (Yp.ndo r2 A2 n2 c2 a2 b2)) _ _ (G i) (G j) zs kA kB HZ.out.1 HZ.out.2 (by rw [HL.out.1]; omega) (by rw [HL.out.2]; omega)
       rw [World.size_alloc] at hmm
       have HM := Lib.hid hmm
       clear hmm
       clear kA kB
       clear h2 q1 q2 q3 rr2 ht2)
    | (go_at_call 84; (with_reducible refine HA.out.mono ?_); rintro e w1 ⟨rfl, t1, ht1, h1⟩
       obtain ⟨O1, hT1, hC1, hO1⟩ := h1
       have hb1 : Below w1.heap.size w1 (w1.alloc (Yp.ndo r1 A1 n1 c1 a1 b1)) := (Below.refl _ w1).alloc (Nat.le_refl _) _
       have hl1 := hT1.lt
       have hn1 : ¬ O1 w1.heap.size := fun ho => (by have := hl1.1 _ ho; omega)
       have hy1 := YR.start (hT1.below hb1)
       have c0 := hy1.c3
       have r1 : (w1.alloc (Yp.ndo r1 A1 n1 c1 a1 b1)).heap[w1.heap.size]? = some (Yp.ndo r1 A1 n1 c1 a1 b1) := K.alloc_top _ _
       have HB := Lib.hid (y_at_any hy1 (by omega) (j : Int) _ r2 A2 n2 c2 a2 b2 HJ.out)
       have R1 := Lib.hid r1
       have HN1 := Lib.hid hn1
       have HC1 := Lib.hid hC1
       have HO1 := Lib.hid hO1
       have HBW := Lib.hid hb1
       have HT1 := Lib.hid ht1
       clear hT1 hC1 hO1 hb1 hl1 hn1 hy1 r1 ht1)
    | (go_at_call 98; (with_reducible refine (HF _).out.mono ?_); rintro e w' ⟨rfl, rfl⟩)
    | (go_at_call 99; (with_reducible refine HM.out.mono ?_); rintro e w3 ⟨v3, rfl, k3, hb3⟩
       obtain ⟨A3, c3', rfl, _, _⟩ := Kb.kx_rh k3.kx
       have hb23 : Below w2.heap.size w2 w3 := ((Below.refl _ w2).alloc (Nat.le_refl _) (Yp.ndo r2 A2 n2 c2 a2 b2)).trans (hb3.mono (by omega))
       have h3 := H2.out.below hb23
       have HK := Lib.hid (h3.keep i A3 zs.length c3' zs HLV.out k3.kx)
       clear k3 hb3 hb23 h3)
    | (go_at_call 51; (with_reducible refine HK.out.mono ?_); rintro e w4 ⟨rfl, h4⟩
       have HEN := Lib.hid (y_end h4 (by have := HT1.out; have := HT2.out; omega) j r2 hr2 A2 n2 c2 a2 b2 (HSK.out _ _ _) es' HE.out hes)
       clear h4)
    | (go_at_call 56; (with_reducible refine HEN.out.mono ?_); rintro e w5 ⟨rfl, t5, ht5, h5⟩
       have H5 := Lib.hid h5
       have HT5 := Lib.hid ht5
       clear h5 ht5))
  go_ret
  refine ⟨rfl, t1 + t2 + t5, A3, c3', by have := HT1.out; have := HT2.out; have := HT5.out; omega, ?_⟩
  have h6 := YR.trans ((HC1.out).trans (K.Chg.of_below (O := O1) HBW.out) (fun q hq => HO1.out q hq)) HO1.out H5.out
  rw [show tk + (t1 + t2 + t5) = tk + t1 + t2 + t5 by omega]
  exact h6
end
end Go.Proofs.YtelfacchhclgnaaGreat
