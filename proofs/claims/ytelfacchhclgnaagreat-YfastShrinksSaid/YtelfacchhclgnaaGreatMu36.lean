/- A key is put in: Insert; the texts walked. -/
import Derived.Test.YtelfacchhclgnaaGreatMu35
namespace Go.Proofs.YtelfacchhclgnaaGreat
set_option maxRecDepth 20000
open Go.RowKit
section
variable {w0 w : World} {O : Nat → Prop} {P M X T Q lim tk : Nat} {kn : Int} {rs : List Nat} {es : Es} {ns : List (Yp.Nd × Bool)} {fs : List Nat} {G : Nat → List Nat}
theorem YR.merge_no (h : YR w0 O P M X T Q lim tk kn rs es ns fs G w) (htk : tk ≤ 100) (i j : Int) (bi bj : Bool) (r1 : Nat) (A1 : Option Addr) (n1 c1 : Nat) (a1 b1 : Int) (r2 : Nat) (A2 : Option Addr) (n2 c2 : Nat) (a2 b2 : Int) (hi : AtH ns i bi r1 A1 n1 c1 a1 b1) (hj : AtH ns j bj r2 A2 n2 c2 a2 b2) (hno : bi = false ∨ bj = false ∨ (n1 ≤ 1000 ∧ n2 ≤ 1000 ∧ ¬ (n1 = 0 ∨ n2 = 0 ∨ n1 + n2 ≤ 64))) :
    Calls Tryz.prog 55 #[.pointer (some ⟨P, 0, none⟩), .int .i64 i, .int .i64 j] w fun e w' => e = .returned (.bool false) ∧ ∃ t, t ≤ 2 ∧ YR w0 O P M X T Q lim (tk + t) kn rs es ns fs G w' := by
  obtain ⟨O', hT, hC, hO⟩ := h
  refine (merge_no_T hT htk i j bi bj r1 A1 n1 c1 a1 b1 r2 A2 n2 c2 a2 b2 hi hj hno).mono ?_
  rintro e w' ⟨he', t, ht, hy⟩
  exact ⟨he', t, ht, YR.trans hC hO hy⟩
theorem YR.merge_yes (h : YR w0 O P M X T Q lim tk kn rs es ns fs G w) (htk : tk ≤ 90) (i j : Nat) (r1 : Nat) (A1 : Option Addr) (n1 c1 : Nat) (a1 b1 : Int) (r2 : Nat) (A2 : Option Addr) (n2 c2 : Nat) (a2 b2 : Int) (hi : ns[i]? = some (⟨r1, A1, n1, c1, a1, b1⟩, true)) (hj : ns[j]? = some (⟨r2, A2, n2, c2, a2, b2⟩, true)) (hij : i ≠ j)
    (z1 : n1 ≤ 1000) (z2 : n2 ≤ 1000) (z3 : n1 = 0 ∨ n2 = 0 ∨ n1 + n2 ≤ 64) (zs : List Nat) (hz : K.Up zs) (hm : ∀ x, x ∈ zs ↔ x ∈ G i ∨ x ∈ G j) (hr2 : r2 < 18446744073709551616) (es' : Es) (he : es.Perm (((0, r2), j) :: es')) (hes : es'.length < 1000000) :
    Calls Tryz.prog 55 #[.pointer (some ⟨P, 0, none⟩), .int .i64 (i : Int), .int .i64 (j : Int)] w fun e w' => e = .returned (.bool true) ∧ ∃ t A c, t ≤ 102 ∧
      YR w0 O P M X T Q lim (tk + t) kn (K.drop rs r2) es' ((Yp.seta (Yp.setb (Yp.setk ns i A zs.length c) a2 b2) b2 a2).set j (Yp.Nd.z, false)) (fs ++ [j]) (upd G i zs) w' := by
  obtain ⟨O', hT, hC, hO⟩ := h
  refine (merge_yes_T hT htk i j r1 A1 n1 c1 a1 b1 r2 A2 n2 c2 a2 b2 hi hj hij z1 z2 z3 zs hz hm hr2 es' he hes).mono ?_
  rintro e w' ⟨he', t, A, c, ht, hy⟩
  exact ⟨he', t, A, c, ht, YR.trans hC hO hy⟩
/-- What part answers. -/
def PartR (W : World) (i : Int) (v : Value) (y : Nat) (ks1 ks2 : List Nat) : Prop := Calls Tryz.prog 49 #[.int .i64 i, v] W fun e w' => ∃ A1 c1 A2 c2, e = .returned (.tuple #[.slice A1 ks1.length c1, Yp.ndv y A2 ks2.length c2 0 0]) ∧ KX w' (.slice A1 ks1.length c1) ks1 ∧ KX w' (.slice A2 ks2.length c2) ks2 ∧ Below W.heap.size W w'
theorem kx_none (w : World) (c : Nat) (hc : c = 0) : KX w (.slice none 0 c) [] := by
  subst hc
  exact ⟨rfl, .inl ⟨rfl, rfl⟩⟩
/-- How a bucket's keys are parted: what it keeps, what begins behind it. -/
def cut1 (i : Int) (l : List Nat) : List Nat := if i = -1 then [] else if 128 < l.length then l.take (l.length - l.length / 2) else l
def cut2 (i : Int) (l : List Nat) : List Nat := if i = -1 then l else if 128 < l.length then l.drop (l.length - l.length / 2) else []
def cuty (i : Int) (l : List Nat) : Nat := if i = -1 then 0 else if 128 < l.length then (l.drop (l.length - l.length / 2)).headD 0 else 0
theorem y_part (W : World) (i : Int) (hi : -1 ≤ i) (v : Value) (l : List Nat) (hv : KX W v l) (few : l.length ≤ 1000) : PartR W i v (cuty i l) (cut1 i l) (cut2 i l) := by
  obtain ⟨A, c, rfl, _, _⟩ := Kb.kx_rh hv
  unfold PartR
  by_cases e : i = -1
  · subst e
    unfold cut1 cut2 cuty
    simp only [if_true]
    refine (y_part_no W A l.length c).mono ?_
    rintro e w' ⟨rfl, hb⟩
    exact ⟨none, 0, A, c, rfl, kx_none _ _ rfl, hv.below hb, hb⟩
  · obtain ⟨j, rfl⟩ : ∃ j : Nat, i = (j : Int) := ⟨i.toNat, by omega⟩
    unfold cut1 cut2 cuty
    simp only [if_neg e]
    by_cases hl : 128 < l.length
    · simp only [if_pos hl]
      obtain ⟨y, ys, hy⟩ : ∃ y ys, l.drop (l.length - l.length / 2) = y :: ys := by
        cases hd : l.drop (l.length - l.length / 2) with
        | nil =>
          have := congrArg List.length hd
          rw [List.length_drop] at this
          simp at this
          omega
        | cons y ys => exact ⟨y, ys, rfl⟩
      refine (y_part_two W j A c l hv few hl y ys hy).mono ?_
      rintro e w' ⟨A1, c1, A2, c2, rfl, k1, k2, hb⟩
      rw [hy]
      exact ⟨A1, c1, A2, c2, rfl, k1, k2, hb⟩
    · simp only [if_neg hl]
      refine (y_part_all W j A l.length c (by omega)).mono ?_
      rintro e w' ⟨rfl, hb⟩
      exact ⟨A, c, none, 0, rfl, hv.below hb, kx_none _ _ rfl, hb⟩
/-- What a new bucket with these keys and this representative needs. -/
def needN (rs : List Nat) (y : Nat) (ks2 : List Nat) : Nat := if ks2 = [] then 1 else K.xfast (K.add rs y) - K.xfast rs + 2
theorem YR.need (h : YR w0 O P M X T Q lim tk kn rs es ns fs G w) (y : Nat) (hy : y < 18446744073709551616) (A : Option Addr) (ks2 : List Nat) (c : Nat) (ah be : Int) (few : ks2.length ≤ 1000) (hf : ks2 ≠ [] → K.fo rs y = false ∧ K.xfast (K.add rs y) ≤ 1000000) :
    Calls Tryz.prog 50 #[.pointer (some ⟨P, 0, none⟩), Yp.ndv y A ks2.length c ah be] w fun e w' => e = .returned (.int .i64 ((needN rs y ks2 : Nat) : Int)) ∧ YR w0 O P M X T Q lim tk kn rs es ns fs G w' := by
  unfold needN
  by_cases e : ks2 = []
  · subst e
    exact h.needs_no y A c ah be
  · rw [if_neg e]
    exact h.needs_yes y hy A ks2.length c ah be (List.length_pos_iff.2 e) few (hf e).1 (hf e).2
/-- What a bucket's place keeps. -/
theorem YR.keep_any (h : YR w0 O P M X T Q lim tk kn rs es ns fs G w) (i : Int) (A : Option Addr) (c : Nat) (ks : List Nat) (hi : i = -1 ∨ Yp.lvq ns i = true) (hk : KX w (.slice A ks.length c) ks) :
    Calls Tryz.prog 51 #[.pointer (some ⟨P, 0, none⟩), .int .i64 i, .slice A ks.length c] w fun e w' => e = .returned (.tuple #[]) ∧ YR w0 O P M X T Q lim tk kn rs es (Yp.setk ns i A ks.length c) fs (if i = -1 then G else upd G i.toNat ks) w' := by
  rcases hi with rfl | hi
  · have hl : Yp.lvq ns (-1) = false := by
      cases h : Yp.lvq ns (-1)
      · rfl
      · obtain ⟨k, e, _⟩ := Yp.lvq_form h
        omega
    rw [show Yp.setk ns (-1) A ks.length c = ns from if_neg (by rw [hl]; decide)]
    exact h.keep_no (-1) A ks.length c hl
  · obtain ⟨k, rfl, _⟩ := Yp.lvq_form hi
    rw [if_neg (by omega), Int.toNat_natCast]
    exact h.keep k A ks.length c ks hi hk
/-- The keys of the bucket that was found. -/
def Found (ns : List (Yp.Nd × Bool)) (G : Nat → List Nat) (i : Int) (nd : Yp.Nd) (xs : List Nat) : Prop := (i = -1 ∧ nd = ⟨0, none, 0, 0, -1, -1⟩ ∧ xs = []) ∨ ∃ num : Nat, i = (num : Int) ∧ ns[num]? = some (nd, true) ∧ xs = G num
theorem Found.kx {i : Int} {nd : Yp.Nd} {xs : List Nat} (hf : Found ns G i nd xs) (h : YR w0 O P M X T Q lim tk kn rs es ns fs G w) : KX w (ksl nd) xs := by
  rcases hf with ⟨_, rfl, rfl⟩ | ⟨num, rfl, hn, rfl⟩
  · exact kx_none _ _ rfl
  · exact h.kx hn
theorem Found.lv {i : Int} {nd : Yp.Nd} {xs : List Nat} (hf : Found ns G i nd xs) : i = -1 ∨ Yp.lvq ns i = true := by
  rcases hf with ⟨h, _, _⟩ | ⟨num, rfl, hn, rfl⟩
  · exact .inl h
  · exact .inr (Yp.lvq_some hn)
theorem Found.ge {i : Int} {nd : Yp.Nd} {xs : List Nat} (hf : Found ns G i nd xs) : -1 ≤ i := by
  rcases hf with ⟨h, _, _⟩ | ⟨num, rfl, hn, rfl⟩ <;> omega
set_option maxHeartbeats 2000000 in
theorem ins_in_T (h : YT w P M X T Q lim tk kn rs es ns fs G O) (k : Nat) (hk : k < 18446744073709551616) (i : Int) (rep : Nat) (ksA : Option Addr) (ksn ksc : Nat) (ah be : Int) (hs : Sel rs es ns k i ⟨rep, ksA, ksn, ksc, ah, be⟩) (xs : List Nat) (hx : Found ns G i ⟨rep, ksA, ksn, ksc, ah, be⟩ xs) (hu : K.Up xs) (few : xs.length ≤ 900) (hin : K.fo xs k = true) :
    Calls Tryz.prog 24 #[.pointer (some ⟨P, 0, none⟩), .int .u64 (k : Int)] w fun e w' => e = .returned (.int .i64 4) ∧ ∃ t, t ≤ 11 ∧ YR w O P M X T Q lim t kn rs es ns fs G w' := by
  have HST := Lib.hid (y_start (YR.start h))
  have c0 := (YR.start h).c0
  have HSEL := Lib.hid hs
  have HF := Lib.hid hx
  have HIN := Lib.hid hin
  clear h hs hx hin
  go_enter Tryz.func24, Tryz.ntmps24
  go_wp2_with (first
    | (go_at_call 46; (with_reducible refine HST.out.mono ?_); rintro e w1 ⟨rfl, h1⟩
       have HFI := Lib.hid (y_find h1 (by omega) k hk i _ HSEL.out)
       clear h1)
    | (go_at_call 47; (with_reducible refine HFI.out.mono ?_); rintro e w2 ⟨rfl, t, ht, h2⟩
       rw [Nat.zero_add] at h2
       have h2b := h2.below ((Below.refl _ w2).alloc (Nat.le_refl _) (Yp.ndo rep ksA ksn ksc ah be))
       have m1 := (Yp.nd_cells (K.alloc_top w2 (Yp.ndo rep ksA ksn ksc ah be))).2.1
       have HA := Lib.hid (Kb.b_add _ _ xs (HF.out.kx h2b) hu (by omega) k)
       have H2 := Lib.hid h2
       have HT := Lib.hid ht
       clear h2 ht h2b)
    | (go_at_call 48; (with_reducible refine HA.out.mono ?_); rintro e w3 ⟨v3, rfl, k3, hb3⟩
       rw [HIN.out]
       have HB3 := Lib.hid hb3
       clear k3 hb3))
  go_ret
  refine ⟨rfl, t, HT.out, (H2.out.below ((Below.refl _ w2).alloc (Nat.le_refl _) (Yp.ndo rep ksA ksn ksc ah be))).below HB3.out⟩
theorem bx10 {y : Nat} {A : Option Addr} {n c b : Nat} (h : YR w0 O P M X T Q lim tk kn rs es ns fs G w) (hr : w0.heap[b]? = some (Yp.ndo y A n c 0 0)) (hn : ¬ O b) :
    w.cell? ⟨P, 5, none⟩ = some (.int .i64 (lim : Int)) ∧ w.cell? ⟨b, 0, none⟩ = some (.int .u64 (y : Int)) ∧ w.cell? ⟨b, 1, none⟩ = some (.slice A n c) ∧ w.cell? ⟨b, 2, none⟩ = some (.int .i64 0) ∧ w.cell? ⟨b, 3, none⟩ = some (.int .i64 0) :=
  ⟨h.c5, Yp.nd_cells ((h.same (row_lt hr) hn).trans hr)⟩
theorem setk_len (ns : List (Yp.Nd × Bool)) (i : Int) (A : Option Addr) (n c : Nat) : (Yp.setk ns i A n c).length = ns.length := by
  unfold Yp.setk
  split <;> simp
set_option maxHeartbeats 8000000 in
theorem ins_full_T (h : YT w P M X T Q lim tk kn rs es ns fs G O) (k : Nat) (hk : k < 18446744073709551616) (i : Int) (rep : Nat) (ksA : Option Addr) (ksn ksc : Nat) (ah be : Int) (hs : Sel rs es ns k i ⟨rep, ksA, ksn, ksc, ah, be⟩) (xs : List Nat) (hx : Found ns G i ⟨rep, ksA, ksn, ksc, ah, be⟩ xs) (hu : K.Up xs) (few : xs.length ≤ 900) (hin : K.fo xs k = false) (kc : Nat) (hkn : kn = (kc : Int)) (hkc : kc ≤ 500000) (y : Nat) (ks1 ks2 : List Nat) (e0 : cuty i (K.add xs k) = y) (e1 : cut1 i (K.add xs k) = ks1) (e2 : cut2 i (K.add xs k) = ks2) (n1 n2 : Nat) (en1 : ks1.length = n1) (en2 : ks2.length = n2) (few2 : n2 ≤ 1000) (hy : y < 18446744073709551616) (hnd : ks2 ≠ [] → K.fo rs y = false ∧ K.xfast (K.add rs y) ≤ 1000000)
    (U N : Nat) (hU : K.xfast rs + (ns.length - fs.length) + kc = U) (hN : needN rs y ks2 = N) (hfl : lim < U + N) :
    Calls Tryz.prog 24 #[.pointer (some ⟨P, 0, none⟩), .int .u64 (k : Int)] w fun e w' => e = .returned (.int .i64 5) ∧ ∃ t, t ≤ 11 ∧ YR w O P M X T Q lim t kn rs es ns fs G w' := by
  subst hkn
  have HST := Lib.hid (y_start (YR.start h))
  have c0 := (YR.start h).c0
  have HSEL := Lib.hid hs
  have HF := Lib.hid hx
  have HIN := Lib.hid hin
  have HE := Lib.hid (And.intro e0 (And.intro e1 e2))
  have HLE := Lib.hid (And.intro en1 en2)
  have HLV := Lib.hid hx.lv
  have HGE := Lib.hid hx.ge
  have HAL : Hid ((K.add xs k).length ≤ 1000) := Lib.hid (by have := K.add_len xs k; omega)
  have HND := Lib.hid hnd
  have HUN := Lib.hid (And.intro hU hN)
  obtain ⟨_, _, _, hl5, _, _⟩ := (YR.start h).bounds
  have hUl : U ≤ 2000000 := by
    have := (YR.start h).bounds
    omega
  have ws : IntKind.i64.wrap ((lim : Int) - (U : Int)) = (lim : Int) - (U : Int) := IntWalk.i64_in _ (by omega)
  have ws2 : IntKind.i64.wrap ((kc : Int) + 1) = (kc : Int) + 1 := IntWalk.i64_in _ (by omega)
  have hg : decide ((lim : Int) - (U : Int) < (N : Int)) = true := decide_eq_true (by omega)
  clear h hs hx hin hnd e0 e1 e2 hU hN en1 en2 hfl hl5 hUl
  go_enter Tryz.func24, Tryz.ntmps24
  go_wp2_with (first
    | (go_at_call 46; (with_reducible refine HST.out.mono ?_); rintro e w1 ⟨rfl, h1⟩
       have HFI := Lib.hid (y_find h1 (by omega) k hk i _ HSEL.out)
       clear h1)
    | (go_at_call 47; (with_reducible refine HFI.out.mono ?_); rintro e w2 ⟨rfl, t, ht, h2⟩
       rw [Nat.zero_add] at h2
       have h2b := h2.below ((Below.refl _ w2).alloc (Nat.le_refl _) (Yp.ndo rep ksA ksn ksc ah be))
       have m1 := (Yp.nd_cells (K.alloc_top w2 (Yp.ndo rep ksA ksn ksc ah be))).2.1
       have HA := Lib.hid (Kb.b_add _ _ xs (HF.out.kx h2b) hu (by omega) k)
       have H2 := Lib.hid h2
       have HT := Lib.hid ht
       clear h2 ht h2b)
    | (go_at_call 48; (with_reducible refine HA.out.mono ?_); rintro e w3 ⟨v3, rfl, k3, hb3⟩
       rw [HIN.out]
       have hp : PartR w3 i v3 y ks1 ks2 := (by have q := y_part w3 i HGE.out v3 (K.add xs k) k3.kx HAL.out; rw [HE.out.1, HE.out.2.1, HE.out.2.2] at q; exact q)
       unfold PartR at hp
       rw [HLE.out.1, HLE.out.2] at hp
       have HP := Lib.hid hp
       have HB3 := Lib.hid (((Below.refl _ w2).alloc (Nat.le_refl _) (Yp.ndo rep ksA ksn ksc ah be)).trans (hb3.mono (by simp)))
       clear k3 hb3 hp)
    | (go_at_call 49; (with_reducible refine HP.out.mono ?_); rintro e w4 ⟨A1, c1, A2, c2, rfl, k1, k2, hb4⟩
       have hb24 := HB3.out.trans (hb4.mono (HB3.out.size))
       have hb1 : Below w4.heap.size w4 (w4.alloc (Yp.ndo y A2 n2 c2 0 0)) := (Below.refl _ w4).alloc (Nat.le_refl _) _
       obtain ⟨O1, hT1, hC1, hO1⟩ := (H2.out.below hb24)
       have hn1 : ¬ O1 w4.heap.size := fun ho => (by have := hT1.lt.1 _ ho; omega)
       have hT1' := hT1.below hb1
       have hy1 := YR.start hT1'
       have hd1 : YR (w4.alloc (Yp.ndo y A2 n2 c2 0 0)) O1 P M X T Q lim t (kc : Int) rs es ns fs G (w4.alloc (Yp.ndo y A2 n2 c2 0 0)).drew := hy1.drewN 1
       have r10 : (w4.alloc (Yp.ndo y A2 n2 c2 0 0)).heap[w4.heap.size]? = some (Yp.ndo y A2 n2 c2 0 0) := K.alloc_top _ _
       have HS0 := Lib.hid (bx10 hd1 r10 hn1)
       have hne := hd1.need y hy A2 ks2 c2 0 0 (by rw [HLE.out.2]; exact few2) HND.out
       rw [HLE.out.2, HUN.out.2] at hne
       have HNE := Lib.hid hne
       have hus := hd1.used kc rfl (by omega)
       rw [HUN.out.1] at hus
       have HU := Lib.hid hus
       have k1' := k1.below hb1
       have k2' := k2.below hb1
       have HK1 := Lib.hid (And.intro k1' (hT1'.kfree_kx (x := ⟨y, A1, n1, c1, 0, 0⟩) k1').2)
       have HK2 := Lib.hid (And.intro k2' (hT1'.kfree_kx (x := ⟨y, A2, n2, c2, 0, 0⟩) k2').2)
       have R10 := Lib.hid r10
       have HN1 := Lib.hid hn1
       have HC1 := Lib.hid hC1
       have HO1 := Lib.hid hO1
       have HB1 := Lib.hid hb1
       clear hb24 hb1 hT1 hC1 hO1 hn1 hT1' hy1 hd1 r10 hne hus k1 k2 k1' k2' hb4))
  go_region_held3 (fun Y => Y.cell? ⟨P, 5, none⟩ = some (.int .i64 (lim : Int)) ∧ Y.cell? ⟨w4.heap.size, 0, none⟩ = some (.int .u64 (y : Int)) ∧ Y.cell? ⟨w4.heap.size, 1, none⟩ = some (.slice A2 n2 c2) ∧ Y.cell? ⟨w4.heap.size, 2, none⟩ = some (.int .i64 0) ∧ Y.cell? ⟨w4.heap.size, 3, none⟩ = some (.int .i64 0)) (first | (with_reducible exact HS0.out) | (with_reducible exact HS1.out) | (with_reducible exact HS2.out) | go_keep) (first
    | (go_at_call 12; (with_reducible refine HU2.out.mono ?_); rintro e w6 ⟨rfl, h6⟩
       have HS2 := Lib.hid (bx10 h6 R10.out HN1.out)
       have HH6 := Lib.hid h6
       clear h6)
    | (go_at_call 50; (with_reducible refine HNE2.out.mono ?_); rintro e w6 ⟨rfl, h6⟩
       have HS2 := Lib.hid (bx10 h6 R10.out HN1.out)
       have HH6 := Lib.hid h6
       clear h6)
    | (go_at_call 12; (with_reducible refine HU.out.mono ?_); rintro e w5 ⟨rfl, h5⟩
       have HS1 := Lib.hid (bx10 h5 R10.out HN1.out)
       have hne := h5.need y hy A2 ks2 c2 0 0 (by rw [HLE.out.2]; exact few2) HND.out
       rw [HLE.out.2, HUN.out.2] at hne
       have HNE2 := Lib.hid hne
       clear h5 hne)
    | (go_at_call 50; (with_reducible refine HNE.out.mono ?_); rintro e w5 ⟨rfl, h5⟩
       have HS1 := Lib.hid (bx10 h5 R10.out HN1.out)
       have hus := h5.used kc rfl (by omega)
       rw [HUN.out.1] at hus
       have HU2 := Lib.hid hus
       clear h5 hus))
  all_goals
    go_wp2
    go_ret
    exact ⟨rfl, t, HT.out, YR.trans ((HC1.out).trans (K.Chg.of_below (O := O1) HB1.out) (fun q hq => HO1.out q hq)) HO1.out HH6.out⟩
set_option maxHeartbeats 8000000 in
theorem ins_ok0_T (h : YT w P M X T Q lim tk kn rs es ns fs G O) (k : Nat) (hk : k < 18446744073709551616) (i : Int) (rep : Nat) (ksA : Option Addr) (ksn ksc : Nat) (ah be : Int) (hs : Sel rs es ns k i ⟨rep, ksA, ksn, ksc, ah, be⟩) (xs : List Nat) (hx : Found ns G i ⟨rep, ksA, ksn, ksc, ah, be⟩ xs) (hu : K.Up xs) (few : xs.length ≤ 900) (hin : K.fo xs k = false) (kc : Nat) (hkn : kn = (kc : Int)) (hkc : kc ≤ 500000) (y : Nat) (ks1 ks2 : List Nat) (e0 : cuty i (K.add xs k) = y) (e1 : cut1 i (K.add xs k) = ks1) (e2 : cut2 i (K.add xs k) = ks2) (n1 n2 : Nat) (en1 : ks1.length = n1) (en2 : ks2.length = n2) (few2 : n2 ≤ 1000) (hy : y < 18446744073709551616) (hnd : ks2 ≠ [] → K.fo rs y = false ∧ K.xfast (K.add rs y) ≤ 1000000)
    (U N : Nat) (hU : K.xfast rs + (ns.length - fs.length) + kc = U) (hN : needN rs y ks2 = N) (G1 : Nat → List Nat) (hG1 : (if i = -1 then G else upd G i.toNat ks1) = G1) (hfl : U + N ≤ lim) (hn2 : n2 = 0) :
    Calls Tryz.prog 24 #[.pointer (some ⟨P, 0, none⟩), .int .u64 (k : Int)] w fun e w' => e = .returned (.int .i64 0) ∧ ∃ t, t ≤ 11 ∧ ∃ A1 c1, YR w O P M X T Q lim t ((kc : Int) + 1) rs es (Yp.setk ns i A1 n1 c1) fs G1 w' := by
  subst hkn
  have HST := Lib.hid (y_start (YR.start h))
  have c0 := (YR.start h).c0
  have HSEL := Lib.hid hs
  have HF := Lib.hid hx
  have HIN := Lib.hid hin
  have HE := Lib.hid (And.intro e0 (And.intro e1 e2))
  have HLE := Lib.hid (And.intro en1 en2)
  have HLV := Lib.hid hx.lv
  have HGE := Lib.hid hx.ge
  have HAL : Hid ((K.add xs k).length ≤ 1000) := Lib.hid (by have := K.add_len xs k; omega)
  have HND := Lib.hid hnd
  have HUN := Lib.hid (And.intro hU hN)
  obtain ⟨_, _, _, hl5, _, _⟩ := (YR.start h).bounds
  have hUl : U ≤ 2000000 := by
    have := (YR.start h).bounds
    omega
  have ws : IntKind.i64.wrap ((lim : Int) - (U : Int)) = (lim : Int) - (U : Int) := IntWalk.i64_in _ (by omega)
  have ws2 : IntKind.i64.wrap ((kc : Int) + 1) = (kc : Int) + 1 := IntWalk.i64_in _ (by omega)
  have hg : decide ((lim : Int) - (U : Int) < (N : Int)) = false := decide_eq_false (by omega)
  have hp1 : decide ((0 : Int) < (n2 : Int)) = false := decide_eq_false (by omega)
  have hp2 : decide (0 < n2) = false := decide_eq_false (by omega)
  have HG1 := Lib.hid hG1
  clear hG1
  clear h hs hx hin hnd e0 e1 e2 hU hN en1 en2 hfl hl5 hUl hn2
  go_enter Tryz.func24, Tryz.ntmps24
  go_wp2_with (first
    | (go_at_call 46; (with_reducible refine HST.out.mono ?_); rintro e w1 ⟨rfl, h1⟩
       have HFI := Lib.hid (y_find h1 (by omega) k hk i _ HSEL.out)
       clear h1)
    | (go_at_call 47; (with_reducible refine HFI.out.mono ?_); rintro e w2 ⟨rfl, t, ht, h2⟩
       rw [Nat.zero_add] at h2
       have h2b := h2.below ((Below.refl _ w2).alloc (Nat.le_refl _) (Yp.ndo rep ksA ksn ksc ah be))
       have m1 := (Yp.nd_cells (K.alloc_top w2 (Yp.ndo rep ksA ksn ksc ah be))).2.1
       have HA := Lib.hid (Kb.b_add _ _ xs (HF.out.kx h2b) hu (by omega) k)
       have H2 := Lib.hid h2
       have HT := Lib.hid ht
       clear h2 ht h2b)
    | (go_at_call 48; (with_reducible refine HA.out.mono ?_); rintro e w3 ⟨v3, rfl, k3, hb3⟩
       rw [HIN.out]
       have hp : PartR w3 i v3 y ks1 ks2 := (by have q := y_part w3 i HGE.out v3 (K.add xs k) k3.kx HAL.out; rw [HE.out.1, HE.out.2.1, HE.out.2.2] at q; exact q)
       unfold PartR at hp
       rw [HLE.out.1, HLE.out.2] at hp
       have HP := Lib.hid hp
       have HB3 := Lib.hid (((Below.refl _ w2).alloc (Nat.le_refl _) (Yp.ndo rep ksA ksn ksc ah be)).trans (hb3.mono (by simp)))
       clear k3 hb3 hp)
    | (go_at_call 49; (with_reducible refine HP.out.mono ?_); rintro e w4 ⟨A1, c1, A2, c2, rfl, k1, k2, hb4⟩
       have hb24 := HB3.out.trans (hb4.mono (HB3.out.size))
       have hb1 : Below w4.heap.size w4 (w4.alloc (Yp.ndo y A2 n2 c2 0 0)) := (Below.refl _ w4).alloc (Nat.le_refl _) _
       obtain ⟨O1, hT1, hC1, hO1⟩ := (H2.out.below hb24)
       have hn1 : ¬ O1 w4.heap.size := fun ho => (by have := hT1.lt.1 _ ho; omega)
       have hT1' := hT1.below hb1
       have hy1 := YR.start hT1'
       have hd1 : YR (w4.alloc (Yp.ndo y A2 n2 c2 0 0)) O1 P M X T Q lim t (kc : Int) rs es ns fs G (w4.alloc (Yp.ndo y A2 n2 c2 0 0)).drew := hy1.drewN 1
       have r10 : (w4.alloc (Yp.ndo y A2 n2 c2 0 0)).heap[w4.heap.size]? = some (Yp.ndo y A2 n2 c2 0 0) := K.alloc_top _ _
       have HS0 := Lib.hid (bx10 hd1 r10 hn1)
       have hne := hd1.need y hy A2 ks2 c2 0 0 (by rw [HLE.out.2]; exact few2) HND.out
       rw [HLE.out.2, HUN.out.2] at hne
       have HNE := Lib.hid hne
       have hus := hd1.used kc rfl (by omega)
       rw [HUN.out.1] at hus
       have HU := Lib.hid hus
       have k1' := k1.below hb1
       have k2' := k2.below hb1
       have HK1 := Lib.hid (And.intro k1' (hT1'.kfree_kx (x := ⟨y, A1, n1, c1, 0, 0⟩) k1').2)
       have HK2 := Lib.hid (And.intro k2' (hT1'.kfree_kx (x := ⟨y, A2, n2, c2, 0, 0⟩) k2').2)
       have R10 := Lib.hid r10
       have HN1 := Lib.hid hn1
       have HC1 := Lib.hid hC1
       have HO1 := Lib.hid hO1
       have HB1 := Lib.hid hb1
       clear hb24 hb1 hT1 hC1 hO1 hn1 hT1' hy1 hd1 r10 hne hus k1 k2 k1' k2' hb4))
  go_region_held3 (fun Y => Y.cell? ⟨P, 5, none⟩ = some (.int .i64 (lim : Int)) ∧ Y.cell? ⟨w4.heap.size, 0, none⟩ = some (.int .u64 (y : Int)) ∧ Y.cell? ⟨w4.heap.size, 1, none⟩ = some (.slice A2 n2 c2) ∧ Y.cell? ⟨w4.heap.size, 2, none⟩ = some (.int .i64 0) ∧ Y.cell? ⟨w4.heap.size, 3, none⟩ = some (.int .i64 0)) (first | (with_reducible exact HS0.out) | (with_reducible exact HS1.out) | (with_reducible exact HS2.out) | go_keep) (first
    | (go_at_call 12; (with_reducible refine HU2.out.mono ?_); rintro e w6 ⟨rfl, h6⟩
       have HS2 := Lib.hid (bx10 h6 R10.out HN1.out)
       have HH6 := Lib.hid h6
       have c4 := h6.c4
       have f4 := frozen_of_row w6 P 4 _ _ h6.row
       have h6c := h6.cnt ((kc : Int) + 1)
       have hkk := h6c.keep_any i A1 c1 ks1 HLV.out (by rw [HLE.out.1]; exact kx_yr h6c HK1.out.2 HK1.out.1)
       rw [HLE.out.1, HG1.out] at hkk
       have HKE := Lib.hid hkk
       clear h6c hkk
       clear h6)
    | (go_at_call 50; (with_reducible refine HNE2.out.mono ?_); rintro e w6 ⟨rfl, h6⟩
       have HS2 := Lib.hid (bx10 h6 R10.out HN1.out)
       have HH6 := Lib.hid h6
       have c4 := h6.c4
       have f4 := frozen_of_row w6 P 4 _ _ h6.row
       have h6c := h6.cnt ((kc : Int) + 1)
       have hkk := h6c.keep_any i A1 c1 ks1 HLV.out (by rw [HLE.out.1]; exact kx_yr h6c HK1.out.2 HK1.out.1)
       rw [HLE.out.1, HG1.out] at hkk
       have HKE := Lib.hid hkk
       clear h6c hkk
       clear h6)
    | (go_at_call 12; (with_reducible refine HU.out.mono ?_); rintro e w5 ⟨rfl, h5⟩
       have HS1 := Lib.hid (bx10 h5 R10.out HN1.out)
       have hne := h5.need y hy A2 ks2 c2 0 0 (by rw [HLE.out.2]; exact few2) HND.out
       rw [HLE.out.2, HUN.out.2] at hne
       have HNE2 := Lib.hid hne
       clear h5 hne)
    | (go_at_call 50; (with_reducible refine HNE.out.mono ?_); rintro e w5 ⟨rfl, h5⟩
       have HS1 := Lib.hid (bx10 h5 R10.out HN1.out)
       have hus := h5.used kc rfl (by omega)
       rw [HUN.out.1] at hus
       have HU2 := Lib.hid hus
       clear h5 hus))
  all_goals
    go_wp2_with (go_at_call 51; (with_reducible refine HKE.out.mono ?_); rintro e w7 ⟨rfl, h7⟩
                 obtain ⟨_, m0, m1, m2, m3⟩ := bx10 h7 R10.out HN1.out
                 have H7 := Lib.hid h7
                 clear h7)
    go_ret
    exact ⟨rfl, t, HT.out, A1, c1, YR.trans ((HC1.out).trans (K.Chg.of_below (O := O1) HB1.out) (fun q hq => HO1.out q hq)) HO1.out H7.out⟩
set_option maxHeartbeats 8000000 in
theorem ins_ok1_T (h : YT w P M X T Q lim tk kn rs es ns fs G O) (k : Nat) (hk : k < 18446744073709551616) (i : Int) (rep : Nat) (ksA : Option Addr) (ksn ksc : Nat) (ah be : Int) (hs : Sel rs es ns k i ⟨rep, ksA, ksn, ksc, ah, be⟩) (xs : List Nat) (hx : Found ns G i ⟨rep, ksA, ksn, ksc, ah, be⟩ xs) (hu : K.Up xs) (few : xs.length ≤ 900) (hin : K.fo xs k = false) (kc : Nat) (hkn : kn = (kc : Int)) (hkc : kc ≤ 500000) (y : Nat) (ks1 ks2 : List Nat) (e0 : cuty i (K.add xs k) = y) (e1 : cut1 i (K.add xs k) = ks1) (e2 : cut2 i (K.add xs k) = ks2) (n1 n2 : Nat) (en1 : ks1.length = n1) (en2 : ks2.length = n2) (few2 : n2 ≤ 1000) (hy : y < 18446744073709551616) (hnd : ks2 ≠ [] → K.fo rs y = false ∧ K.xfast (K.add rs y) ≤ 1000000)
    (U N : Nat) (hU : K.xfast rs + (ns.length - fs.length) + kc = U) (hN : needN rs y ks2 = N) (G1 : Nat → List Nat) (hG1 : (if i = -1 then G else upd G i.toNat ks1) = G1) (hfl : U + N ≤ lim) (hn2 : 0 < n2) (hal : ns.length - fs.length < lim) (hes1 : ∀ x ∈ es, x.1 ≠ (0, y)) (hes : es.length < 1000000) :
    Calls Tryz.prog 24 #[.pointer (some ⟨P, 0, none⟩), .int .u64 (k : Int)] w fun e w' => e = .returned (.int .i64 0) ∧ ∃ t, t ≤ 111 ∧ ∃ A1 c1 A2 c2 a ns2 fs2, AllocF (Yp.setk ns i A1 n1 c1) fs ⟨y, A2, n2, c2, 0, 0⟩ a ns2 fs2 ∧
      YR w O P M X T Q lim t ((kc : Int) + 1) (K.inL K.xfast rs lim y) (((0, y), a) :: es) (Yp.seta (Yp.setb (Yp.seta (Yp.setb ns2 i a) a i) a (beh (Yp.setk ns i A1 n1 c1) i)) (beh (Yp.setk ns i A1 n1 c1) i) a) fs2 (upd G1 a ks2) w' := by
  subst hkn
  have HST := Lib.hid (y_start (YR.start h))
  have c0 := (YR.start h).c0
  have HSEL := Lib.hid hs
  have HF := Lib.hid hx
  have HIN := Lib.hid hin
  have HE := Lib.hid (And.intro e0 (And.intro e1 e2))
  have HLE := Lib.hid (And.intro en1 en2)
  have HLV := Lib.hid hx.lv
  have HGE := Lib.hid hx.ge
  have HAL : Hid ((K.add xs k).length ≤ 1000) := Lib.hid (by have := K.add_len xs k; omega)
  have HND := Lib.hid hnd
  have HUN := Lib.hid (And.intro hU hN)
  obtain ⟨_, _, _, hl5, _, _⟩ := (YR.start h).bounds
  have hUl : U ≤ 2000000 := by
    have := (YR.start h).bounds
    omega
  have ws : IntKind.i64.wrap ((lim : Int) - (U : Int)) = (lim : Int) - (U : Int) := IntWalk.i64_in _ (by omega)
  have ws2 : IntKind.i64.wrap ((kc : Int) + 1) = (kc : Int) + 1 := IntWalk.i64_in _ (by omega)
  have hg : decide ((lim : Int) - (U : Int) < (N : Int)) = false := decide_eq_false (by omega)
  have hp1 : decide ((0 : Int) < (n2 : Int)) = true := decide_eq_true (by omega)
  have hp2 : decide (0 < n2) = true := decide_eq_true (by omega)
  have HES := Lib.hid hes1
  have HG1 := Lib.hid hG1
  clear hG1
  clear h hs hx hin hnd e0 e1 e2 hU hN en1 en2 hfl hl5 hUl hes1
  go_enter Tryz.func24, Tryz.ntmps24
  go_wp2_with (first
    | (go_at_call 46; (with_reducible refine HST.out.mono ?_); rintro e w1 ⟨rfl, h1⟩
       have HFI := Lib.hid (y_find h1 (by omega) k hk i _ HSEL.out)
       clear h1)
    | (go_at_call 47; (with_reducible refine HFI.out.mono ?_); rintro e w2 ⟨rfl, t, ht, h2⟩
       rw [Nat.zero_add] at h2
       have h2b := h2.below ((Below.refl _ w2).alloc (Nat.le_refl _) (Yp.ndo rep ksA ksn ksc ah be))
       have m1 := (Yp.nd_cells (K.alloc_top w2 (Yp.ndo rep ksA ksn ksc ah be))).2.1
       have HA := Lib.hid (Kb.b_add _ _ xs (HF.out.kx h2b) hu (by omega) k)
       have H2 := Lib.hid h2
       have HT := Lib.hid ht
       clear h2 ht h2b)
    | (go_at_call 48; (with_reducible refine HA.out.mono ?_); rintro e w3 ⟨v3, rfl, k3, hb3⟩
       rw [HIN.out]
       have hp : PartR w3 i v3 y ks1 ks2 := (by have q := y_part w3 i HGE.out v3 (K.add xs k) k3.kx HAL.out; rw [HE.out.1, HE.out.2.1, HE.out.2.2] at q; exact q)
       unfold PartR at hp
       rw [HLE.out.1, HLE.out.2] at hp
       have HP := Lib.hid hp
       have HB3 := Lib.hid (((Below.refl _ w2).alloc (Nat.le_refl _) (Yp.ndo rep ksA ksn ksc ah be)).trans (hb3.mono (by simp)))
       clear k3 hb3 hp)
    | (go_at_call 49; (with_reducible refine HP.out.mono ?_); rintro e w4 ⟨A1, c1, A2, c2, rfl, k1, k2, hb4⟩
       have hb24 := HB3.out.trans (hb4.mono (HB3.out.size))
       have hb1 : Below w4.heap.size w4 (w4.alloc (Yp.ndo y A2 n2 c2 0 0)) := (Below.refl _ w4).alloc (Nat.le_refl _) _
       obtain ⟨O1, hT1, hC1, hO1⟩ := (H2.out.below hb24)
       have hn1 : ¬ O1 w4.heap.size := fun ho => (by have := hT1.lt.1 _ ho; omega)
       have hT1' := hT1.below hb1
       have hy1 := YR.start hT1'
       have hd1 : YR (w4.alloc (Yp.ndo y A2 n2 c2 0 0)) O1 P M X T Q lim t (kc : Int) rs es ns fs G (w4.alloc (Yp.ndo y A2 n2 c2 0 0)).drew := hy1.drewN 1
       have r10 : (w4.alloc (Yp.ndo y A2 n2 c2 0 0)).heap[w4.heap.size]? = some (Yp.ndo y A2 n2 c2 0 0) := K.alloc_top _ _
       have HS0 := Lib.hid (bx10 hd1 r10 hn1)
       have hne := hd1.need y hy A2 ks2 c2 0 0 (by rw [HLE.out.2]; exact few2) HND.out
       rw [HLE.out.2, HUN.out.2] at hne
       have HNE := Lib.hid hne
       have hus := hd1.used kc rfl (by omega)
       rw [HUN.out.1] at hus
       have HU := Lib.hid hus
       have k1' := k1.below hb1
       have k2' := k2.below hb1
       have HK1 := Lib.hid (And.intro k1' (hT1'.kfree_kx (x := ⟨y, A1, n1, c1, 0, 0⟩) k1').2)
       have HK2 := Lib.hid (And.intro k2' (hT1'.kfree_kx (x := ⟨y, A2, n2, c2, 0, 0⟩) k2').2)
       have R10 := Lib.hid r10
       have HN1 := Lib.hid hn1
       have HC1 := Lib.hid hC1
       have HO1 := Lib.hid hO1
       have HB1 := Lib.hid hb1
       clear hb24 hb1 hT1 hC1 hO1 hn1 hT1' hy1 hd1 r10 hne hus k1 k2 k1' k2' hb4))
  go_region_held3 (fun Y => Y.cell? ⟨P, 5, none⟩ = some (.int .i64 (lim : Int)) ∧ Y.cell? ⟨w4.heap.size, 0, none⟩ = some (.int .u64 (y : Int)) ∧ Y.cell? ⟨w4.heap.size, 1, none⟩ = some (.slice A2 n2 c2) ∧ Y.cell? ⟨w4.heap.size, 2, none⟩ = some (.int .i64 0) ∧ Y.cell? ⟨w4.heap.size, 3, none⟩ = some (.int .i64 0)) (first | (with_reducible exact HS0.out) | (with_reducible exact HS1.out) | (with_reducible exact HS2.out) | go_keep) (first
    | (go_at_call 12; (with_reducible refine HU2.out.mono ?_); rintro e w6 ⟨rfl, h6⟩
       have HS2 := Lib.hid (bx10 h6 R10.out HN1.out)
       have HH6 := Lib.hid h6
       have c4 := h6.c4
       have f4 := frozen_of_row w6 P 4 _ _ h6.row
       have h6c := h6.cnt ((kc : Int) + 1)
       have hkk := h6c.keep_any i A1 c1 ks1 HLV.out (by rw [HLE.out.1]; exact kx_yr h6c HK1.out.2 HK1.out.1)
       rw [HLE.out.1, HG1.out] at hkk
       have HKE := Lib.hid hkk
       clear h6c hkk
       clear h6)
    | (go_at_call 50; (with_reducible refine HNE2.out.mono ?_); rintro e w6 ⟨rfl, h6⟩
       have HS2 := Lib.hid (bx10 h6 R10.out HN1.out)
       have HH6 := Lib.hid h6
       have c4 := h6.c4
       have f4 := frozen_of_row w6 P 4 _ _ h6.row
       have h6c := h6.cnt ((kc : Int) + 1)
       have hkk := h6c.keep_any i A1 c1 ks1 HLV.out (by rw [HLE.out.1]; exact kx_yr h6c HK1.out.2 HK1.out.1)
       rw [HLE.out.1, HG1.out] at hkk
       have HKE := Lib.hid hkk
       clear h6c hkk
       clear h6)
    | (go_at_call 12; (with_reducible refine HU.out.mono ?_); rintro e w5 ⟨rfl, h5⟩
       have HS1 := Lib.hid (bx10 h5 R10.out HN1.out)
       have hne := h5.need y hy A2 ks2 c2 0 0 (by rw [HLE.out.2]; exact few2) HND.out
       rw [HLE.out.2, HUN.out.2] at hne
       have HNE2 := Lib.hid hne
       clear h5 hne)
    | (go_at_call 50; (with_reducible refine HNE.out.mono ?_); rintro e w5 ⟨rfl, h5⟩
       have HS1 := Lib.hid (bx10 h5 R10.out HN1.out)
       have hus := h5.used kc rfl (by omega)
       rw [HUN.out.1] at hus
       have HU2 := Lib.hid hus
       clear h5 hus))
  all_goals
    go_wp2_with (first
      | (go_at_call 51; (with_reducible refine HKE.out.mono ?_); rintro e w7 ⟨rfl, h7⟩
         obtain ⟨_, m0, m1, m2, m3⟩ := bx10 h7 R10.out HN1.out
         have HBG := Lib.hid (y_begin h7 (by have := HT.out; omega) i y hy A2 n2 c2 ks2 (kx_yr h7 HK2.out.2 HK2.out.1) (by rw [setk_len]; exact hal) HES.out hes)
         clear h7)
      | (go_at_call 52; (with_reducible refine HBG.out.mono ?_); rintro e w8 ⟨rfl, t8, a, ns2, fs2, ht8, hF, h8⟩
         have H8 := Lib.hid (And.intro ht8 (And.intro hF h8))
         clear ht8 hF h8))
    go_ret
    exact ⟨rfl, t + t8, by have := HT.out; have := H8.out.1; omega, A1, c1, A2, c2, a, ns2, fs2, H8.out.2.1, YR.trans ((HC1.out).trans (K.Chg.of_below (O := O1) HB1.out) (fun q hq => HO1.out q hq)) HO1.out H8.out.2.2⟩
end
end Go.Proofs.YtelfacchhclgnaaGreat
