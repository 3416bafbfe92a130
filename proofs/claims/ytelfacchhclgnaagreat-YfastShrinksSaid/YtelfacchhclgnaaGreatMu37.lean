/- A key is taken out: Delete; the texts walked. Has, Next, Prev and what is told of the whole; the texts walked. A new y-fast trie; the texts walked. -/
import Derived.Test.YtelfacchhclgnaaGreatMu36
section
namespace Go.Proofs.YtelfacchhclgnaaGreat
set_option maxRecDepth 20000
open Go.RowKit
theorem ath_setk {ns : List (Yp.Nd × Bool)} {i : Nat} {A : Option Addr} {n c : Nat} {j : Int} {b : Bool} {r : Nat} {B : Option Addr} {m d : Nat} {x y : Int} (h : AtH ns j b r B m d x y) (hij : j ≠ (i : Int)) : AtH (Yp.setk ns (i : Int) A n c) j b r B m d x y := by
  rcases h with ⟨rfl, k, rfl, hk⟩ | ⟨rfl, hl, hr⟩
  · refine .inl ⟨rfl, k, rfl, ?_⟩
    unfold Yp.setk
    split
    · rw [Int.toNat_natCast, List.getElem?_set_ne (by omega)]
      exact hk
    · exact hk
  · exact .inr ⟨rfl, by rw [Yp.lvq_setk]; exact hl, hr⟩
theorem setk_at {ns : List (Yp.Nd × Bool)} {i rep : Nat} {A B : Option Addr} {n c m d : Nat} {x y : Int} (h : ns[i]? = some (⟨rep, B, m, d, x, y⟩, true)) : (Yp.setk ns (i : Int) A n c)[i]? = some (⟨rep, A, n, c, x, y⟩, true) := by
  have hl := Yp.lvq_some h
  obtain ⟨k, e, hk, e2⟩ := Yp.lvq_form hl
  obtain rfl : k = i := by omega
  have h2 := h
  rw [List.getElem?_eq_getElem hk, e2] at h2
  injection h2 with h2
  injection h2 with h2 _
  unfold Yp.setk
  rw [if_pos hl, Int.toNat_natCast, List.getElem?_set_self hk, h2]
theorem setk_ne {ns : List (Yp.Nd × Bool)} {i j : Nat} {A : Option Addr} {n c : Nat} (hij : j ≠ i) : (Yp.setk ns (i : Int) A n c)[j]? = ns[j]? := by
  unfold Yp.setk
  split
  · rw [Int.toNat_natCast, List.getElem?_set_ne (fun e => hij e.symm)]
  · rfl
theorem drop_le (xs : List Nat) (k : Nat) : (K.drop xs k).length ≤ xs.length := by
  unfold K.drop
  split
  · simp
    omega
  · exact Nat.le_refl _
section
variable {w0 w : World} {O : Nat → Prop} {P M X T Q lim tk : Nat} {kn : Int} {rs : List Nat} {es : Es} {ns : List (Yp.Nd × Bool)} {fs : List Nat} {G : Nat → List Nat}
theorem bx6 {rep : Nat} {A : Option Addr} {n c b : Nat} {ah be : Int} (h : YR w0 O P M X T Q lim tk kn rs es ns fs G w) (hr : w0.heap[b]? = some (Yp.ndo rep A n c ah be)) (hn : ¬ O b) :
    w.cell? ⟨b, 2, none⟩ = some (.int .i64 ah) ∧ w.cell? ⟨b, 3, none⟩ = some (.int .i64 be) :=
  (Yp.nd_cells ((h.same (row_lt hr) hn).trans hr)).2.2
set_option maxHeartbeats 4000000 in
theorem del_out_T (h : YT w P M X T Q lim tk kn rs es ns fs G O) (k : Nat) (hk : k < 18446744073709551616) (i : Int) (rep : Nat) (ksA : Option Addr) (ksn ksc : Nat) (ah be : Int) (hs : Sel rs es ns k i ⟨rep, ksA, ksn, ksc, ah, be⟩) (xs : List Nat) (hx : Found ns G i ⟨rep, ksA, ksn, ksc, ah, be⟩ xs) (hu : K.Up xs) (few : xs.length ≤ 900) (hin : K.fo xs k = false) :
    Calls Tryz.prog 26 #[.pointer (some ⟨P, 0, none⟩), .int .u64 (k : Int)] w fun e w' => e = .returned (.int .i64 3) ∧ ∃ t, t ≤ 11 ∧ YR w O P M X T Q lim t kn rs es ns fs G w' := by
  have HST := Lib.hid (y_start (YR.start h))
  have c0 := (YR.start h).c0
  have HSEL := Lib.hid hs
  have HF := Lib.hid hx
  have HIN := Lib.hid hin
  clear h hs hx hin
  go_enter Tryz.func26, Tryz.ntmps26
  go_wp2_with (first
    | (go_at_call 46; (with_reducible refine HST.out.mono ?_); rintro e w1 ⟨rfl, h1⟩
       have HFI := Lib.hid (y_find h1 (by omega) k hk i _ HSEL.out)
       clear h1)
    | (go_at_call 47; (with_reducible refine HFI.out.mono ?_); rintro e w2 ⟨rfl, t, ht, h2⟩
       rw [Nat.zero_add] at h2
       have hb1 : Below w2.heap.size w2 (w2.alloc (Yp.ndo rep ksA ksn ksc ah be)) := (Below.refl _ w2).alloc (Nat.le_refl _) _
       have m1 := (Yp.nd_cells (K.alloc_top w2 (Yp.ndo rep ksA ksn ksc ah be))).2.1
       obtain ⟨O1, hT1, hC1, hO1⟩ := h2
       have hn1 : ¬ O1 w2.heap.size := fun ho => (by have := hT1.lt.1 _ ho; omega)
       have hy1 := YR.start (hT1.below hb1)
       have HA := Lib.hid (Kb.b_drop _ _ xs (HF.out.kx hy1) hu (by omega) k)
       have R6 := Lib.hid (K.alloc_top w2 (Yp.ndo rep ksA ksn ksc ah be))
       have HY := Lib.hid hy1
       have HN1 := Lib.hid hn1
       have HC1 := Lib.hid hC1
       have HO1 := Lib.hid hO1
       have HB1 := Lib.hid hb1
       have HT := Lib.hid ht
       clear hb1 hT1 hC1 hO1 hn1 hy1 ht)
    | (go_at_call 54; (with_reducible refine HA.out.mono ?_); rintro e w3 ⟨v3, rfl, k3, hb3⟩
       rw [HIN.out]
       have H3 := Lib.hid (HY.out.below hb3)
       clear k3 hb3))
  go_ret
  exact ⟨rfl, t, HT.out, YR.trans ((HC1.out).trans (K.Chg.of_below (O := O1) HB1.out) (fun q hq => HO1.out q hq)) HO1.out H3.out⟩
theorem YT.prow {O' : Nat → Prop} (h : YT w P M X T Q lim tk kn rs es ns fs G O') : w.heap[P]? = some (yrow P M X T Q lim kn) := (YR.start h).row
set_option maxHeartbeats 8000000 in
theorem del_m1_T (h : YT w P M X T Q lim tk kn rs es ns fs G O) (k : Nat) (hk : k < 18446744073709551616) (i : Nat) (rep : Nat) (ksA : Option Addr) (ksn ksc : Nat) (ah be : Int) (hs : Sel rs es ns k (i : Int) ⟨rep, ksA, ksn, ksc, ah, be⟩) (xs : List Nat) (hx : Found ns G (i : Int) ⟨rep, ksA, ksn, ksc, ah, be⟩ xs) (hu : K.Up xs) (few : xs.length ≤ 900) (hi : ns[i]? = some (⟨rep, ksA, ksn, ksc, ah, be⟩, true)) (hin : K.fo xs k = true) (kc : Nat) (hkn : kn = (kc : Int)) (hkc : kc ≤ 500000) (n3 : Nat) (hn3 : (K.drop xs k).length = n3) (rb : Nat) (Ab : Option Addr) (nb cb : Nat) (ab bb : Int) (j : Nat) (hbe : be = (j : Int)) (hj : ns[j]? = some (⟨rb, Ab, nb, cb, ab, bb⟩, true)) (hij : i ≠ j) (z2 : nb ≤ 1000) (z3 : n3 = 0 ∨ nb = 0 ∨ n3 + nb ≤ 64) (zs : List Nat) (hz : K.Up zs) (hm : ∀ x, x ∈ zs ↔ x ∈ K.drop xs k ∨ x ∈ G j) (hrb : rb < 18446744073709551616) (es' : Es) (he : es.Perm (((0, rb), j) :: es')) (hes : es'.length < 1000000) :
    Calls Tryz.prog 26 #[.pointer (some ⟨P, 0, none⟩), .int .u64 (k : Int)] w fun e w' => e = .returned (.int .i64 0) ∧ ∃ t, t ≤ 120 ∧ ∃ A c, ∃ A4 c4, YR w O P M X T Q lim t ((kc : Int) - 1) (K.drop rs rb) es' ((Yp.seta (Yp.setb (Yp.setk (Yp.setk ns i A n3 c) i A4 zs.length c4) ab bb) bb ab).set j (Yp.Nd.z, false)) (fs ++ [j]) (upd (upd G i (K.drop xs k)) i zs) w' := by
  subst hkn
  subst hbe
  have HST := Lib.hid (y_start (YR.start h))
  have c0 := (YR.start h).c0
  have HSEL := Lib.hid hs
  have HF := Lib.hid hx
  have HIN := Lib.hid hin
  have HI := Lib.hid hi
  have HN3 := Lib.hid hn3
  have HLV := Lib.hid (Yp.lvq_some hi)
  have hd3 : n3 ≤ 900 := by
    have := drop_le xs k
    omega
  have ws2 : IntKind.i64.wrap ((kc : Int) - 1) = (kc : Int) - 1 := IntWalk.i64_in _ (by omega)
  have HJ := Lib.hid hj
  have HIJ := Lib.hid hij
  have HZ3 := Lib.hid z3
  have HZ := Lib.hid hz
  have HM := Lib.hid hm
  have HE := Lib.hid he
  clear h hs hx hin hi hn3 hj hij z3 hz hm he
  go_enter Tryz.func26, Tryz.ntmps26
  go_wp2_with (first
    | (go_at_call 46; (with_reducible refine HST.out.mono ?_); rintro e w1 ⟨rfl, h1⟩
       have HFI := Lib.hid (y_find h1 (by omega) k hk i _ HSEL.out)
       clear h1)
    | (go_at_call 47; (with_reducible refine HFI.out.mono ?_); rintro e w2 ⟨rfl, t, ht, h2⟩
       rw [Nat.zero_add] at h2
       have hb1 : Below w2.heap.size w2 (w2.alloc (Yp.ndo rep ksA ksn ksc ah (j : Int))) := (Below.refl _ w2).alloc (Nat.le_refl _) _
       have m1 := (Yp.nd_cells (K.alloc_top w2 (Yp.ndo rep ksA ksn ksc ah (j : Int)))).2.1
       obtain ⟨O1, hT1, hC1, hO1⟩ := h2
       have hn1 : ¬ O1 w2.heap.size := fun ho => (by have := hT1.lt.1 _ ho; omega)
       have hy1 := YR.start (hT1.below hb1)
       have HA := Lib.hid (Kb.b_drop _ _ xs (HF.out.kx hy1) hu (by omega) k)
       have R6 := Lib.hid (K.alloc_top w2 (Yp.ndo rep ksA ksn ksc ah (j : Int)))
       have HY := Lib.hid hy1
       have HN1 := Lib.hid hn1
       have HC1 := Lib.hid hC1
       have HO1 := Lib.hid hO1
       have HB1 := Lib.hid hb1
       have HT := Lib.hid ht
       clear hb1 hT1 hC1 hO1 hn1 hy1 ht)
    | (go_at_call 54; (with_reducible refine HA.out.mono ?_); rintro e w3 ⟨v3, rfl, k3, hb3⟩
       rw [HIN.out]
       obtain ⟨A3, c3, rfl, _, _⟩ := Kb.kx_rh k3.kx
       have h3 := HY.out.below hb3
       have f4 := frozen_of_row w3 P 4 _ _ h3.row
       have cc4 := h3.c4
       have h3c := h3.cnt ((kc : Int) - 1)
       obtain ⟨_, hT3, _⟩ := h3
       have kk := (k3.kx : KX w3 (.slice A3 (K.drop xs k).length c3) (K.drop xs k))
       have kk2 := kx_chg kk (chg_set w3 P 4 (.int .i64 ((kc : Int) - 1)) (· = P) rfl) (fun q hq hqq => (kx_bt kk hq).ne ⟨_, YT.prow hT3⟩ (by decide) hqq)
       have hkk := h3c.keep i A3 (K.drop xs k).length c3 (K.drop xs k) HLV.out kk2
       rw [HN3.out] at hkk ⊢
       have HKE := Lib.hid hkk
       clear k3 hb3 h3c hT3 kk kk2 hkk)
    | (go_at_call 51; (with_reducible refine HKE.out.mono ?_); rintro e w4 ⟨rfl, h4⟩
       obtain ⟨m2, m3⟩ := bx6 h4 R6.out HN1.out
       have HMR := Lib.hid (h4.merge_yes (by have := HT.out; omega) i j rep A3 n3 c3 ah (j : Int) rb Ab nb cb ab bb (setk_at HI.out) (by rw [setk_ne (fun e => HIJ.out e.symm)]; exact HJ.out) HIJ.out (by omega) z2 HZ3.out zs HZ.out (fun x => by rw [HM.out]; unfold upd; rw [if_pos rfl, if_neg (fun e => HIJ.out e.symm)]) hrb es' HE.out hes)
       clear h4)
    | (go_at_call 55; (with_reducible refine HMR.out.mono ?_); rintro e w5 ⟨rfl, t5, A4, c4, ht5, h5⟩
       have H5 := Lib.hid h5
       have HT5 := Lib.hid ht5
       clear h5 ht5))
  go_ret
  exact ⟨rfl, t + t5, by have := HT.out; have := HT5.out; omega, A3, c3, A4, c4, YR.trans ((HC1.out).trans (K.Chg.of_below (O := O1) HB1.out) (fun q hq => HO1.out q hq)) HO1.out H5.out⟩
set_option maxHeartbeats 8000000 in
theorem del_m2_T (h : YT w P M X T Q lim tk kn rs es ns fs G O) (k : Nat) (hk : k < 18446744073709551616) (i : Nat) (rep : Nat) (ksA : Option Addr) (ksn ksc : Nat) (ah be : Int) (hs : Sel rs es ns k (i : Int) ⟨rep, ksA, ksn, ksc, ah, be⟩) (xs : List Nat) (hx : Found ns G (i : Int) ⟨rep, ksA, ksn, ksc, ah, be⟩ xs) (hu : K.Up xs) (few : xs.length ≤ 900) (hi : ns[i]? = some (⟨rep, ksA, ksn, ksc, ah, be⟩, true)) (hin : K.fo xs k = true) (kc : Nat) (hkn : kn = (kc : Int)) (hkc : kc ≤ 500000) (n3 : Nat) (hn3 : (K.drop xs k).length = n3) (rb : Nat) (Ab : Option Addr) (nb cb : Nat) (ab bb : Int) (b1 : Bool) (hb : AtH ns be b1 rb Ab nb cb ab bb) (hbi : be ≠ (i : Int)) (hno : b1 = false ∨ (nb ≤ 1000 ∧ ¬ (n3 = 0 ∨ nb = 0 ∨ n3 + nb ≤ 64))) (ra : Nat) (Aa : Option Addr) (na ca : Nat) (aa ba : Int) (j : Nat) (hah : ah = (j : Int)) (hj : ns[j]? = some (⟨ra, Aa, na, ca, aa, ba⟩, true)) (hij : j ≠ i) (z2 : na ≤ 1000) (z3 : na = 0 ∨ n3 = 0 ∨ na + n3 ≤ 64) (zs : List Nat) (hz : K.Up zs) (hm : ∀ x, x ∈ zs ↔ x ∈ G j ∨ x ∈ K.drop xs k) (hrep : rep < 18446744073709551616) (es' : Es) (he : es.Perm (((0, rep), i) :: es')) (hes : es'.length < 1000000) :
    Calls Tryz.prog 26 #[.pointer (some ⟨P, 0, none⟩), .int .u64 (k : Int)] w fun e w' => e = .returned (.int .i64 0) ∧ ∃ t, t ≤ 120 ∧ ∃ A c, ∃ A4 c4, YR w O P M X T Q lim t ((kc : Int) - 1) (K.drop rs rep) es' ((Yp.seta (Yp.setb (Yp.setk (Yp.setk ns i A n3 c) j A4 zs.length c4) ah be) be ah).set i (Yp.Nd.z, false)) (fs ++ [i]) (upd (upd G i (K.drop xs k)) j zs) w' := by
  subst hkn
  subst hah
  have HST := Lib.hid (y_start (YR.start h))
  have c0 := (YR.start h).c0
  have HSEL := Lib.hid hs
  have HF := Lib.hid hx
  have HIN := Lib.hid hin
  have HI := Lib.hid hi
  have HN3 := Lib.hid hn3
  have HLV := Lib.hid (Yp.lvq_some hi)
  have hd3 : n3 ≤ 900 := by
    have := drop_le xs k
    omega
  have ws2 : IntKind.i64.wrap ((kc : Int) - 1) = (kc : Int) - 1 := IntWalk.i64_in _ (by omega)
  have HJ := Lib.hid hj
  have HIJ := Lib.hid hij
  have HZ3 := Lib.hid z3
  have HZ := Lib.hid hz
  have HM := Lib.hid hm
  have HE := Lib.hid he
  have HBH := Lib.hid hb
  have HBI := Lib.hid hbi
  have HNO := Lib.hid hno
  clear h hs hx hin hi hn3 hj hij z3 hz hm he hb hbi hno
  go_enter Tryz.func26, Tryz.ntmps26
  go_wp2_with (first
    | (go_at_call 46; (with_reducible refine HST.out.mono ?_); rintro e w1 ⟨rfl, h1⟩
       have HFI := Lib.hid (y_find h1 (by omega) k hk i _ HSEL.out)
       clear h1)
    | (go_at_call 47; (with_reducible refine HFI.out.mono ?_); rintro e w2 ⟨rfl, t, ht, h2⟩
       rw [Nat.zero_add] at h2
       have hb1 : Below w2.heap.size w2 (w2.alloc (Yp.ndo rep ksA ksn ksc (j : Int) be)) := (Below.refl _ w2).alloc (Nat.le_refl _) _
       have m1 := (Yp.nd_cells (K.alloc_top w2 (Yp.ndo rep ksA ksn ksc (j : Int) be))).2.1
       obtain ⟨O1, hT1, hC1, hO1⟩ := h2
       have hn1 : ¬ O1 w2.heap.size := fun ho => (by have := hT1.lt.1 _ ho; omega)
       have hy1 := YR.start (hT1.below hb1)
       have HA := Lib.hid (Kb.b_drop _ _ xs (HF.out.kx hy1) hu (by omega) k)
       have R6 := Lib.hid (K.alloc_top w2 (Yp.ndo rep ksA ksn ksc (j : Int) be))
       have HY := Lib.hid hy1
       have HN1 := Lib.hid hn1
       have HC1 := Lib.hid hC1
       have HO1 := Lib.hid hO1
       have HB1 := Lib.hid hb1
       have HT := Lib.hid ht
       clear hb1 hT1 hC1 hO1 hn1 hy1 ht)
    | (go_at_call 54; (with_reducible refine HA.out.mono ?_); rintro e w3 ⟨v3, rfl, k3, hb3⟩
       rw [HIN.out]
       obtain ⟨A3, c3, rfl, _, _⟩ := Kb.kx_rh k3.kx
       have h3 := HY.out.below hb3
       have f4 := frozen_of_row w3 P 4 _ _ h3.row
       have cc4 := h3.c4
       have h3c := h3.cnt ((kc : Int) - 1)
       obtain ⟨_, hT3, _⟩ := h3
       have kk := (k3.kx : KX w3 (.slice A3 (K.drop xs k).length c3) (K.drop xs k))
       have kk2 := kx_chg kk (chg_set w3 P 4 (.int .i64 ((kc : Int) - 1)) (· = P) rfl) (fun q hq hqq => (kx_bt kk hq).ne ⟨_, YT.prow hT3⟩ (by decide) hqq)
       have hkk := h3c.keep i A3 (K.drop xs k).length c3 (K.drop xs k) HLV.out kk2
       rw [HN3.out] at hkk ⊢
       have HKE := Lib.hid hkk
       clear k3 hb3 h3c hT3 kk kk2 hkk)
    | (go_at_call 51; (with_reducible refine HKE.out.mono ?_); rintro e w4 ⟨rfl, h4⟩
       obtain ⟨m2, m3⟩ := bx6 h4 R6.out HN1.out
       have HMR := Lib.hid (h4.merge_no (by have := HT.out; omega) (i : Int) be true b1 rep A3 n3 c3 (j : Int) be rb Ab nb cb ab bb (.inl ⟨rfl, i, rfl, setk_at HI.out⟩) (ath_setk HBH.out HBI.out) (.inr (HNO.out.imp id (fun q => ⟨by omega, q.1, q.2⟩))))
       clear h4)
    | (go_at_call 55; (with_reducible refine HMR2.out.mono ?_); rintro e w6 ⟨rfl, t6, A4, c4, ht6, h6⟩
       have H6 := Lib.hid h6
       have HT6 := Lib.hid ht6
       clear h6 ht6)
    | (go_at_call 55; (with_reducible refine HMR.out.mono ?_); rintro e w5 ⟨rfl, t5, ht5, h5⟩
       obtain ⟨m2', m3'⟩ := bx6 h5 R6.out HN1.out
       have HMR2 := Lib.hid (h5.merge_yes (by have := HT.out; omega) j i ra Aa na ca aa ba rep A3 n3 c3 (j : Int) be (by rw [setk_ne HIJ.out]; exact HJ.out) (setk_at HI.out) HIJ.out z2 (by omega) HZ3.out zs HZ.out (fun x => by rw [HM.out]; unfold upd; rw [if_pos rfl, if_neg HIJ.out]) hrep es' HE.out hes)
       have HT5 := Lib.hid ht5
       clear h5 ht5))
  go_ret
  refine ⟨rfl, t + t5 + t6, by have := HT.out; have := HT5.out; have := HT6.out; omega, A3, c3, A4, c4, YR.trans ((HC1.out).trans (K.Chg.of_below (O := O1) HB1.out) (fun q hq => HO1.out q hq)) HO1.out H6.out⟩
set_option maxHeartbeats 8000000 in
theorem del_en_T (h : YT w P M X T Q lim tk kn rs es ns fs G O) (k : Nat) (hk : k < 18446744073709551616) (i : Nat) (rep : Nat) (ksA : Option Addr) (ksn ksc : Nat) (ah be : Int) (hs : Sel rs es ns k (i : Int) ⟨rep, ksA, ksn, ksc, ah, be⟩) (xs : List Nat) (hx : Found ns G (i : Int) ⟨rep, ksA, ksn, ksc, ah, be⟩ xs) (hu : K.Up xs) (few : xs.length ≤ 900) (hi : ns[i]? = some (⟨rep, ksA, ksn, ksc, ah, be⟩, true)) (hin : K.fo xs k = true) (kc : Nat) (hkn : kn = (kc : Int)) (hkc : kc ≤ 500000) (n3 : Nat) (hn3 : (K.drop xs k).length = n3) (rb : Nat) (Ab : Option Addr) (nb cb : Nat) (ab bb : Int) (b1 : Bool) (hb : AtH ns be b1 rb Ab nb cb ab bb) (hbi : be ≠ (i : Int)) (hno : b1 = false ∨ (nb ≤ 1000 ∧ ¬ (n3 = 0 ∨ nb = 0 ∨ n3 + nb ≤ 64))) (ra : Nat) (Aa : Option Addr) (na ca : Nat) (aa ba : Int) (b2 : Bool) (ha : AtH ns ah b2 ra Aa na ca aa ba) (hai : ah ≠ (i : Int)) (hno2 : b2 = false ∨ (na ≤ 1000 ∧ ¬ (na = 0 ∨ n3 = 0 ∨ na + n3 ≤ 64))) (h30 : n3 = 0) (hrep : rep < 18446744073709551616) (es' : Es) (he : es.Perm (((0, rep), i) :: es')) (hes : es'.length < 1000000) :
    Calls Tryz.prog 26 #[.pointer (some ⟨P, 0, none⟩), .int .u64 (k : Int)] w fun e w' => e = .returned (.int .i64 0) ∧ ∃ t, t ≤ 120 ∧ ∃ A c, YR w O P M X T Q lim t ((kc : Int) - 1) (K.drop rs rep) es' ((Yp.seta (Yp.setb (Yp.setk ns i A n3 c) ah be) be ah).set i (Yp.Nd.z, false)) (fs ++ [i]) (upd G i (K.drop xs k)) w' := by
  subst hkn
  have HST := Lib.hid (y_start (YR.start h))
  have c0 := (YR.start h).c0
  have HSEL := Lib.hid hs
  have HF := Lib.hid hx
  have HIN := Lib.hid hin
  have HI := Lib.hid hi
  have HN3 := Lib.hid hn3
  have HLV := Lib.hid (Yp.lvq_some hi)
  have hd3 : n3 ≤ 900 := by
    have := drop_le xs k
    omega
  have ws2 : IntKind.i64.wrap ((kc : Int) - 1) = (kc : Int) - 1 := IntWalk.i64_in _ (by omega)
  have HBH := Lib.hid hb
  have HBI := Lib.hid hbi
  have HNO := Lib.hid hno
  have HAH := Lib.hid ha
  have HAI := Lib.hid hai
  have HNO2 := Lib.hid hno2
  have HE := Lib.hid he
  have hq : ((n3 : Int) == 0) = true := by rw [h30]; rfl
  clear h hs hx hin hi hn3 hb hbi hno ha hai hno2 h30 he
  go_enter Tryz.func26, Tryz.ntmps26
  go_wp2_with (first
    | (go_at_call 46; (with_reducible refine HST.out.mono ?_); rintro e w1 ⟨rfl, h1⟩
       have HFI := Lib.hid (y_find h1 (by omega) k hk i _ HSEL.out)
       clear h1)
    | (go_at_call 47; (with_reducible refine HFI.out.mono ?_); rintro e w2 ⟨rfl, t, ht, h2⟩
       rw [Nat.zero_add] at h2
       have hb1 : Below w2.heap.size w2 (w2.alloc (Yp.ndo rep ksA ksn ksc ah be)) := (Below.refl _ w2).alloc (Nat.le_refl _) _
       have m1 := (Yp.nd_cells (K.alloc_top w2 (Yp.ndo rep ksA ksn ksc ah be))).2.1
       obtain ⟨O1, hT1, hC1, hO1⟩ := h2
       have hn1 : ¬ O1 w2.heap.size := fun ho => (by have := hT1.lt.1 _ ho; omega)
       have hy1 := YR.start (hT1.below hb1)
       have HA := Lib.hid (Kb.b_drop _ _ xs (HF.out.kx hy1) hu (by omega) k)
       have R6 := Lib.hid (K.alloc_top w2 (Yp.ndo rep ksA ksn ksc ah be))
       have HY := Lib.hid hy1
       have HN1 := Lib.hid hn1
       have HC1 := Lib.hid hC1
       have HO1 := Lib.hid hO1
       have HB1 := Lib.hid hb1
       have HT := Lib.hid ht
       clear hb1 hT1 hC1 hO1 hn1 hy1 ht)
    | (go_at_call 54; (with_reducible refine HA.out.mono ?_); rintro e w3 ⟨v3, rfl, k3, hb3⟩
       rw [HIN.out]
       obtain ⟨A3, c3, rfl, _, _⟩ := Kb.kx_rh k3.kx
       have h3 := HY.out.below hb3
       have f4 := frozen_of_row w3 P 4 _ _ h3.row
       have cc4 := h3.c4
       have h3c := h3.cnt ((kc : Int) - 1)
       obtain ⟨_, hT3, _⟩ := h3
       have kk := (k3.kx : KX w3 (.slice A3 (K.drop xs k).length c3) (K.drop xs k))
       have kk2 := kx_chg kk (chg_set w3 P 4 (.int .i64 ((kc : Int) - 1)) (· = P) rfl) (fun q hq hqq => (kx_bt kk hq).ne ⟨_, YT.prow hT3⟩ (by decide) hqq)
       have hkk := h3c.keep i A3 (K.drop xs k).length c3 (K.drop xs k) HLV.out kk2
       rw [HN3.out] at hkk ⊢
       have HKE := Lib.hid hkk
       clear k3 hb3 h3c hT3 kk kk2 hkk)
    | (go_at_call 51; (with_reducible refine HKE.out.mono ?_); rintro e w4 ⟨rfl, h4⟩
       obtain ⟨m2, m3⟩ := bx6 h4 R6.out HN1.out
       have HMR := Lib.hid (h4.merge_no (by have := HT.out; omega) (i : Int) be true b1 rep A3 n3 c3 ah be rb Ab nb cb ab bb (.inl ⟨rfl, i, rfl, setk_at HI.out⟩) (ath_setk HBH.out HBI.out) (.inr (HNO.out.imp id (fun q => ⟨by omega, q.1, q.2⟩))))
       clear h4)
    | (go_at_call 55; (with_reducible refine HMR2.out.mono ?_); rintro e w6 ⟨rfl, t6, ht6, h6⟩
       have HEN := Lib.hid (y_end h6 (by have := HT.out; have := HT5.out; omega) i rep hrep A3 n3 c3 ah be (setk_at HI.out) es' HE.out hes)
       have HT6 := Lib.hid ht6
       clear h6 ht6)
    | (go_at_call 56; (with_reducible refine HEN.out.mono ?_); rintro e w7 ⟨rfl, t7, ht7, h7⟩
       have H7 := Lib.hid h7
       have HT7 := Lib.hid ht7
       clear h7 ht7)
    | (go_at_call 55; (with_reducible refine HMR.out.mono ?_); rintro e w5 ⟨rfl, t5, ht5, h5⟩
       obtain ⟨m2', m3'⟩ := bx6 h5 R6.out HN1.out
       have HMR2 := Lib.hid (h5.merge_no (by have := HT.out; omega) ah (i : Int) b2 true ra Aa na ca aa ba rep A3 n3 c3 ah be (ath_setk HAH.out HAI.out) (.inl ⟨rfl, i, rfl, setk_at HI.out⟩) (by rcases HNO2.out with q | q; exact .inl q; exact .inr (.inr ⟨q.1, by omega, q.2⟩)))
       have HT5 := Lib.hid ht5
       clear h5 ht5))
  go_ret
  refine ⟨rfl, t + t5 + t6 + t7, by have := HT.out; have := HT5.out; have := HT6.out; have := HT7.out; omega, A3, c3, YR.trans ((HC1.out).trans (K.Chg.of_below (O := O1) HB1.out) (fun q hq => HO1.out q hq)) HO1.out H7.out⟩
set_option maxHeartbeats 8000000 in
theorem del_no_T (h : YT w P M X T Q lim tk kn rs es ns fs G O) (k : Nat) (hk : k < 18446744073709551616) (i : Nat) (rep : Nat) (ksA : Option Addr) (ksn ksc : Nat) (ah be : Int) (hs : Sel rs es ns k (i : Int) ⟨rep, ksA, ksn, ksc, ah, be⟩) (xs : List Nat) (hx : Found ns G (i : Int) ⟨rep, ksA, ksn, ksc, ah, be⟩ xs) (hu : K.Up xs) (few : xs.length ≤ 900) (hi : ns[i]? = some (⟨rep, ksA, ksn, ksc, ah, be⟩, true)) (hin : K.fo xs k = true) (kc : Nat) (hkn : kn = (kc : Int)) (hkc : kc ≤ 500000) (n3 : Nat) (hn3 : (K.drop xs k).length = n3) (rb : Nat) (Ab : Option Addr) (nb cb : Nat) (ab bb : Int) (b1 : Bool) (hb : AtH ns be b1 rb Ab nb cb ab bb) (hbi : be ≠ (i : Int)) (hno : b1 = false ∨ (nb ≤ 1000 ∧ ¬ (n3 = 0 ∨ nb = 0 ∨ n3 + nb ≤ 64))) (ra : Nat) (Aa : Option Addr) (na ca : Nat) (aa ba : Int) (b2 : Bool) (ha : AtH ns ah b2 ra Aa na ca aa ba) (hai : ah ≠ (i : Int)) (hno2 : b2 = false ∨ (na ≤ 1000 ∧ ¬ (na = 0 ∨ n3 = 0 ∨ na + n3 ≤ 64))) (h30 : 0 < n3) :
    Calls Tryz.prog 26 #[.pointer (some ⟨P, 0, none⟩), .int .u64 (k : Int)] w fun e w' => e = .returned (.int .i64 0) ∧ ∃ t, t ≤ 120 ∧ ∃ A c, YR w O P M X T Q lim t ((kc : Int) - 1) rs es (Yp.setk ns i A n3 c) fs (upd G i (K.drop xs k)) w' := by
  subst hkn
  have HST := Lib.hid (y_start (YR.start h))
  have c0 := (YR.start h).c0
  have HSEL := Lib.hid hs
  have HF := Lib.hid hx
  have HIN := Lib.hid hin
  have HI := Lib.hid hi
  have HN3 := Lib.hid hn3
  have HLV := Lib.hid (Yp.lvq_some hi)
  have hd3 : n3 ≤ 900 := by
    have := drop_le xs k
    omega
  have ws2 : IntKind.i64.wrap ((kc : Int) - 1) = (kc : Int) - 1 := IntWalk.i64_in _ (by omega)
  have HBH := Lib.hid hb
  have HBI := Lib.hid hbi
  have HNO := Lib.hid hno
  have HAH := Lib.hid ha
  have HAI := Lib.hid hai
  have HNO2 := Lib.hid hno2
  have hq : ((n3 : Int) == 0) = false := by rw [beq_eq_false_iff_ne]; omega
  clear h hs hx hin hi hn3 hb hbi hno ha hai hno2 h30
  go_enter Tryz.func26, Tryz.ntmps26
  go_wp2_with (first
    | (go_at_call 46; (with_reducible refine HST.out.mono ?_); rintro e w1 ⟨rfl, h1⟩
       have HFI := Lib.hid (y_find h1 (by omega) k hk i _ HSEL.out)
       clear h1)
    | (go_at_call 47; (with_reducible refine HFI.out.mono ?_); rintro e w2 ⟨rfl, t, ht, h2⟩
       rw [Nat.zero_add] at h2
       have hb1 : Below w2.heap.size w2 (w2.alloc (Yp.ndo rep ksA ksn ksc ah be)) := (Below.refl _ w2).alloc (Nat.le_refl _) _
       have m1 := (Yp.nd_cells (K.alloc_top w2 (Yp.ndo rep ksA ksn ksc ah be))).2.1
       obtain ⟨O1, hT1, hC1, hO1⟩ := h2
       have hn1 : ¬ O1 w2.heap.size := fun ho => (by have := hT1.lt.1 _ ho; omega)
       have hy1 := YR.start (hT1.below hb1)
       have HA := Lib.hid (Kb.b_drop _ _ xs (HF.out.kx hy1) hu (by omega) k)
       have R6 := Lib.hid (K.alloc_top w2 (Yp.ndo rep ksA ksn ksc ah be))
       have HY := Lib.hid hy1
       have HN1 := Lib.hid hn1
       have HC1 := Lib.hid hC1
       have HO1 := Lib.hid hO1
       have HB1 := Lib.hid hb1
       have HT := Lib.hid ht
       clear hb1 hT1 hC1 hO1 hn1 hy1 ht)
    | (go_at_call 54; (with_reducible refine HA.out.mono ?_); rintro e w3 ⟨v3, rfl, k3, hb3⟩
       rw [HIN.out]
       obtain ⟨A3, c3, rfl, _, _⟩ := Kb.kx_rh k3.kx
       have h3 := HY.out.below hb3
       have f4 := frozen_of_row w3 P 4 _ _ h3.row
       have cc4 := h3.c4
       have h3c := h3.cnt ((kc : Int) - 1)
       obtain ⟨_, hT3, _⟩ := h3
       have kk := (k3.kx : KX w3 (.slice A3 (K.drop xs k).length c3) (K.drop xs k))
       have kk2 := kx_chg kk (chg_set w3 P 4 (.int .i64 ((kc : Int) - 1)) (· = P) rfl) (fun q hq hqq => (kx_bt kk hq).ne ⟨_, YT.prow hT3⟩ (by decide) hqq)
       have hkk := h3c.keep i A3 (K.drop xs k).length c3 (K.drop xs k) HLV.out kk2
       rw [HN3.out] at hkk ⊢
       have HKE := Lib.hid hkk
       clear k3 hb3 h3c hT3 kk kk2 hkk)
    | (go_at_call 51; (with_reducible refine HKE.out.mono ?_); rintro e w4 ⟨rfl, h4⟩
       obtain ⟨m2, m3⟩ := bx6 h4 R6.out HN1.out
       have HMR := Lib.hid (h4.merge_no (by have := HT.out; omega) (i : Int) be true b1 rep A3 n3 c3 ah be rb Ab nb cb ab bb (.inl ⟨rfl, i, rfl, setk_at HI.out⟩) (ath_setk HBH.out HBI.out) (.inr (HNO.out.imp id (fun q => ⟨by omega, q.1, q.2⟩))))
       clear h4)
    | (go_at_call 55; (with_reducible refine HMR2.out.mono ?_); rintro e w6 ⟨rfl, t6, ht6, h6⟩
       have H6 := Lib.hid h6
       have HT6 := Lib.hid ht6
       clear h6 ht6)
    | (go_at_call 55; (with_reducible refine HMR.out.mono ?_); rintro e w5 ⟨rfl, t5, ht5, h5⟩
       obtain ⟨m2', m3'⟩ := bx6 h5 R6.out HN1.out
       have HMR2 := Lib.hid (h5.merge_no (by have := HT.out; omega) ah (i : Int) b2 true ra Aa na ca aa ba rep A3 n3 c3 ah be (ath_setk HAH.out HAI.out) (.inl ⟨rfl, i, rfl, setk_at HI.out⟩) (by rcases HNO2.out with q | q; exact .inl q; exact .inr (.inr ⟨q.1, by omega, q.2⟩)))
       have HT5 := Lib.hid ht5
       clear h5 ht5))
  go_ret
  refine ⟨rfl, t + t5 + t6, by have := HT.out; have := HT5.out; have := HT6.out; omega, A3, c3, YR.trans ((HC1.out).trans (K.Chg.of_below (O := O1) HB1.out) (fun q hq => HO1.out q hq)) HO1.out H6.out⟩
end
end Go.Proofs.YtelfacchhclgnaaGreat
end
section
namespace Go.Proofs.YtelfacchhclgnaaGreat
set_option maxRecDepth 20000
open Go.RowKit
section
variable {w0 w : World} {O : Nat → Prop} {P M X T Q lim tk : Nat} {kn : Int} {rs : List Nat} {es : Es} {ns : List (Yp.Nd × Bool)} {fs : List Nat} {G : Nat → List Nat}
set_option maxHeartbeats 2000000 in
theorem near_Next_yes_T (h : YT w P M X T Q lim tk kn rs es ns fs G O) (k : Nat) (hk : k < 18446744073709551616) (i : Int) (rep : Nat) (ksA : Option Addr) (ksn ksc : Nat) (ah be : Int) (hs : Sel rs es ns k i ⟨rep, ksA, ksn, ksc, ah, be⟩) (xs : List Nat) (hx : Found ns G i ⟨rep, ksA, ksn, ksc, ah, be⟩ xs) (hu : K.Up xs) (few : xs.length ≤ 900) (hin : K.nxb xs k = true) :
    Calls Tryz.prog 58 #[.pointer (some ⟨P, 0, none⟩), .int .u64 (k : Int), .func (.func 59) #[] #[], .func (.func 60) #[] #[]] w fun e w' => e = .returned (.tuple #[.int .u64 ((K.nx xs k : Nat) : Int), .bool true]) ∧ ∃ t, t ≤ 11 ∧ YR w O P M X T Q lim t kn rs es ns fs G w' := by
  have HST := Lib.hid (y_start (YR.start h))
  have c0 := (YR.start h).c0
  have HSEL := Lib.hid hs
  have HF := Lib.hid hx
  have HIN := Lib.hid hin
  clear h hs hx hin
  go_enter Tryz.func58, Tryz.ntmps58
  go_wp2_with (first
    | (go_at_call 46; (with_reducible refine HST.out.mono ?_); rintro e w1 ⟨rfl, h1⟩
       have HFI := Lib.hid (y_find h1 (by omega) k hk i _ HSEL.out)
       clear h1)
    | (go_at_call 47; (with_reducible refine HFI.out.mono ?_); rintro e w2 ⟨rfl, t, ht, h2⟩
       rw [Nat.zero_add] at h2
       have h2b := h2.below ((Below.refl _ w2).alloc (Nat.le_refl _) (Yp.ndo rep ksA ksn ksc ah be))
       have m1 := (Yp.nd_cells (K.alloc_top w2 (Yp.ndo rep ksA ksn ksc ah be))).2.1
       have HA := Lib.hid (Kb.b_next _ _ xs (HF.out.kx h2b) hu (by omega) k)
       have H2 := Lib.hid h2
       have HT := Lib.hid ht
       clear h2 ht h2b)
    | (go_at_call 59; (with_reducible refine HA.out.mono ?_); rintro e w3 ⟨rfl, rfl⟩; rw [HIN.out]))
  go_ret2
  exact ⟨rfl, t, HT.out, H2.out.below ((Below.refl _ w2).alloc (Nat.le_refl _) _)⟩
set_option maxHeartbeats 2000000 in
theorem near_Prev_yes_T (h : YT w P M X T Q lim tk kn rs es ns fs G O) (k : Nat) (hk : k < 18446744073709551616) (i : Int) (rep : Nat) (ksA : Option Addr) (ksn ksc : Nat) (ah be : Int) (hs : Sel rs es ns k i ⟨rep, ksA, ksn, ksc, ah, be⟩) (xs : List Nat) (hx : Found ns G i ⟨rep, ksA, ksn, ksc, ah, be⟩ xs) (hu : K.Up xs) (few : xs.length ≤ 900) (hin : K.pvb xs k = true) :
    Calls Tryz.prog 58 #[.pointer (some ⟨P, 0, none⟩), .int .u64 (k : Int), .func (.func 61) #[] #[], .func (.func 62) #[] #[]] w fun e w' => e = .returned (.tuple #[.int .u64 ((K.pv xs k : Nat) : Int), .bool true]) ∧ ∃ t, t ≤ 11 ∧ YR w O P M X T Q lim t kn rs es ns fs G w' := by
  have HST := Lib.hid (y_start (YR.start h))
  have c0 := (YR.start h).c0
  have HSEL := Lib.hid hs
  have HF := Lib.hid hx
  have HIN := Lib.hid hin
  clear h hs hx hin
  go_enter Tryz.func58, Tryz.ntmps58
  go_wp2_with (first
    | (go_at_call 46; (with_reducible refine HST.out.mono ?_); rintro e w1 ⟨rfl, h1⟩
       have HFI := Lib.hid (y_find h1 (by omega) k hk i _ HSEL.out)
       clear h1)
    | (go_at_call 47; (with_reducible refine HFI.out.mono ?_); rintro e w2 ⟨rfl, t, ht, h2⟩
       rw [Nat.zero_add] at h2
       have h2b := h2.below ((Below.refl _ w2).alloc (Nat.le_refl _) (Yp.ndo rep ksA ksn ksc ah be))
       have m1 := (Yp.nd_cells (K.alloc_top w2 (Yp.ndo rep ksA ksn ksc ah be))).2.1
       have HA := Lib.hid (Kb.b_prev _ _ xs (HF.out.kx h2b) hu (by omega) k)
       have H2 := Lib.hid h2
       have HT := Lib.hid ht
       clear h2 ht h2b)
    | (go_at_call 61; (with_reducible refine HA.out.mono ?_); rintro e w3 ⟨rfl, rfl⟩; rw [HIN.out]))
  go_ret2
  exact ⟨rfl, t, HT.out, H2.out.below ((Below.refl _ w2).alloc (Nat.le_refl _) _)⟩
theorem YR.len (h : YR w0 O P M X T Q lim tk kn rs es ns fs G w) : Calls Tryz.prog 33 #[.pointer (some ⟨P, 0, none⟩)] w fun e w' => e = .returned (.int .i64 kn) ∧ w' = w := by
  have c4 := h.c4
  clear h
  go_enter Tryz.func33, Tryz.ntmps33
  go_wp2
  go_ret
  exact ⟨rfl, rfl⟩
theorem YR.limit (h : YR w0 O P M X T Q lim tk kn rs es ns fs G w) : Calls Tryz.prog 21 #[.pointer (some ⟨P, 0, none⟩)] w fun e w' => e = .returned (.int .i64 (lim : Int)) ∧ w' = w := by
  have c5 := h.c5
  clear h
  go_enter Tryz.func21, Tryz.ntmps21
  go_wp2
  go_ret
  exact ⟨rfl, rfl⟩
theorem YR.buckets (h : YR w0 O P M X T Q lim tk kn rs es ns fs G w) : Calls Tryz.prog 16 #[.pointer (some ⟨P, 0, none⟩)] w fun e w' => e = .returned (.int .i64 ((ns.length - fs.length : Nat) : Int)) ∧ YR w0 O P M X T Q lim tk kn rs es ns fs G w' := by
  have c3 := h.c3
  have HL := Lib.hid h.plen
  clear h
  go_enter Tryz.func16, Tryz.ntmps16
  go_wp2_with (go_at_call 42; (with_reducible refine HL.out.mono ?_); rintro e w1 ⟨rfl, h1⟩; have H1 := Lib.hid h1; clear h1)
  go_ret
  exact ⟨rfl, H1.out⟩
end
theorem nil_Insert (w : World) (k : Nat) : Calls Tryz.prog 24 #[.pointer none, .int .u64 (k : Int)] w fun e w' => e = .returned (.int .i64 3) ∧ w' = w := by
  go_enter Tryz.func24, Tryz.ntmps24
  go_wp2
  go_ret
  exact ⟨rfl, rfl⟩
theorem nil_Buckets (w : World) : Calls Tryz.prog 16 #[.pointer none] w fun e w' => e = .returned (.int .i64 0) ∧ w' = w := by
  go_enter Tryz.func16, Tryz.ntmps16
  go_wp2
  go_ret
  exact ⟨rfl, rfl⟩
end Go.Proofs.YtelfacchhclgnaaGreat
end
section
namespace Go.Proofs.YtelfacchhclgnaaGreat
set_option maxRecDepth 20000
open Go.RowKit
theorem cell_moreY {w : World} {p : Addr} {v : Value} (h : w.cell? p = some v) (o : Obj) : (w.alloc o).cell? p = some v := by
  letI : Gh := ⟨0, 0⟩
  exact cell_more h o
set_option maxHeartbeats 2000000 in
theorem y_new (w : World) (sd n : Nat) (hn : n ≤ 500000) : Calls Tryz.prog 9 #[.int .u64 (sd : Int), .int .i64 (n : Int)] w fun e w' => ∃ P M X T Q O, e = .returned (.tuple #[.pointer (some ⟨P, 0, none⟩), .int .i64 0]) ∧ YT w' P M X T Q n 0 0 [] [] [] [] (fun _ => []) O ∧ Below w.heap.size w w' ∧ ∀ j, O j → w.heap.size ≤ j := by
  have hx : Calls Tryz.prog 35 #[.int .u64 (sd : Int), .int .i64 (n : Int)] w fun e w' => ∃ Xb r c O, e = .returned (.tuple #[.pointer (some ⟨Xb, 0, none⟩), .int .i64 0]) ∧ XG r c w' Xb [] n 2000000 O ∧ Below w.heap.size w w' ∧ ∀ j, O j → w.heap.size ≤ j := by
    letI : Gh := ⟨0, 0⟩
    refine (xf_new w sd n hn ⟨rfl, rfl⟩).mono ?_
    rintro e w' ⟨Xb, tk, O, he, hz, hb, hO⟩
    obtain ⟨_, r, c, _, _, _, _, _, hx, _⟩ := xg_now (show XG 0 0 w' Xb [] n tk O from hz)
    exact ⟨Xb, r, c, O, he, hx, hb, hO⟩
  have HX := Lib.hid hx
  have HNN := Lib.hid hn
  clear hx hn
  go_enter Tryz.func9, Tryz.ntmps9
  go_wp2_with (first
    | (go_at_call 35; (with_reducible refine HX.out.mono ?_); rintro e w1 ⟨Xb, r, c, OX, rfl, hxz, hb1, hOX⟩
       have HXZ := Lib.hid hxz
       have HB1 := Lib.hid hb1
       have HOX := Lib.hid hOX
       have HQ := Lib.hid (Yp.q_new w1 n (by have := HNN.out; omega))
       clear hxz hb1 hOX)
    | (go_at_call 36; (with_reducible refine HQ.out.mono ?_); rintro e w2 ⟨Q, M, rfl, hq, hm, q1, q2, hb2⟩
       have hqd : Yp.Qo w2.drew Q M n none 0 none 0 [] [] := hq.chg ((chg_refl w2 (fun _ => False)).drewN 1) (fun _ _ h => h)
       have hmd : Yp.Mx w2.drew M 0 := hm.chg ((chg_refl w2 (fun _ => False)).drewN 1) (fun h => h)
       have HS1 := Lib.hid hqd.c0
       have HQD := Lib.hid hqd
       have HMD := Lib.hid hmd
       have HB2 : Hid (Below w1.heap.size w1 w2.drew) := Lib.hid hb2.drew
       have HA := Lib.hid (And.intro q1 q2)
       have HN := Lib.hid (Hs.tab_new_nil w2.drew sd)
       clear hq hm hqd hmd q1 q2 hb2))
  go_region_held3 (fun Y => Y.cell? ⟨Q, 0, none⟩ = some (.pointer (some ⟨M, 0, none⟩))) (first | (with_reducible exact HS1.out) | (with_reducible exact HS2.out) | (with_reducible exact HS3.out _) | go_keep)
    ((go_at_call 37; (with_reducible refine HN.out.mono ?_); rintro e w3 ⟨Pt, Qt, Mt, rfl, ht, hb3, p1, p2, p3⟩
      have hs2 : w3.cell? ⟨Q, 0, none⟩ = some (.pointer (some ⟨M, 0, none⟩)) := (HQD.out.chg (K.Chg.of_below (O := fun _ => False) hb3) (fun _ _ h => h)).c0
      have HS2 := Lib.hid hs2
      have HS3 := Lib.hid (fun o => cell_moreY hs2 o)
      have HT := Lib.hid ht
      have HB3 := Lib.hid hb3
      have HP := Lib.hid (And.intro p1 (And.intro p2 p3))
      clear ht hb3 p1 p2 p3 hs2))
  all_goals
    go_wp2
    go_ret2
    obtain ⟨W4, hW4⟩ : ∃ W4, w3.alloc (.cells #[.pointer (some ⟨M, 0, none⟩), .pointer (some ⟨Xb, 0, none⟩), .pointer (some ⟨Pt, 0, none⟩), .pointer (some ⟨Q, 0, none⟩), .int .i64 0, .int .i64 (n : Int)] 45) = W4 := ⟨_, rfl⟩
    have hrow : W4.heap[w3.heap.size]? = some (yrow w3.heap.size M Xb Pt Q n 0) := by rw [← hW4]; exact K.alloc_top _ _
    have hca : K.Chg w3 W4 (fun _ => False) := by rw [← hW4]; exact chg_alloc w3 _ _
    have hb34 : Below w2.drew.heap.size w2.drew W4 := by rw [← hW4]; exact HB3.out.alloc HB3.out.size _
    have hc34 := K.Chg.of_below (O := fun _ => False) hb34
    have hb24 : Below w1.heap.size w1 W4 := HB2.out.trans (hb34.mono HB2.out.size)
    have hc24 := K.Chg.of_below (O := fun _ => False) hb24
    obtain ⟨p1, p2, p3⟩ := HP.out
    obtain ⟨q1, q2⟩ := HA.out
    have hz1 := HB1.out.size
    have hz2 := HB2.out.size
    have hz3 := HB3.out.size
    have hM := HMD.out.lt
    have hMt : w2.drew.heap.size ≤ Mt := by
      rcases p3 with p3 | p3
      · cases p3
      · exact p3.2
    have hxl := xg_lt HXZ.out
    rw [hW4]
    refine ⟨w3.heap.size, M, Xb, Pt, Q, _, rfl, ⟨OX, r, c, sd, Qt, Mt, 8, 0, none, 0, none, 0, ⟨hrow, HMD.out.chg hc34 (fun h => h), xg_chg HXZ.out hc24 (fun _ _ h => h), HT.out.but (ButS.of_chg hca) (fun _ _ h => h), HQD.out.chg hc34 (fun _ _ h => h), fun i hi => absurd hi (Nat.not_lt_zero _), fun j hj => ?_, ?_⟩, rfl⟩, HB1.out.trans (hb24.mono hz1), fun j hj => ?_⟩
    · have := hxl j hj
      refine ⟨by omega, by omega, fun h => ?_, fun h => ?_, fun h => ?_⟩
      · rcases h with h | h | h <;> omega
      · rcases h with h | h | h
        · omega
        · cases h
        · cases h
      · obtain ⟨x, hx, _⟩ := h
        cases hx
    · omega
    · rcases hj with h | h | h | h | h
      · omega
      · omega
      · exact HOX.out j h
      · rcases h with h | h | h <;> omega
      · rcases h with h | h | h
        · omega
        · cases h
        · cases h
end Go.Proofs.YtelfacchhclgnaaGreat
end
