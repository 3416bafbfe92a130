/- A key's prefixes come, level by level; the text walked. -/
import Derived.Test.YtelfacchhclgnaaGreatMu15
namespace Go.Proofs.YtelfacchhclgnaaGreat
set_option maxRecDepth 20000
open Go.RowKit
set_option linter.unusedSectionVars false
variable [Gh]
theorem key_cells {w : World} {g l p : Nat} (h : w.heap[g]? = some (keyo l p)) : w.cell? ⟨g, 0, none⟩ = some (.int .u8 (l : Int)) ∧ w.cell? ⟨g, 1, none⟩ = some (.int .u64 (p : Int)) := ⟨cell_of_row w g 0 _ _ (0, 0) h, cell_of_row w g 1 _ _ (0, 0) h⟩
theorem end_cells {w : World} {g a b : Nat} (h : w.heap[g]? = some (endo (.int .i64 (a : Int)) (.int .i64 (b : Int)))) : w.cell? ⟨g, 0, none⟩ = some (.int .i64 (a : Int)) ∧ w.cell? ⟨g, 1, none⟩ = some (.int .i64 (b : Int)) := ⟨cell_of_row w g 0 _ _ (0, 0) h, cell_of_row w g 1 _ _ (0, 0) h⟩
theorem XR.seq {w w1 w2 : World} {Xb C Q M P lim tk' : Nat} {L' : LL} {es' : Es} {O O1 : Nat → Prop} (hC : K.Chg w w1 O) (hI : ∀ j, O1 j → O j ∨ w.heap.size ≤ j) (h : XR w1 O1 Xb C Q M P lim tk' L' es' w2) : XR w O Xb C Q M P lim tk' L' es' w2 := by
  obtain ⟨O2, k1, k2, k3⟩ := h
  refine ⟨O2, k1, hC.trans k2 hI, fun j hj => ?_⟩
  rcases k3 j hj with h | h
  · exact hI j h
  · exact .inr (Nat.le_trans hC.size h)
set_option maxHeartbeats 4000000 in
theorem x_grow (w : World) (Xb C Q M P lim tk : Nat) (L1 L2 : LL) (es : Es) (O : Nat → Prop) (h : XT w Xb C Q M P lim tk (L1 ++ L2) es O) (htk : tk < 900000) (hTE : X.TE 0 (L1 ++ L2) (L1 ++ L2) es) (k : Nat) (hr : X.Rises (L1 ++ L2)) (h1 : ∀ x ∈ L1, x.2 < k) (h2 : ∀ x ∈ L2, k < x.2) (hk : k < 18446744073709551616) (hroom : (L1 ++ L2).length < lim) (hes : es.length < 900000) :
    Calls Tryz.prog 133 #[.pointer (some ⟨Xb, 0, none⟩), .int .u64 (k : Int), .int .i64 (lst (-1) L1)] w fun e w' => e = .returned (.tuple #[]) ∧ ∃ (n : Nat) (es' : Es), (∀ x ∈ L1 ++ L2, x.1 ≠ n) ∧ X.TE 65 (L1 ++ L2) (L1 ++ (n, k) :: L2) es' ∧ es'.length = es.length + (65 - X.sc (L1 ++ L2) k) ∧ XR w O Xb C Q M P lim (tk + 66) (L1 ++ (n, k) :: L2) es' w' := by
  have HOM := Lib.hid h.mx.2
  have HP := Lib.hid h.places
  have HN := Lib.hid h.nod
  have HBE := Lib.hid (h.behind hk hroom)
  have c1 := h.c1
  have HR := Lib.hid hr
  have HL1 := Lib.hid h1
  have HL2 := Lib.hid h2
  have HTE := Lib.hid hTE
  have hsc := X.sc_le (L1 ++ L2) k
  obtain ⟨c, hc⟩ : ∃ c, X.sc (L1 ++ L2) k = c := ⟨_, rfl⟩
  have HC := Lib.hid hc
  rw [hc] at hsc ⊢
  obtain ⟨ah, hah⟩ : ∃ ah, lst (-1) L1 = ah := ⟨_, rfl⟩
  obtain ⟨be, hbe⟩ : ∃ be, hd L2 (-1) = be := ⟨_, rfl⟩
  rw [hah] at HBE ⊢
  have HAH := Lib.hid hah
  have HBH := Lib.hid hbe
  clear h hr h1 h2 hTE hc hah hbe hroom
  go_enter Tryz.func133, Tryz.ntmps133
  go_wp2_with (first
    | (go_at_call 149; (with_reducible refine HBE.out.mono ?_); rintro e w1 ⟨n, rfl, hn, hnl, hx1⟩
       obtain ⟨O1, hT1, hC1, hI1⟩ := hx1
       have c1' := hT1.c1
       have hnx := XT.next hT1 (by omega)
       rw [HBH.out] at hnx
       have HNX := Lib.hid hnx
       have HX1 : Hid (XR w O Xb C Q M P lim tk (L1 ++ (n, k) :: L2) es w1) := Lib.hid ⟨O1, hT1, hC1, hI1⟩
       have HT1 := Lib.hid hT1
       have HNN := Lib.hid hn
       clear hT1 hC1 hI1 hnx hn)
    | (go_at_call 150; (with_reducible refine HNX.out.mono ?_); rintro e w2 ⟨rfl, hm2, hc2⟩
       have hx2 : XR w O Xb C Q M P lim (tk + 1) (L1 ++ (n, k) :: L2) es w2 := by
         obtain ⟨O1, hT1, hC1, hI1⟩ := HX1.out
         exact ⟨O1, hT1.met hc2 hm2, hC1.same (hc2.mono (fun j e => by have e2 : j = M := e; subst e2; exact HOM.out)), hI1⟩
       have HX2 := Lib.hid hx2
       clear hx2 hm2 hc2))
  go_loopw [29] (fun vi wr => ∃ (l : Nat) (es' : Es), vi = .int .i64 (l : Int) ∧ l ≤ 65 ∧ Hid (XR w O Xb C Q M P lim (tk + 1 + l) (L1 ++ (n, k) :: L2) es' wr) ∧ Hid (X.TE l (L1 ++ L2) (L1 ++ (n, k) :: L2) es') ∧ Hid (es'.length = es.length + (l - min l c)))
    (fun vi _ => 65 - (intOf vi).toNat)
  case atStart => exact ⟨0, es, rfl, by omega, HX2, Lib.hid (by have := HTE.out; exact ⟨this.nod, fun l p v => by rw [this.mem]; simp⟩), Lib.hid (by simp)⟩
  case round =>
    obtain ⟨l, es', rfl, hl, hX, hTE, hlen⟩ := hrel
    rcases Nat.lt_or_ge l 65 with hl65 | hl65
    · have w1 : IntKind.i64.wrap ((l : Int) + 1) = ((l + 1 : Nat) : Int) := by rw [IntWalk.i64_in _ (by omega)]; rfl
      have g1 : decide ((l : Int) < 65) = true := decide_eq_true (by omega)
      have hpre := fun W => Lib.hid (x_prefix W k l (by omega))
      have hle : es'.length < 1000000 := by have := hlen.out; omega
      obtain ⟨e1, e2, r, es2, hte, ha1, ha2, hTE2, hlen2, hcase⟩ := X.grow_lv (Xb := Xb) (C := C) (Q := Q) (M := M) (P := P) (lim := lim) hTE.out (by omega) HR.out HL1.out HL2.out HN.out HP.out hnl hk hle
      rw [HBH.out, HAH.out] at hcase
      have hl2 : es2.length = es.length + (l + 1 - min (l + 1) c) := by
        rw [hlen2, hlen.out, HC.out]
        split <;> omega
      have HL2' := Lib.hid hl2
      have HTE2 := Lib.hid hTE2
      have hask := fun W O' (hW : XT W Xb C Q M P lim (tk + 1 + l) (L1 ++ (n, k) :: L2) es' O') => Lib.hid (x_ask W Xb C Q M P lim (tk + 1 + l) (L1 ++ (n, k) :: L2) es' O' hW (by omega) l (X.pf l k) e1 e2 r (by omega) hte ha1 ha2)
      clear hTE2 hl2 hlen2 hte hTE hlen hle
      generalize X.pf l k = q at *
      obtain ⟨O', hT, hC, hI⟩ := hX.out
      have HT := Lib.hid hT
      have HTL := Lib.hid hT.lt
      have HC5 := Lib.hid hC
      have HI5 := Lib.hid hI
      clear hT hC hI hX
      rcases hcase with ⟨rfl, hput⟩ | ⟨rfl, he, hput⟩ | ⟨rfl, he1, he2, hput⟩ | ⟨rfl, he1, he2, rfl⟩
      · have hput := Lib.hid hput
        go_wp2_with (first
          | (go_at_call 137; (with_reducible refine (hpre _).out.mono ?_); rintro e w2 ⟨rfl, hb2⟩
             have hr2 := K.alloc_top w2 (keyo l q)
             have hb3 := hb2.alloc hb2.size (keyo l q)
             have h2 := HT.out.chg (K.Chg.of_below (O := fun _ => False) hb3) (fun _ _ h => h)
             obtain ⟨k0, k1⟩ := key_cells hr2
             have HA := Lib.hid ((hask _ _ h2).out)
             have HB2 := Lib.hid hb2
             have HB3 := Lib.hid hb3
             have HR2 := Lib.hid hr2
             clear hb2 hb3 h2 hr2)
          | (go_at_call 132; (with_reducible refine HA.out.mono ?_); rintro e w3 ⟨rfl, O3, hT3, hC3, hI3⟩
             have hs2 := HB2.out.size
             have hn2 : ¬ O' w2.heap.size := fun hj => by have := HTL.out _ hj; omega
             have z := (hC3.block w2.heap.size (by rw [World.size_alloc]; omega) hn2).trans HR2.out
             have z' : (w3.alloc (endo (.int .i64 (e1 : Int)) (.int .i64 (e2 : Int)))).heap[w2.heap.size]? = some (keyo l q) := (Below.heap_alloc _ _ _ (row_lt z)).trans z
             have ze := K.alloc_top w3 (endo (.int .i64 (e1 : Int)) (.int .i64 (e2 : Int)))
             obtain ⟨m0, m1⟩ := key_cells z'
             obtain ⟨n0, n1⟩ := end_cells ze
             have hT4 := hT3.chg (chg_alloc w3 (endo (.int .i64 (e1 : Int)) (.int .i64 (e2 : Int))) (fun _ => False)) (fun _ _ h => h)
             have hC4 := ((HC5.out.same (K.Chg.of_below HB3.out)).trans hC3 HI5.out).same (chg_alloc w3 (endo (.int .i64 (e1 : Int)) (.int .i64 (e2 : Int))) _)
             have hI4 : ∀ j, O3 j → O j ∨ w.heap.size ≤ j := fun j hj => by
               rcases hI3 j hj with h | h
               · exact HI5.out j h
               · have := HC5.out.size
                 rw [World.size_alloc] at h
                 exact .inr (by omega)
             have HX4 : Hid (XR w O Xb C Q M P lim (tk + 1 + l + 1) (L1 ++ (n, k) :: L2) es' (w3.alloc (endo (.int .i64 (e1 : Int)) (.int .i64 (e2 : Int))))) := Lib.hid ⟨O3, hT4, hC4, hI4⟩
             have HC4 := Lib.hid hC4
             have HI4 := Lib.hid hI4
             have HT4 := Lib.hid hT4
             have HPT := Lib.hid (hput.out _ _ _ hT4)
             clear hT3 hC3 hI3 z z' ze hs2 hn2 hT4 hC4 hI4)
          | (go_at_call 151; (with_reducible refine HPT.out.mono ?_); rintro e w5 ⟨rfl, hx5⟩
             have HX5 : Hid (XR w O Xb C Q M P lim (tk + 1 + l + 1) (L1 ++ (n, k) :: L2) es2 w5) := Lib.hid (XR.seq HC4.out HI4.out hx5)
             clear hx5))
        go_roundw
        case rel => exact ⟨l + 1, es2, rfl, by omega, Lib.hid (by have := HX5.out; rw [show tk + 1 + (l + 1) = tk + 1 + l + 1 by omega]; exact this), HTE2, HL2'⟩
        case measure =>
          simp only [intOf]
          omega
      · have g2 : ((e1 : Int) == be) = true := by rw [beq_iff_eq]; exact he
        have hput := Lib.hid hput
        clear he
        go_wp2_with (first
          | (go_at_call 137; (with_reducible refine (hpre _).out.mono ?_); rintro e w2 ⟨rfl, hb2⟩
             have hr2 := K.alloc_top w2 (keyo l q)
             have hb3 := hb2.alloc hb2.size (keyo l q)
             have h2 := HT.out.chg (K.Chg.of_below (O := fun _ => False) hb3) (fun _ _ h => h)
             obtain ⟨k0, k1⟩ := key_cells hr2
             have HA := Lib.hid ((hask _ _ h2).out)
             have HB2 := Lib.hid hb2
             have HB3 := Lib.hid hb3
             have HR2 := Lib.hid hr2
             clear hb2 hb3 h2 hr2)
          | (go_at_call 132; (with_reducible refine HA.out.mono ?_); rintro e w3 ⟨rfl, O3, hT3, hC3, hI3⟩
             have hs2 := HB2.out.size
             have hn2 : ¬ O' w2.heap.size := fun hj => by have := HTL.out _ hj; omega
             have z := (hC3.block w2.heap.size (by rw [World.size_alloc]; omega) hn2).trans HR2.out
             have z' : (w3.alloc (endo (.int .i64 (e1 : Int)) (.int .i64 (e2 : Int)))).heap[w2.heap.size]? = some (keyo l q) := (Below.heap_alloc _ _ _ (row_lt z)).trans z
             have ze := K.alloc_top w3 (endo (.int .i64 (e1 : Int)) (.int .i64 (e2 : Int)))
             obtain ⟨m0, m1⟩ := key_cells z'
             obtain ⟨n0, n1⟩ := end_cells ze
             have hT4 := hT3.chg (chg_alloc w3 (endo (.int .i64 (e1 : Int)) (.int .i64 (e2 : Int))) (fun _ => False)) (fun _ _ h => h)
             have hC4 := ((HC5.out.same (K.Chg.of_below HB3.out)).trans hC3 HI5.out).same (chg_alloc w3 (endo (.int .i64 (e1 : Int)) (.int .i64 (e2 : Int))) _)
             have hI4 : ∀ j, O3 j → O j ∨ w.heap.size ≤ j := fun j hj => by
               rcases hI3 j hj with h | h
               · exact HI5.out j h
               · have := HC5.out.size
                 rw [World.size_alloc] at h
                 exact .inr (by omega)
             have HX4 : Hid (XR w O Xb C Q M P lim (tk + 1 + l + 1) (L1 ++ (n, k) :: L2) es' (w3.alloc (endo (.int .i64 (e1 : Int)) (.int .i64 (e2 : Int))))) := Lib.hid ⟨O3, hT4, hC4, hI4⟩
             have HC4 := Lib.hid hC4
             have HI4 := Lib.hid hI4
             have HT4 := Lib.hid hT4
             have HPT := Lib.hid (hput.out _ _ _ hT4)
             clear hT3 hC3 hI3 z z' ze hs2 hn2 hT4 hC4 hI4)
          | (go_at_call 151; (with_reducible refine HPT.out.mono ?_); rintro e w5 ⟨rfl, hx5⟩
             have HX5 : Hid (XR w O Xb C Q M P lim (tk + 1 + l + 1) (L1 ++ (n, k) :: L2) es2 w5) := Lib.hid (XR.seq HC4.out HI4.out hx5)
             clear hx5))
        go_roundw
        case rel => exact ⟨l + 1, es2, rfl, by omega, Lib.hid (by have := HX5.out; rw [show tk + 1 + (l + 1) = tk + 1 + l + 1 by omega]; exact this), HTE2, HL2'⟩
        case measure =>
          simp only [intOf]
          omega
      · have g2 : ((e1 : Int) == be) = false := by rw [beq_eq_false_iff_ne]; exact he1
        have g3 : ((e2 : Int) == ah) = true := by rw [beq_iff_eq]; exact he2
        have hput := Lib.hid hput
        clear he1 he2
        go_wp2_with (first
          | (go_at_call 137; (with_reducible refine (hpre _).out.mono ?_); rintro e w2 ⟨rfl, hb2⟩
             have hr2 := K.alloc_top w2 (keyo l q)
             have hb3 := hb2.alloc hb2.size (keyo l q)
             have h2 := HT.out.chg (K.Chg.of_below (O := fun _ => False) hb3) (fun _ _ h => h)
             obtain ⟨k0, k1⟩ := key_cells hr2
             have HA := Lib.hid ((hask _ _ h2).out)
             have HB2 := Lib.hid hb2
             have HB3 := Lib.hid hb3
             have HR2 := Lib.hid hr2
             clear hb2 hb3 h2 hr2)
          | (go_at_call 132; (with_reducible refine HA.out.mono ?_); rintro e w3 ⟨rfl, O3, hT3, hC3, hI3⟩
             have hs2 := HB2.out.size
             have hn2 : ¬ O' w2.heap.size := fun hj => by have := HTL.out _ hj; omega
             have z := (hC3.block w2.heap.size (by rw [World.size_alloc]; omega) hn2).trans HR2.out
             have z' : (w3.alloc (endo (.int .i64 (e1 : Int)) (.int .i64 (e2 : Int)))).heap[w2.heap.size]? = some (keyo l q) := (Below.heap_alloc _ _ _ (row_lt z)).trans z
             have ze := K.alloc_top w3 (endo (.int .i64 (e1 : Int)) (.int .i64 (e2 : Int)))
             obtain ⟨m0, m1⟩ := key_cells z'
             obtain ⟨n0, n1⟩ := end_cells ze
             have hT4 := hT3.chg (chg_alloc w3 (endo (.int .i64 (e1 : Int)) (.int .i64 (e2 : Int))) (fun _ => False)) (fun _ _ h => h)
             have hC4 := ((HC5.out.same (K.Chg.of_below HB3.out)).trans hC3 HI5.out).same (chg_alloc w3 (endo (.int .i64 (e1 : Int)) (.int .i64 (e2 : Int))) _)
             have hI4 : ∀ j, O3 j → O j ∨ w.heap.size ≤ j := fun j hj => by
               rcases hI3 j hj with h | h
               · exact HI5.out j h
               · have := HC5.out.size
                 rw [World.size_alloc] at h
                 exact .inr (by omega)
             have HX4 : Hid (XR w O Xb C Q M P lim (tk + 1 + l + 1) (L1 ++ (n, k) :: L2) es' (w3.alloc (endo (.int .i64 (e1 : Int)) (.int .i64 (e2 : Int))))) := Lib.hid ⟨O3, hT4, hC4, hI4⟩
             have HC4 := Lib.hid hC4
             have HI4 := Lib.hid hI4
             have HT4 := Lib.hid hT4
             have HPT := Lib.hid (hput.out _ _ _ hT4)
             clear hT3 hC3 hI3 z z' ze hs2 hn2 hT4 hC4 hI4)
          | (go_at_call 151; (with_reducible refine HPT.out.mono ?_); rintro e w5 ⟨rfl, hx5⟩
             have HX5 : Hid (XR w O Xb C Q M P lim (tk + 1 + l + 1) (L1 ++ (n, k) :: L2) es2 w5) := Lib.hid (XR.seq HC4.out HI4.out hx5)
             clear hx5))
        go_roundw
        case rel => exact ⟨l + 1, es2, rfl, by omega, Lib.hid (by have := HX5.out; rw [show tk + 1 + (l + 1) = tk + 1 + l + 1 by omega]; exact this), HTE2, HL2'⟩
        case measure =>
          simp only [intOf]
          omega
      · have g2 : ((e1 : Int) == be) = false := by rw [beq_eq_false_iff_ne]; exact he1
        have g3 : ((e2 : Int) == ah) = false := by rw [beq_eq_false_iff_ne]; exact he2
        clear he1 he2
        go_wp2_with (first
          | (go_at_call 137; (with_reducible refine (hpre _).out.mono ?_); rintro e w2 ⟨rfl, hb2⟩
             have hr2 := K.alloc_top w2 (keyo l q)
             have hb3 := hb2.alloc hb2.size (keyo l q)
             have h2 := HT.out.chg (K.Chg.of_below (O := fun _ => False) hb3) (fun _ _ h => h)
             obtain ⟨k0, k1⟩ := key_cells hr2
             have HA := Lib.hid ((hask _ _ h2).out)
             have HB2 := Lib.hid hb2
             have HB3 := Lib.hid hb3
             have HR2 := Lib.hid hr2
             clear hb2 hb3 h2 hr2)
          | (go_at_call 132; (with_reducible refine HA.out.mono ?_); rintro e w3 ⟨rfl, O3, hT3, hC3, hI3⟩
             have hs2 := HB2.out.size
             have hn2 : ¬ O' w2.heap.size := fun hj => by have := HTL.out _ hj; omega
             have z := (hC3.block w2.heap.size (by rw [World.size_alloc]; omega) hn2).trans HR2.out
             have z' : (w3.alloc (endo (.int .i64 (e1 : Int)) (.int .i64 (e2 : Int)))).heap[w2.heap.size]? = some (keyo l q) := (Below.heap_alloc _ _ _ (row_lt z)).trans z
             have ze := K.alloc_top w3 (endo (.int .i64 (e1 : Int)) (.int .i64 (e2 : Int)))
             obtain ⟨m0, m1⟩ := key_cells z'
             obtain ⟨n0, n1⟩ := end_cells ze
             have hT4 := hT3.chg (chg_alloc w3 (endo (.int .i64 (e1 : Int)) (.int .i64 (e2 : Int))) (fun _ => False)) (fun _ _ h => h)
             have hC4 := ((HC5.out.same (K.Chg.of_below HB3.out)).trans hC3 HI5.out).same (chg_alloc w3 (endo (.int .i64 (e1 : Int)) (.int .i64 (e2 : Int))) _)
             have hI4 : ∀ j, O3 j → O j ∨ w.heap.size ≤ j := fun j hj => by
               rcases hI3 j hj with h | h
               · exact HI5.out j h
               · have := HC5.out.size
                 rw [World.size_alloc] at h
                 exact .inr (by omega)
             have HX4 : Hid (XR w O Xb C Q M P lim (tk + 1 + l + 1) (L1 ++ (n, k) :: L2) es2 (w3.alloc (endo (.int .i64 (e1 : Int)) (.int .i64 (e2 : Int))))) := Lib.hid ⟨O3, hT4, hC4, hI4⟩
             have HC4 := Lib.hid hC4
             have HI4 := Lib.hid hI4
             have HT4 := Lib.hid hT4
             clear hT3 hC3 hI3 z z' ze hs2 hn2 hT4 hC4 hI4))
        go_roundw
        case rel => exact ⟨l + 1, es2, rfl, by omega, Lib.hid (by have := HX4.out; rw [show tk + 1 + (l + 1) = tk + 1 + l + 1 by omega]; exact this), HTE2, HL2'⟩
        case measure =>
          simp only [intOf]
          omega
    · have hl' : l = 65 := by omega
      subst hl'
      have g1 : decide (((65 : Nat) : Int) < 65) = false := rfl
      go_wp2
      go_end0
      exact ⟨rfl, n, es', HNN.out, hTE.out, by rw [hlen.out]; omega, by have := hX.out; exact this⟩
end Go.Proofs.YtelfacchhclgnaaGreat
