/- A key's prefixes go, level by level; the text walked. -/
import Derived.Laws.StructEq
import Derived.Deep.CutRange
import Derived.Test.YtiinefdpaiincaaMxX9
namespace Go.Proofs.Ytiinefdpaiincaa
open Go.RowKit
set_option maxRecDepth 100000 in
theorem ends_eq (a b c d : Int) (W : World) : (binOp .eql 81 (.agg #[.int .i64 a, .int .i64 b]) (.agg #[.int .i64 c, .int .i64 d])).run Try.prog W = .ok (.bool (a == c && b == d)) W := by
  rw [run_eql_struct, run_equalIn_agg W 9999 _ _ _ (by kernel_rfl) (by kernel_rfl)]
  have h : (Op.eqFields 9999 #[.int .i64 a, .int .i64 b] #[.int .i64 c, .int .i64 d] (Try.prog.fieldsOf 81).toList).run Try.prog W = .ok (a == c && b == d) W := by
    have hf : ∃ x y, (Try.prog.fieldsOf 81).toList = [x, y] ∧ x.type = 3 ∧ y.type = 3 ∧ x.offset = 0 ∧ y.offset = 1 ∧ x.name = "least" ∧ y.name = "greatest" := ⟨_, _, rfl, rfl, rfl, rfl, rfl, rfl, rfl⟩
    obtain ⟨x, y, e1, e2, e3, e4, e5, e6, e7⟩ := hf
    rw [e1]
    have ha : (isAgg 3).run Try.prog W = .ok false W := Try.isAgg3 W
    have hq : ∀ a b, (Op.equalIn 9999 3 (.int .i64 a) (.int .i64 b)).run Try.prog W = .ok (a == b) W := fun a b => run_equalIn_int W 9998 _ .i64 .i64 a b Try.underlying3
    cases hac : (a == c) <;> cases hbd : (b == d) <;> simp [Op.eqFields, e2, e3, e4, e5, e6, e7, part, ha, hq, hac, hbd]
  rw [h]
  simp [Result.andThen]
set_option maxHeartbeats 4000000 in
theorem x_shrink (w : World) (Xb C Q M P lim tk : Nat) (L1 L2 : LL) (es : Es) (O : Nat → Prop) (n k : Nat) (h : XT w Xb C Q M P lim tk (L1 ++ (n, k) :: L2) es O) (htk : tk < 900000) (hTE : X.TE 0 (L1 ++ (n, k) :: L2) (L1 ++ (n, k) :: L2) es) (hr : X.Rises (L1 ++ (n, k) :: L2)) (hk : k < 18446744073709551616) (hes : es.length < 900000) :
    Calls Try.prog 51 #[.pointer (some ⟨Xb, 0, none⟩), .int .u64 (k : Int), .int .i64 (n : Int)] w fun e w' => e = .returned (.tuple #[]) ∧ ∃ es' : Es, X.TE 65 (L1 ++ (n, k) :: L2) (L1 ++ L2) es' ∧ es'.length + (65 - X.sc (L1 ++ L2) k) = es.length ∧ XR w O Xb C Q M P lim (tk + 67) (L1 ++ L2) es' w' := by
  have HOM := Lib.hid h.mx.2
  have HP := Lib.hid h.places
  have HN := Lib.hid h.nod
  have HR := Lib.hid hr
  have HTE := Lib.hid hTE
  have hsc := X.sc_le (L1 ++ L2) k
  obtain ⟨c, hc⟩ : ∃ c, X.sc (L1 ++ L2) k = c := ⟨_, rfl⟩
  have HC := Lib.hid hc
  rw [hc] at hsc ⊢
  obtain ⟨ah, hah⟩ : ∃ ah, lst (-1) L1 = ah := ⟨_, rfl⟩
  obtain ⟨be, hbe⟩ : ∃ be, hd L2 (-1) = be := ⟨_, rfl⟩
  have HAH := Lib.hid hah
  have HBH := Lib.hid hbe
  have h0 : XT w.drew Xb C Q M P lim tk (L1 ++ (n, k) :: L2) es O := h.chg ((chg_refl w (fun _ => False)).drewN 1) (fun _ _ h => h)
  have hx0 : XR w O Xb C Q M P lim tk (L1 ++ (n, k) :: L2) es w.drew := ⟨O, h0, (chg_refl w O).drewN 1, fun j hj => .inl hj⟩
  have HX0 := Lib.hid hx0
  have HS0 := Lib.hid h0.c1
  have hnx : ∀ (W : World) (t : Nat), t < 1000000 → XR w O Xb C Q M P lim t (L1 ++ (n, k) :: L2) es W → Calls Try.prog 67 #[.pointer (some ⟨C, 0, none⟩), .int .i64 (n : Int)] W fun e w' => e = .returned (.int .i64 be) ∧ XR w O Xb C Q M P lim (t + 1) (L1 ++ (n, k) :: L2) es w' := by
    rintro W t ht ⟨O1, hT1, hC1, hI1⟩
    rw [← hbe]
    refine (XT.next hT1 ht).mono ?_
    rintro e w2 ⟨rfl, hm2, hc2⟩
    exact ⟨rfl, O1, hT1.met hc2 hm2, hC1.same (hc2.mono (fun j e => by have e2 : j = M := e; subst e2; exact HOM.out)), hI1⟩
  have hpv : ∀ (W : World) (t : Nat), t < 1000000 → XR w O Xb C Q M P lim t (L1 ++ (n, k) :: L2) es W → Calls Try.prog 70 #[.pointer (some ⟨C, 0, none⟩), .int .i64 (n : Int)] W fun e w' => e = .returned (.int .i64 ah) ∧ XR w O Xb C Q M P lim (t + 1) (L1 ++ (n, k) :: L2) es w' := by
    rintro W t ht ⟨O1, hT1, hC1, hI1⟩
    rw [← hah]
    refine (XT.prev hT1 ht).mono ?_
    rintro e w2 ⟨rfl, hm2, hc2⟩
    exact ⟨rfl, O1, hT1.met hc2 hm2, hC1.same (hc2.mono (fun j e => by have e2 : j = M := e; subst e2; exact HOM.out)), hI1⟩
  have HNX := Lib.hid (hnx w.drew tk (by omega) hx0)
  have HPV := Lib.hid (hpv w.drew tk (by omega) hx0)
  have hnxH := Lib.hid hnx
  have hpvH := Lib.hid hpv
  clear h hr hTE hc hah hbe h0 hx0 hnx hpv
  go_enter Try.func51, Try.ntmps51
  go_wp2
  go_cut [6, 7] from 12 to 23 (fun s6 s7 wc => s6 = .int .i64 ah ∧ s7 = .int .i64 be ∧ Hid (XR w O Xb C Q M P lim (tk + 2) (L1 ++ (n, k) :: L2) es wc))
  case first =>
    go_region_held3 (fun Y => Y.cell? ⟨Xb, 1, none⟩ = some (.pointer (some ⟨C, 0, none⟩))) (first | (with_reducible exact HS0.out) | (with_reducible exact HS1.out) | (with_reducible exact HS2.out) | go_keep) (first
      | (go_at_call 67; (with_reducible refine HNX2.out.mono ?_); rintro e w2 ⟨rfl, hx2⟩
         have HX2 := Lib.hid hx2
         have HS2 : Hid (w2.cell? ⟨Xb, 1, none⟩ = some (.pointer (some ⟨C, 0, none⟩))) := Lib.hid (by obtain ⟨_, hT, _⟩ := hx2; exact hT.c1)
         clear hx2)
      | (go_at_call 70; (with_reducible refine HPV2.out.mono ?_); rintro e w2 ⟨rfl, hx2⟩
         have HX2 := Lib.hid hx2
         have HS2 : Hid (w2.cell? ⟨Xb, 1, none⟩ = some (.pointer (some ⟨C, 0, none⟩))) := Lib.hid (by obtain ⟨_, hT, _⟩ := hx2; exact hT.c1)
         clear hx2)
      | (go_at_call 67; (with_reducible refine HNX.out.mono ?_); rintro e w1 ⟨rfl, hx1⟩
         have HPV2 := Lib.hid (hpvH.out w1 (tk + 1) (by omega) hx1)
         have HS1 : Hid (w1.cell? ⟨Xb, 1, none⟩ = some (.pointer (some ⟨C, 0, none⟩))) := Lib.hid (by obtain ⟨_, hT, _⟩ := hx1; exact hT.c1)
         clear hx1)
      | (go_at_call 70; (with_reducible refine HPV.out.mono ?_); rintro e w1 ⟨rfl, hx1⟩
         have HNX2 := Lib.hid (hnxH.out w1 (tk + 1) (by omega) hx1)
         have HS1 : Hid (w1.cell? ⟨Xb, 1, none⟩ = some (.pointer (some ⟨C, 0, none⟩))) := Lib.hid (by obtain ⟨_, hT, _⟩ := hx1; exact hT.c1)
         clear hx1))
    all_goals
      go_wp2_with (fail)
      go_meet
      exact ⟨rfl, rfl, HX2⟩
  case rest =>
    obtain ⟨rfl, rfl, hX2⟩ := hcut
    obtain ⟨O2, hT2, hC2, hI2⟩ := hX2.out
    have c1 := hT2.c1
    have HDR := Lib.hid (XT.drop hT2)
    have HC2 := Lib.hid hC2
    have HI2 := Lib.hid hI2
    clear hT2 hC2 hI2 HNX HPV hnxH hpvH HS0 HX0
    go_wp2_with (go_at_call 71; (with_reducible refine HDR.out.mono ?_); rintro e w3 ⟨rfl, hx3⟩
                 have HX3 : Hid (XR w O Xb C Q M P lim (tk + 2) (L1 ++ L2) es w3) := Lib.hid (XR.seq HC2.out HI2.out hx3)
                 clear hx3)
    go_loopw [30] (fun vi wr => ∃ (l : Nat) (es' : Es), vi = .int .i64 (l : Int) ∧ l ≤ 65 ∧ Hid (XR w O Xb C Q M P lim (tk + 2 + l) (L1 ++ L2) es' wr) ∧ Hid (X.TE l (L1 ++ (n, k) :: L2) (L1 ++ L2) es') ∧ Hid (es'.length + (l - min l c) = es.length))
      (fun vi _ => 65 - (intOf vi).toNat)
    case atStart => exact ⟨0, es, rfl, by omega, HX3, Lib.hid (by have := HTE.out; exact ⟨this.nod, fun l p v => by rw [this.mem]; simp⟩), Lib.hid (by simp)⟩
    case round =>
      obtain ⟨l, es', rfl, hl, hX, hTE, hlen⟩ := hrel
      rcases Nat.lt_or_ge l 65 with hl65 | hl65
      · have w1 : IntKind.i64.wrap ((l : Int) + 1) = ((l + 1 : Nat) : Int) := by rw [IntWalk.i64_in _ (by omega)]; rfl
        have g1 : decide ((l : Int) < 65) = true := decide_eq_true (by omega)
        have hpre := fun W => Lib.hid (x_prefix W k l (by omega))
        have hle : es'.length < 1000000 := by have := hlen.out; omega
        obtain ⟨e1, e2, es2, hte, ha1, ha2, hTE2, hlen2, hcase⟩ := X.shrink_lv (Xb := Xb) (C := C) (Q := Q) (M := M) (P := P) (lim := lim) hTE.out (by omega) HR.out HN.out HP.out hk hle
        rw [HBH.out, HAH.out] at hcase
        have hl2 : es2.length + (l + 1 - min (l + 1) c) = es.length := by
          have q1 := hlen.out
          rw [HC.out] at hlen2
          split at hlen2 <;> omega
        have HL2' := Lib.hid hl2
        have HTE2 := Lib.hid hTE2
        have hask := fun W O' (hW : XT W Xb C Q M P lim (tk + 2 + l) (L1 ++ L2) es' O') => Lib.hid (x_ask W Xb C Q M P lim (tk + 2 + l) (L1 ++ L2) es' O' hW (by omega) l (X.pf l k) e1 e2 true (by omega) hte ha1 ha2)
        have heq := fun a b c d W => ends_eq a b c d W
        clear hTE2 hl2 hlen2 hte hTE hlen hle
        generalize X.pf l k = q at *
        obtain ⟨O', hT, hC, hI⟩ := hX.out
        have HT := Lib.hid hT
        have HTL := Lib.hid hT.lt
        have HC5 := Lib.hid hC
        have HI5 := Lib.hid hI
        clear hT hC hI hX
        rcases hcase with ⟨he1, he2, hput⟩ | ⟨he1, he2, b, rfl, hput⟩ | ⟨he1, he2, b, rfl, hput⟩ | ⟨he1, he2, rfl⟩
        · have g2 : ((e1 : Int) == (n : Int)) = true := by rw [beq_iff_eq]; omega
          have g3 : ((e2 : Int) == (n : Int)) = true := by rw [beq_iff_eq]; omega
          have heq : ∀ W, (binOp .eql 81 (.agg #[.int .i64 (e1 : Int), .int .i64 (e2 : Int)]) (.agg #[.int .i64 (n : Int), .int .i64 (n : Int)])).run Try.prog W = .ok (.bool true) W := fun W => by rw [ends_eq, g2, g3]; rfl
          clear he1 he2
          have hput := Lib.hid hput
          go_wp2_with (first
            | (go_at_call 50; (with_reducible refine (hpre _).out.mono ?_); rintro e w2 ⟨rfl, hb2⟩
               have hr2 := K.alloc_top w2 (keyo l q)
               have hb3 := hb2.alloc hb2.size (keyo l q)
               have h2 := HT.out.chg (K.Chg.of_below (O := fun _ => False) hb3) (fun _ _ h => h)
               obtain ⟨k0, k1⟩ := key_cells hr2
               have HA := Lib.hid ((hask _ _ h2).out)
               have HB2 := Lib.hid hb2
               have HB3 := Lib.hid hb3
               have HR2 := Lib.hid hr2
               clear hb2 hb3 h2 hr2)
            | (go_at_call 46; (with_reducible refine HA.out.mono ?_); rintro e w3 ⟨rfl, O3, hT3, hC3, hI3⟩
               have hs2 := HB2.out.size
               have hn2 : ¬ O' w2.heap.size := fun hj => by have := HTL.out _ hj; omega
               have z := (hC3.block w2.heap.size (by rw [World.size_alloc]; omega) hn2).trans HR2.out
               have z' : (w3.alloc (endo (.int .i64 (e1 : Int)) (.int .i64 (e2 : Int)))).heap[w2.heap.size]? = some (keyo l q) := (Below.heap_alloc _ _ _ (row_lt z)).trans z
               have ze := K.alloc_top w3 (endo (.int .i64 (e1 : Int)) (.int .i64 (e2 : Int)))
               obtain ⟨m0, m1⟩ := key_cells z'
               obtain ⟨n0, n1⟩ := end_cells ze
               have hT4 := hT3.chg (chg_alloc w3 (endo (.int .i64 (e1 : Int)) (.int .i64 (e2 : Int))) (fun _ => False)) (fun _ _ h => h)
               have hC4 := ((HC5.out.same (K.Chg.of_below HB3.out)).trans hC3 HI5.out).same (chg_alloc w3 (endo (.int .i64 (e1 : Int)) (.int .i64 (e2 : Int))) _)
               have hI4 : ∀ j, O3 j → O j ∨ w.heap.size ≤ j := fun j hj => by
                 rcases hI3 j hj with h | h
                 · exact HI5.out j h
                 · have := HC5.out.size
                   rw [World.size_alloc] at h
                   exact .inr (by omega)
               have HX4 : Hid (XR w O Xb C Q M P lim (tk + 2 + l + 1) (L1 ++ L2) es' (w3.alloc (endo (.int .i64 (e1 : Int)) (.int .i64 (e2 : Int))))) := Lib.hid ⟨O3, hT4, hC4, hI4⟩
               have HC4 := Lib.hid hC4
               have HI4 := Lib.hid hI4
               have HT4 := Lib.hid hT4
               have HZR := Lib.hid z'
               have HN3 : Hid (¬ O3 w2.heap.size) := Lib.hid (fun hj => (hI3 _ hj).elim hn2 (fun h => by rw [World.size_alloc] at h; omega))
               have HSD : Hid (∀ W, W = (w3.alloc (endo (.int .i64 (e1 : Int)) (.int .i64 (e2 : Int)))).drew → XT W Xb C Q M P lim (tk + 2 + l + 1) (L1 ++ L2) es' O3 ∧ W.cell? ⟨Xb, 2, none⟩ = some (.pointer (some ⟨P, 0, none⟩)) ∧ W.cell? ⟨w2.heap.size, 0, none⟩ = some (.int .u8 (l : Int)) ∧ W.cell? ⟨w2.heap.size, 1, none⟩ = some (.int .u64 (q : Int))) := Lib.hid (fun W e => by subst e; have hd : XT _ Xb C Q M P lim (tk + 2 + l + 1) (L1 ++ L2) es' O3 := hT4.chg ((chg_refl _ (fun _ => False)).drewN 1) (fun _ _ h => h); exact ⟨hd, hd.c2, m0, m1⟩)
               clear hT3 hC3 hI3 z z' ze hs2 hn2 hT4 hC4 hI4))
          obtain ⟨hd, hd2, hd3, hd4⟩ := HSD.out _ rfl
          have HDD := Lib.hid (hput.out _ _ _ hd)
          have HS0 := Lib.hid (And.intro hd2 (And.intro hd3 hd4))
          clear hd hd2 hd3 hd4 HSD
          go_region_held3 (fun Y => Y.cell? ⟨Xb, 2, none⟩ = some (.pointer (some ⟨P, 0, none⟩)) ∧ Y.cell? ⟨w2.heap.size, 0, none⟩ = some (.int .u8 (l : Int)) ∧ Y.cell? ⟨w2.heap.size, 1, none⟩ = some (.int .u64 (q : Int))) (first | (with_reducible exact HS0.out) | (with_reducible exact HS1.out) | go_keep)
            ((go_at_call 72; (with_reducible refine HDD.out.mono ?_); rintro e w5 ⟨rfl, hx5⟩
              have HX5 : Hid (XR w O Xb C Q M P lim (tk + 2 + l + 1) (L1 ++ L2) es2 w5) := Lib.hid (XR.seq (HC4.out.drewN 1) HI4.out hx5)
              have HS1 : Hid (w5.cell? ⟨Xb, 2, none⟩ = some (.pointer (some ⟨P, 0, none⟩)) ∧ w5.cell? ⟨w2.heap.size, 0, none⟩ = some (.int .u8 (l : Int)) ∧ w5.cell? ⟨w2.heap.size, 1, none⟩ = some (.int .u64 (q : Int))) := Lib.hid (by
                obtain ⟨O6, hT6, hC6, hI6⟩ := hx5
                have z6 := (hC6.block w2.heap.size (row_lt HZR.out) HN3.out).trans HZR.out
                exact ⟨hT6.c2, key_cells z6⟩)
              clear hx5))
          all_goals
            go_wp2
            go_roundw
            case rel => exact ⟨l + 1, es2, rfl, by omega, Lib.hid (by have := HX5.out; rw [show tk + 2 + (l + 1) = tk + 2 + l + 1 by omega]; exact this), HTE2, HL2'⟩
            case measure =>
              simp only [intOf]
              omega
        · have g2 : ((e1 : Int) == (n : Int)) = true := by rw [beq_iff_eq]; omega
          have g3 : ((e2 : Int) == (n : Int)) = false := by rw [beq_eq_false_iff_ne]; omega
          have heq : ∀ W, (binOp .eql 81 (.agg #[.int .i64 (e1 : Int), .int .i64 (e2 : Int)]) (.agg #[.int .i64 (n : Int), .int .i64 (n : Int)])).run Try.prog W = .ok (.bool false) W := fun W => by rw [ends_eq, g2, g3]; rfl
          clear he1 he2
          have hput := Lib.hid hput
          go_wp2_with (first
            | (go_at_call 50; (with_reducible refine (hpre _).out.mono ?_); rintro e w2 ⟨rfl, hb2⟩
               have hr2 := K.alloc_top w2 (keyo l q)
               have hb3 := hb2.alloc hb2.size (keyo l q)
               have h2 := HT.out.chg (K.Chg.of_below (O := fun _ => False) hb3) (fun _ _ h => h)
               obtain ⟨k0, k1⟩ := key_cells hr2
               have HA := Lib.hid ((hask _ _ h2).out)
               have HB2 := Lib.hid hb2
               have HB3 := Lib.hid hb3
               have HR2 := Lib.hid hr2
               clear hb2 hb3 h2 hr2)
            | (go_at_call 46; (with_reducible refine HA.out.mono ?_); rintro e w3 ⟨rfl, O3, hT3, hC3, hI3⟩
               have hs2 := HB2.out.size
               have hn2 : ¬ O' w2.heap.size := fun hj => by have := HTL.out _ hj; omega
               have z := (hC3.block w2.heap.size (by rw [World.size_alloc]; omega) hn2).trans HR2.out
               have z' : (w3.alloc (endo (.int .i64 (e1 : Int)) (.int .i64 (e2 : Int)))).heap[w2.heap.size]? = some (keyo l q) := (Below.heap_alloc _ _ _ (row_lt z)).trans z
               have ze := K.alloc_top w3 (endo (.int .i64 (e1 : Int)) (.int .i64 (e2 : Int)))
               obtain ⟨m0, m1⟩ := key_cells z'
               obtain ⟨n0, n1⟩ := end_cells ze
               have hT4 := hT3.chg (chg_alloc w3 (endo (.int .i64 (e1 : Int)) (.int .i64 (e2 : Int))) (fun _ => False)) (fun _ _ h => h)
               have hC4 := ((HC5.out.same (K.Chg.of_below HB3.out)).trans hC3 HI5.out).same (chg_alloc w3 (endo (.int .i64 (e1 : Int)) (.int .i64 (e2 : Int))) _)
               have hI4 : ∀ j, O3 j → O j ∨ w.heap.size ≤ j := fun j hj => by
                 rcases hI3 j hj with h | h
                 · exact HI5.out j h
                 · have := HC5.out.size
                   rw [World.size_alloc] at h
                   exact .inr (by omega)
               have HX4 : Hid (XR w O Xb C Q M P lim (tk + 2 + l + 1) (L1 ++ L2) es' (w3.alloc (endo (.int .i64 (e1 : Int)) (.int .i64 (e2 : Int))))) := Lib.hid ⟨O3, hT4, hC4, hI4⟩
               have HC4 := Lib.hid hC4
               have HI4 := Lib.hid hI4
               have HT4 := Lib.hid hT4
               have HPT := Lib.hid (hput.out _ _ _ hT4)
               clear hT3 hC3 hI3 z z' ze hs2 hn2 hT4 hC4 hI4)
            | (go_at_call 68; (with_reducible refine HPT.out.mono ?_); rintro e w5 ⟨rfl, hx5⟩
               have HX5 : Hid (XR w O Xb C Q M P lim (tk + 2 + l + 1) (L1 ++ L2) es2 w5) := Lib.hid (XR.seq HC4.out HI4.out hx5)
               clear hx5))
          go_roundw
          case rel => exact ⟨l + 1, es2, rfl, by omega, Lib.hid (by have := HX5.out; rw [show tk + 2 + (l + 1) = tk + 2 + l + 1 by omega]; exact this), HTE2, HL2'⟩
          case measure =>
            simp only [intOf]
            omega
        · have g2 : ((e1 : Int) == (n : Int)) = false := by rw [beq_eq_false_iff_ne]; omega
          have g3 : ((e2 : Int) == (n : Int)) = true := by rw [beq_iff_eq]; omega
          have heq : ∀ W, (binOp .eql 81 (.agg #[.int .i64 (e1 : Int), .int .i64 (e2 : Int)]) (.agg #[.int .i64 (n : Int), .int .i64 (n : Int)])).run Try.prog W = .ok (.bool false) W := fun W => by rw [ends_eq, g2, g3]; rfl
          clear he1 he2
          have hput := Lib.hid hput
          go_wp2_with (first
            | (go_at_call 50; (with_reducible refine (hpre _).out.mono ?_); rintro e w2 ⟨rfl, hb2⟩
               have hr2 := K.alloc_top w2 (keyo l q)
               have hb3 := hb2.alloc hb2.size (keyo l q)
               have h2 := HT.out.chg (K.Chg.of_below (O := fun _ => False) hb3) (fun _ _ h => h)
               obtain ⟨k0, k1⟩ := key_cells hr2
               have HA := Lib.hid ((hask _ _ h2).out)
               have HB2 := Lib.hid hb2
               have HB3 := Lib.hid hb3
               have HR2 := Lib.hid hr2
               clear hb2 hb3 h2 hr2)
            | (go_at_call 46; (with_reducible refine HA.out.mono ?_); rintro e w3 ⟨rfl, O3, hT3, hC3, hI3⟩
               have hs2 := HB2.out.size
               have hn2 : ¬ O' w2.heap.size := fun hj => by have := HTL.out _ hj; omega
               have z := (hC3.block w2.heap.size (by rw [World.size_alloc]; omega) hn2).trans HR2.out
               have z' : (w3.alloc (endo (.int .i64 (e1 : Int)) (.int .i64 (e2 : Int)))).heap[w2.heap.size]? = some (keyo l q) := (Below.heap_alloc _ _ _ (row_lt z)).trans z
               have ze := K.alloc_top w3 (endo (.int .i64 (e1 : Int)) (.int .i64 (e2 : Int)))
               obtain ⟨m0, m1⟩ := key_cells z'
               obtain ⟨n0, n1⟩ := end_cells ze
               have hT4 := hT3.chg (chg_alloc w3 (endo (.int .i64 (e1 : Int)) (.int .i64 (e2 : Int))) (fun _ => False)) (fun _ _ h => h)
               have hC4 := ((HC5.out.same (K.Chg.of_below HB3.out)).trans hC3 HI5.out).same (chg_alloc w3 (endo (.int .i64 (e1 : Int)) (.int .i64 (e2 : Int))) _)
               have hI4 : ∀ j, O3 j → O j ∨ w.heap.size ≤ j := fun j hj => by
                 rcases hI3 j hj with h | h
                 · exact HI5.out j h
                 · have := HC5.out.size
                   rw [World.size_alloc] at h
                   exact .inr (by omega)
               have HX4 : Hid (XR w O Xb C Q M P lim (tk + 2 + l + 1) (L1 ++ L2) es' (w3.alloc (endo (.int .i64 (e1 : Int)) (.int .i64 (e2 : Int))))) := Lib.hid ⟨O3, hT4, hC4, hI4⟩
               have HC4 := Lib.hid hC4
               have HI4 := Lib.hid hI4
               have HT4 := Lib.hid hT4
               have HPT := Lib.hid (hput.out _ _ _ hT4)
               clear hT3 hC3 hI3 z z' ze hs2 hn2 hT4 hC4 hI4)
            | (go_at_call 68; (with_reducible refine HPT.out.mono ?_); rintro e w5 ⟨rfl, hx5⟩
               have HX5 : Hid (XR w O Xb C Q M P lim (tk + 2 + l + 1) (L1 ++ L2) es2 w5) := Lib.hid (XR.seq HC4.out HI4.out hx5)
               clear hx5))
          go_roundw
          case rel => exact ⟨l + 1, es2, rfl, by omega, Lib.hid (by have := HX5.out; rw [show tk + 2 + (l + 1) = tk + 2 + l + 1 by omega]; exact this), HTE2, HL2'⟩
          case measure =>
            simp only [intOf]
            omega
        · have g2 : ((e1 : Int) == (n : Int)) = false := by rw [beq_eq_false_iff_ne]; omega
          have g3 : ((e2 : Int) == (n : Int)) = false := by rw [beq_eq_false_iff_ne]; omega
          have heq : ∀ W, (binOp .eql 81 (.agg #[.int .i64 (e1 : Int), .int .i64 (e2 : Int)]) (.agg #[.int .i64 (n : Int), .int .i64 (n : Int)])).run Try.prog W = .ok (.bool false) W := fun W => by rw [ends_eq, g2, g3]; rfl
          clear he1 he2
          go_wp2_with (first
            | (go_at_call 50; (with_reducible refine (hpre _).out.mono ?_); rintro e w2 ⟨rfl, hb2⟩
               have hr2 := K.alloc_top w2 (keyo l q)
               have hb3 := hb2.alloc hb2.size (keyo l q)
               have h2 := HT.out.chg (K.Chg.of_below (O := fun _ => False) hb3) (fun _ _ h => h)
               obtain ⟨k0, k1⟩ := key_cells hr2
               have HA := Lib.hid ((hask _ _ h2).out)
               have HB2 := Lib.hid hb2
               have HB3 := Lib.hid hb3
               have HR2 := Lib.hid hr2
               clear hb2 hb3 h2 hr2)
            | (go_at_call 46; (with_reducible refine HA.out.mono ?_); rintro e w3 ⟨rfl, O3, hT3, hC3, hI3⟩
               have hs2 := HB2.out.size
               have hn2 : ¬ O' w2.heap.size := fun hj => by have := HTL.out _ hj; omega
               have z := (hC3.block w2.heap.size (by rw [World.size_alloc]; omega) hn2).trans HR2.out
               have z' : (w3.alloc (endo (.int .i64 (e1 : Int)) (.int .i64 (e2 : Int)))).heap[w2.heap.size]? = some (keyo l q) := (Below.heap_alloc _ _ _ (row_lt z)).trans z
               have ze := K.alloc_top w3 (endo (.int .i64 (e1 : Int)) (.int .i64 (e2 : Int)))
               obtain ⟨m0, m1⟩ := key_cells z'
               obtain ⟨n0, n1⟩ := end_cells ze
               have hT4 := hT3.chg (chg_alloc w3 (endo (.int .i64 (e1 : Int)) (.int .i64 (e2 : Int))) (fun _ => False)) (fun _ _ h => h)
               have hC4 := ((HC5.out.same (K.Chg.of_below HB3.out)).trans hC3 HI5.out).same (chg_alloc w3 (endo (.int .i64 (e1 : Int)) (.int .i64 (e2 : Int))) _)
               have hI4 : ∀ j, O3 j → O j ∨ w.heap.size ≤ j := fun j hj => by
                 rcases hI3 j hj with h | h
                 · exact HI5.out j h
                 · have := HC5.out.size
                   rw [World.size_alloc] at h
                   exact .inr (by omega)
               have HX4 : Hid (XR w O Xb C Q M P lim (tk + 2 + l + 1) (L1 ++ L2) es2 (w3.alloc (endo (.int .i64 (e1 : Int)) (.int .i64 (e2 : Int))))) := Lib.hid ⟨O3, hT4, hC4, hI4⟩
               have HC4 := Lib.hid hC4
               have HI4 := Lib.hid hI4
               have HT4 := Lib.hid hT4
               clear hT3 hC3 hI3 z z' ze hs2 hn2 hT4 hC4 hI4))
          go_roundw
          case rel => exact ⟨l + 1, es2, rfl, by omega, Lib.hid (by have := HX4.out; rw [show tk + 2 + (l + 1) = tk + 2 + l + 1 by omega]; exact this), HTE2, HL2'⟩
          case measure =>
            simp only [intOf]
            omega
      · have hl' : l = 65 := by omega
        subst hl'
        have g1 : decide (((65 : Nat) : Int) < 65) = false := rfl
        go_wp2
        go_end0
        exact ⟨rfl, es', hTE.out, by have := hlen.out; omega, by have := hX.out; exact this⟩
end Go.Proofs.Ytiinefdpaiincaa
