/- A key's prefixes go, level by level; the text walked. Links as a rising list of keys: where a key lies, and what the plain list answers. A law's own function 'do' (layers 11, 12, 14): an act on a set of keys answers what its methods answer; the text walked. -/
import Derived.Laws.StructEq
import Derived.Deep.CutRange
import Derived.Test.YtelfacchhclgnaaGreatMu16
import Derived.Test.YtelfacchhclgnaaGreatMu03
section
namespace Go.Proofs.YtelfacchhclgnaaGreat
set_option maxRecDepth 20000
open Go.RowKit
set_option linter.unusedSectionVars false
variable [Gh]
set_option maxRecDepth 100000 in
theorem ends_eq (a b c d : Int) (W : World) : (binOp .eql 161 (.agg #[.int .i64 a, .int .i64 b]) (.agg #[.int .i64 c, .int .i64 d])).run Tryz.prog W = .ok (.bool (a == c && b == d)) W := by
  rw [run_eql_struct, run_equalIn_agg W 9999 _ _ _ (by kernel_rfl) (by kernel_rfl)]
  have h : (Op.eqFields 9999 #[.int .i64 a, .int .i64 b] #[.int .i64 c, .int .i64 d] (Tryz.prog.fieldsOf 161).toList).run Tryz.prog W = .ok (a == c && b == d) W := by
    have hf : ∃ x y, (Tryz.prog.fieldsOf 161).toList = [x, y] ∧ x.type = 3 ∧ y.type = 3 ∧ x.offset = 0 ∧ y.offset = 1 ∧ x.name = "least" ∧ y.name = "greatest" := ⟨_, _, rfl, rfl, rfl, rfl, rfl, rfl, rfl⟩
    obtain ⟨x, y, e1, e2, e3, e4, e5, e6, e7⟩ := hf
    rw [e1]
    have ha : (isAgg 3).run Tryz.prog W = .ok false W := Tryz.isAgg3 W
    have hq : ∀ a b, (Op.equalIn 9999 3 (.int .i64 a) (.int .i64 b)).run Tryz.prog W = .ok (a == b) W := fun a b => run_equalIn_int W 9998 _ .i64 .i64 a b Tryz.underlying3
    cases hac : (a == c) <;> cases hbd : (b == d) <;> simp [Op.eqFields, e2, e3, e4, e5, e6, e7, part, ha, hq, hac, hbd]
  rw [h]
  simp [Result.andThen]
set_option maxHeartbeats 4000000 in
theorem x_shrink (w : World) (Xb C Q M P lim tk : Nat) (L1 L2 : LL) (es : Es) (O : Nat → Prop) (n k : Nat) (h : XT w Xb C Q M P lim tk (L1 ++ (n, k) :: L2) es O) (htk : tk < 900000) (hTE : X.TE 0 (L1 ++ (n, k) :: L2) (L1 ++ (n, k) :: L2) es) (hr : X.Rises (L1 ++ (n, k) :: L2)) (hk : k < 18446744073709551616) (hes : es.length < 900000) :
    Calls Tryz.prog 138 #[.pointer (some ⟨Xb, 0, none⟩), .int .u64 (k : Int), .int .i64 (n : Int)] w fun e w' => e = .returned (.tuple #[]) ∧ ∃ es' : Es, X.TE 65 (L1 ++ (n, k) :: L2) (L1 ++ L2) es' ∧ es'.length + (65 - X.sc (L1 ++ L2) k) = es.length ∧ XR w O Xb C Q M P lim (tk + 67) (L1 ++ L2) es' w' := by
  have HOM := Lib.hid h.mx.2
  have HP := Lib.hid h.places
  have HN := Lib.hid h.nod
  have HR := Lib.hid hr
  have HTE := Lib.hid hTE
  have hsc := X.sc_le (L1 ++ L2) k
  obtain ⟨c, hc⟩ : ∃ c, X.sc (L1 ++ L2) k = c := ⟨_, rfl⟩
  have HC := Lib.hid hc
  rw [hc] at hsc ⊢
  obtain ⟨ah, hah⟩ : ∃ ah, lst (-1) L1 = ah := ⟨_, rfl⟩
  obtain ⟨be, hbe⟩ : ∃ be, hd L2 (-1) = be := ⟨_, rfl⟩
  have HAH := Lib.hid hah
  have HBH := Lib.hid hbe
  have h0 : XT w.drew Xb C Q M P lim tk (L1 ++ (n, k) :: L2) es O := h.chg ((chg_refl w (fun _ => False)).drewN 1) (fun _ _ h => h)
  have hx0 : XR w O Xb C Q M P lim tk (L1 ++ (n, k) :: L2) es w.drew := ⟨O, h0, (chg_refl w O).drewN 1, fun j hj => .inl hj⟩
  have HX0 := Lib.hid hx0
  have HS0 := Lib.hid h0.c1
  have hnx : ∀ (W : World) (t : Nat), t < 1000000 → XR w O Xb C Q M P lim t (L1 ++ (n, k) :: L2) es W → Calls Tryz.prog 150 #[.pointer (some ⟨C, 0, none⟩), .int .i64 (n : Int)] W fun e w' => e = .returned (.int .i64 be) ∧ XR w O Xb C Q M P lim (t + 1) (L1 ++ (n, k) :: L2) es w' := by
    rintro W t ht ⟨O1, hT1, hC1, hI1⟩
    rw [← hbe]
    refine (XT.next hT1 ht).mono ?_
    rintro e w2 ⟨rfl, hm2, hc2⟩
    exact ⟨rfl, O1, hT1.met hc2 hm2, hC1.same (hc2.mono (fun j e => by have e2 : j = M := e; subst e2; exact HOM.out)), hI1⟩
  have hpv : ∀ (W : World) (t : Nat), t < 1000000 → XR w O Xb C Q M P lim t (L1 ++ (n, k) :: L2) es W → Calls Tryz.prog 144 #[.pointer (some ⟨C, 0, none⟩), .int .i64 (n : Int)] W fun e w' => e = .returned (.int .i64 ah) ∧ XR w O Xb C Q M P lim (t + 1) (L1 ++ (n, k) :: L2) es w' := by
    rintro W t ht ⟨O1, hT1, hC1, hI1⟩
    rw [← hah]
    refine (XT.prev hT1 ht).mono ?_
    rintro e w2 ⟨rfl, hm2, hc2⟩
    exact ⟨rfl, O1, hT1.met hc2 hm2, hC1.same (hc2.mono (fun j e => by have e2 : j = M := e; subst e2; exact HOM.out)), hI1⟩
  have HNX := Lib.hid (hnx w.drew tk (by omega) hx0)
  have HPV := Lib.hid (hpv w.drew tk (by omega) hx0)
  have hnxH := Lib.hid hnx
  have hpvH := Lib.hid hpv
  clear h hr hTE hc hah hbe h0 hx0 hnx hpv
  go_enter Tryz.func138, Tryz.ntmps138
  go_wp2
  go_cut [6, 7] from 12 to 23 (fun s6 s7 wc => s6 = .int .i64 ah ∧ s7 = .int .i64 be ∧ Hid (XR w O Xb C Q M P lim (tk + 2) (L1 ++ (n, k) :: L2) es wc))
  case first =>
    go_region_held3 (fun Y => Y.cell? ⟨Xb, 1, none⟩ = some (.pointer (some ⟨C, 0, none⟩))) (first | (with_reducible exact HS0.out) | (with_reducible exact HS1.out) | (with_reducible exact HS2.out) | go_keep) (first
      | (go_at_call 150; (with_reducible refine HNX2.out.mono ?_); rintro e w2 ⟨rfl, hx2⟩
         have HX2 := Lib.hid hx2
         have HS2 : Hid (w2.cell? ⟨Xb, 1, none⟩ = some (.pointer (some ⟨C, 0, none⟩))) := Lib.hid (by obtain ⟨_, hT, _⟩ := hx2; exact hT.c1)
         clear hx2)
      | (go_at_call 144; (with_reducible refine HPV2.out.mono ?_); rintro e w2 ⟨rfl, hx2⟩
         have HX2 := Lib.hid hx2
         have HS2 : Hid (w2.cell? ⟨Xb, 1, none⟩ = some (.pointer (some ⟨C, 0, none⟩))) := Lib.hid (by obtain ⟨_, hT, _⟩ := hx2; exact hT.c1)
         clear hx2)
      | (go_at_call 150; (with_reducible refine HNX.out.mono ?_); rintro e w1 ⟨rfl, hx1⟩
         have HPV2 := Lib.hid (hpvH.out w1 (tk + 1) (by omega) hx1)
         have HS1 : Hid (w1.cell? ⟨Xb, 1, none⟩ = some (.pointer (some ⟨C, 0, none⟩))) := Lib.hid (by obtain ⟨_, hT, _⟩ := hx1; exact hT.c1)
         clear hx1)
      | (go_at_call 144; (with_reducible refine HPV.out.mono ?_); rintro e w1 ⟨rfl, hx1⟩
         have HNX2 := Lib.hid (hnxH.out w1 (tk + 1) (by omega) hx1)
         have HS1 : Hid (w1.cell? ⟨Xb, 1, none⟩ = some (.pointer (some ⟨C, 0, none⟩))) := Lib.hid (by obtain ⟨_, hT, _⟩ := hx1; exact hT.c1)
         clear hx1))
    all_goals
      go_wp2_with (fail)
      go_meet
      exact ⟨rfl, rfl, HX2⟩
  case rest =>
    obtain ⟨rfl, rfl, hX2⟩ := hcut
    obtain ⟨O2, hT2, hC2, hI2⟩ := hX2.out
    have c1 := hT2.c1
    have HDR := Lib.hid (XT.drop hT2)
    have HC2 := Lib.hid hC2
    have HI2 := Lib.hid hI2
    clear hT2 hC2 hI2 HNX HPV hnxH hpvH HS0 HX0
    go_wp2_with (go_at_call 155; (with_reducible refine HDR.out.mono ?_); rintro e w3 ⟨rfl, hx3⟩
                 have HX3 : Hid (XR w O Xb C Q M P lim (tk + 2) (L1 ++ L2) es w3) := Lib.hid (XR.seq HC2.out HI2.out hx3)
                 clear hx3)
    go_loopw [30] (fun vi wr => ∃ (l : Nat) (es' : Es), vi = .int .i64 (l : Int) ∧ l ≤ 65 ∧ Hid (XR w O Xb C Q M P lim (tk + 2 + l) (L1 ++ L2) es' wr) ∧ Hid (X.TE l (L1 ++ (n, k) :: L2) (L1 ++ L2) es') ∧ Hid (es'.length + (l - min l c) = es.length))
      (fun vi _ => 65 - (intOf vi).toNat)
    case atStart => exact ⟨0, es, rfl, by omega, HX3, Lib.hid (by have := HTE.out; exact ⟨this.nod, fun l p v => by rw [this.mem]; simp⟩), Lib.hid (by simp)⟩
    case round =>
      obtain ⟨l, es', rfl, hl, hX, hTE, hlen⟩ := hrel
      rcases Nat.lt_or_ge l 65 with hl65 | hl65
      · have w1 : IntKind.i64.wrap ((l : Int) + 1) = ((l + 1 : Nat) : Int) := by rw [IntWalk.i64_in _ (by omega)]; rfl
        have g1 : decide ((l : Int) < 65) = true := decide_eq_true (by omega)
        have hpre := fun W => Lib.hid (x_prefix W k l (by omega))
        have hle : es'.length < 1000000 := by have := hlen.out; omega
        obtain ⟨e1, e2, es2, hte, ha1, ha2, hTE2, hlen2, hcase⟩ := X.shrink_lv (Xb := Xb) (C := C) (Q := Q) (M := M) (P := P) (lim := lim) hTE.out (by omega) HR.out HN.out HP.out hk hle
        rw [HBH.out, HAH.out] at hcase
        have hl2 : es2.length + (l + 1 - min (l + 1) c) = es.length := by
          have q1 := hlen.out
          rw [HC.out] at hlen2
          split at hlen2 <;> omega
        have HL2' := Lib.hid hl2
        have HTE2 := Lib.hid hTE2
        have hask := fun W O' (hW : XT W Xb C Q M P lim (tk + 2 + l) (L1 ++ L2) es' O') => Lib.hid (x_ask W Xb C Q M P lim (tk + 2 + l) (L1 ++ L2) es' O' hW (by omega) l (X.pf l k) e1 e2 true (by omega) hte ha1 ha2)
        have heq := fun a b c d W => ends_eq a b c d W
        clear hTE2 hl2 hlen2 hte hTE hlen hle
        generalize X.pf l k = q at *
        obtain ⟨O', hT, hC, hI⟩ := hX.out
        have HT := Lib.hid hT
        have HTL := Lib.hid hT.lt
        have HC5 := Lib.hid hC
        have HI5 := Lib.hid hI
        clear hT hC hI hX
        rcases hcase with ⟨he1, he2, hput⟩ | ⟨he1, he2, b, rfl, hput⟩ | ⟨he1, he2, b, rfl, hput⟩ | ⟨he1, he2, rfl⟩
        · have g2 : ((e1 : Int) == (n : Int)) = true := by rw [beq_iff_eq]; omega
          have g3 : ((e2 : Int) == (n : Int)) = true := by rw [beq_iff_eq]; omega
          have heq : ∀ W, (binOp .eql 161 (.agg #[.int .i64 (e1 : Int), .int .i64 (e2 : Int)]) (.agg #[.int .i64 (n : Int), .int .i64 (n : Int)])).run Tryz.prog W = .ok (.bool true) W := fun W => by rw [ends_eq, g2, g3]; rfl
          clear he1 he2
          have hput := Lib.hid hput
          go_wp2_with (first
            | (go_at_call 137; (with_reducible refine (hpre _).out.mono ?_); rintro e w2 ⟨rfl, hb2⟩
               have hr2 := K.alloc_top w2 (keyo l q)
               have hb3 := hb2.alloc hb2.size (keyo l q)
               have h2 := HT.out.chg (K.Chg.of_below (O := fun _ => False) hb3) (fun _ _ h => h)
               obtain ⟨k0, k1⟩ := key_cells hr2
               have HA := Lib.hid ((hask _ _ h2).out)
               have HB2 := Lib.hid hb2
               have HB3 := Lib.hid hb3
               have HR2 := Lib.hid hr2
               clear hb2 hb3 h2 hr2)
            | (go_at_call 132; (with_reducible refine HA.out.mono ?_); rintro e w3 ⟨rfl, O3, hT3, hC3, hI3⟩
               have hs2 := HB2.out.size
               have hn2 : ¬ O' w2.heap.size := fun hj => by have := HTL.out _ hj; omega
               have z := (hC3.block w2.heap.size (by rw [World.size_alloc]; omega) hn2).trans HR2.out
               have z' : (w3.alloc (endo (.int .i64 (e1 : Int)) (.int .i64 (e2 : Int)))).heap[w2.heap.size]? = some (keyo l q) := (Below.heap_alloc _ _ _ (row_lt z)).trans z
               have ze := K.alloc_top w3 (endo (.int .i64 (e1 : Int)) (.int .i64 (e2 : Int)))
               obtain ⟨m0, m1⟩ := key_cells z'
               obtain ⟨n0, n1⟩ := end_cells ze
               have hT4 := hT3.chg (chg_alloc w3 (endo (.int .i64 (e1 : Int)) (.int .i64 (e2 : Int))) (fun _ => False)) (fun _ _ h => h)
               have hC4 := ((HC5.out.same (K.Chg.of_below HB3.out)).trans hC3 HI5.out).same (chg_alloc w3 (endo (.int .i64 (e1 : Int)) (.int .i64 (e2 : Int))) _)
               have hI4 : ∀ j, O3 j → O j ∨ w.heap.size ≤ j := fun j hj => by
                 rcases hI3 j hj with h | h
                 · exact HI5.out j h
                 · have := HC5.out.size
                   rw [World.size_alloc] at h
                   exact .inr (by omega)
               have HX4 : Hid (XR w O Xb C Q M P lim (tk + 2 + l + 1) (L1 ++ L2) es' (w3.alloc (endo (.int .i64 (e1 : Int)) (.int .i64 (e2 : Int))))) := Lib.hid ⟨O3, hT4, hC4, hI4⟩
               have HC4 := Lib.hid hC4
               have HI4 := Lib.hid hI4
               have HT4 := Lib.hid hT4
               have HZR := Lib.hid z'
               have HN3 : Hid (¬ O3 w2.heap.size) := Lib.hid (fun hj => (hI3 _ hj).elim hn2 (fun h => by rw [World.size_alloc] at h; omega))
               have HSD : Hid (∀ W, W = (w3.alloc (endo (.int .i64 (e1 : Int)) (.int .i64 (e2 : Int)))).drew → XT W Xb C Q M P lim (tk + 2 + l + 1) (L1 ++ L2) es' O3 ∧ W.cell? ⟨Xb, 2, none⟩ = some (.pointer (some ⟨P, 0, none⟩)) ∧ W.cell? ⟨w2.heap.size, 0, none⟩ = some (.int .u8 (l : Int)) ∧ W.cell? ⟨w2.heap.size, 1, none⟩ = some (.int .u64 (q : Int))) := Lib.hid (fun W e => by subst e; have hd : XT _ Xb C Q M P lim (tk + 2 + l + 1) (L1 ++ L2) es' O3 := hT4.chg ((chg_refl _ (fun _ => False)).drewN 1) (fun _ _ h => h); exact ⟨hd, hd.c2, m0, m1⟩)
               clear hT3 hC3 hI3 z z' ze hs2 hn2 hT4 hC4 hI4))
          obtain ⟨hd, hd2, hd3, hd4⟩ := HSD.out _ rfl
          have HDD := Lib.hid (hput.out _ _ _ hd)
          have HS0 := Lib.hid (And.intro hd2 (And.intro hd3 hd4))
          clear hd hd2 hd3 hd4 HSD
          go_region_held3 (fun Y => Y.cell? ⟨Xb, 2, none⟩ = some (.pointer (some ⟨P, 0, none⟩)) ∧ Y.cell? ⟨w2.heap.size, 0, none⟩ = some (.int .u8 (l : Int)) ∧ Y.cell? ⟨w2.heap.size, 1, none⟩ = some (.int .u64 (q : Int))) (first | (with_reducible exact HS0.out) | (with_reducible exact HS1.out) | go_keep)
            ((go_at_call 101; (with_reducible refine HDD.out.mono ?_); rintro e w5 ⟨rfl, hx5⟩
              have HX5 : Hid (XR w O Xb C Q M P lim (tk + 2 + l + 1) (L1 ++ L2) es2 w5) := Lib.hid (XR.seq (HC4.out.drewN 1) HI4.out hx5)
              have HS1 : Hid (w5.cell? ⟨Xb, 2, none⟩ = some (.pointer (some ⟨P, 0, none⟩)) ∧ w5.cell? ⟨w2.heap.size, 0, none⟩ = some (.int .u8 (l : Int)) ∧ w5.cell? ⟨w2.heap.size, 1, none⟩ = some (.int .u64 (q : Int))) := Lib.hid (by
                obtain ⟨O6, hT6, hC6, hI6⟩ := hx5
                have z6 := (hC6.block w2.heap.size (row_lt HZR.out) HN3.out).trans HZR.out
                exact ⟨hT6.c2, key_cells z6⟩)
              clear hx5))
          all_goals
            go_wp2
            go_roundw
            case rel => exact ⟨l + 1, es2, rfl, by omega, Lib.hid (by have := HX5.out; rw [show tk + 2 + (l + 1) = tk + 2 + l + 1 by omega]; exact this), HTE2, HL2'⟩
            case measure =>
              simp only [intOf]
              omega
        · have g2 : ((e1 : Int) == (n : Int)) = true := by rw [beq_iff_eq]; omega
          have g3 : ((e2 : Int) == (n : Int)) = false := by rw [beq_eq_false_iff_ne]; omega
          have heq : ∀ W, (binOp .eql 161 (.agg #[.int .i64 (e1 : Int), .int .i64 (e2 : Int)]) (.agg #[.int .i64 (n : Int), .int .i64 (n : Int)])).run Tryz.prog W = .ok (.bool false) W := fun W => by rw [ends_eq, g2, g3]; rfl
          clear he1 he2
          have hput := Lib.hid hput
          go_wp2_with (first
            | (go_at_call 137; (with_reducible refine (hpre _).out.mono ?_); rintro e w2 ⟨rfl, hb2⟩
               have hr2 := K.alloc_top w2 (keyo l q)
               have hb3 := hb2.alloc hb2.size (keyo l q)
               have h2 := HT.out.chg (K.Chg.of_below (O := fun _ => False) hb3) (fun _ _ h => h)
               obtain ⟨k0, k1⟩ := key_cells hr2
               have HA := Lib.hid ((hask _ _ h2).out)
               have HB2 := Lib.hid hb2
               have HB3 := Lib.hid hb3
               have HR2 := Lib.hid hr2
               clear hb2 hb3 h2 hr2)
            | (go_at_call 132; (with_reducible refine HA.out.mono ?_); rintro e w3 ⟨rfl, O3, hT3, hC3, hI3⟩
               have hs2 := HB2.out.size
               have hn2 : ¬ O' w2.heap.size := fun hj => by have := HTL.out _ hj; omega
               have z := (hC3.block w2.heap.size (by rw [World.size_alloc]; omega) hn2).trans HR2.out
               have z' : (w3.alloc (endo (.int .i64 (e1 : Int)) (.int .i64 (e2 : Int)))).heap[w2.heap.size]? = some (keyo l q) := (Below.heap_alloc _ _ _ (row_lt z)).trans z
               have ze := K.alloc_top w3 (endo (.int .i64 (e1 : Int)) (.int .i64 (e2 : Int)))
               obtain ⟨m0, m1⟩ := key_cells z'
               obtain ⟨n0, n1⟩ := end_cells ze
               have hT4 := hT3.chg (chg_alloc w3 (endo (.int .i64 (e1 : Int)) (.int .i64 (e2 : Int))) (fun _ => False)) (fun _ _ h => h)
               have hC4 := ((HC5.out.same (K.Chg.of_below HB3.out)).trans hC3 HI5.out).same (chg_alloc w3 (endo (.int .i64 (e1 : Int)) (.int .i64 (e2 : Int))) _)
               have hI4 : ∀ j, O3 j → O j ∨ w.heap.size ≤ j := fun j hj => by
                 rcases hI3 j hj with h | h
                 · exact HI5.out j h
                 · have := HC5.out.size
                   rw [World.size_alloc] at h
                   exact .inr (by omega)
               have HX4 : Hid (XR w O Xb C Q M P lim (tk + 2 + l + 1) (L1 ++ L2) es' (w3.alloc (endo (.int .i64 (e1 : Int)) (.int .i64 (e2 : Int))))) := Lib.hid ⟨O3, hT4, hC4, hI4⟩
               have HC4 := Lib.hid hC4
               have HI4 := Lib.hid hI4
               have HT4 := Lib.hid hT4
               have HPT := Lib.hid (hput.out _ _ _ hT4)
               clear hT3 hC3 hI3 z z' ze hs2 hn2 hT4 hC4 hI4)
            | (go_at_call 151; (with_reducible refine HPT.out.mono ?_); rintro e w5 ⟨rfl, hx5⟩
               have HX5 : Hid (XR w O Xb C Q M P lim (tk + 2 + l + 1) (L1 ++ L2) es2 w5) := Lib.hid (XR.seq HC4.out HI4.out hx5)
               clear hx5))
          go_roundw
          case rel => exact ⟨l + 1, es2, rfl, by omega, Lib.hid (by have := HX5.out; rw [show tk + 2 + (l + 1) = tk + 2 + l + 1 by omega]; exact this), HTE2, HL2'⟩
          case measure =>
            simp only [intOf]
            omega
        · have g2 : ((e1 : Int) == (n : Int)) = false := by rw [beq_eq_false_iff_ne]; omega
          have g3 : ((e2 : Int) == (n : Int)) = true := by rw [beq_iff_eq]; omega
          have heq : ∀ W, (binOp .eql 161 (.agg #[.int .i64 (e1 : Int), .int .i64 (e2 : Int)]) (.agg #[.int .i64 (n : Int), .int .i64 (n : Int)])).run Tryz.prog W = .ok (.bool false) W := fun W => by rw [ends_eq, g2, g3]; rfl
          clear he1 he2
          have hput := Lib.hid hput
          go_wp2_with (first
            | (go_at_call 137; (with_reducible refine (hpre _).out.mono ?_); rintro e w2 ⟨rfl, hb2⟩
               have hr2 := K.alloc_top w2 (keyo l q)
               have hb3 := hb2.alloc hb2.size (keyo l q)
               have h2 := HT.out.chg (K.Chg.of_below (O := fun _ => False) hb3) (fun _ _ h => h)
               obtain ⟨k0, k1⟩ := key_cells hr2
               have HA := Lib.hid ((hask _ _ h2).out)
               have HB2 := Lib.hid hb2
               have HB3 := Lib.hid hb3
               have HR2 := Lib.hid hr2
               clear hb2 hb3 h2 hr2)
            | (go_at_call 132; (with_reducible refine HA.out.mono ?_); rintro e w3 ⟨rfl, O3, hT3, hC3, hI3⟩
               have hs2 := HB2.out.size
               have hn2 : ¬ O' w2.heap.size := fun hj => by have := HTL.out _ hj; omega
               have z := (hC3.block w2.heap.size (by rw [World.size_alloc]; omega) hn2).trans HR2.out
               have z' : (w3.alloc (endo (.int .i64 (e1 : Int)) (.int .i64 (e2 : Int)))).heap[w2.heap.size]? = some (keyo l q) := (Below.heap_alloc _ _ _ (row_lt z)).trans z
               have ze := K.alloc_top w3 (endo (.int .i64 (e1 : Int)) (.int .i64 (e2 : Int)))
               obtain ⟨m0, m1⟩ := key_cells z'
               obtain ⟨n0, n1⟩ := end_cells ze
               have hT4 := hT3.chg (chg_alloc w3 (endo (.int .i64 (e1 : Int)) (.int .i64 (e2 : Int))) (fun _ => False)) (fun _ _ h => h)
               have hC4 := ((HC5.out.same (K.Chg.of_below HB3.out)).trans hC3 HI5.out).same (chg_alloc w3 (endo (.int .i64 (e1 : Int)) (.int .i64 (e2 : Int))) _)
               have hI4 : ∀ j, O3 j → O j ∨ w.heap.size ≤ j := fun j hj => by
                 rcases hI3 j hj with h | h
                 · exact HI5.out j h
                 · have := HC5.out.size
                   rw [World.size_alloc] at h
                   exact .inr (by omega)
               have HX4 : Hid (XR w O Xb C Q M P lim (tk + 2 + l + 1) (L1 ++ L2) es' (w3.alloc (endo (.int .i64 (e1 : Int)) (.int .i64 (e2 : Int))))) := Lib.hid ⟨O3, hT4, hC4, hI4⟩
               have HC4 := Lib.hid hC4
               have HI4 := Lib.hid hI4
               have HT4 := Lib.hid hT4
               have HPT := Lib.hid (hput.out _ _ _ hT4)
               clear hT3 hC3 hI3 z z' ze hs2 hn2 hT4 hC4 hI4)
            | (go_at_call 151; (with_reducible refine HPT.out.mono ?_); rintro e w5 ⟨rfl, hx5⟩
               have HX5 : Hid (XR w O Xb C Q M P lim (tk + 2 + l + 1) (L1 ++ L2) es2 w5) := Lib.hid (XR.seq HC4.out HI4.out hx5)
               clear hx5))
          go_roundw
          case rel => exact ⟨l + 1, es2, rfl, by omega, Lib.hid (by have := HX5.out; rw [show tk + 2 + (l + 1) = tk + 2 + l + 1 by omega]; exact this), HTE2, HL2'⟩
          case measure =>
            simp only [intOf]
            omega
        · have g2 : ((e1 : Int) == (n : Int)) = false := by rw [beq_eq_false_iff_ne]; omega
          have g3 : ((e2 : Int) == (n : Int)) = false := by rw [beq_eq_false_iff_ne]; omega
          have heq : ∀ W, (binOp .eql 161 (.agg #[.int .i64 (e1 : Int), .int .i64 (e2 : Int)]) (.agg #[.int .i64 (n : Int), .int .i64 (n : Int)])).run Tryz.prog W = .ok (.bool false) W := fun W => by rw [ends_eq, g2, g3]; rfl
          clear he1 he2
          go_wp2_with (first
            | (go_at_call 137; (with_reducible refine (hpre _).out.mono ?_); rintro e w2 ⟨rfl, hb2⟩
               have hr2 := K.alloc_top w2 (keyo l q)
               have hb3 := hb2.alloc hb2.size (keyo l q)
               have h2 := HT.out.chg (K.Chg.of_below (O := fun _ => False) hb3) (fun _ _ h => h)
               obtain ⟨k0, k1⟩ := key_cells hr2
               have HA := Lib.hid ((hask _ _ h2).out)
               have HB2 := Lib.hid hb2
               have HB3 := Lib.hid hb3
               have HR2 := Lib.hid hr2
               clear hb2 hb3 h2 hr2)
            | (go_at_call 132; (with_reducible refine HA.out.mono ?_); rintro e w3 ⟨rfl, O3, hT3, hC3, hI3⟩
               have hs2 := HB2.out.size
               have hn2 : ¬ O' w2.heap.size := fun hj => by have := HTL.out _ hj; omega
               have z := (hC3.block w2.heap.size (by rw [World.size_alloc]; omega) hn2).trans HR2.out
               have z' : (w3.alloc (endo (.int .i64 (e1 : Int)) (.int .i64 (e2 : Int)))).heap[w2.heap.size]? = some (keyo l q) := (Below.heap_alloc _ _ _ (row_lt z)).trans z
               have ze := K.alloc_top w3 (endo (.int .i64 (e1 : Int)) (.int .i64 (e2 : Int)))
               obtain ⟨m0, m1⟩ := key_cells z'
               obtain ⟨n0, n1⟩ := end_cells ze
               have hT4 := hT3.chg (chg_alloc w3 (endo (.int .i64 (e1 : Int)) (.int .i64 (e2 : Int))) (fun _ => False)) (fun _ _ h => h)
               have hC4 := ((HC5.out.same (K.Chg.of_below HB3.out)).trans hC3 HI5.out).same (chg_alloc w3 (endo (.int .i64 (e1 : Int)) (.int .i64 (e2 : Int))) _)
               have hI4 : ∀ j, O3 j → O j ∨ w.heap.size ≤ j := fun j hj => by
                 rcases hI3 j hj with h | h
                 · exact HI5.out j h
                 · have := HC5.out.size
                   rw [World.size_alloc] at h
                   exact .inr (by omega)
               have HX4 : Hid (XR w O Xb C Q M P lim (tk + 2 + l + 1) (L1 ++ L2) es2 (w3.alloc (endo (.int .i64 (e1 : Int)) (.int .i64 (e2 : Int))))) := Lib.hid ⟨O3, hT4, hC4, hI4⟩
               have HC4 := Lib.hid hC4
               have HI4 := Lib.hid hI4
               have HT4 := Lib.hid hT4
               clear hT3 hC3 hI3 z z' ze hs2 hn2 hT4 hC4 hI4))
          go_roundw
          case rel => exact ⟨l + 1, es2, rfl, by omega, Lib.hid (by have := HX4.out; rw [show tk + 2 + (l + 1) = tk + 2 + l + 1 by omega]; exact this), HTE2, HL2'⟩
          case measure =>
            simp only [intOf]
            omega
      · have hl' : l = 65 := by omega
        subst hl'
        have g1 : decide (((65 : Nat) : Int) < 65) = false := rfl
        go_wp2
        go_end0
        exact ⟨rfl, es', hTE.out, by have := hlen.out; omega, by have := hX.out; exact this⟩
end Go.Proofs.YtelfacchhclgnaaGreat
end
section
namespace Go.Proofs.YtelfacchhclgnaaGreat
set_option maxRecDepth 20000
open Go.RowKit
set_option linter.unusedSectionVars false
variable [Gh]
namespace X
section
variable {L : LL} {xs : List Nat} {k : Nat}
theorem rises_up (hL : L.map (·.2) = xs) (hu : K.Up xs) : Rises L := by
  subst hL
  exact List.pairwise_map.1 hu
theorem take_map (hL : L.map (·.2) = xs) (i : Nat) : (L.take i).map (·.2) = xs.take i := by rw [← hL, List.map_take]
theorem drop_map (hL : L.map (·.2) = xs) (i : Nat) : (L.drop i).map (·.2) = xs.drop i := by rw [← hL, List.map_drop]
theorem len_map (hL : L.map (·.2) = xs) : L.length = xs.length := by rw [← hL, List.length_map]
/-- A key that isn't there parts the links. -/
theorem part_no (hL : L.map (·.2) = xs) (hu : K.Up xs) (hf : K.fo xs k = false) :
    ∃ L1 L2 : LL, L = L1 ++ L2 ∧ (∀ x ∈ L1, x.2 < k) ∧ (∀ x ∈ L2, k < x.2) ∧ L1.length = K.fi xs k ∧ (∀ n, (L1 ++ (n, k) :: L2).map (·.2) = K.add xs k) := by
  refine ⟨L.take (K.fi xs k), L.drop (K.fi xs k), (List.take_append_drop _ _).symm, fun x hx => ?_, fun x hx => ?_, ?_, fun n => ?_⟩
  · exact K.take_lt (xs := xs) k _ (by rw [← take_map hL]; exact List.mem_map_of_mem hx)
  · exact K.drop_ne hu hf _ (by rw [← drop_map hL]; exact List.mem_map_of_mem hx)
  · rw [List.length_take, len_map hL]
    have := K.fi_le xs k
    omega
  · rw [List.map_append, List.map_cons, take_map hL, drop_map hL]
    unfold K.add
    rw [hf]
    rfl
theorem pv_no {L1 L2 : LL} (hL : (L1 ++ L2).map (·.2) = xs) (hf : K.fo xs k = false) (hl : L1.length = K.fi xs k) : (L1 = [] ∧ K.pv xs k = 0 ∧ K.pvb xs k = false) ∨ ∃ n q L, L1 = L ++ [(n, q)] ∧ K.pv xs k = q ∧ K.pvb xs k = true := by
  unfold K.pv K.pvb
  rw [hf]
  rcases List.eq_nil_or_concat L1 with rfl | ⟨L, x, rfl⟩
  · rw [← hl]
    exact .inl ⟨rfl, rfl, rfl⟩
  · rw [List.concat_eq_append] at *
    rw [List.length_append, List.length_singleton] at hl
    have h0 : ¬ K.fi xs k = 0 := by omega
    refine .inr ⟨x.1, x.2, L, rfl, ?_, ?_⟩
    · rw [if_neg (by decide), if_neg h0, ← hl, Nat.add_sub_cancel, ← hL, List.map_append, List.map_append, List.append_assoc, List.getElem?_append_right (by rw [List.length_map]; exact Nat.le_refl _), List.length_map, Nat.sub_self]
      rfl
    · rw [decide_eq_false h0]; rfl
/-- A key that is there. -/
theorem part_yes (hL : L.map (·.2) = xs) (hu : K.Up xs) (hf : K.fo xs k = true) :
    ∃ (n : Nat) (L1 L2 : LL), L = L1 ++ (n, k) :: L2 ∧ (L1 ++ L2).map (·.2) = K.drop xs k ∧ K.add (K.drop xs k) k = xs ∧ K.nx xs k = k ∧ K.nxb xs k = true ∧ K.pv xs k = k ∧ K.pvb xs k = true ∧ k ∉ K.drop xs k := by
  obtain ⟨h1, h2⟩ := K.fo_lt hf
  have hl := len_map hL
  have hi : K.fi xs k < L.length := by omega
  have e : L[K.fi xs k].2 = k := by
    have h3 : (L.map (·.2))[K.fi xs k]'(by rw [List.length_map]; exact hi) = k := by simp only [hL]; exact h2
    rwa [List.getElem_map] at h3
  have hd : L.drop (K.fi xs k) = L[K.fi xs k] :: L.drop (K.fi xs k + 1) := List.drop_eq_getElem_cons hi
  have hnd : k ∉ K.drop xs k := fun h => ((K.drop_mem hu k k).1 h).1 rfl
  refine ⟨L[K.fi xs k].1, L.take (K.fi xs k), L.drop (K.fi xs k + 1), ?_, ?_, ?_, ?_, ?_, ?_, ?_, hnd⟩
  · have e2 : (L[K.fi xs k].1, k) = L[K.fi xs k] := Prod.ext rfl e.symm
    rw [e2, ← hd, List.take_append_drop]
  · rw [List.map_append, take_map hL, drop_map hL]
    unfold K.drop
    rw [if_pos hf]
  · have hu2 := K.add_up (K.drop_up hu k) k
    refine List.Perm.eq_of_pairwise (le := (· < ·)) (fun a b _ _ h1 h2 => by omega) hu2 hu ?_
    refine (List.perm_ext_iff_of_nodup (hu2.imp (fun h => Nat.ne_of_lt h)) (hu.imp (fun h => Nat.ne_of_lt h))).2 fun x => ?_
    rw [K.add_mem (K.drop_up hu k), K.drop_mem hu]
    constructor
    · rintro (rfl | h)
      · exact (K.fo_mem hu _).1 hf
      · exact h.2
    · intro h
      by_cases e : x = k
      · exact .inl e
      · exact .inr ⟨e, h⟩
  · unfold K.nx
    rw [List.getElem?_eq_getElem h1, h2]
    rfl
  · exact decide_eq_true h1
  · unfold K.pv
    rw [if_pos hf]
  · unfold K.pvb
    rw [hf]
    rfl
theorem fo_sc (hL : L.map (·.2) = xs) (hu : K.Up xs) (k : Nat) : K.fo xs k = true ↔ sc L k = 65 := by
  rw [K.fo_mem hu, sc_all, ← hL, List.mem_map]
theorem fo_sg (hL : L.map (·.2) = xs) (hu : K.Up xs) (k : Nat) : decide (sg L 64 (pf 64 k) ≠ []) = K.fo xs k := by
  have h := fo_sc hL hu k
  have hle := sc_le L k
  cases hf : K.fo xs k
  · refine decide_eq_false fun h2 => ?_
    have : ¬ sc L k = 65 := fun e => by rw [h.2 e] at hf; cases hf
    exact h2 (sc_no (by omega) (Nat.le_refl _))
  · exact decide_eq_true (sc_yes (by have := h.1 hf; omega))
/-- The one link with all of a key's bits. -/
theorem sg_whole {L1 L2 : LL} {n : Nat} (hr : Rises (L1 ++ (n, k) :: L2)) : sg (L1 ++ (n, k) :: L2) 64 (pf 64 k) = [(n, k)] := by
  have h0 := (List.pairwise_append.1 hr)
  have e1 : sg L1 64 (pf 64 k) = [] := List.eq_nil_iff_forall_not_mem.2 fun x hx => by
    obtain ⟨a, b⟩ := mem_sg.1 hx
    rw [pf_all, pf_all] at b
    have := h0.2.2 x a (n, k) (by simp)
    omega
  have e2 : sg L2 64 (pf 64 k) = [] := List.eq_nil_iff_forall_not_mem.2 fun x hx => by
    obtain ⟨a, b⟩ := mem_sg.1 hx
    rw [pf_all, pf_all] at b
    have := (List.pairwise_cons.1 h0.2.1).1 x a
    simp only at this
    omega
  rw [sg_with, e1, e2]
  rfl
end
end X
end Go.Proofs.YtelfacchhclgnaaGreat
end
section
namespace Go.Proofs.YtelfacchhclgnaaGreat
set_option maxRecDepth 4000
open Go.RowKit
namespace K
/-- What an insertion answers, and the list then; a limit bears on what is used. -/
def inE (us : List Nat → Nat) (xs : List Nat) (lim k : Nat) : Nat := if fo xs k then 4 else if lim < us (add xs k) then 5 else 0
def inL (us : List Nat → Nat) (xs : List Nat) (lim k : Nat) : List Nat := if fo xs k then xs else if lim < us (add xs k) then xs else add xs k
theorem chg_set (w : World) (p : Addr) (u : Value) : Chg w (w.setCell p u) (fun j => j = p.block) :=
  ⟨rfl, rfl, rfl, by simp [World.setCell], fun g _ hn => Go.heap_setCell_other w p g u hn⟩
theorem Chg.refl (w : World) (O : Nat → Prop) : Chg w w O := ⟨rfl, rfl, rfl, Nat.le_refl _, fun _ _ _ => rfl⟩
end K
/-- What a call of a method leaves. -/
def TOp (T : World → Nat → List Nat → Nat → Nat → (Nat → Prop) → Prop) (w : World) (P : Nat) (O : Nat → Prop) (v : Value) (xs : List Nat) (lim most : Nat) (e : Ending) (w' : World) : Prop :=
  ∃ tk O', e = .returned v ∧ T w' P xs lim tk O' ∧ tk ≤ most ∧ K.Chg w w' O ∧ ∀ j, O' j → O j ∨ w.heap.size ≤ j
/-- What a set of keys by its methods must keep. T w P xs lim tk O: the set at P holds xs, may use lim, took tk steps, and lies in the blocks O. -/
structure TC (us : List Nat → Nat) (sh sn sm : Nat) (T : World → Nat → List Nat → Nat → Nat → (Nat → Prop) → Prop) : Prop where
  frame : ∀ {w w' : World} {P xs lim tk O}, T w P xs lim tk O → K.Chg w w' (fun j => ¬ O j) → T w' P xs lim tk O
  pos : ∀ {w : World} {P xs lim tk O}, T w P xs lim tk O → 0 < w.heap.size
  lt : ∀ {w : World} {P xs lim tk O}, T w P xs lim tk O → ∀ j, O j → j < w.heap.size
  up : ∀ {w : World} {P xs lim tk O}, T w P xs lim tk O → K.Up xs ∧ (∀ x ∈ xs, x < 18446744073709551616) ∧ us xs ≤ lim
  insert : ∀ (w : World) (P : Nat) (xs : List Nat) (lim tk : Nat) (O : Nat → Prop), T w P xs lim tk O → ∀ (k : Nat), k < 18446744073709551616 → Calls Tryz.prog 24 #[.pointer (some ⟨P, 0, none⟩), .int .u64 (k : Int)] w (TOp T w P O (.int .i64 ((K.inE us xs lim k : Nat) : Int)) (K.inL us xs lim k) lim 1073741824)
  delete : ∀ (w : World) (P : Nat) (xs : List Nat) (lim tk : Nat) (O : Nat → Prop), T w P xs lim tk O → ∀ (k : Nat), k < 18446744073709551616 → Calls Tryz.prog 26 #[.pointer (some ⟨P, 0, none⟩), .int .u64 (k : Int)] w (TOp T w P O (.int .i64 (((if K.fo xs k then 0 else 3 : Nat)) : Int)) (K.drop xs k) lim 1073741824)
  has : ∀ (w : World) (P : Nat) (xs : List Nat) (lim tk : Nat) (O : Nat → Prop), T w P xs lim tk O → ∀ (k : Nat), k < 18446744073709551616 → Calls Tryz.prog 27 #[.pointer (some ⟨P, 0, none⟩), .int .u64 (k : Int)] w (TOp T w P O (.bool (K.fo xs k)) (xs) lim sh)
  next : ∀ (w : World) (P : Nat) (xs : List Nat) (lim tk : Nat) (O : Nat → Prop), T w P xs lim tk O → ∀ (k : Nat), k < 18446744073709551616 → Calls Tryz.prog 30 #[.pointer (some ⟨P, 0, none⟩), .int .u64 (k : Int)] w (TOp T w P O (.tuple #[.int .u64 ((K.nx xs k : Nat) : Int), .bool (K.nxb xs k)]) (xs) lim sn)
  prev : ∀ (w : World) (P : Nat) (xs : List Nat) (lim tk : Nat) (O : Nat → Prop), T w P xs lim tk O → ∀ (k : Nat), k < 18446744073709551616 → Calls Tryz.prog 31 #[.pointer (some ⟨P, 0, none⟩), .int .u64 (k : Int)] w (TOp T w P O (.tuple #[.int .u64 ((K.pv xs k : Nat) : Int), .bool (K.pvb xs k)]) (xs) lim sn)
  min : ∀ (w : World) (P : Nat) (xs : List Nat) (lim tk : Nat) (O : Nat → Prop), T w P xs lim tk O → Calls Tryz.prog 28 #[.pointer (some ⟨P, 0, none⟩)] w (TOp T w P O (.tuple #[.int .u64 ((K.nx xs 0 : Nat) : Int), .bool (K.nxb xs 0)]) (xs) lim sm)
  max : ∀ (w : World) (P : Nat) (xs : List Nat) (lim tk : Nat) (O : Nat → Prop), T w P xs lim tk O → Calls Tryz.prog 29 #[.pointer (some ⟨P, 0, none⟩)] w (TOp T w P O (.tuple #[.int .u64 ((K.pv xs 18446744073709551615 : Nat) : Int), .bool (K.pvb xs 18446744073709551615)]) (xs) lim sm)
  clear : ∀ (w : World) (P : Nat) (xs : List Nat) (lim tk : Nat) (O : Nat → Prop), T w P xs lim tk O → Calls Tryz.prog 32 #[.pointer (some ⟨P, 0, none⟩)] w (TOp T w P O (.tuple #[]) ([]) lim 1073741824)
abbrev kw3 (w : World) (d k : Nat) : World := ((w.alloc (kacto d k)).alloc kanso).alloc kanso
theorem kw3_size (w : World) (d k : Nat) : (kw3 w d k).heap.size = w.heap.size + 3 := by simp [kw3]
/-- What is there behind the method's call. -/
structure KF (w w4 : World) (d k : Nat) : Prop where
  a0 : w4.heap[w.heap.size + 1]? = some kanso
  x0 : w4.heap[w.heap.size + 2]? = some kanso
theorem KF.of {w w4 : World} {d k : Nat} {O : Nat → Prop} (hC : K.Chg (kw3 w d k) w4 O) (hlt : ∀ j, O j → j < w.heap.size) : KF w w4 d k := by
  have hs := kw3_size w d k
  refine ⟨(hC.block _ (by omega) (fun h => by have := hlt _ h; omega)).trans ?_, (hC.block _ (by omega) (fun h => by have := hlt _ h; omega)).trans ?_⟩
  · rw [Below.heap_alloc _ _ _ (by simp)]
    have := K.alloc_top (w.alloc (kacto d k)) kanso
    simpa using this
  · have := K.alloc_top ((w.alloc (kacto d k)).alloc kanso) kanso
    simpa using this
section
variable {us : List Nat → Nat} {sh sn sm : Nat} {T : World → Nat → List Nat → Nat → Nat → (Nat → Prop) → Prop}
end
end Go.Proofs.YtelfacchhclgnaaGreat
end
