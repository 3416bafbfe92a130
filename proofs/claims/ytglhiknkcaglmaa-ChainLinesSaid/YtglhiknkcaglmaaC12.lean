
/- ChainLines, walked. -/
import Derived.Test.YtglhiknkcaglmaaC10
import Derived.Test.YtglhiknkcaglmaaC11
namespace Go.Proofs.Ytglhiknkcaglmaa
open Go.RowKit Go.Shelf
attribute [local go_sem] Oper.semAt_some
theorem results_lines (tmps : Array Value) (w : World) (g : Nat) (b : Bool) (hp : tmps.getD 8 undef = .pointer (some ⟨g, 0, none⟩)) (hc : w.cell? ⟨g, 0, none⟩ = some (.bool b)) :
    (results Try.f3 tmps).run Try.prog w = .ok (.bool b) w := by
  have hres : Try.f3.results = #[.cell 8 4] := by kernel_rfl
  have hp' : tmps[8]?.getD undef = .pointer (some ⟨g, 0, none⟩) := by simpa using hp
  simp only [results, hres]
  simp [hp', asAddr]
  go_simp
theorem c_all_any (w : World) (p : Option Addr) : Calls Try.prog 9 #[.pointer p] w fun e w' => e = .returned (.func (.func 21) #[] #[.pointer (some ⟨w.heap.size, 0, none⟩)]) ∧ w' = w.alloc (.cells #[.pointer p] 26) := by
  go_enter Try.func9, Try.ntmps9
  go_wp2
  go_ret
  exact ⟨rfl, rfl⟩
set_option maxRecDepth 100000 in
set_option maxHeartbeats 4000000 in
theorem law_lines (q : Nat) (hq : q < 256) (A : Option Addr) (c : Nat) (xs : List Nat) (i : Int) (kk : Nat) (w : World) (hr : Rw w w.heap.size A xs) (hl : xs.length ≤ 9223372036854775807) (hx : ∀ x ∈ xs, x < 18446744073709551616) :
    Calls Try.prog 3 #[.int .u8 (q : Int), .slice A xs.length c, .int .i64 i, .int .u64 (kk : Int)] w fun e w' => e = .returned (.bool true) ∧ Below w.heap.size w w' := by
  have e1 : (q : Int) % 64 = ((q % 64 : Nat) : Int) := by omega
  have e2 : (q : Int).tmod 64 = ((q % 64 : Nat) : Int) := by rw [Int.tmod_eq_emod_of_nonneg (by omega)]; omega
  have hm : q % 64 < 64 := Nat.mod_lt _ (by decide)
  generalize q % 64 = k at *
  have x1 : IntKind.u8.wrap (k : Int) = (k : Int) := by simp [IntKind.wrap, IntKind.signed, IntKind.bits]; omega
  have x2 : IntKind.i64.wrap (k : Int) = (k : Int) := IntWalk.i64_in _ (by omega)
  obtain ⟨W0, hW0⟩ : ∃ W0, (w.alloc (.cells #[.slice A xs.length c] 22)).alloc (.cells #[.bool false] 4) = W0 := ⟨_, rfl⟩
  have hb0 : Below w.heap.size w W0 := by rw [← hW0]; exact ((Below.refl _ w).alloc (Nat.le_refl _) _).alloc (by simp) _
  have hz0 : W0.heap.size = w.heap.size + 2 := by rw [← hW0]; simp
  have r5 : W0.heap[w.heap.size]? = some (.cells #[.slice A xs.length c] 22 (0, 0)) := by rw [← hW0]; exact (Below.heap_alloc _ _ _ (by simp)).trans (K.alloc_top _ _)
  have r8 : W0.heap[w.heap.size + 1]? = some (.cells #[.bool false] 4 (0, 0)) := by
    rw [← hW0]
    have := K.alloc_top (w.alloc (.cells #[.slice A xs.length c] 22)) (.cells #[.bool false] 4)
    rw [World.size_alloc] at this
    exact this
  have hA := Lib.hid (awake_any W0)
  have HR := Lib.hid (hr.below hb0 (Nat.le_refl _))
  have HX := Lib.hid hx
  have HLL := Lib.hid hl
  have HB0 := Lib.hid hb0
  have R5 := Lib.hid r5
  have R8 := Lib.hid r8
  have HZ0 := Lib.hid hz0
  clear hr hx hl hb0 r5 r8 hq hz0
  refine (callsIn_wide (n := 9)).1 ?_
  refine callsIn_of_wp_marks Try.func3 rfl trivial ?_ rfl
  simp only [Try.ntmps3, List.size_toArray, List.length_cons, List.length_nil, Nat.reduceAdd, Nat.reduceSub, Array.replicate_succ, Array.replicate_zero, List.push_toArray, List.append_toArray, List.nil_append, List.cons_append]
  refine wpIn_wide.2 ?_
  go_wp2_with (first
    | (go_at_call 5; (with_reducible refine hA.out.mono ?_); rintro e w1 ⟨rfl, hb1⟩
       have hz1 := hb1.size
       have r5 := (hb1.block w.heap.size (by rw [HZ0.out]; omega)).trans R5.out
       have r8 := (hb1.block (w.heap.size + 1) (by rw [HZ0.out]; omega)).trans R8.out
       have k5 : w1.cell? ⟨w.heap.size, 0, none⟩ = some (.slice A xs.length c) := cell_of_row w1 _ 0 _ _ (0, 0) r5
       have HB1 := Lib.hid hb1
       have R51 := Lib.hid r5
       have R81 := Lib.hid r8
       have HZ1 := Lib.hid hz1
       clear hb1 r5 r8 hz1 hW0)
    | (go_at_call 6; (with_reducible refine (words_lit A c xs 60 60 rfl w1 ((HR.out.below HB1.out (by rw [HZ0.out]; omega)).more (by have := HZ1.out; rw [HZ0.out] at this; omega)) HLL.out (by decide)).mono ?_); rintro e w2 ⟨A2, c2, rfl, _, hrw, hb2, hfr⟩
       obtain ⟨n, hn⟩ : ∃ n, (xs.take 60).length = n := ⟨_, rfl⟩
       rw [hn]
       have hnle : n ≤ 60 := (by rw [← hn]; exact List.length_take_le _ _)
       have hz2 := hb2.size
       have hz1 := HZ1.out
       rw [HZ0.out] at hz1
       have r5 := (hb2.block w.heap.size (by omega)).trans R51.out
       have r8 := (hb2.block (w.heap.size + 1) (by omega)).trans R81.out
       have k5 : w2.cell? ⟨w.heap.size, 0, none⟩ = some (.slice A xs.length c) := cell_of_row w2 _ 0 _ _ (0, 0) r5
       have f5 := frozen_of_row w2 _ 0 _ _ r5
       have hset := chg_set w2 w.heap.size 0 (.slice A2 n c2) (· = w.heap.size) rfl
       have hrw2 : Rw (w2.setCell ⟨w.heap.size, 0, none⟩ (.slice A2 n c2)) w2.heap.size A2 (xs.take 60) := fun hne => by
         obtain ⟨b, off, hA2, hlt, hc⟩ := hrw hne
         have := hfr _ hA2
         exact ⟨b, off, hA2, hlt, fun j hj => (hset.cell hlt (fun e => by have e2 : b = w.heap.size := e; have e3 : w1.heap.size ≤ b := this; omega) _).trans (hc j hj)⟩
       have r52 := row_set r5 0 (.slice A2 n c2)
       have r82 := (hset.block (w.heap.size + 1) (by omega) (fun e => by have e2 : w.heap.size + 1 = w.heap.size := e; omega)).trans r8
       have HRW := Lib.hid hrw2
       have HN := Lib.hid hn
       have HB2 := Lib.hid hb2
       have HST := Lib.hid hset
       have R52 : Hid ((w2.setCell ⟨w.heap.size, 0, none⟩ (.slice A2 n c2)).heap[w.heap.size]? = some (.cells #[.slice A2 n c2] 22 (0, 0))) := Lib.hid (by simpa using r52)
       have R82 := Lib.hid r82
       have HZ2 := Lib.hid hz2
       have HZ1' := Lib.hid hz1
       have HNW := Lib.hid (c_new (w2.setCell ⟨w.heap.size, 0, none⟩ (.slice A2 n c2)) k (by omega))
       clear hrw hn hb2 r5 r8 hz2 hz1 hset hrw2 r52 r82 hfr)
    | (go_at_call 7; (with_reducible refine HNW.out.mono ?_); rintro e w3 ⟨C, Q, M, rfl, hw, hM, hC, hQ, hMl, hb⟩
       have hs2 : (w2.setCell ⟨w.heap.size, 0, none⟩ (.slice A2 n c2)).heap.size = w2.heap.size := size_set _ _ _
       rw [hs2] at hC hQ hMl hb
       have hz2 := HZ2.out
       have hz1 := HZ1'.out
       have hCL : CL w2.heap.size (w2.setCell ⟨w.heap.size, 0, none⟩ (.slice A2 n c2)) w3 C Q M k [] := ⟨none, 0, none, 0, [], [], hw, hb, by rw [hs2]; exact Nat.le_refl _, fun j hj => by
         rcases hj with rfl | (rfl | h | h)
         · exact hC
         · exact hQ
         · cases h
         · cases h⟩
       have r5 := (hb.block w.heap.size (by omega)).trans R52.out
       have k5 : w3.drew.cell? ⟨w.heap.size, 0, none⟩ = some (.slice A2 n c2) := cell_of_row w3 _ 0 _ _ (0, 0) r5
       have HS3 := Lib.hid k5
       have HM3 := Lib.hid hM
       have HLN := Lib.hid (c_line w2.heap.size _ w3.drew C Q M k 0 (hCL.stay ((chg_refl w3 _).drewN 1)) (hM.chg ((chg_refl w3 (fun _ => False)).drewN 1) (fun h => h)) A2 n c2 (xs.take 60) HN.out (by omega) (fun k hk => HX.out k (List.mem_of_mem_take hk)) HRW.out)
       have HMB := Lib.hid hMl
       obtain ⟨mm, hmm⟩ : ∃ mm, min k n = mm := ⟨_, rfl⟩
       rw [hmm] at HLN
       have hmin : min (k : Int) (n : Int) = (mm : Int) := (by omega)
       have HMM := Lib.hid hmm
       clear hw hM hC hQ hMl hb hCL r5 k5 hs2 hz2 hz1 hmm))
  go_region_held3 (fun X => X.cell? ⟨w.heap.size, 0, none⟩ = some (.slice A2 n c2)) (first | (with_reducible exact HS3.out) | (with_reducible exact HS4.out) | go_keep)
    ((go_at_call 8; (with_reducible refine HLN.out.mono ?_); rintro e w4 ⟨rfl, L, hcl, hmap, hm4⟩
      have hz2 := HZ2.out
      have hz1 := HZ1'.out
      have hcb := hcl.below
      have r5 := (hcb.block w.heap.size (by omega)).trans R52.out
      have r8 := (hcb.block (w.heap.size + 1) (by omega)).trans R82.out
      have HS4 : Hid (w4.cell? ⟨w.heap.size, 0, none⟩ = some (.slice A2 n c2)) := Lib.hid (cell_of_row w4 _ 0 _ _ (0, 0) r5)
      have HCL4 := Lib.hid hcl
      have HMAP := Lib.hid hmap
      have R54 := Lib.hid r5
      have R84 := Lib.hid r8
      clear hcl hmap hm4 hcb r5 r8 hz2 hz1))
  all_goals
    go_wp2_with (go_at_call 9; (with_reducible refine (c_all_any _ (some ⟨C, 0, none⟩)).mono ?_); rintro e w5 ⟨rfl, rfl⟩)
    obtain ⟨An, cn, Af, cf, ns, fs, hw, hbc, hBc, hmc⟩ := HCL4.out
    have hz1 := HZ1'.out
    have hz2 := HZ2.out
    have hlw : w2.heap.size ≤ w4.heap.size := HCL4.out.lt
    obtain ⟨W6, hW6⟩ : ∃ W6, (w4.alloc (.cells #[.int .i64 0] 3)).alloc (.cells #[.pointer (some ⟨C, 0, none⟩)] 26) = W6 := ⟨_, rfl⟩
    have hb6 : Below w4.heap.size w4 W6 := by rw [← hW6]; exact ((Below.refl _ w4).alloc (Nat.le_refl _) _).alloc (by simp) _
    have hz6 : W6.heap.size = w4.heap.size + 2 := by rw [← hW6]; simp
    have q12 : W6.heap[w4.heap.size]? = some (.cells #[.int .i64 0] 3 (0, 0)) := by rw [← hW6]; exact (Below.heap_alloc _ _ _ (by simp)).trans (K.alloc_top _ _)
    have q13 : W6.heap[w4.heap.size + 1]? = some (.cells #[.pointer (some ⟨C, 0, none⟩)] 26 (0, 0)) := by
      rw [← hW6]
      have := K.alloc_top (w4.alloc (.cells #[.int .i64 0] 3)) (.cells #[.pointer (some ⟨C, 0, none⟩)] 26)
      rw [World.size_alloc] at this
      exact this
    have hw6 := hw.chg (K.Chg.of_below (O := fun _ => False) hb6) (fun _ _ h => h)
    have hmm2 : min k n = mm := HMM.out
    have hLn : L.length = mm := by
      have := congrArg List.length HMAP.out
      rw [List.length_map, List.length_take, HN.out] at this
      omega
    have hmk : mm ≤ k ∧ mm ≤ n := by omega
    clear hmm2
    have hseq := chain_all 8 (by decide) (w4.heap.size + 1) C Q M k cn cf An Af ns fs L (fun j => j < w4.heap.size ∨ j = w4.heap.size + 1) (.inr rfl) (fun j hj => .inl (hw.lt hj)) W6 hw6 (cell_of_row W6 _ 0 _ _ (0, 0) q13) (by omega)
    have HQ12 := Lib.hid q12
    have HB6 := Lib.hid hb6
    rw [hW6]
    clear hw hbc hBc hmc hW6 q12 q13 hw6 hb6
    refine wpIn_wide.1 (wpIn_rangeW (n := 9) rfl (by decide) (gf := 21) (lb := #[.pointer (some ⟨w4.heap.size + 1, 0, none⟩)]) rfl trivial (enters_of Try.func21 (by kernel_rfl) rfl)
      hseq (fun j hj => by rcases hj with h | h <;> omega) (Below.refl _ _) (fun _ => rfl)
      (fun pre O W => O = (· = w4.heap.size) ∧ W.heap[w4.heap.size]? = some (.cells #[.int .i64 (pre.length : Int)] 3 (0, 0)) ∧ Below w4.heap.size w4 W)
      (fun _ _ _ _ => False)
      (fun s a1 O W => a1 = { tmps := #[.int .u8 (q : Int), .slice A xs.length c, .int .i64 i, .int .u64 (kk : Int), undef, .pointer (some ⟨w.heap.size, 0, none⟩), undef, undef, .pointer (some ⟨w.heap.size + 1, 0, none⟩), .int .i64 (k : Int), .pointer (some ⟨C, 0, none⟩), .int .i64 0, .pointer (some ⟨w4.heap.size, 0, none⟩), undef, .int .u64 (s.2.2 : Int), undef, undef, undef, undef, undef, undef, undef, .bool true, .bool false, .slice A xs.length c, .slice A2 n c2, .int .u8 (q : Int), .int .u8 (k : Int), .int .i64 (k : Int), .tuple #[.pointer (some ⟨C, 0, none⟩), .int .i64 0], .int .i64 (k : Int), .tuple #[.pointer (some ⟨C, 0, none⟩), .int .i64 0], .pointer (some ⟨C, 0, none⟩), .int .i64 0, .int .i64 0, .bool false, .bool false, .pointer (some ⟨C, 0, none⟩), .slice A2 n c2, .int .i64 (mm : Int), .int .i64 (k : Int), .slice A2 n c2, .int .i64 (n : Int), .int .i64 (mm : Int), .bool false, .bool false, .pointer (some ⟨C, 0, none⟩), .func (.func 21) #[] #[.pointer (some ⟨w4.heap.size + 1, 0, none⟩)], .int .i64 (s.2.1 : Int), .int .u64 (s.2.2 : Int), undef, undef, undef, undef, undef, undef, undef, undef, undef, undef, undef, undef, undef, undef, undef, undef, undef, undef, undef, undef, undef, undef, undef, undef, undef, undef, undef, undef, undef, undef, undef, undef, undef, undef, undef, undef, undef, undef, undef, undef, undef, undef, undef, undef, undef, undef, undef, undef, undef, undef, undef, undef, undef, undef, undef, undef, undef, undef, undef, undef, undef, undef, undef, undef, undef, undef, undef, undef, undef, undef, undef, undef, undef, undef, undef, undef, undef, undef, undef, undef, undef, undef, undef, undef, undef, undef, undef, undef, undef, undef, undef, undef, undef, undef], defers := [] } ∧ O = (· = w4.heap.size) ∧ W.heap[w4.heap.size]? = some (.cells #[.int .i64 (s.1.length : Int)] 3 (0, 0)) ∧ Below w4.heap.size w4 W ∧ s.1 ++ [s.2] <+: L)
      ?hI ?hIx ?hA ?hlow (· = w4.heap.size) (fun j hj => by have e2 : j = w4.heap.size := hj; omega) ⟨rfl, HQ12.out, HB6.out⟩ ?assign ?body ?done ?stop)
    case hI =>
      rintro pre O W W' R ⟨rfl, h2, h3⟩ hw hR
      exact ⟨rfl, (hw.block _ (row_lt h2) (fun hj => (hR _ hj).1 rfl)).trans h2, h3.trans (hw.below h3.size (fun j hj => by have := (hR j hj).2; omega))⟩
    case hIx =>
      rintro c pre O W W' R h hw hR
      exact h.elim
    case hA =>
      rintro a' s O W W' R ⟨e1, rfl, h2, h3, h4⟩ hw hR
      exact ⟨e1, rfl, (hw.block _ (row_lt h2) (fun hj => (hR _ hj).1 rfl)).trans h2, h3.trans (hw.below h3.size (fun j hj => by have := (hR j hj).2; omega)), h4⟩
    case hlow =>
      rintro pre O W ⟨rfl, _⟩ j hj hz
      have e2 : j = w4.heap.size := hj
      rcases hz with h | h <;> omega
    case assign =>
      rintro l pre x O W ⟨rfl, h2, h3⟩ hT
      gi_wp2
      exact ⟨_, ⟨ButS.refl _ _, fun j hj => ⟨.inl hj, by have e2 : j = w4.heap.size := hj; rw [e2]; exact row_lt h2⟩⟩, by first | trivial | rfl, rfl, h2, h3, hT⟩
    case body =>
      rintro l pre ⟨x, y⟩ O a1 W ⟨rfl, rfl, h2, h3, hT⟩
      have h2 : W.heap[w4.heap.size]? = some (.cells #[.int .i64 (pre.length : Int)] 3 (0, 0)) := h2
      have hT : pre ++ [(x, y)] <+: L := hT
      have hml : pre.length < L.length := by have := hT.length_le; simp at this; omega
      have hyL : (L[pre.length]'hml) = (x, y) := by
        obtain ⟨r, hr⟩ := hT
        have h5 : L[pre.length]? = some (x, y) := by rw [← hr]; simp
        rw [List.getElem?_eq_getElem hml] at h5
        exact Option.some.inj h5
      have hmn : pre.length < n := by omega
      have hkk : pre.length < (xs.take 60).length := by rw [HN.out]; exact hmn
      have hval : (xs.take 60)[pre.length] = y := by
        have h5 : (L.map (·.2))[pre.length]? = some y := by rw [List.getElem?_map, List.getElem?_eq_getElem hml, hyL]; rfl
        rw [HMAP.out, List.getElem?_take, if_pos (by omega), List.getElem?_eq_getElem hkk] at h5
        exact Option.some.inj h5
      have hrd := (HRW.out.below HCL4.out.below (Nat.le_refl _)).below h3 hlw
      obtain ⟨bb, off, hA2, hbB, hcell⟩ := hrd.at hkk
      rw [hval] at hcell
      have k5 : W.cell? ⟨w.heap.size, 0, none⟩ = some (.slice A2 n c2) := (h3.cell (p := ⟨w.heap.size, 0, none⟩) (by show w.heap.size < _; omega)).trans (cell_of_row w4 _ 0 _ _ (0, 0) R54.out)
      have k12 : W.cell? ⟨w4.heap.size, 0, none⟩ = some (.int .i64 (pre.length : Int)) := cell_of_row W _ 0 _ _ (0, 0) h2
      have f12 := frozen_of_row W _ 0 _ _ h2
      have H2 := Lib.hid h2
      have H3 := Lib.hid h3
      have hpl : (pre ++ [(x, y)]).length = pre.length + 1 := by simp
      have HPL := Lib.hid hpl
      subst hA2
      generalize pre.length = m at *
      have g1 : decide ((n : Int) ≤ (m : Int)) = false := decide_eq_false (by omega)
      have g2 : decide (n ≤ m) = false := decide_eq_false (by omega)
      have g3 : (m : Int) < (n : Int) := by omega
      have g4 : IntKind.i64.wrap ((m : Int) + 1) = ((m + 1 : Nat) : Int) := by rw [IntWalk.i64_in _ (by omega)]; omega
      clear hval hyL hml hkk hT h2 h3 hrd hpl
      gi_wp2
      have hset := chg_set W w4.heap.size 0 (.int .i64 ((m + 1 : Nat) : Int)) (· = w4.heap.size) rfl
      refine ⟨_, ⟨but_of_chg hset, fun j hj => ⟨.inl hj, by have e2 : j = w4.heap.size := hj; rw [e2, size_set]; exact row_lt H2.out⟩⟩, rfl, ?_, H3.out.trans (hset.below H3.out.size (fun j hj => by have e2 : j = w4.heap.size := hj; omega))⟩
      have := row_set H2.out 0 (.int .i64 ((m + 1 : Nat) : Int))
      rw [HPL.out]
      simpa using this
    case stop =>
      rintro D c pre O W hD hnD hpre h hK
      exact h.elim
    case done =>
      rintro D ys O W hD hnD rfl ⟨rfl, h2, h3⟩ hK
      rw [hLn] at h2
      have r5 := (h3.block w.heap.size (by omega)).trans R54.out
      have r8 := (h3.block (w.heap.size + 1) (by omega)).trans R84.out
      have x5 : W.cell? ⟨w.heap.size, 0, none⟩ = some (.slice A2 n c2) := cell_of_row W _ 0 _ _ (0, 0) r5
      have x12 : W.cell? ⟨w4.heap.size, 0, none⟩ = some (.int .i64 (mm : Int)) := cell_of_row W _ 0 _ _ (0, 0) h2
      have hl12 := row_lt h2
      have hl5 := row_lt r5
      have hl8 := row_lt r8
      have hDl := row_lt hK
      rw [hz6] at hD
      have v1 : IntKind.i64.wrap (-1 + -1) = -2 := by decide
      have v2 : IntKind.i64.wrap (-2 + -1) = -3 := by decide
      have v3 : IntKind.i64.wrap (-3 + -1) = -4 := by decide
      clear hnD
      rcases Nat.eq_zero_or_pos n with hn0 | hn0
      · have b0 : ((n : Int) == 0) = true := by simp; omega
        go_wp2_with (first
          | (go_at_call 10; (with_reducible refine (c_behind_nil _ i kk).mono ?_); rintro e w7 ⟨rfl, rfl⟩)
          | (go_at_call 11; (with_reducible refine (c_key_nil _ i).mono ?_); rintro e w7 ⟨rfl, hb7⟩; have HB7 := Lib.hid hb7; have y12 := (hb7.cell (p := ⟨w4.heap.size, 0, none⟩) hl12).trans x12; have y5 := (hb7.cell (p := ⟨w.heap.size, 0, none⟩) hl5).trans x5; have y8 := (hb7.block (w.heap.size + 1) hl8).trans r8; have yf8 := frozen_of_row w7 _ 0 _ _ y8; have yl := hb7.size; have YD := Lib.hid ((hb7.block D hDl).trans hK); have Y8 := Lib.hid y8; clear hb7 y8)
          | (go_at_call 12; (with_reducible refine (c_clear_nil _).mono ?_); rintro e w8 ⟨rfl, rfl⟩)
          | (go_at_call 7; (with_reducible refine (c_new_no _ (-1) (by omega)).mono ?_); rintro e w8 ⟨rfl, rfl⟩)
          | (go_at_call 13; (with_reducible refine (c_drop_nil _ i).mono ?_); rintro e w8 ⟨rfl, rfl⟩)
          | (go_at_call 14; (with_reducible refine (c_next_nil _ i).mono ?_); rintro e w9 ⟨rfl, hb9⟩; have HB9 := Lib.hid hb9; have z12 := (hb9.cell (p := ⟨w4.heap.size, 0, none⟩) (by show w4.heap.size < _; omega)).trans y12; have z5 := (hb9.cell (p := ⟨w.heap.size, 0, none⟩) (by show w.heap.size < _; omega)).trans y5; have z8 := (hb9.block (w.heap.size + 1) (by omega)).trans Y8.out; have zf8 := frozen_of_row w9 _ 0 _ _ z8; have zl := hb9.size; have ZD := Lib.hid ((hb9.block D (by omega)).trans YD.out); have Z8 := Lib.hid z8; clear hb9 z8)
          | (go_at_call 15; (with_reducible refine (c_prev_nil _ i).mono ?_); rintro e w10 ⟨rfl, hb10⟩; have HB10 := Lib.hid hb10; have u12 := (hb10.cell (p := ⟨w4.heap.size, 0, none⟩) (by show w4.heap.size < _; omega)).trans z12; have u5 := (hb10.cell (p := ⟨w.heap.size, 0, none⟩) (by show w.heap.size < _; omega)).trans z5; have u8 := (hb10.block (w.heap.size + 1) (by omega)).trans Z8.out; have uf8 := frozen_of_row w10 _ 0 _ _ u8; have uc8 : w10.cell? ⟨w.heap.size + 1, 0, none⟩ = some (.bool false) := cell_of_row w10 _ 0 _ _ (0, 0) u8; have ul := hb10.size; have UD := Lib.hid ((hb10.block D (by omega)).trans ZD.out); have U8 := Lib.hid u8; clear hb10 u8)
          | (go_at_call 16; (with_reducible refine (c_first_nil _).mono ?_); rintro e w11 ⟨rfl, rfl⟩)
          | (go_at_call 17; (with_reducible refine (c_last_nil _).mono ?_); rintro e w11 ⟨rfl, rfl⟩)
          | (go_at_call 18; (with_reducible refine (c_len_nil _).mono ?_); rintro e w11 ⟨rfl, rfl⟩)
          | (go_at_call 19; (with_reducible refine (c_room_nil _ 0).mono ?_); rintro e w11 ⟨rfl, rfl⟩)
          | (go_at_call 8; (with_reducible refine (c_line_nil _ A2 n c2 (xs.take 60) w2.heap.size HN.out (((HRW.out.below HCL4.out.below (Nat.le_refl _)).below h3 hlw).below ((HB7.out.trans (HB9.out.mono yl)).trans (HB10.out.mono (by omega))) (by omega))).mono ?_); rintro e w11 ⟨rfl, rfl⟩))
        have cset := chg_set w10 (w.heap.size + 1) 0 (.bool true) (· = w.heap.size + 1) rfl
        have hDD := (cset.block D (by omega) (fun e => by have e2 : D = w.heap.size + 1 := e; omega)).trans UD.out
        refine ⟨by simp, .inl ⟨_, _, rfl, run_takeDeferred hDD, ?_⟩⟩
        have hput := but_put (w10.setCell ⟨w.heap.size + 1, 0, none⟩ (.bool true)) D (.deferred none)
        have hrow8 := row_set U8.out 0 (.bool true)
        have hc8 : ((w10.setCell ⟨w.heap.size + 1, 0, none⟩ (.bool true)).putObj D (.deferred none)).cell? ⟨w.heap.size + 1, 0, none⟩ = some (.bool true) := (hput.cell (by rw [size_set]; omega) (fun e => by have e2 : w.heap.size + 1 = D := e; omega) 0).trans (cell_of_row _ _ 0 _ _ (0, 0) (by simpa using hrow8))
        refine ⟨_, results_lines _ _ (w.heap.size + 1) true rfl hc8, rfl, ?_⟩
        have hbA : Below w.heap.size w w4 := ((((HB0.out.trans (HB1.out.mono (by rw [HZ0.out]; omega))).trans (HB2.out.mono (by omega))).trans ((HST.out.below (B := w.heap.size) (by omega) (fun j e => by have e2 : j = w.heap.size := e; omega)))).trans (HCL4.out.below.mono (by omega)))
        have hbB : Below w.heap.size w w10 := (((hbA.trans (h3.mono (by omega))).trans (HB7.out.mono (by omega))).trans (HB9.out.mono (by omega))).trans (HB10.out.mono (by omega))
        exact (hbB.trans (cset.below (by omega) (fun j e => by have e2 : j = w.heap.size + 1 := e; omega))).trans (hput.below (by rw [size_set]; omega) (fun j e => by have e2 : j = D := e; omega))
      · have b0 : ((n : Int) == 0) = false := by simp; omega
        go_wp2_with (first
          | (go_at_call 10; (with_reducible refine (c_behind_nil _ i kk).mono ?_); rintro e w7 ⟨rfl, rfl⟩)
          | (go_at_call 11; (with_reducible refine (c_key_nil _ i).mono ?_); rintro e w7 ⟨rfl, hb7⟩; have HB7 := Lib.hid hb7; have y12 := (hb7.cell (p := ⟨w4.heap.size, 0, none⟩) hl12).trans x12; have y5 := (hb7.cell (p := ⟨w.heap.size, 0, none⟩) hl5).trans x5; have y8 := (hb7.block (w.heap.size + 1) hl8).trans r8; have yf8 := frozen_of_row w7 _ 0 _ _ y8; have yl := hb7.size; have YD := Lib.hid ((hb7.block D hDl).trans hK); have Y8 := Lib.hid y8; clear hb7 y8)
          | (go_at_call 12; (with_reducible refine (c_clear_nil _).mono ?_); rintro e w8 ⟨rfl, rfl⟩)
          | (go_at_call 7; (with_reducible refine (c_new_no _ (-1) (by omega)).mono ?_); rintro e w8 ⟨rfl, rfl⟩)
          | (go_at_call 13; (with_reducible refine (c_drop_nil _ i).mono ?_); rintro e w8 ⟨rfl, rfl⟩)
          | (go_at_call 14; (with_reducible refine (c_next_nil _ i).mono ?_); rintro e w9 ⟨rfl, hb9⟩; have HB9 := Lib.hid hb9; have z12 := (hb9.cell (p := ⟨w4.heap.size, 0, none⟩) (by show w4.heap.size < _; omega)).trans y12; have z5 := (hb9.cell (p := ⟨w.heap.size, 0, none⟩) (by show w.heap.size < _; omega)).trans y5; have z8 := (hb9.block (w.heap.size + 1) (by omega)).trans Y8.out; have zf8 := frozen_of_row w9 _ 0 _ _ z8; have zl := hb9.size; have ZD := Lib.hid ((hb9.block D (by omega)).trans YD.out); have Z8 := Lib.hid z8; clear hb9 z8)
          | (go_at_call 15; (with_reducible refine (c_prev_nil _ i).mono ?_); rintro e w10 ⟨rfl, hb10⟩; have HB10 := Lib.hid hb10; have u12 := (hb10.cell (p := ⟨w4.heap.size, 0, none⟩) (by show w4.heap.size < _; omega)).trans z12; have u5 := (hb10.cell (p := ⟨w.heap.size, 0, none⟩) (by show w.heap.size < _; omega)).trans z5; have u8 := (hb10.block (w.heap.size + 1) (by omega)).trans Z8.out; have uf8 := frozen_of_row w10 _ 0 _ _ u8; have uc8 : w10.cell? ⟨w.heap.size + 1, 0, none⟩ = some (.bool false) := cell_of_row w10 _ 0 _ _ (0, 0) u8; have ul := hb10.size; have UD := Lib.hid ((hb10.block D (by omega)).trans ZD.out); have U8 := Lib.hid u8; clear hb10 u8)
          | (go_at_call 16; (with_reducible refine (c_first_nil _).mono ?_); rintro e w11 ⟨rfl, rfl⟩)
          | (go_at_call 17; (with_reducible refine (c_last_nil _).mono ?_); rintro e w11 ⟨rfl, rfl⟩)
          | (go_at_call 18; (with_reducible refine (c_len_nil _).mono ?_); rintro e w11 ⟨rfl, rfl⟩)
          | (go_at_call 19; (with_reducible refine (c_room_nil _ 0).mono ?_); rintro e w11 ⟨rfl, rfl⟩)
          | (go_at_call 8; (with_reducible refine (c_line_nil _ A2 n c2 (xs.take 60) w2.heap.size HN.out (((HRW.out.below HCL4.out.below (Nat.le_refl _)).below h3 hlw).below ((HB7.out.trans (HB9.out.mono yl)).trans (HB10.out.mono (by omega))) (by omega))).mono ?_); rintro e w11 ⟨rfl, rfl⟩))
        have cset := chg_set w10 (w.heap.size + 1) 0 (.bool true) (· = w.heap.size + 1) rfl
        have hDD := (cset.block D (by omega) (fun e => by have e2 : D = w.heap.size + 1 := e; omega)).trans UD.out
        refine ⟨by simp, .inl ⟨_, _, rfl, run_takeDeferred hDD, ?_⟩⟩
        have hput := but_put (w10.setCell ⟨w.heap.size + 1, 0, none⟩ (.bool true)) D (.deferred none)
        have hrow8 := row_set U8.out 0 (.bool true)
        have hc8 : ((w10.setCell ⟨w.heap.size + 1, 0, none⟩ (.bool true)).putObj D (.deferred none)).cell? ⟨w.heap.size + 1, 0, none⟩ = some (.bool true) := (hput.cell (by rw [size_set]; omega) (fun e => by have e2 : w.heap.size + 1 = D := e; omega) 0).trans (cell_of_row _ _ 0 _ _ (0, 0) (by simpa using hrow8))
        refine ⟨_, results_lines _ _ (w.heap.size + 1) true rfl hc8, rfl, ?_⟩
        have hbA : Below w.heap.size w w4 := ((((HB0.out.trans (HB1.out.mono (by rw [HZ0.out]; omega))).trans (HB2.out.mono (by omega))).trans ((HST.out.below (B := w.heap.size) (by omega) (fun j e => by have e2 : j = w.heap.size := e; omega)))).trans (HCL4.out.below.mono (by omega)))
        have hbB : Below w.heap.size w w10 := (((hbA.trans (h3.mono (by omega))).trans (HB7.out.mono (by omega))).trans (HB9.out.mono (by omega))).trans (HB10.out.mono (by omega))
        exact (hbB.trans (cset.below (by omega) (fun j e => by have e2 : j = w.heap.size + 1 := e; omega))).trans (hput.below (by rw [size_set]; omega) (fun j e => by have e2 : j = D := e; omega))
end Go.Proofs.Ytglhiknkcaglmaa
