/- A key is taken out: Delete; the texts walked. Has, Next, Prev and what is told of the whole; the texts walked. A new y-fast trie; the texts walked. -/
import Derived.Test.YtialjokdaniofaaGreatMq35
section
namespace Go.Proofs.YtialjokdaniofaaGreat
set_option maxRecDepth 20000
open Go.RowKit
theorem setk_at {ns : List (Yp.Nd × Bool)} {i rep : Nat} {A B : Option Addr} {n c m d : Nat} {x y : Int} (h : ns[i]? = some (⟨rep, B, m, d, x, y⟩, true)) : (Yp.setk ns (i : Int) A n c)[i]? = some (⟨rep, A, n, c, x, y⟩, true) := by
  have hl := Yp.lvq_some h
  obtain ⟨k, e, hk, e2⟩ := Yp.lvq_form hl
  obtain rfl : k = i := by omega
  have h2 := h
  rw [List.getElem?_eq_getElem hk, e2] at h2
  injection h2 with h2
  injection h2 with h2 _
  unfold Yp.setk
  rw [if_pos hl, Int.toNat_natCast, List.getElem?_set_self hk, h2]
theorem setk_ne {ns : List (Yp.Nd × Bool)} {i j : Nat} {A : Option Addr} {n c : Nat} (hij : j ≠ i) : (Yp.setk ns (i : Int) A n c)[j]? = ns[j]? := by
  unfold Yp.setk
  split
  · rw [Int.toNat_natCast, List.getElem?_set_ne (fun e => hij e.symm)]
  · rfl
theorem drop_le (xs : List Nat) (k : Nat) : (K.drop xs k).length ≤ xs.length := by
  unfold K.drop
  split
  · simp
    omega
  · exact Nat.le_refl _
section
variable {w0 w : World} {O : Nat → Prop} {P M X T Q lim tk : Nat} {kn : Int} {rs : List Nat} {es : Es} {ns : List (Yp.Nd × Bool)} {fs : List Nat} {G : Nat → List Nat}
end
end Go.Proofs.YtialjokdaniofaaGreat
end
section
namespace Go.Proofs.YtialjokdaniofaaGreat
set_option maxRecDepth 20000
open Go.RowKit
theorem y_next1 (w : World) (rep : Nat) (A : Option Addr) (n c : Nat) (ah be : Int) :
    Calls Tryz.prog 60 #[Yp.ndv rep A n c ah be] w fun e w' => e = .returned (.int .i64 be) ∧ Below w.heap.size w w' := by
  go_enter Tryz.func60, Tryz.ntmps60
  go_wp2
  go_ret
  exact ⟨rfl, (Below.refl _ w).alloc (Nat.le_refl _) _⟩
theorem y_prev1 (w : World) (rep : Nat) (A : Option Addr) (n c : Nat) (ah be : Int) :
    Calls Tryz.prog 62 #[Yp.ndv rep A n c ah be] w fun e w' => e = .returned (.int .i64 ah) ∧ Below w.heap.size w w' := by
  go_enter Tryz.func62, Tryz.ntmps62
  go_wp2
  go_ret
  exact ⟨rfl, (Below.refl _ w).alloc (Nat.le_refl _) _⟩
section
variable {w0 w : World} {O : Nat → Prop} {P M X T Q lim tk : Nat} {kn : Int} {rs : List Nat} {es : Es} {ns : List (Yp.Nd × Bool)} {fs : List Nat} {G : Nat → List Nat}
theorem yr_box1 {w1 W w' : World} {O1 : Nat → Prop} {b : Nat} (h01 : K.Chg w w1 O) (hO : ∀ j, O1 j → O j ∨ w.heap.size ≤ j) (hbw : w.heap.size ≤ b) (h : YR w1 O1 P M X T Q lim tk kn rs es ns fs G W) (hb : b < w1.heap.size) (hn : ¬ O1 b) (hk : ¬ KBl ns b) (ch : K.Chg W w' (· = b)) : YR w O P M X T Q lim tk kn rs es ns fs G w' := by
  obtain ⟨O6, hT6, hC6, hO6⟩ := h
  refine ⟨O6, hT6.chg ch (fun j hj e => ?_) (fun j hj e => ?_), (h01.trans hC6 hO).trans ch (fun j e => ?_), fun j hj => ?_⟩
  · have e2 : j = b := e
    subst e2
    rcases hO6 j hj with h | h
    · exact hn h
    · omega
  · have e2 : j = b := e
    subst e2
    exact hk hj
  · have e2 : j = b := e
    exact .inr (by omega)
  · rcases hO6 j hj with h | h
    · exact hO j h
    · exact .inr (Nat.le_trans h01.size h)
set_option maxHeartbeats 2000000 in
theorem near_Next_yes_T (h : YT w P M X T Q lim tk kn rs es ns fs G O) (k : Nat) (hk : k < 18446744073709551616) (i : Int) (rep : Nat) (ksA : Option Addr) (ksn ksc : Nat) (ah be : Int) (hs : Sel rs es ns k i ⟨rep, ksA, ksn, ksc, ah, be⟩) (xs : List Nat) (hx : Found ns G i ⟨rep, ksA, ksn, ksc, ah, be⟩ xs) (hu : K.Up xs) (few : xs.length ≤ 900) (hin : K.nxb xs k = true) :
    Calls Tryz.prog 58 #[.pointer (some ⟨P, 0, none⟩), .int .u64 (k : Int), .func (.func 59) #[] #[], .func (.func 60) #[] #[]] w fun e w' => e = .returned (.tuple #[.int .u64 ((K.nx xs k : Nat) : Int), .bool true]) ∧ ∃ t, t ≤ 11 ∧ YR w O P M X T Q lim t kn rs es ns fs G w' := by
  have HST := Lib.hid (y_start (YR.start h))
  have c0 := (YR.start h).c0
  have HSEL := Lib.hid hs
  have HF := Lib.hid hx
  have HIN := Lib.hid hin
  clear h hs hx hin
  go_enter Tryz.func58, Tryz.ntmps58
  go_wp2_with (first
    | (go_at_call 46; (with_reducible refine HST.out.mono ?_); rintro e w1 ⟨rfl, h1⟩
       have HFI := Lib.hid (y_find h1 (by omega) k hk i _ HSEL.out)
       clear h1)
    | (go_at_call 47; (with_reducible refine HFI.out.mono ?_); rintro e w2 ⟨rfl, t, ht, h2⟩
       rw [Nat.zero_add] at h2
       have h2b := h2.below ((Below.refl _ w2).alloc (Nat.le_refl _) (Yp.ndo rep ksA ksn ksc ah be))
       have m1 := (Yp.nd_cells (K.alloc_top w2 (Yp.ndo rep ksA ksn ksc ah be))).2.1
       have HA := Lib.hid (Kb.b_next _ _ xs (HF.out.kx h2b) hu (by omega) k)
       have H2 := Lib.hid h2
       have HT := Lib.hid ht
       clear h2 ht h2b)
    | (go_at_call 59; (with_reducible refine HA.out.mono ?_); rintro e w3 ⟨rfl, rfl⟩; rw [HIN.out]))
  go_ret2
  exact ⟨rfl, t, HT.out, H2.out.below ((Below.refl _ w2).alloc (Nat.le_refl _) _)⟩
set_option maxHeartbeats 4000000 in
theorem near_Next_no_T (h : YT w P M X T Q lim tk kn rs es ns fs G O) (k : Nat) (hk : k < 18446744073709551616) (i : Int) (rep : Nat) (ksA : Option Addr) (ksn ksc : Nat) (ah be : Int) (hs : Sel rs es ns k i ⟨rep, ksA, ksn, ksc, ah, be⟩) (xs : List Nat) (hx : Found ns G i ⟨rep, ksA, ksn, ksc, ah, be⟩ xs) (hu : K.Up xs) (few : xs.length ≤ 900) (hin : K.nxb xs k = false) (b1 : Bool) (rb : Nat) (Ab : Option Addr) (nb cb : Nat) (ab bb : Int) (hb : AtH ns be b1 rb Ab nb cb ab bb) (ys : List Nat) (hy : (b1 = false ∧ ys = []) ∨ (b1 = true ∧ ys = G be.toNat)) (hu2 : K.Up ys) (few2 : ys.length ≤ 900) :
    Calls Tryz.prog 58 #[.pointer (some ⟨P, 0, none⟩), .int .u64 (k : Int), .func (.func 59) #[] #[], .func (.func 60) #[] #[]] w fun e w' => e = .returned (.tuple #[.int .u64 ((K.nx ys k : Nat) : Int), .bool (K.nxb ys k)]) ∧ ∃ t, t ≤ 12 ∧ YR w O P M X T Q lim t kn rs es ns fs G w' := by
  have HST := Lib.hid (y_start (YR.start h))
  have c0 := (YR.start h).c0
  have HSEL := Lib.hid hs
  have HF := Lib.hid hx
  have HIN := Lib.hid hin
  have HBH := Lib.hid hb
  have hkx : ∀ w0 O w2 t, YR w0 O P M X T Q lim t kn rs es ns fs G w2 → KX w2 (.slice Ab nb cb) ys := fun w0 O w2 t h2 => by
    rcases hb with ⟨rfl, j, hj, hn⟩ | ⟨rfl, _, _, rfl, rfl, rfl, _, _⟩
    · rcases hy with ⟨e, _⟩ | ⟨_, rfl⟩
      · cases e
      · rw [hj, Int.toNat_natCast]
        exact h2.kx hn
    · rcases hy with ⟨_, rfl⟩ | ⟨e, _⟩
      · exact kx_none _ _ rfl
      · cases e
  have HKX := Lib.hid hkx
  clear h hs hx hin hb hy hkx
  go_enter Tryz.func58, Tryz.ntmps58
  go_wp2_with (first
    | (go_at_call 46; (with_reducible refine HST.out.mono ?_); rintro e w1 ⟨rfl, h1⟩
       have HFI := Lib.hid (y_find h1 (by omega) k hk i _ HSEL.out)
       clear h1)
    | (go_at_call 47; (with_reducible refine HFI.out.mono ?_); rintro e w2 ⟨rfl, t, ht, h2⟩
       rw [Nat.zero_add] at h2
       have hb1 : Below w2.heap.size w2 (w2.alloc (Yp.ndo rep ksA ksn ksc ah be)) := (Below.refl _ w2).alloc (Nat.le_refl _) _
       have r6 : (w2.alloc (Yp.ndo rep ksA ksn ksc ah be)).heap[w2.heap.size]? = some (Yp.ndo rep ksA ksn ksc ah be) := K.alloc_top w2 _
       obtain ⟨m0, m1, m2, m3⟩ := Yp.nd_cells r6
       obtain ⟨O1, hT1, hC1, hO1⟩ := h2
       have hl1 := hT1.lt
       have hn1 : ¬ O1 w2.heap.size := fun ho => (by have := hl1.1 _ ho; omega)
       have hy1 := YR.start (hT1.below hb1)
       have HA := Lib.hid (Kb.b_next _ _ xs (HF.out.kx hy1) hu (by omega) k)
       have hd : YR (w2.alloc (Yp.ndo rep ksA ksn ksc ah be)) O1 P M X T Q lim t kn rs es ns fs G (w2.alloc (Yp.ndo rep ksA ksn ksc ah be)).drew := hy1.drewN 1
       have cd3 : (w2.alloc (Yp.ndo rep ksA ksn ksc ah be)).drew.cell? ⟨P, 3, none⟩ = some (.pointer (some ⟨Q, 0, none⟩)) := hd.c3
       have md0 : (w2.alloc (Yp.ndo rep ksA ksn ksc ah be)).drew.cell? ⟨w2.heap.size, 0, none⟩ = some (.int .u64 (rep : Int)) := m0
       have md1 : (w2.alloc (Yp.ndo rep ksA ksn ksc ah be)).drew.cell? ⟨w2.heap.size, 1, none⟩ = some (.slice ksA ksn ksc) := m1
       have md2 : (w2.alloc (Yp.ndo rep ksA ksn ksc ah be)).drew.cell? ⟨w2.heap.size, 2, none⟩ = some (.int .i64 ah) := m2
       have md3 : (w2.alloc (Yp.ndo rep ksA ksn ksc ah be)).drew.cell? ⟨w2.heap.size, 3, none⟩ = some (.int .i64 be) := m3
       have HN1x := Lib.hid (y_next1 (w2.alloc (Yp.ndo rep ksA ksn ksc ah be)).drew rep ksA ksn ksc ah be)
       have HD := Lib.hid hd
       have R6 := Lib.hid r6
       have HKL := Lib.hid (hl1.2 : ∀ q, KBl ns q → q < w2.heap.size)
       have HN1 := Lib.hid hn1
       have HC1 := Lib.hid hC1
       have HO1 := Lib.hid hO1
       have HB1 := Lib.hid hb1
       have HT := Lib.hid ht
       clear hb1 r6 hT1 hC1 hO1 hl1 hn1 hy1 ht hd)
    | (go_at_call 59; (with_reducible refine HA.out.mono ?_); rintro e w3 ⟨rfl, rfl⟩; rw [HIN.out]))
  go_region_with (first
    | (go_at_call 60; (with_reducible refine HN1x.out.mono ?_); rintro e w4 ⟨rfl, hb4⟩
       have h4 := HD.out.below hb4
       have c43 := h4.c3
       have HAT := Lib.hid (y_at_any h4 (by have := HT.out; omega) be b1 rb Ab nb cb ab bb HBH.out)
       clear hb4 h4)
    | (go_at_call 84; (with_reducible refine HAT.out.mono ?_); rintro e w5 ⟨rfl, t5, ht5, h5⟩
       have p5 := (h5.same (row_lt R6.out) HN1.out).trans R6.out
       have f50 := frozen_of_row w5 _ 0 _ _ p5
       have f51 := frozen_of_row w5 _ 1 _ _ p5
       have f52 := frozen_of_row w5 _ 2 _ _ p5
       have f53 := frozen_of_row w5 _ 3 _ _ p5
       obtain ⟨k50, k51, k52, k53⟩ := Yp.nd_cells p5
       have P5 := Lib.hid p5
       have H5 := Lib.hid h5
       have HT5 := Lib.hid ht5
       clear h5 ht5 p5))
  all_goals
    have hrow := Yp.row_z5 P5.out (.int .u64 (rb : Int)) (.slice Ab nb cb) (.int .i64 ab) (.int .i64 bb)
    have hch := Yp.chg_five w5 w2.heap.size 0 1 2 3 (.int .u64 (rb : Int)) (.slice Ab nb cb) (.int .i64 ab) (.int .i64 bb) (· = w2.heap.size) rfl
    have hk5 := HKX.out _ _ _ _ H5.out
    have HA2 := Lib.hid (Kb.b_next _ _ ys (kx_chg hk5 hch (fun q hq hqq => (kx_bt hk5 hq).ne ⟨_, P5.out⟩ (by decide) hqq)) hu2 (by omega) k)
    have g1 := (Yp.nd_cells hrow).2.1
    have hbk : ¬ KBl ns w2.heap.size := fun q => by have := HKL.out _ q; omega
    have HY := Lib.hid (yr_box1 (HC1.out.trans (K.Chg.of_below (O := O1) HB1.out) (fun q hq => HO1.out q hq)) HO1.out HC1.out.size H5.out (row_lt R6.out) HN1.out hbk hch)
    clear hrow hch hk5 hbk
    go_wp2_with (go_at_call 59; (with_reducible refine HA2.out.mono ?_); rintro e w6 ⟨rfl, rfl⟩)
    go_ret2
    exact ⟨rfl, t + t5, by have := HT.out; have := HT5.out; omega, HY.out⟩
set_option maxHeartbeats 2000000 in
theorem near_Prev_yes_T (h : YT w P M X T Q lim tk kn rs es ns fs G O) (k : Nat) (hk : k < 18446744073709551616) (i : Int) (rep : Nat) (ksA : Option Addr) (ksn ksc : Nat) (ah be : Int) (hs : Sel rs es ns k i ⟨rep, ksA, ksn, ksc, ah, be⟩) (xs : List Nat) (hx : Found ns G i ⟨rep, ksA, ksn, ksc, ah, be⟩ xs) (hu : K.Up xs) (few : xs.length ≤ 900) (hin : K.pvb xs k = true) :
    Calls Tryz.prog 58 #[.pointer (some ⟨P, 0, none⟩), .int .u64 (k : Int), .func (.func 61) #[] #[], .func (.func 62) #[] #[]] w fun e w' => e = .returned (.tuple #[.int .u64 ((K.pv xs k : Nat) : Int), .bool true]) ∧ ∃ t, t ≤ 11 ∧ YR w O P M X T Q lim t kn rs es ns fs G w' := by
  have HST := Lib.hid (y_start (YR.start h))
  have c0 := (YR.start h).c0
  have HSEL := Lib.hid hs
  have HF := Lib.hid hx
  have HIN := Lib.hid hin
  clear h hs hx hin
  go_enter Tryz.func58, Tryz.ntmps58
  go_wp2_with (first
    | (go_at_call 46; (with_reducible refine HST.out.mono ?_); rintro e w1 ⟨rfl, h1⟩
       have HFI := Lib.hid (y_find h1 (by omega) k hk i _ HSEL.out)
       clear h1)
    | (go_at_call 47; (with_reducible refine HFI.out.mono ?_); rintro e w2 ⟨rfl, t, ht, h2⟩
       rw [Nat.zero_add] at h2
       have h2b := h2.below ((Below.refl _ w2).alloc (Nat.le_refl _) (Yp.ndo rep ksA ksn ksc ah be))
       have m1 := (Yp.nd_cells (K.alloc_top w2 (Yp.ndo rep ksA ksn ksc ah be))).2.1
       have HA := Lib.hid (Kb.b_prev _ _ xs (HF.out.kx h2b) hu (by omega) k)
       have H2 := Lib.hid h2
       have HT := Lib.hid ht
       clear h2 ht h2b)
    | (go_at_call 61; (with_reducible refine HA.out.mono ?_); rintro e w3 ⟨rfl, rfl⟩; rw [HIN.out]))
  go_ret2
  exact ⟨rfl, t, HT.out, H2.out.below ((Below.refl _ w2).alloc (Nat.le_refl _) _)⟩
set_option maxHeartbeats 4000000 in
theorem near_Prev_no_T (h : YT w P M X T Q lim tk kn rs es ns fs G O) (k : Nat) (hk : k < 18446744073709551616) (i : Int) (rep : Nat) (ksA : Option Addr) (ksn ksc : Nat) (ah be : Int) (hs : Sel rs es ns k i ⟨rep, ksA, ksn, ksc, ah, be⟩) (xs : List Nat) (hx : Found ns G i ⟨rep, ksA, ksn, ksc, ah, be⟩ xs) (hu : K.Up xs) (few : xs.length ≤ 900) (hin : K.pvb xs k = false) (b1 : Bool) (rb : Nat) (Ab : Option Addr) (nb cb : Nat) (ab bb : Int) (hb : AtH ns ah b1 rb Ab nb cb ab bb) (ys : List Nat) (hy : (b1 = false ∧ ys = []) ∨ (b1 = true ∧ ys = G ah.toNat)) (hu2 : K.Up ys) (few2 : ys.length ≤ 900) :
    Calls Tryz.prog 58 #[.pointer (some ⟨P, 0, none⟩), .int .u64 (k : Int), .func (.func 61) #[] #[], .func (.func 62) #[] #[]] w fun e w' => e = .returned (.tuple #[.int .u64 ((K.pv ys k : Nat) : Int), .bool (K.pvb ys k)]) ∧ ∃ t, t ≤ 12 ∧ YR w O P M X T Q lim t kn rs es ns fs G w' := by
  have HST := Lib.hid (y_start (YR.start h))
  have c0 := (YR.start h).c0
  have HSEL := Lib.hid hs
  have HF := Lib.hid hx
  have HIN := Lib.hid hin
  have HBH := Lib.hid hb
  have hkx : ∀ w0 O w2 t, YR w0 O P M X T Q lim t kn rs es ns fs G w2 → KX w2 (.slice Ab nb cb) ys := fun w0 O w2 t h2 => by
    rcases hb with ⟨rfl, j, hj, hn⟩ | ⟨rfl, _, _, rfl, rfl, rfl, _, _⟩
    · rcases hy with ⟨e, _⟩ | ⟨_, rfl⟩
      · cases e
      · rw [hj, Int.toNat_natCast]
        exact h2.kx hn
    · rcases hy with ⟨_, rfl⟩ | ⟨e, _⟩
      · exact kx_none _ _ rfl
      · cases e
  have HKX := Lib.hid hkx
  clear h hs hx hin hb hy hkx
  go_enter Tryz.func58, Tryz.ntmps58
  go_wp2_with (first
    | (go_at_call 46; (with_reducible refine HST.out.mono ?_); rintro e w1 ⟨rfl, h1⟩
       have HFI := Lib.hid (y_find h1 (by omega) k hk i _ HSEL.out)
       clear h1)
    | (go_at_call 47; (with_reducible refine HFI.out.mono ?_); rintro e w2 ⟨rfl, t, ht, h2⟩
       rw [Nat.zero_add] at h2
       have hb1 : Below w2.heap.size w2 (w2.alloc (Yp.ndo rep ksA ksn ksc ah be)) := (Below.refl _ w2).alloc (Nat.le_refl _) _
       have r6 : (w2.alloc (Yp.ndo rep ksA ksn ksc ah be)).heap[w2.heap.size]? = some (Yp.ndo rep ksA ksn ksc ah be) := K.alloc_top w2 _
       obtain ⟨m0, m1, m2, m3⟩ := Yp.nd_cells r6
       obtain ⟨O1, hT1, hC1, hO1⟩ := h2
       have hl1 := hT1.lt
       have hn1 : ¬ O1 w2.heap.size := fun ho => (by have := hl1.1 _ ho; omega)
       have hy1 := YR.start (hT1.below hb1)
       have HA := Lib.hid (Kb.b_prev _ _ xs (HF.out.kx hy1) hu (by omega) k)
       have hd : YR (w2.alloc (Yp.ndo rep ksA ksn ksc ah be)) O1 P M X T Q lim t kn rs es ns fs G (w2.alloc (Yp.ndo rep ksA ksn ksc ah be)).drew := hy1.drewN 1
       have cd3 : (w2.alloc (Yp.ndo rep ksA ksn ksc ah be)).drew.cell? ⟨P, 3, none⟩ = some (.pointer (some ⟨Q, 0, none⟩)) := hd.c3
       have md0 : (w2.alloc (Yp.ndo rep ksA ksn ksc ah be)).drew.cell? ⟨w2.heap.size, 0, none⟩ = some (.int .u64 (rep : Int)) := m0
       have md1 : (w2.alloc (Yp.ndo rep ksA ksn ksc ah be)).drew.cell? ⟨w2.heap.size, 1, none⟩ = some (.slice ksA ksn ksc) := m1
       have md2 : (w2.alloc (Yp.ndo rep ksA ksn ksc ah be)).drew.cell? ⟨w2.heap.size, 2, none⟩ = some (.int .i64 ah) := m2
       have md3 : (w2.alloc (Yp.ndo rep ksA ksn ksc ah be)).drew.cell? ⟨w2.heap.size, 3, none⟩ = some (.int .i64 be) := m3
       have HN1x := Lib.hid (y_prev1 (w2.alloc (Yp.ndo rep ksA ksn ksc ah be)).drew rep ksA ksn ksc ah be)
       have HD := Lib.hid hd
       have R6 := Lib.hid r6
       have HKL := Lib.hid (hl1.2 : ∀ q, KBl ns q → q < w2.heap.size)
       have HN1 := Lib.hid hn1
       have HC1 := Lib.hid hC1
       have HO1 := Lib.hid hO1
       have HB1 := Lib.hid hb1
       have HT := Lib.hid ht
       clear hb1 r6 hT1 hC1 hO1 hl1 hn1 hy1 ht hd)
    | (go_at_call 61; (with_reducible refine HA.out.mono ?_); rintro e w3 ⟨rfl, rfl⟩; rw [HIN.out]))
  go_region_with (first
    | (go_at_call 62; (with_reducible refine HN1x.out.mono ?_); rintro e w4 ⟨rfl, hb4⟩
       have h4 := HD.out.below hb4
       have c43 := h4.c3
       have HAT := Lib.hid (y_at_any h4 (by have := HT.out; omega) ah b1 rb Ab nb cb ab bb HBH.out)
       clear hb4 h4)
    | (go_at_call 84; (with_reducible refine HAT.out.mono ?_); rintro e w5 ⟨rfl, t5, ht5, h5⟩
       have p5 := (h5.same (row_lt R6.out) HN1.out).trans R6.out
       have f50 := frozen_of_row w5 _ 0 _ _ p5
       have f51 := frozen_of_row w5 _ 1 _ _ p5
       have f52 := frozen_of_row w5 _ 2 _ _ p5
       have f53 := frozen_of_row w5 _ 3 _ _ p5
       obtain ⟨k50, k51, k52, k53⟩ := Yp.nd_cells p5
       have P5 := Lib.hid p5
       have H5 := Lib.hid h5
       have HT5 := Lib.hid ht5
       clear h5 ht5 p5))
  all_goals
    have hrow := Yp.row_z5 P5.out (.int .u64 (rb : Int)) (.slice Ab nb cb) (.int .i64 ab) (.int .i64 bb)
    have hch := Yp.chg_five w5 w2.heap.size 0 1 2 3 (.int .u64 (rb : Int)) (.slice Ab nb cb) (.int .i64 ab) (.int .i64 bb) (· = w2.heap.size) rfl
    have hk5 := HKX.out _ _ _ _ H5.out
    have HA2 := Lib.hid (Kb.b_prev _ _ ys (kx_chg hk5 hch (fun q hq hqq => (kx_bt hk5 hq).ne ⟨_, P5.out⟩ (by decide) hqq)) hu2 (by omega) k)
    have g1 := (Yp.nd_cells hrow).2.1
    have hbk : ¬ KBl ns w2.heap.size := fun q => by have := HKL.out _ q; omega
    have HY := Lib.hid (yr_box1 (HC1.out.trans (K.Chg.of_below (O := O1) HB1.out) (fun q hq => HO1.out q hq)) HO1.out HC1.out.size H5.out (row_lt R6.out) HN1.out hbk hch)
    clear hrow hch hk5 hbk
    go_wp2_with (go_at_call 61; (with_reducible refine HA2.out.mono ?_); rintro e w6 ⟨rfl, rfl⟩)
    go_ret2
    exact ⟨rfl, t + t5, by have := HT.out; have := HT5.out; omega, HY.out⟩
theorem YR.len (h : YR w0 O P M X T Q lim tk kn rs es ns fs G w) : Calls Tryz.prog 33 #[.pointer (some ⟨P, 0, none⟩)] w fun e w' => e = .returned (.int .i64 kn) ∧ w' = w := by
  have c4 := h.c4
  clear h
  go_enter Tryz.func33, Tryz.ntmps33
  go_wp2
  go_ret
  exact ⟨rfl, rfl⟩
theorem YR.limit (h : YR w0 O P M X T Q lim tk kn rs es ns fs G w) : Calls Tryz.prog 21 #[.pointer (some ⟨P, 0, none⟩)] w fun e w' => e = .returned (.int .i64 (lim : Int)) ∧ w' = w := by
  have c5 := h.c5
  clear h
  go_enter Tryz.func21, Tryz.ntmps21
  go_wp2
  go_ret
  exact ⟨rfl, rfl⟩
theorem YR.buckets (h : YR w0 O P M X T Q lim tk kn rs es ns fs G w) : Calls Tryz.prog 16 #[.pointer (some ⟨P, 0, none⟩)] w fun e w' => e = .returned (.int .i64 ((ns.length - fs.length : Nat) : Int)) ∧ YR w0 O P M X T Q lim tk kn rs es ns fs G w' := by
  have c3 := h.c3
  have HL := Lib.hid h.plen
  clear h
  go_enter Tryz.func16, Tryz.ntmps16
  go_wp2_with (go_at_call 42; (with_reducible refine HL.out.mono ?_); rintro e w1 ⟨rfl, h1⟩; have H1 := Lib.hid h1; clear h1)
  go_ret
  exact ⟨rfl, H1.out⟩
end
end Go.Proofs.YtialjokdaniofaaGreat
end
section
namespace Go.Proofs.YtialjokdaniofaaGreat
set_option maxRecDepth 20000
open Go.RowKit
theorem cell_moreY {w : World} {p : Addr} {v : Value} (h : w.cell? p = some v) (o : Obj) : (w.alloc o).cell? p = some v := by
  letI : Gh := ⟨0, 0⟩
  exact cell_more h o
set_option maxHeartbeats 2000000 in
theorem y_new (w : World) (sd n : Nat) (hn : n ≤ 500000) : Calls Tryz.prog 9 #[.int .u64 (sd : Int), .int .i64 (n : Int)] w fun e w' => ∃ P M X T Q O, e = .returned (.tuple #[.pointer (some ⟨P, 0, none⟩), .int .i64 0]) ∧ YT w' P M X T Q n 0 0 [] [] [] [] (fun _ => []) O ∧ Below w.heap.size w w' ∧ ∀ j, O j → w.heap.size ≤ j := by
  have hx : Calls Tryz.prog 35 #[.int .u64 (sd : Int), .int .i64 (n : Int)] w fun e w' => ∃ Xb r c O, e = .returned (.tuple #[.pointer (some ⟨Xb, 0, none⟩), .int .i64 0]) ∧ XG r c w' Xb [] n 2000000 O ∧ Below w.heap.size w w' ∧ ∀ j, O j → w.heap.size ≤ j := by
    letI : Gh := ⟨0, 0⟩
    refine (xf_new w sd n hn ⟨rfl, rfl⟩).mono ?_
    rintro e w' ⟨Xb, tk, O, he, hz, hb, hO⟩
    obtain ⟨_, r, c, _, _, _, _, _, hx, _⟩ := xg_now (show XG 0 0 w' Xb [] n tk O from hz)
    exact ⟨Xb, r, c, O, he, hx, hb, hO⟩
  have HX := Lib.hid hx
  have HNN := Lib.hid hn
  clear hx hn
  go_enter Tryz.func9, Tryz.ntmps9
  go_wp2_with (first
    | (go_at_call 35; (with_reducible refine HX.out.mono ?_); rintro e w1 ⟨Xb, r, c, OX, rfl, hxz, hb1, hOX⟩
       have HXZ := Lib.hid hxz
       have HB1 := Lib.hid hb1
       have HOX := Lib.hid hOX
       have HQ := Lib.hid (Yp.q_new w1 n (by have := HNN.out; omega))
       clear hxz hb1 hOX)
    | (go_at_call 36; (with_reducible refine HQ.out.mono ?_); rintro e w2 ⟨Q, M, rfl, hq, hm, q1, q2, hb2⟩
       have hqd : Yp.Qo w2.drew Q M n none 0 none 0 [] [] := hq.chg ((chg_refl w2 (fun _ => False)).drewN 1) (fun _ _ h => h)
       have hmd : Yp.Mx w2.drew M 0 := hm.chg ((chg_refl w2 (fun _ => False)).drewN 1) (fun h => h)
       have HS1 := Lib.hid hqd.c0
       have HQD := Lib.hid hqd
       have HMD := Lib.hid hmd
       have HB2 : Hid (Below w1.heap.size w1 w2.drew) := Lib.hid hb2.drew
       have HA := Lib.hid (And.intro q1 q2)
       have HN := Lib.hid (Hs.tab_new_nil w2.drew sd)
       clear hq hm hqd hmd q1 q2 hb2))
  go_region_held3 (fun Y => Y.cell? ⟨Q, 0, none⟩ = some (.pointer (some ⟨M, 0, none⟩))) (first | (with_reducible exact HS1.out) | (with_reducible exact HS2.out) | (with_reducible exact HS3.out _) | go_keep)
    ((go_at_call 37; (with_reducible refine HN.out.mono ?_); rintro e w3 ⟨Pt, Qt, Mt, rfl, ht, hb3, p1, p2, p3⟩
      have hs2 : w3.cell? ⟨Q, 0, none⟩ = some (.pointer (some ⟨M, 0, none⟩)) := (HQD.out.chg (K.Chg.of_below (O := fun _ => False) hb3) (fun _ _ h => h)).c0
      have HS2 := Lib.hid hs2
      have HS3 := Lib.hid (fun o => cell_moreY hs2 o)
      have HT := Lib.hid ht
      have HB3 := Lib.hid hb3
      have HP := Lib.hid (And.intro p1 (And.intro p2 p3))
      clear ht hb3 p1 p2 p3 hs2))
  all_goals
    go_wp2
    go_ret2
    obtain ⟨W4, hW4⟩ : ∃ W4, w3.alloc (.cells #[.pointer (some ⟨M, 0, none⟩), .pointer (some ⟨Xb, 0, none⟩), .pointer (some ⟨Pt, 0, none⟩), .pointer (some ⟨Q, 0, none⟩), .int .i64 0, .int .i64 (n : Int)] 45) = W4 := ⟨_, rfl⟩
    have hrow : W4.heap[w3.heap.size]? = some (yrow w3.heap.size M Xb Pt Q n 0) := by rw [← hW4]; exact K.alloc_top _ _
    have hca : K.Chg w3 W4 (fun _ => False) := by rw [← hW4]; exact chg_alloc w3 _ _
    have hb34 : Below w2.drew.heap.size w2.drew W4 := by rw [← hW4]; exact HB3.out.alloc HB3.out.size _
    have hc34 := K.Chg.of_below (O := fun _ => False) hb34
    have hb24 : Below w1.heap.size w1 W4 := HB2.out.trans (hb34.mono HB2.out.size)
    have hc24 := K.Chg.of_below (O := fun _ => False) hb24
    obtain ⟨p1, p2, p3⟩ := HP.out
    obtain ⟨q1, q2⟩ := HA.out
    have hz1 := HB1.out.size
    have hz2 := HB2.out.size
    have hz3 := HB3.out.size
    have hM := HMD.out.lt
    have hMt : w2.drew.heap.size ≤ Mt := by
      rcases p3 with p3 | p3
      · cases p3
      · exact p3.2
    have hxl := xg_lt HXZ.out
    rw [hW4]
    refine ⟨w3.heap.size, M, Xb, Pt, Q, _, rfl, ⟨OX, r, c, sd, Qt, Mt, 8, 0, none, 0, none, 0, ⟨hrow, HMD.out.chg hc34 (fun h => h), xg_chg HXZ.out hc24 (fun _ _ h => h), HT.out.but (ButS.of_chg hca) (fun _ _ h => h), HQD.out.chg hc34 (fun _ _ h => h), fun i hi => absurd hi (Nat.not_lt_zero _), fun j hj => ?_, ?_⟩, rfl⟩, HB1.out.trans (hb24.mono hz1), fun j hj => ?_⟩
    · have := hxl j hj
      refine ⟨by omega, by omega, fun h => ?_, fun h => ?_, fun h => ?_⟩
      · rcases h with h | h | h <;> omega
      · rcases h with h | h | h
        · omega
        · cases h
        · cases h
      · obtain ⟨x, hx, _⟩ := h
        cases hx
    · omega
    · rcases hj with h | h | h | h | h
      · omega
      · omega
      · exact HOX.out j h
      · rcases h with h | h | h <;> omega
      · rcases h with h | h | h
        · omega
        · cases h
        · cases h
end Go.Proofs.YtialjokdaniofaaGreat
end
