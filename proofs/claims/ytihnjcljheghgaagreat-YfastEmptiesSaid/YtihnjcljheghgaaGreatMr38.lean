/- Has, Next, Prev and what is told of the whole; the texts walked. A new y-fast trie; the texts walked. A y-fast trie with one bucket: awake; the texts walked. -/
import Derived.Test.YtihnjcljheghgaaGreatMr37
section
namespace Go.Proofs.YtihnjcljheghgaaGreat
set_option maxRecDepth 20000
open Go.RowKit
theorem y_next1 (w : World) (rep : Nat) (A : Option Addr) (n c : Nat) (ah be : Int) :
    Calls Tryz.prog 60 #[Yp.ndv rep A n c ah be] w fun e w' => e = .returned (.int .i64 be) ∧ Below w.heap.size w w' := by
  go_enter Tryz.func60, Tryz.ntmps60
  go_wp2
  go_ret
  exact ⟨rfl, (Below.refl _ w).alloc (Nat.le_refl _) _⟩
theorem y_prev1 (w : World) (rep : Nat) (A : Option Addr) (n c : Nat) (ah be : Int) :
    Calls Tryz.prog 62 #[Yp.ndv rep A n c ah be] w fun e w' => e = .returned (.int .i64 ah) ∧ Below w.heap.size w w' := by
  go_enter Tryz.func62, Tryz.ntmps62
  go_wp2
  go_ret
  exact ⟨rfl, (Below.refl _ w).alloc (Nat.le_refl _) _⟩
section
variable {w0 w : World} {O : Nat → Prop} {P M X T Q lim tk : Nat} {kn : Int} {rs : List Nat} {es : Es} {ns : List (Yp.Nd × Bool)} {fs : List Nat} {G : Nat → List Nat}
theorem yr_box1 {w1 W w' : World} {O1 : Nat → Prop} {b : Nat} (h01 : K.Chg w w1 O) (hO : ∀ j, O1 j → O j ∨ w.heap.size ≤ j) (hbw : w.heap.size ≤ b) (h : YR w1 O1 P M X T Q lim tk kn rs es ns fs G W) (hb : b < w1.heap.size) (hn : ¬ O1 b) (hk : ¬ KBl ns b) (ch : K.Chg W w' (· = b)) : YR w O P M X T Q lim tk kn rs es ns fs G w' := by
  obtain ⟨O6, hT6, hC6, hO6⟩ := h
  refine ⟨O6, hT6.chg ch (fun j hj e => ?_) (fun j hj e => ?_), (h01.trans hC6 hO).trans ch (fun j e => ?_), fun j hj => ?_⟩
  · have e2 : j = b := e
    subst e2
    rcases hO6 j hj with h | h
    · exact hn h
    · omega
  · have e2 : j = b := e
    subst e2
    exact hk hj
  · have e2 : j = b := e
    exact .inr (by omega)
  · rcases hO6 j hj with h | h
    · exact hO j h
    · exact .inr (Nat.le_trans h01.size h)
set_option maxHeartbeats 2000000 in
theorem has_T (h : YT w P M X T Q lim tk kn rs es ns fs G O) (k : Nat) (hk : k < 18446744073709551616) (i : Int) (rep : Nat) (ksA : Option Addr) (ksn ksc : Nat) (ah be : Int) (hs : Sel rs es ns k i ⟨rep, ksA, ksn, ksc, ah, be⟩) (xs : List Nat) (hx : Found ns G i ⟨rep, ksA, ksn, ksc, ah, be⟩ xs) (hu : K.Up xs) (few : xs.length ≤ 900) :
    Calls Tryz.prog 27 #[.pointer (some ⟨P, 0, none⟩), .int .u64 (k : Int)] w fun e w' => e = .returned (.bool (K.fo xs k)) ∧ ∃ t, t ≤ 11 ∧ YR w O P M X T Q lim t kn rs es ns fs G w' := by
  have HST := Lib.hid (y_start (YR.start h))
  have c0 := (YR.start h).c0
  have HSEL := Lib.hid hs
  have HF := Lib.hid hx
  clear h hs hx
  go_enter Tryz.func27, Tryz.ntmps27
  go_wp2_with (first
    | (go_at_call 46; (with_reducible refine HST.out.mono ?_); rintro e w1 ⟨rfl, h1⟩
       have HFI := Lib.hid (y_find h1 (by omega) k hk i _ HSEL.out)
       clear h1)
    | (go_at_call 47; (with_reducible refine HFI.out.mono ?_); rintro e w2 ⟨rfl, t, ht, h2⟩
       rw [Nat.zero_add] at h2
       have h2b := h2.below ((Below.refl _ w2).alloc (Nat.le_refl _) (Yp.ndo rep ksA ksn ksc ah be))
       have m1 := (Yp.nd_cells (K.alloc_top w2 (Yp.ndo rep ksA ksn ksc ah be))).2.1
       have HA := Lib.hid (Kb.b_has _ _ xs (HF.out.kx h2b) hu (by omega) k)
       have H2 := Lib.hid h2
       have HT := Lib.hid ht
       clear h2 ht h2b)
    | (go_at_call 57; (with_reducible refine HA.out.mono ?_); rintro e w3 ⟨rfl, rfl⟩))
  go_ret
  exact ⟨rfl, t, HT.out, H2.out.below ((Below.refl _ w2).alloc (Nat.le_refl _) _)⟩
set_option maxHeartbeats 2000000 in
theorem near_Next_yes_T (h : YT w P M X T Q lim tk kn rs es ns fs G O) (k : Nat) (hk : k < 18446744073709551616) (i : Int) (rep : Nat) (ksA : Option Addr) (ksn ksc : Nat) (ah be : Int) (hs : Sel rs es ns k i ⟨rep, ksA, ksn, ksc, ah, be⟩) (xs : List Nat) (hx : Found ns G i ⟨rep, ksA, ksn, ksc, ah, be⟩ xs) (hu : K.Up xs) (few : xs.length ≤ 900) (hin : K.nxb xs k = true) :
    Calls Tryz.prog 58 #[.pointer (some ⟨P, 0, none⟩), .int .u64 (k : Int), .func (.func 59) #[] #[], .func (.func 60) #[] #[]] w fun e w' => e = .returned (.tuple #[.int .u64 ((K.nx xs k : Nat) : Int), .bool true]) ∧ ∃ t, t ≤ 11 ∧ YR w O P M X T Q lim t kn rs es ns fs G w' := by
  have HST := Lib.hid (y_start (YR.start h))
  have c0 := (YR.start h).c0
  have HSEL := Lib.hid hs
  have HF := Lib.hid hx
  have HIN := Lib.hid hin
  clear h hs hx hin
  go_enter Tryz.func58, Tryz.ntmps58
  go_wp2_with (first
    | (go_at_call 46; (with_reducible refine HST.out.mono ?_); rintro e w1 ⟨rfl, h1⟩
       have HFI := Lib.hid (y_find h1 (by omega) k hk i _ HSEL.out)
       clear h1)
    | (go_at_call 47; (with_reducible refine HFI.out.mono ?_); rintro e w2 ⟨rfl, t, ht, h2⟩
       rw [Nat.zero_add] at h2
       have h2b := h2.below ((Below.refl _ w2).alloc (Nat.le_refl _) (Yp.ndo rep ksA ksn ksc ah be))
       have m1 := (Yp.nd_cells (K.alloc_top w2 (Yp.ndo rep ksA ksn ksc ah be))).2.1
       have HA := Lib.hid (Kb.b_next _ _ xs (HF.out.kx h2b) hu (by omega) k)
       have H2 := Lib.hid h2
       have HT := Lib.hid ht
       clear h2 ht h2b)
    | (go_at_call 59; (with_reducible refine HA.out.mono ?_); rintro e w3 ⟨rfl, rfl⟩; rw [HIN.out]))
  go_ret2
  exact ⟨rfl, t, HT.out, H2.out.below ((Below.refl _ w2).alloc (Nat.le_refl _) _)⟩
set_option maxHeartbeats 4000000 in
theorem near_Next_no_T (h : YT w P M X T Q lim tk kn rs es ns fs G O) (k : Nat) (hk : k < 18446744073709551616) (i : Int) (rep : Nat) (ksA : Option Addr) (ksn ksc : Nat) (ah be : Int) (hs : Sel rs es ns k i ⟨rep, ksA, ksn, ksc, ah, be⟩) (xs : List Nat) (hx : Found ns G i ⟨rep, ksA, ksn, ksc, ah, be⟩ xs) (hu : K.Up xs) (few : xs.length ≤ 900) (hin : K.nxb xs k = false) (b1 : Bool) (rb : Nat) (Ab : Option Addr) (nb cb : Nat) (ab bb : Int) (hb : AtH ns be b1 rb Ab nb cb ab bb) (ys : List Nat) (hy : (b1 = false ∧ ys = []) ∨ (b1 = true ∧ ys = G be.toNat)) (hu2 : K.Up ys) (few2 : ys.length ≤ 900) :
    Calls Tryz.prog 58 #[.pointer (some ⟨P, 0, none⟩), .int .u64 (k : Int), .func (.func 59) #[] #[], .func (.func 60) #[] #[]] w fun e w' => e = .returned (.tuple #[.int .u64 ((K.nx ys k : Nat) : Int), .bool (K.nxb ys k)]) ∧ ∃ t, t ≤ 12 ∧ YR w O P M X T Q lim t kn rs es ns fs G w' := by
  have HST := Lib.hid (y_start (YR.start h))
  have c0 := (YR.start h).c0
  have HSEL := Lib.hid hs
  have HF := Lib.hid hx
  have HIN := Lib.hid hin
  have HBH := Lib.hid hb
  have hkx : ∀ w0 O w2 t, YR w0 O P M X T Q lim t kn rs es ns fs G w2 → KX w2 (.slice Ab nb cb) ys := fun w0 O w2 t h2 => by
    rcases hb with ⟨rfl, j, hj, hn⟩ | ⟨rfl, _, _, rfl, rfl, rfl, _, _⟩
    · rcases hy with ⟨e, _⟩ | ⟨_, rfl⟩
      · cases e
      · rw [hj, Int.toNat_natCast]
        exact h2.kx hn
    · rcases hy with ⟨_, rfl⟩ | ⟨e, _⟩
      · exact kx_none _ _ rfl
      · cases e
  have HKX := Lib.hid hkx
  clear h hs hx hin hb hy hkx
  go_enter Tryz.func58, Tryz.ntmps58
  go_wp2_with (first
    | (go_at_call 46; (with_reducible refine HST.out.mono ?_); rintro e w1 ⟨rfl, h1⟩
       have HFI := Lib.hid (y_find h1 (by omega) k hk i _ HSEL.out)
       clear h1)
    | (go_at_call 47; (with_reducible refine HFI.out.mono ?_); rintro e w2 ⟨rfl, t, ht, h2⟩
       rw [Nat.zero_add] at h2
       have hb1 : Below w2.heap.size w2 (w2.alloc (Yp.ndo rep ksA ksn ksc ah be)) := (Below.refl _ w2).alloc (Nat.le_refl _) _
       have r6 : (w2.alloc (Yp.ndo rep ksA ksn ksc ah be)).heap[w2.heap.size]? = some (Yp.ndo rep ksA ksn ksc ah be) := K.alloc_top w2 _
       obtain ⟨m0, m1, m2, m3⟩ := Yp.nd_cells r6
       obtain ⟨O1, hT1, hC1, hO1⟩ := h2
       have hl1 := hT1.lt
       have hn1 : ¬ O1 w2.heap.size := fun ho => (by have := hl1.1 _ ho; omega)
       have hy1 := YR.start (hT1.below hb1)
       have HA := Lib.hid (Kb.b_next _ _ xs (HF.out.kx hy1) hu (by omega) k)
       have hd : YR (w2.alloc (Yp.ndo rep ksA ksn ksc ah be)) O1 P M X T Q lim t kn rs es ns fs G (w2.alloc (Yp.ndo rep ksA ksn ksc ah be)).drew := hy1.drewN 1
       have cd3 : (w2.alloc (Yp.ndo rep ksA ksn ksc ah be)).drew.cell? ⟨P, 3, none⟩ = some (.pointer (some ⟨Q, 0, none⟩)) := hd.c3
       have md0 : (w2.alloc (Yp.ndo rep ksA ksn ksc ah be)).drew.cell? ⟨w2.heap.size, 0, none⟩ = some (.int .u64 (rep : Int)) := m0
       have md1 : (w2.alloc (Yp.ndo rep ksA ksn ksc ah be)).drew.cell? ⟨w2.heap.size, 1, none⟩ = some (.slice ksA ksn ksc) := m1
       have md2 : (w2.alloc (Yp.ndo rep ksA ksn ksc ah be)).drew.cell? ⟨w2.heap.size, 2, none⟩ = some (.int .i64 ah) := m2
       have md3 : (w2.alloc (Yp.ndo rep ksA ksn ksc ah be)).drew.cell? ⟨w2.heap.size, 3, none⟩ = some (.int .i64 be) := m3
       have HN1x := Lib.hid (y_next1 (w2.alloc (Yp.ndo rep ksA ksn ksc ah be)).drew rep ksA ksn ksc ah be)
       have HD := Lib.hid hd
       have R6 := Lib.hid r6
       have HKL := Lib.hid (hl1.2 : ∀ q, KBl ns q → q < w2.heap.size)
       have HN1 := Lib.hid hn1
       have HC1 := Lib.hid hC1
       have HO1 := Lib.hid hO1
       have HB1 := Lib.hid hb1
       have HT := Lib.hid ht
       clear hb1 r6 hT1 hC1 hO1 hl1 hn1 hy1 ht hd)
    | (go_at_call 59; (with_reducible refine HA.out.mono ?_); rintro e w3 ⟨rfl, rfl⟩; rw [HIN.out]))
  go_region_with (first
    | (go_at_call 60; (with_reducible refine HN1x.out.mono ?_); rintro e w4 ⟨rfl, hb4⟩
       have h4 := HD.out.below hb4
       have c43 := h4.c3
       have HAT := Lib.hid (y_at_any h4 (by have := HT.out; omega) be b1 rb Ab nb cb ab bb HBH.out)
       clear hb4 h4)
    | (go_at_call 84; (with_reducible refine HAT.out.mono ?_); rintro e w5 ⟨rfl, t5, ht5, h5⟩
       have p5 := (h5.same (row_lt R6.out) HN1.out).trans R6.out
       have f50 := frozen_of_row w5 _ 0 _ _ p5
       have f51 := frozen_of_row w5 _ 1 _ _ p5
       have f52 := frozen_of_row w5 _ 2 _ _ p5
       have f53 := frozen_of_row w5 _ 3 _ _ p5
       obtain ⟨k50, k51, k52, k53⟩ := Yp.nd_cells p5
       have P5 := Lib.hid p5
       have H5 := Lib.hid h5
       have HT5 := Lib.hid ht5
       clear h5 ht5 p5))
  all_goals
    have hrow := Yp.row_z5 P5.out (.int .u64 (rb : Int)) (.slice Ab nb cb) (.int .i64 ab) (.int .i64 bb)
    have hch := Yp.chg_five w5 w2.heap.size 0 1 2 3 (.int .u64 (rb : Int)) (.slice Ab nb cb) (.int .i64 ab) (.int .i64 bb) (· = w2.heap.size) rfl
    have hk5 := HKX.out _ _ _ _ H5.out
    have HA2 := Lib.hid (Kb.b_next _ _ ys (kx_chg hk5 hch (fun q hq hqq => (kx_bt hk5 hq).ne ⟨_, P5.out⟩ (by decide) hqq)) hu2 (by omega) k)
    have g1 := (Yp.nd_cells hrow).2.1
    have hbk : ¬ KBl ns w2.heap.size := fun q => by have := HKL.out _ q; omega
    have HY := Lib.hid (yr_box1 (HC1.out.trans (K.Chg.of_below (O := O1) HB1.out) (fun q hq => HO1.out q hq)) HO1.out HC1.out.size H5.out (row_lt R6.out) HN1.out hbk hch)
    clear hrow hch hk5 hbk
    go_wp2_with (go_at_call 59; (with_reducible refine HA2.out.mono ?_); rintro e w6 ⟨rfl, rfl⟩)
    go_ret2
    exact ⟨rfl, t + t5, by have := HT.out; have := HT5.out; omega, HY.out⟩
set_option maxHeartbeats 2000000 in
theorem near_Prev_yes_T (h : YT w P M X T Q lim tk kn rs es ns fs G O) (k : Nat) (hk : k < 18446744073709551616) (i : Int) (rep : Nat) (ksA : Option Addr) (ksn ksc : Nat) (ah be : Int) (hs : Sel rs es ns k i ⟨rep, ksA, ksn, ksc, ah, be⟩) (xs : List Nat) (hx : Found ns G i ⟨rep, ksA, ksn, ksc, ah, be⟩ xs) (hu : K.Up xs) (few : xs.length ≤ 900) (hin : K.pvb xs k = true) :
    Calls Tryz.prog 58 #[.pointer (some ⟨P, 0, none⟩), .int .u64 (k : Int), .func (.func 61) #[] #[], .func (.func 62) #[] #[]] w fun e w' => e = .returned (.tuple #[.int .u64 ((K.pv xs k : Nat) : Int), .bool true]) ∧ ∃ t, t ≤ 11 ∧ YR w O P M X T Q lim t kn rs es ns fs G w' := by
  have HST := Lib.hid (y_start (YR.start h))
  have c0 := (YR.start h).c0
  have HSEL := Lib.hid hs
  have HF := Lib.hid hx
  have HIN := Lib.hid hin
  clear h hs hx hin
  go_enter Tryz.func58, Tryz.ntmps58
  go_wp2_with (first
    | (go_at_call 46; (with_reducible refine HST.out.mono ?_); rintro e w1 ⟨rfl, h1⟩
       have HFI := Lib.hid (y_find h1 (by omega) k hk i _ HSEL.out)
       clear h1)
    | (go_at_call 47; (with_reducible refine HFI.out.mono ?_); rintro e w2 ⟨rfl, t, ht, h2⟩
       rw [Nat.zero_add] at h2
       have h2b := h2.below ((Below.refl _ w2).alloc (Nat.le_refl _) (Yp.ndo rep ksA ksn ksc ah be))
       have m1 := (Yp.nd_cells (K.alloc_top w2 (Yp.ndo rep ksA ksn ksc ah be))).2.1
       have HA := Lib.hid (Kb.b_prev _ _ xs (HF.out.kx h2b) hu (by omega) k)
       have H2 := Lib.hid h2
       have HT := Lib.hid ht
       clear h2 ht h2b)
    | (go_at_call 61; (with_reducible refine HA.out.mono ?_); rintro e w3 ⟨rfl, rfl⟩; rw [HIN.out]))
  go_ret2
  exact ⟨rfl, t, HT.out, H2.out.below ((Below.refl _ w2).alloc (Nat.le_refl _) _)⟩
set_option maxHeartbeats 4000000 in
theorem near_Prev_no_T (h : YT w P M X T Q lim tk kn rs es ns fs G O) (k : Nat) (hk : k < 18446744073709551616) (i : Int) (rep : Nat) (ksA : Option Addr) (ksn ksc : Nat) (ah be : Int) (hs : Sel rs es ns k i ⟨rep, ksA, ksn, ksc, ah, be⟩) (xs : List Nat) (hx : Found ns G i ⟨rep, ksA, ksn, ksc, ah, be⟩ xs) (hu : K.Up xs) (few : xs.length ≤ 900) (hin : K.pvb xs k = false) (b1 : Bool) (rb : Nat) (Ab : Option Addr) (nb cb : Nat) (ab bb : Int) (hb : AtH ns ah b1 rb Ab nb cb ab bb) (ys : List Nat) (hy : (b1 = false ∧ ys = []) ∨ (b1 = true ∧ ys = G ah.toNat)) (hu2 : K.Up ys) (few2 : ys.length ≤ 900) :
    Calls Tryz.prog 58 #[.pointer (some ⟨P, 0, none⟩), .int .u64 (k : Int), .func (.func 61) #[] #[], .func (.func 62) #[] #[]] w fun e w' => e = .returned (.tuple #[.int .u64 ((K.pv ys k : Nat) : Int), .bool (K.pvb ys k)]) ∧ ∃ t, t ≤ 12 ∧ YR w O P M X T Q lim t kn rs es ns fs G w' := by
  have HST := Lib.hid (y_start (YR.start h))
  have c0 := (YR.start h).c0
  have HSEL := Lib.hid hs
  have HF := Lib.hid hx
  have HIN := Lib.hid hin
  have HBH := Lib.hid hb
  have hkx : ∀ w0 O w2 t, YR w0 O P M X T Q lim t kn rs es ns fs G w2 → KX w2 (.slice Ab nb cb) ys := fun w0 O w2 t h2 => by
    rcases hb with ⟨rfl, j, hj, hn⟩ | ⟨rfl, _, _, rfl, rfl, rfl, _, _⟩
    · rcases hy with ⟨e, _⟩ | ⟨_, rfl⟩
      · cases e
      · rw [hj, Int.toNat_natCast]
        exact h2.kx hn
    · rcases hy with ⟨_, rfl⟩ | ⟨e, _⟩
      · exact kx_none _ _ rfl
      · cases e
  have HKX := Lib.hid hkx
  clear h hs hx hin hb hy hkx
  go_enter Tryz.func58, Tryz.ntmps58
  go_wp2_with (first
    | (go_at_call 46; (with_reducible refine HST.out.mono ?_); rintro e w1 ⟨rfl, h1⟩
       have HFI := Lib.hid (y_find h1 (by omega) k hk i _ HSEL.out)
       clear h1)
    | (go_at_call 47; (with_reducible refine HFI.out.mono ?_); rintro e w2 ⟨rfl, t, ht, h2⟩
       rw [Nat.zero_add] at h2
       have hb1 : Below w2.heap.size w2 (w2.alloc (Yp.ndo rep ksA ksn ksc ah be)) := (Below.refl _ w2).alloc (Nat.le_refl _) _
       have r6 : (w2.alloc (Yp.ndo rep ksA ksn ksc ah be)).heap[w2.heap.size]? = some (Yp.ndo rep ksA ksn ksc ah be) := K.alloc_top w2 _
       obtain ⟨m0, m1, m2, m3⟩ := Yp.nd_cells r6
       obtain ⟨O1, hT1, hC1, hO1⟩ := h2
       have hl1 := hT1.lt
       have hn1 : ¬ O1 w2.heap.size := fun ho => (by have := hl1.1 _ ho; omega)
       have hy1 := YR.start (hT1.below hb1)
       have HA := Lib.hid (Kb.b_prev _ _ xs (HF.out.kx hy1) hu (by omega) k)
       have hd : YR (w2.alloc (Yp.ndo rep ksA ksn ksc ah be)) O1 P M X T Q lim t kn rs es ns fs G (w2.alloc (Yp.ndo rep ksA ksn ksc ah be)).drew := hy1.drewN 1
       have cd3 : (w2.alloc (Yp.ndo rep ksA ksn ksc ah be)).drew.cell? ⟨P, 3, none⟩ = some (.pointer (some ⟨Q, 0, none⟩)) := hd.c3
       have md0 : (w2.alloc (Yp.ndo rep ksA ksn ksc ah be)).drew.cell? ⟨w2.heap.size, 0, none⟩ = some (.int .u64 (rep : Int)) := m0
       have md1 : (w2.alloc (Yp.ndo rep ksA ksn ksc ah be)).drew.cell? ⟨w2.heap.size, 1, none⟩ = some (.slice ksA ksn ksc) := m1
       have md2 : (w2.alloc (Yp.ndo rep ksA ksn ksc ah be)).drew.cell? ⟨w2.heap.size, 2, none⟩ = some (.int .i64 ah) := m2
       have md3 : (w2.alloc (Yp.ndo rep ksA ksn ksc ah be)).drew.cell? ⟨w2.heap.size, 3, none⟩ = some (.int .i64 be) := m3
       have HN1x := Lib.hid (y_prev1 (w2.alloc (Yp.ndo rep ksA ksn ksc ah be)).drew rep ksA ksn ksc ah be)
       have HD := Lib.hid hd
       have R6 := Lib.hid r6
       have HKL := Lib.hid (hl1.2 : ∀ q, KBl ns q → q < w2.heap.size)
       have HN1 := Lib.hid hn1
       have HC1 := Lib.hid hC1
       have HO1 := Lib.hid hO1
       have HB1 := Lib.hid hb1
       have HT := Lib.hid ht
       clear hb1 r6 hT1 hC1 hO1 hl1 hn1 hy1 ht hd)
    | (go_at_call 61; (with_reducible refine HA.out.mono ?_); rintro e w3 ⟨rfl, rfl⟩; rw [HIN.out]))
  go_region_with (first
    | (go_at_call 62; (with_reducible refine HN1x.out.mono ?_); rintro e w4 ⟨rfl, hb4⟩
       have h4 := HD.out.below hb4
       have c43 := h4.c3
       have HAT := Lib.hid (y_at_any h4 (by have := HT.out; omega) ah b1 rb Ab nb cb ab bb HBH.out)
       clear hb4 h4)
    | (go_at_call 84; (with_reducible refine HAT.out.mono ?_); rintro e w5 ⟨rfl, t5, ht5, h5⟩
       have p5 := (h5.same (row_lt R6.out) HN1.out).trans R6.out
       have f50 := frozen_of_row w5 _ 0 _ _ p5
       have f51 := frozen_of_row w5 _ 1 _ _ p5
       have f52 := frozen_of_row w5 _ 2 _ _ p5
       have f53 := frozen_of_row w5 _ 3 _ _ p5
       obtain ⟨k50, k51, k52, k53⟩ := Yp.nd_cells p5
       have P5 := Lib.hid p5
       have H5 := Lib.hid h5
       have HT5 := Lib.hid ht5
       clear h5 ht5 p5))
  all_goals
    have hrow := Yp.row_z5 P5.out (.int .u64 (rb : Int)) (.slice Ab nb cb) (.int .i64 ab) (.int .i64 bb)
    have hch := Yp.chg_five w5 w2.heap.size 0 1 2 3 (.int .u64 (rb : Int)) (.slice Ab nb cb) (.int .i64 ab) (.int .i64 bb) (· = w2.heap.size) rfl
    have hk5 := HKX.out _ _ _ _ H5.out
    have HA2 := Lib.hid (Kb.b_prev _ _ ys (kx_chg hk5 hch (fun q hq hqq => (kx_bt hk5 hq).ne ⟨_, P5.out⟩ (by decide) hqq)) hu2 (by omega) k)
    have g1 := (Yp.nd_cells hrow).2.1
    have hbk : ¬ KBl ns w2.heap.size := fun q => by have := HKL.out _ q; omega
    have HY := Lib.hid (yr_box1 (HC1.out.trans (K.Chg.of_below (O := O1) HB1.out) (fun q hq => HO1.out q hq)) HO1.out HC1.out.size H5.out (row_lt R6.out) HN1.out hbk hch)
    clear hrow hch hk5 hbk
    go_wp2_with (go_at_call 61; (with_reducible refine HA2.out.mono ?_); rintro e w6 ⟨rfl, rfl⟩)
    go_ret2
    exact ⟨rfl, t + t5, by have := HT.out; have := HT5.out; omega, HY.out⟩
theorem YR.len (h : YR w0 O P M X T Q lim tk kn rs es ns fs G w) : Calls Tryz.prog 33 #[.pointer (some ⟨P, 0, none⟩)] w fun e w' => e = .returned (.int .i64 kn) ∧ w' = w := by
  have c4 := h.c4
  clear h
  go_enter Tryz.func33, Tryz.ntmps33
  go_wp2
  go_ret
  exact ⟨rfl, rfl⟩
theorem YR.limit (h : YR w0 O P M X T Q lim tk kn rs es ns fs G w) : Calls Tryz.prog 21 #[.pointer (some ⟨P, 0, none⟩)] w fun e w' => e = .returned (.int .i64 (lim : Int)) ∧ w' = w := by
  have c5 := h.c5
  clear h
  go_enter Tryz.func21, Tryz.ntmps21
  go_wp2
  go_ret
  exact ⟨rfl, rfl⟩
theorem YR.buckets (h : YR w0 O P M X T Q lim tk kn rs es ns fs G w) : Calls Tryz.prog 16 #[.pointer (some ⟨P, 0, none⟩)] w fun e w' => e = .returned (.int .i64 ((ns.length - fs.length : Nat) : Int)) ∧ YR w0 O P M X T Q lim tk kn rs es ns fs G w' := by
  have c3 := h.c3
  have HL := Lib.hid h.plen
  clear h
  go_enter Tryz.func16, Tryz.ntmps16
  go_wp2_with (go_at_call 42; (with_reducible refine HL.out.mono ?_); rintro e w1 ⟨rfl, h1⟩; have H1 := Lib.hid h1; clear h1)
  go_ret
  exact ⟨rfl, H1.out⟩
end
end Go.Proofs.YtihnjcljheghgaaGreat
end
section
namespace Go.Proofs.YtihnjcljheghgaaGreat
set_option maxRecDepth 20000
open Go.RowKit
theorem cell_moreY {w : World} {p : Addr} {v : Value} (h : w.cell? p = some v) (o : Obj) : (w.alloc o).cell? p = some v := by
  letI : Gh := ⟨0, 0⟩
  exact cell_more h o
set_option maxHeartbeats 2000000 in
theorem y_new (w : World) (sd n : Nat) (hn : n ≤ 500000) : Calls Tryz.prog 9 #[.int .u64 (sd : Int), .int .i64 (n : Int)] w fun e w' => ∃ P M X T Q O, e = .returned (.tuple #[.pointer (some ⟨P, 0, none⟩), .int .i64 0]) ∧ YT w' P M X T Q n 0 0 [] [] [] [] (fun _ => []) O ∧ Below w.heap.size w w' ∧ ∀ j, O j → w.heap.size ≤ j := by
  have hx : Calls Tryz.prog 35 #[.int .u64 (sd : Int), .int .i64 (n : Int)] w fun e w' => ∃ Xb r c O, e = .returned (.tuple #[.pointer (some ⟨Xb, 0, none⟩), .int .i64 0]) ∧ XG r c w' Xb [] n 2000000 O ∧ Below w.heap.size w w' ∧ ∀ j, O j → w.heap.size ≤ j := by
    letI : Gh := ⟨0, 0⟩
    refine (xf_new w sd n hn ⟨rfl, rfl⟩).mono ?_
    rintro e w' ⟨Xb, tk, O, he, hz, hb, hO⟩
    obtain ⟨_, r, c, _, _, _, _, _, hx, _⟩ := xg_now (show XG 0 0 w' Xb [] n tk O from hz)
    exact ⟨Xb, r, c, O, he, hx, hb, hO⟩
  have HX := Lib.hid hx
  have HNN := Lib.hid hn
  clear hx hn
  go_enter Tryz.func9, Tryz.ntmps9
  go_wp2_with (first
    | (go_at_call 35; (with_reducible refine HX.out.mono ?_); rintro e w1 ⟨Xb, r, c, OX, rfl, hxz, hb1, hOX⟩
       have HXZ := Lib.hid hxz
       have HB1 := Lib.hid hb1
       have HOX := Lib.hid hOX
       have HQ := Lib.hid (Yp.q_new w1 n (by have := HNN.out; omega))
       clear hxz hb1 hOX)
    | (go_at_call 36; (with_reducible refine HQ.out.mono ?_); rintro e w2 ⟨Q, M, rfl, hq, hm, q1, q2, hb2⟩
       have hqd : Yp.Qo w2.drew Q M n none 0 none 0 [] [] := hq.chg ((chg_refl w2 (fun _ => False)).drewN 1) (fun _ _ h => h)
       have hmd : Yp.Mx w2.drew M 0 := hm.chg ((chg_refl w2 (fun _ => False)).drewN 1) (fun h => h)
       have HS1 := Lib.hid hqd.c0
       have HQD := Lib.hid hqd
       have HMD := Lib.hid hmd
       have HB2 : Hid (Below w1.heap.size w1 w2.drew) := Lib.hid hb2.drew
       have HA := Lib.hid (And.intro q1 q2)
       have HN := Lib.hid (Hs.tab_new_nil w2.drew sd)
       clear hq hm hqd hmd q1 q2 hb2))
  go_region_held3 (fun Y => Y.cell? ⟨Q, 0, none⟩ = some (.pointer (some ⟨M, 0, none⟩))) (first | (with_reducible exact HS1.out) | (with_reducible exact HS2.out) | (with_reducible exact HS3.out _) | go_keep)
    ((go_at_call 37; (with_reducible refine HN.out.mono ?_); rintro e w3 ⟨Pt, Qt, Mt, rfl, ht, hb3, p1, p2, p3⟩
      have hs2 : w3.cell? ⟨Q, 0, none⟩ = some (.pointer (some ⟨M, 0, none⟩)) := (HQD.out.chg (K.Chg.of_below (O := fun _ => False) hb3) (fun _ _ h => h)).c0
      have HS2 := Lib.hid hs2
      have HS3 := Lib.hid (fun o => cell_moreY hs2 o)
      have HT := Lib.hid ht
      have HB3 := Lib.hid hb3
      have HP := Lib.hid (And.intro p1 (And.intro p2 p3))
      clear ht hb3 p1 p2 p3 hs2))
  all_goals
    go_wp2
    go_ret2
    obtain ⟨W4, hW4⟩ : ∃ W4, w3.alloc (.cells #[.pointer (some ⟨M, 0, none⟩), .pointer (some ⟨Xb, 0, none⟩), .pointer (some ⟨Pt, 0, none⟩), .pointer (some ⟨Q, 0, none⟩), .int .i64 0, .int .i64 (n : Int)] 45) = W4 := ⟨_, rfl⟩
    have hrow : W4.heap[w3.heap.size]? = some (yrow w3.heap.size M Xb Pt Q n 0) := by rw [← hW4]; exact K.alloc_top _ _
    have hca : K.Chg w3 W4 (fun _ => False) := by rw [← hW4]; exact chg_alloc w3 _ _
    have hb34 : Below w2.drew.heap.size w2.drew W4 := by rw [← hW4]; exact HB3.out.alloc HB3.out.size _
    have hc34 := K.Chg.of_below (O := fun _ => False) hb34
    have hb24 : Below w1.heap.size w1 W4 := HB2.out.trans (hb34.mono HB2.out.size)
    have hc24 := K.Chg.of_below (O := fun _ => False) hb24
    obtain ⟨p1, p2, p3⟩ := HP.out
    obtain ⟨q1, q2⟩ := HA.out
    have hz1 := HB1.out.size
    have hz2 := HB2.out.size
    have hz3 := HB3.out.size
    have hM := HMD.out.lt
    have hMt : w2.drew.heap.size ≤ Mt := by
      rcases p3 with p3 | p3
      · cases p3
      · exact p3.2
    have hxl := xg_lt HXZ.out
    rw [hW4]
    refine ⟨w3.heap.size, M, Xb, Pt, Q, _, rfl, ⟨OX, r, c, sd, Qt, Mt, 8, 0, none, 0, none, 0, ⟨hrow, HMD.out.chg hc34 (fun h => h), xg_chg HXZ.out hc24 (fun _ _ h => h), HT.out.but (ButS.of_chg hca) (fun _ _ h => h), HQD.out.chg hc34 (fun _ _ h => h), fun i hi => absurd hi (Nat.not_lt_zero _), fun j hj => ?_, ?_⟩, rfl⟩, HB1.out.trans (hb24.mono hz1), fun j hj => ?_⟩
    · have := hxl j hj
      refine ⟨by omega, by omega, fun h => ?_, fun h => ?_, fun h => ?_⟩
      · rcases h with h | h | h <;> omega
      · rcases h with h | h | h
        · omega
        · cases h
        · cases h
      · obtain ⟨x, hx, _⟩ := h
        cases hx
    · omega
    · rcases hj with h | h | h | h | h
      · omega
      · omega
      · exact HOX.out j h
      · rcases h with h | h | h <;> omega
      · rcases h with h | h | h
        · omega
        · cases h
        · cases h
end Go.Proofs.YtihnjcljheghgaaGreat
end
section
namespace Go.Proofs.YtihnjcljheghgaaGreat
set_option maxRecDepth 20000
open Go.RowKit
/-- A trie with one bucket, that of key 0, seen from a world before it. -/
def One (w : World) (P lim : Nat) (xs : List Nat) (w' : World) : Prop :=
  ∃ M X T Q tk a A c ns fs G O, YT w' P M X T Q lim tk (xs.length : Int) [0] [((0, 0), a)] ns fs G O ∧ ns[a]? = some (⟨0, A, xs.length, c, -1, -1⟩, true) ∧ G a = xs ∧ ns.length - fs.length = 1 ∧ a < 1048576 ∧ Below w.heap.size w w' ∧ ∀ j, O j → w.heap.size ≤ j
/-- One without keys. -/
def Zero (w : World) (P lim : Nat) (w' : World) : Prop :=
  ∃ M X T Q tk G O, YT w' P M X T Q lim tk 0 [] [] [] [] G O ∧ Below w.heap.size w w' ∧ ∀ j, O j → w.heap.size ≤ j
theorem yr_low {w w0 w' : World} {P M X T Q lim tk : Nat} {kn : Int} {rs : List Nat} {es : Es} {ns : List (Yp.Nd × Bool)} {fs : List Nat} {G : Nat → List Nat} {O : Nat → Prop} (hb : Below w.heap.size w w0) (hO : ∀ j, O j → w.heap.size ≤ j) (h : YR w0 O P M X T Q lim tk kn rs es ns fs G w') :
    ∃ O', YT w' P M X T Q lim tk kn rs es ns fs G O' ∧ Below w.heap.size w w' ∧ ∀ j, O' j → w.heap.size ≤ j := by
  obtain ⟨O', hT, hC, hO'⟩ := h
  refine ⟨O', hT, hb.trans (hC.below hb.size hO), fun j hj => ?_⟩
  rcases hO' j hj with h | h
  · exact hO j h
  · exact Nat.le_trans hb.size h
theorem One.low {w w' : World} {P lim : Nat} {xs : List Nat} (h : One w P lim xs w') : Below w.heap.size w w' := by
  obtain ⟨_, _, _, _, _, _, _, _, _, _, _, _, _, _, _, _, _, hb, _⟩ := h
  exact hb
theorem sel_one {a : Nat} {A : Option Addr} {n c k : Nat} {ns : List (Yp.Nd × Bool)} (hk : K.pvb [0] k = true ∧ K.pv [0] k = 0) (ha : a < 1048576) (hn : ns[a]? = some (⟨0, A, n, c, -1, -1⟩, true)) : Sel [0] [((0, 0), a)] ns k (a : Int) ⟨0, A, n, c, -1, -1⟩ := by
  refine .inr ⟨hk.1, a, rfl, ?_, ha, hn⟩
  rw [hk.2]
  simp
theorem zero_insert {w w0 : World} {P : Nat} (h : Zero w P 4000 w0) : Calls Tryz.prog 24 #[.pointer (some ⟨P, 0, none⟩), .int .u64 5] w0 fun e w' => e = .returned (.int .i64 0) ∧ One w P 4000 [5] w' := by
  obtain ⟨M, X, T, Q, tk, G, O, hT, hb, hO⟩ := h
  refine (ins_ok1_T hT 5 (by decide) (-1) 0 none 0 0 (-1) (-1) (.inl ⟨rfl, rfl, rfl⟩) [] (.inl ⟨rfl, rfl, rfl⟩) List.Pairwise.nil (by decide) rfl 0 rfl (by decide) 0 [] [5] rfl rfl rfl 0 1 rfl rfl (by decide) (by decide) (fun _ => ⟨by decide, by decide⟩) 0 68 (by decide) (by decide) G rfl (by decide) (by decide) (by decide) (by simp) (by decide)).mono ?_
  rintro e w' ⟨rfl, t, ht, A1, c1, A2, c2, a, ns2, fs2, hF, hy⟩
  obtain ⟨O', hT', hb', hO'⟩ := yr_low hb hO hy
  have hn := hF.2.2.1
  have hbh : beh (Yp.setk [] (-1) A1 0 c1) (-1) = -1 := by
    unfold beh
    rw [if_neg (by rw [Yp.lvq_neg (by decide)]; decide)]
  rw [hbh] at hT'
  have hneg : ∀ (ns : List (Yp.Nd × Bool)) (b : Int), Yp.setb ns (-1) b = ns ∧ Yp.seta ns (-1) b = ns := fun ns b => by
    unfold Yp.setb Yp.seta
    rw [if_neg (by rw [Yp.lvq_neg (by decide)]; decide), if_neg (by rw [Yp.lvq_neg (by decide)]; decide)]
    exact ⟨rfl, rfl⟩
  rw [(hneg _ _).1, (hneg _ _).2] at hT'
  rw [show K.inL K.xfast [] 4000 0 = [0] by decide] at hT'
  refine ⟨rfl, M, X, T, Q, t, a, A2, c2, Yp.setb (Yp.seta ns2 (a : Int) (-1)) (a : Int) (-1), fs2, upd G a [5], O', ?_, ?_, ?_, ?_, hF.2.2.2.2.2, hb', hO'⟩
  · exact hT'
  · exact Yp.setb_at (Yp.seta_at hn (-1)) (-1)
  · unfold upd
    rw [if_pos rfl]
  · rw [Yp.setb_len, Yp.seta_len]
    have := hF.2.2.2.2.1
    rw [setk_len] at this
    exact this
theorem one_insert {w w0 : World} {P : Nat} (h : One w P 4000 [5] w0) : Calls Tryz.prog 24 #[.pointer (some ⟨P, 0, none⟩), .int .u64 9] w0 fun e w' => e = .returned (.int .i64 0) ∧ One w P 4000 [5, 9] w' := by
  obtain ⟨M, X, T, Q, tk, a, A, c, ns, fs, G, O, hT, hn, hg, hl, ha, hb, hO⟩ := h
  have hne : (a : Int) ≠ -1 := by omega
  refine (ins_ok0_T hT 9 (by decide) (a : Int) 0 A 1 c (-1) (-1) (sel_one ⟨by decide, by decide⟩ ha hn) [5] (.inr ⟨a, rfl, hn, hg.symm⟩) (by decide) (by decide) (by decide) 1 rfl (by decide) 0 [5, 9] [] ?_ ?_ ?_ 2 0 rfl rfl (by decide) (by decide) (fun e => absurd rfl e) 68 1 ?_ (by decide) (upd G a [5, 9]) (by rw [if_neg hne]; rfl) (by decide) rfl).mono ?_
  · unfold cuty
    rw [if_neg hne, if_neg (by decide)]
  · unfold cut1
    rw [if_neg hne, if_neg (by decide)]
    decide
  · unfold cut2
    rw [if_neg hne, if_neg (by decide)]
  · rw [hl]
    decide
  · rintro e w' ⟨rfl, t, ht, A1, c1, hy⟩
    obtain ⟨O', hT', hb', hO'⟩ := yr_low hb hO hy
    refine ⟨rfl, M, X, T, Q, t, a, A1, c1, Yp.setk ns (a : Int) A1 2 c1, fs, upd G a [5, 9], O', hT', setk_at hn, ?_, ?_, ha, hb', hO'⟩
    · unfold upd
      rw [if_pos rfl]
    · rw [setk_len]
      exact hl
theorem one_again {w w0 : World} {P : Nat} (h : One w P 4000 [5, 9] w0) : Calls Tryz.prog 24 #[.pointer (some ⟨P, 0, none⟩), .int .u64 9] w0 fun e w' => e = .returned (.int .i64 4) ∧ One w P 4000 [5, 9] w' := by
  obtain ⟨M, X, T, Q, tk, a, A, c, ns, fs, G, O, hT, hn, hg, hl, ha, hb, hO⟩ := h
  refine (ins_in_T hT 9 (by decide) (a : Int) 0 A 2 c (-1) (-1) (sel_one ⟨by decide, by decide⟩ ha hn) [5, 9] (.inr ⟨a, rfl, hn, hg.symm⟩) (by decide) (by decide) (by decide)).mono ?_
  rintro e w' ⟨rfl, t, ht, hy⟩
  obtain ⟨O', hT', hb', hO'⟩ := yr_low hb hO hy
  exact ⟨rfl, M, X, T, Q, t, a, A, c, ns, fs, G, O', hT', hn, hg, hl, ha, hb', hO'⟩
theorem one_next {w w0 : World} {P : Nat} (h : One w P 4000 [5, 9] w0) : Calls Tryz.prog 30 #[.pointer (some ⟨P, 0, none⟩), .int .u64 6] w0 fun e w' => e = .returned (.tuple #[.int .u64 9, .bool true]) ∧ One w P 4000 [5, 9] w' := by
  obtain ⟨M, X, T, Q, tk, a, A, c, ns, fs, G, O, hT, hn, hg, hl, ha, hb, hO⟩ := h
  have HN : Hid (Calls Tryz.prog 58 #[.pointer (some ⟨P, 0, none⟩), .int .u64 6, .func (.func 59) #[] #[], .func (.func 60) #[] #[]] w0 fun e w' => e = .returned (.tuple #[.int .u64 9, .bool true]) ∧ ∃ t, t ≤ 11 ∧ YR w0 O P M X T Q 4000 t 2 [0] [((0, 0), a)] ns fs G w') := Lib.hid (by
    have q := near_Next_yes_T hT 6 (by decide) (a : Int) 0 A 2 c (-1) (-1) (sel_one ⟨by decide, by decide⟩ ha hn) [5, 9] (.inr ⟨a, rfl, hn, hg.symm⟩) (by decide) (by decide) (by decide)
    rw [show K.nx [5, 9] 6 = 9 by decide] at q
    exact q)
  have HR : Hid (∀ t w', YR w0 O P M X T Q 4000 t 2 [0] [((0, 0), a)] ns fs G w' → One w P 4000 [5, 9] w') := Lib.hid (fun t w' hy => by
    obtain ⟨O', hT', hb', hO'⟩ := yr_low hb hO hy
    exact ⟨M, X, T, Q, t, a, A, c, ns, fs, G, O', hT', hn, hg, hl, ha, hb', hO'⟩)
  clear hT hn hg hl ha hb hO
  go_enter Tryz.func30, Tryz.ntmps30
  go_wp2_with (go_at_call 58; (with_reducible refine HN.out.mono ?_); rintro e w1 ⟨rfl, t, ht, hy⟩; have HY := Lib.hid (HR.out _ _ hy); clear hy ht)
  go_ret2
  exact ⟨rfl, HY.out⟩
theorem one_prev {w w0 : World} {P : Nat} (h : One w P 4000 [5, 9] w0) : Calls Tryz.prog 31 #[.pointer (some ⟨P, 0, none⟩), .int .u64 8] w0 fun e w' => e = .returned (.tuple #[.int .u64 5, .bool true]) ∧ One w P 4000 [5, 9] w' := by
  obtain ⟨M, X, T, Q, tk, a, A, c, ns, fs, G, O, hT, hn, hg, hl, ha, hb, hO⟩ := h
  have HN : Hid (Calls Tryz.prog 58 #[.pointer (some ⟨P, 0, none⟩), .int .u64 8, .func (.func 61) #[] #[], .func (.func 62) #[] #[]] w0 fun e w' => e = .returned (.tuple #[.int .u64 5, .bool true]) ∧ ∃ t, t ≤ 11 ∧ YR w0 O P M X T Q 4000 t 2 [0] [((0, 0), a)] ns fs G w') := Lib.hid (by
    have q := near_Prev_yes_T hT 8 (by decide) (a : Int) 0 A 2 c (-1) (-1) (sel_one ⟨by decide, by decide⟩ ha hn) [5, 9] (.inr ⟨a, rfl, hn, hg.symm⟩) (by decide) (by decide) (by decide)
    rw [show K.pv [5, 9] 8 = 5 by decide] at q
    exact q)
  have HR : Hid (∀ t w', YR w0 O P M X T Q 4000 t 2 [0] [((0, 0), a)] ns fs G w' → One w P 4000 [5, 9] w') := Lib.hid (fun t w' hy => by
    obtain ⟨O', hT', hb', hO'⟩ := yr_low hb hO hy
    exact ⟨M, X, T, Q, t, a, A, c, ns, fs, G, O', hT', hn, hg, hl, ha, hb', hO'⟩)
  clear hT hn hg hl ha hb hO
  go_enter Tryz.func31, Tryz.ntmps31
  go_wp2_with (go_at_call 58; (with_reducible refine HN.out.mono ?_); rintro e w1 ⟨rfl, t, ht, hy⟩; have HY := Lib.hid (HR.out _ _ hy); clear hy ht)
  go_ret2
  exact ⟨rfl, HY.out⟩
theorem one_len {w w0 : World} {P : Nat} (h : One w P 4000 [5, 9] w0) : Calls Tryz.prog 33 #[.pointer (some ⟨P, 0, none⟩)] w0 fun e w' => e = .returned (.int .i64 2) ∧ w' = w0 := by
  obtain ⟨M, X, T, Q, tk, a, A, c, ns, fs, G, O, hT, hn, hg, hl, ha, hb, hO⟩ := h
  exact (YR.start hT).len
set_option maxHeartbeats 1000000 in
theorem law_awakeY (w : World) : Calls Tryz.prog 8 #[] w fun e w' => e = .returned (.bool true) ∧ Below w.heap.size w w' := by
  have hnew : Hid (Calls Tryz.prog 9 #[.int .u64 1, .int .i64 4000] w fun e w' => ∃ P, e = .returned (.tuple #[.pointer (some ⟨P, 0, none⟩), .int .i64 0]) ∧ Zero w P 4000 w') :=
    Lib.hid ((y_new w 1 4000 (by omega)).mono fun e w' ⟨P, M, X, T, Q, O, h1, h2, h3, h4⟩ => ⟨P, h1, M, X, T, Q, 0, _, O, h2, h3, h4⟩)
  go_enter Tryz.func8, Tryz.ntmps8
  go_wp2_with (first
    | (go_at_call 9; (with_reducible refine hnew.out.mono ?_); rintro e w1 ⟨P, rfl, h1⟩; have H1 := Lib.hid (zero_insert h1); clear h1)
    | (go_at_call 24; (with_reducible refine H1.out.mono ?_); rintro e w2 ⟨rfl, h2⟩; have H2 := Lib.hid (one_insert h2); clear h2)
    | (go_at_call 24; (with_reducible refine H2.out.mono ?_); rintro e w3 ⟨rfl, h3⟩; have H3 := Lib.hid (one_again h3); clear h3)
    | (go_at_call 24; (with_reducible refine H3.out.mono ?_); rintro e w4 ⟨rfl, h4⟩; have H4 := Lib.hid (one_next h4); clear h4)
    | (go_at_call 30; (with_reducible refine H4.out.mono ?_); rintro e w5 ⟨rfl, h5⟩; have H5 := Lib.hid (one_prev h5); clear h5)
    | (go_at_call 31; (with_reducible refine H5.out.mono ?_); rintro e w6 ⟨rfl, h6⟩; have HB := Lib.hid h6.low; have H6 := Lib.hid (one_len h6); clear h6)
    | (go_at_call 33; (with_reducible refine H6.out.mono ?_); rintro e w' ⟨rfl, rfl⟩))
  go_ret
  exact ⟨rfl, HB.out⟩
end Go.Proofs.YtihnjcljheghgaaGreat
end
