
/- array.Is, and the awake test of the laws; the text walked. -/
import Derived.Test.YtfccgefpchgdlaaArr8
namespace Go.Proofs.Ytfccgefpchgdlaa
open Go.RowKit
theorem adj_lt {xs : List Int} (h : ∀ j (hj : j + 1 < xs.length), xs[j] < xs[j + 1]) : xs.Pairwise (· < ·) := by
  rw [List.pairwise_iff_getElem]
  intro i j hi hj hij
  obtain ⟨d, rfl⟩ : ∃ d, j = i + 1 + d := ⟨j - i - 1, by omega⟩
  clear hij
  induction d with
  | zero => exact h i (by omega)
  | succ d ih => exact Int.lt_trans (ih (by omega)) (h (i + 1 + d) (by omega))
set_option maxHeartbeats 8000000 in
set_option maxRecDepth 100000 in
theorem a_is (w : World) (B n c : Nat) (A : Option Addr) (xs : List Int) (hn : n = xs.length) (hr : Rh w B A xs) (few : n ≤ 1000000) :
    Calls Try.prog 14 #[.slice A n c] w fun e w' => e = .returned (.bool (decide (xs.Pairwise (· < ·)))) ∧ ∃ q, w' = w.drewN q := by
  have HN := Lib.hid hn
  have HR := Lib.hid hr
  obtain ⟨t, ht⟩ : ∃ t, t = decide (xs.Pairwise (· < ·)) := ⟨_, rfl⟩
  rw [← ht]
  have HT := Lib.hid ht
  clear hn hr ht
  rcases Nat.eq_zero_or_pos n with h0 | h0
  · subst h0
    have hx : Hid (xs = []) := Lib.hid (List.eq_nil_of_length_eq_zero HN.out.symm)
    go_enter Try.func14, Try.ntmps14
    go_wp2
    go_loop [7] (fun vi => vi = .int .i64 0) (fun _ => 0)
    case atStart => rfl
    case round =>
      subst hrel
      go_wp2
      go_ret
      exact ⟨by rw [HT.out, hx.out]; rfl, 0, rfl⟩
  · obtain ⟨m, hm⟩ : ∃ m, m + 1 = n := ⟨n - 1, by omega⟩
    have em : (n : Int) - 1 = (m : Int) := by omega
    have hmn : m < n := by omega
    have HM := Lib.hid hm
    clear hm
    go_enter Try.func14, Try.ntmps14
    go_wp2
    go_loopw [7] (fun vi wr => ∃ k : Nat, vi = .int .i64 k ∧ k ≤ m ∧ Hid (∀ j (hj : j + 1 < xs.length), j < k → xs[j] < xs[j + 1]) ∧ Hid (∃ q, wr = w.drewN q)) (fun vi _ => m - (intOf vi).toNat)
    case atStart => exact ⟨0, rfl, Nat.zero_le _, Lib.hid (fun j _ h => by omega), Lib.hid ⟨0, rfl⟩⟩
    case round =>
      obtain ⟨k, rfl, hk, hS, hQ⟩ := hrel
      obtain ⟨q0, hq0⟩ := hQ.out
      by_cases hlt : k < m
      · have hk1 : k < xs.length := by have := HN.out; omega
        have hk2 : k + 1 < xs.length := by have := HN.out; have := HM.out; omega
        obtain ⟨b, off, hA, _, hc1⟩ := HR.out.at hk1
        obtain ⟨b', off', hA', _, hc2⟩ := HR.out.at hk2
        rw [hA] at hA'
        cases hA'
        subst hA
        obtain ⟨x, hx⟩ : ∃ x, x = xs[k] := ⟨_, rfl⟩
        obtain ⟨y, hy⟩ : ∃ y, y = xs[k + 1] := ⟨_, rfl⟩
        have hc1' : wr.cell? ⟨b, off + k, none⟩ = some (.int .u16 x) := by rw [hq0, hx]; exact hc1
        have hc2' : wr.cell? ⟨b, off + (k + 1), none⟩ = some (.int .u16 y) := by rw [hq0, hy]; exact hc2
        have HX := Lib.hid hx
        have HY := Lib.hid hy
        have HQ0 := Lib.hid hq0
        have l1 : k < n := by omega
        have l2 : k + 1 < n := by have := HM.out; omega
        have t2 : ((k : Int) + 1).toNat = k + 1 := by omega
        have y2 : (0 : Int) ≤ (k : Int) + 1 := by omega
        clear hx hy hq0 hc1 hc2
        have v1 := w64 ((k : Int) + 1) (by omega) (by omega)
        by_cases hxy : x < y
        · have hd : decide (x < y) = true := decide_eq_true hxy
          have hd2 : decide (y ≤ x) = false := decide_eq_false (by omega)
          go_wp2
          go_quiet (fail)
          go_wp2
          go_roundw
          case rel => exact ⟨k + 1, by go_num, by omega, Lib.hid (fun j hj hlt => by
            rcases Nat.lt_or_eq_of_le (show j ≤ k by omega) with e | e
            · exact hS.out j hj e
            · subst e; rw [← HX.out, ← HY.out]; exact hxy), Lib.hid ⟨q0 + nq, by rw [HQ0.out]; simp⟩⟩
          case measure => simp [intOf]; omega
        · have hd2 : decide (y ≤ x) = true := decide_eq_true (by omega)
          go_wp2
          go_quiet (fail)
          go_wp2
          go_ret
          refine ⟨?_, q0 + nq, by rw [HQ0.out]; simp⟩
          rw [HT.out, decide_eq_false (fun hs => ?_)]
          · rfl
          · have := List.pairwise_iff_getElem.1 hs k (k + 1) hk1 hk2 (by omega)
            rw [← HX.out, ← HY.out] at this
            omega
      · have hkm : Hid (k = m) := Lib.hid (by omega)
        have HQ0 := Lib.hid hq0
        clear hq0
        go_wp2
        go_ret
        refine ⟨?_, q0, HQ0.out⟩
        rw [HT.out, decide_eq_true (adj_lt fun j hj => hS.out j hj (by have := HN.out; have := HM.out; have := hkm.out; omega))]
        rfl
theorem rh_lit (w : World) (xs : List Int) (hne : ∀ k (h : k < xs.length), (w.alloc (.cells (hv xs).toArray 30)).cell? ⟨w.heap.size, 0 + k, none⟩ = some (.int .u16 xs[k])) : Rh (w.alloc (.cells (hv xs).toArray 30)) (w.heap.size + 1) (some ⟨w.heap.size, 0, none⟩) xs :=
  fun _ => ⟨w.heap.size, 0, rfl, by omega, hne⟩
theorem lit_cell (w : World) (xs : List Int) (k : Nat) (h : k < xs.length) : (w.alloc (.cells (hv xs).toArray 30)).cell? ⟨w.heap.size, 0 + k, none⟩ = some (.int .u16 xs[k]) := by
  rw [Nat.zero_add, World.cell?_alloc_new]
  simp [hv, h]
theorem rh_new (w : World) (xs : List Int) : Rh (w.alloc (.cells (hv xs).toArray 30)) (w.heap.size + 1) (some ⟨w.heap.size, 0, none⟩) xs := rh_lit w xs (lit_cell w xs)
theorem own_reads {w : World} {base : Nat} {v : Value} {xs : List Int} (h : w.ownsRow base 30 1 v xs.length (hv xs)) : ∃ A c, v = .slice A xs.length c ∧ Rh w w.heap.size A xs ∧ xs.length ≤ c := by
  have hc := own_cap h
  obtain ⟨A, c, rfl, hr, _⟩ := Rh.of_own h
  exact ⟨A, c, rfl, hr, hc A c rfl⟩
set_option maxHeartbeats 8000000 in
set_option maxRecDepth 100000 in
theorem awake_any (w : World) : Calls Try.prog 8 #[] w fun e w' => e = .returned (.bool true) ∧ Below w.heap.size w w' := by
  have hb1 := (Below.refl w.heap.size w).alloc (Nat.le_refl _) (.cells (hv [5, 2, 5]).toArray 30)
  have c1 : Calls Try.prog 10 #[.slice (some ⟨w.heap.size, 0, none⟩) 3 3] (w.alloc (.cells #[.int .u16 5, .int .u16 2, .int .u16 5] 30)) fun e w' => ∃ A c, e = .returned (.slice A 2 c) ∧ 2 ≤ c ∧ Rh w' w'.heap.size A [2, 5] ∧ Below w.heap.size w w' := by
    refine (of_any (w.alloc (.cells (hv [5, 2, 5]).toArray 30)) (w.heap.size + 1) 3 3 (some ⟨w.heap.size, 0, none⟩) [5, 2, 5] rfl (rh_new w [5, 2, 5]) (by simp) (by omega)).mono ?_
    rintro e w' ⟨v, zs, rfl, h1, h2, h3, h4, _⟩
    have hz : zs = [2, 5] := M.sorted_ext h1 (by decide) fun x => by rw [h2 x]; simp; omega
    subst hz
    obtain ⟨A, c, rfl, hr, hc⟩ := own_reads h3
    exact ⟨A, c, rfl, hc, hr, hb1.trans (h4.mono (by simp))⟩
  have C1 := Lib.hid c1
  clear c1 hb1
  go_enter Try.func8, Try.ntmps8
  go_wp2_with (go_at_call 10; (with_reducible refine C1.out.mono ?_); rintro e w2 ⟨A, c, rfl, hc2, h1, h2⟩; replace h1 := Lib.hid h1; replace h2 := Lib.hid h2)
  have C2 : Hid (Calls Try.prog 18 #[.slice A 2 c, .int .u16 3] w2 fun e w' => e = .returned (.tuple #[.int .u16 5, .bool true]) ∧ w2 = w') := Lib.hid (a_next w2 w2.heap.size 2 c A [2, 5] 3 rfl h1.out (by decide) (by omega))
  have hb3 := (Below.refl w2.heap.size w2).alloc (Nat.le_refl _) (.cells (hv [5]).toArray 30)
  have c3 : Calls Try.prog 33 #[.slice A 2 c, .slice (some ⟨w2.heap.size, 0, none⟩) 1 1] (w2.alloc (.cells #[.int .u16 5] 30)) fun e w' => ∃ A c, e = .returned (.slice A 1 c) ∧ Below w.heap.size w w' := by
    refine (a_less (w2.alloc (.cells (hv [5]).toArray 30)) (w2.heap.size + 1) 2 c 1 1 A (some ⟨w2.heap.size, 0, none⟩) [2, 5] [5] (by simp) rfl rfl hc2 (by omega) ((h1.out.below hb3 (Nat.le_refl _)).more (by omega)) (rh_new w2 [5]) (by decide) (by decide) (by omega) (by omega)).mono ?_
    rintro e w' ⟨v, zs, rfl, g1, g2, _, g3, g4⟩
    have hz : zs = [2] := M.sorted_ext g1 (by decide) fun x => by rw [g2 x]; unfold M.Wt; simp; omega
    subst hz
    obtain ⟨A', c', rfl, _, _⟩ := own_reads g3
    exact ⟨A', c', rfl, h2.out.trans ((hb3.mono h2.out.size).trans (g4.mono (by have := h2.out.size; simp; omega)))⟩
  have C3 := Lib.hid c3
  clear c3 hb3
  go_wp2_with (first
    | (go_at_call 18; (with_reducible refine C2.out.mono ?_); rintro e w' ⟨rfl, rfl⟩)
    | (go_at_call 33; (with_reducible refine C3.out.mono ?_); rintro e w4 ⟨A4, c4, rfl, g1⟩; replace g1 := Lib.hid g1))
  go_ret
  exact ⟨rfl, g1.out⟩
end Go.Proofs.Ytfccgefpchgdlaa
