
/- array.Is, and the awake test of the laws; the text walked. -/
import Derived.Test.YtepnjolldbgglaaKbArrU
namespace Go.Proofs.Ytepnjolldbgglaa.Kb
open Go.RowKit
theorem adj_lt {xs : List Int} (h : ∀ j (hj : j + 1 < xs.length), xs[j] < xs[j + 1]) : xs.Pairwise (· < ·) := by
  rw [List.pairwise_iff_getElem]
  intro i j hi hj hij
  obtain ⟨d, rfl⟩ : ∃ d, j = i + 1 + d := ⟨j - i - 1, by omega⟩
  clear hij
  induction d with
  | zero => exact h i (by omega)
  | succ d ih => exact Int.lt_trans (ih (by omega)) (h (i + 1 + d) (by omega))
set_option maxHeartbeats 8000000 in
set_option maxRecDepth 100000 in
theorem a_is (w : World) (B n c : Nat) (A : Option Addr) (xs : List Int) (hn : n = xs.length) (hr : Rh w B A xs) (few : n ≤ 1000000) :
    Calls Try.prog 18 #[.slice A n c] w fun e w' => e = .returned (.bool (decide (xs.Pairwise (· < ·)))) ∧ ∃ q, w' = w.drewN q := by
  have HN := Lib.hid hn
  have HR := Lib.hid hr
  obtain ⟨t, ht⟩ : ∃ t, t = decide (xs.Pairwise (· < ·)) := ⟨_, rfl⟩
  rw [← ht]
  have HT := Lib.hid ht
  clear hn hr ht
  rcases Nat.eq_zero_or_pos n with h0 | h0
  · subst h0
    have hx : Hid (xs = []) := Lib.hid (List.eq_nil_of_length_eq_zero HN.out.symm)
    go_enter Try.func18, Try.ntmps18
    go_wp2
    go_loop [7] (fun vi => vi = .int .i64 0) (fun _ => 0)
    case atStart => rfl
    case round =>
      subst hrel
      go_wp2
      go_ret
      exact ⟨by rw [HT.out, hx.out]; rfl, 0, rfl⟩
  · obtain ⟨m, hm⟩ : ∃ m, m + 1 = n := ⟨n - 1, by omega⟩
    have em : (n : Int) - 1 = (m : Int) := by omega
    have hmn : m < n := by omega
    have HM := Lib.hid hm
    clear hm
    go_enter Try.func18, Try.ntmps18
    go_wp2
    go_loopw [7] (fun vi wr => ∃ k : Nat, vi = .int .i64 k ∧ k ≤ m ∧ Hid (∀ j (hj : j + 1 < xs.length), j < k → xs[j] < xs[j + 1]) ∧ Hid (∃ q, wr = w.drewN q)) (fun vi _ => m - (intOf vi).toNat)
    case atStart => exact ⟨0, rfl, Nat.zero_le _, Lib.hid (fun j _ h => by omega), Lib.hid ⟨0, rfl⟩⟩
    case round =>
      obtain ⟨k, rfl, hk, hS, hQ⟩ := hrel
      obtain ⟨q0, hq0⟩ := hQ.out
      by_cases hlt : k < m
      · have hk1 : k < xs.length := by have := HN.out; omega
        have hk2 : k + 1 < xs.length := by have := HN.out; have := HM.out; omega
        obtain ⟨b, off, hA, _, hc1⟩ := HR.out.at hk1
        obtain ⟨b', off', hA', _, hc2⟩ := HR.out.at hk2
        rw [hA] at hA'
        cases hA'
        subst hA
        obtain ⟨x, hx⟩ : ∃ x, x = xs[k] := ⟨_, rfl⟩
        obtain ⟨y, hy⟩ : ∃ y, y = xs[k + 1] := ⟨_, rfl⟩
        have hc1' : wr.cell? ⟨b, off + k, none⟩ = some (.int .u64 x) := by rw [hq0, hx]; exact hc1
        have hc2' : wr.cell? ⟨b, off + (k + 1), none⟩ = some (.int .u64 y) := by rw [hq0, hy]; exact hc2
        have HX := Lib.hid hx
        have HY := Lib.hid hy
        have HQ0 := Lib.hid hq0
        have l1 : k < n := by omega
        have l2 : k + 1 < n := by have := HM.out; omega
        have t2 : ((k : Int) + 1).toNat = k + 1 := by omega
        have y2 : (0 : Int) ≤ (k : Int) + 1 := by omega
        clear hx hy hq0 hc1 hc2
        have v1 := w64 ((k : Int) + 1) (by omega) (by omega)
        by_cases hxy : x < y
        · have hd : decide (x < y) = true := decide_eq_true hxy
          have hd2 : decide (y ≤ x) = false := decide_eq_false (by omega)
          go_wp2
          go_quiet (fail)
          go_wp2
          go_roundw
          case rel => exact ⟨k + 1, by go_num, by omega, Lib.hid (fun j hj hlt => by
            rcases Nat.lt_or_eq_of_le (show j ≤ k by omega) with e | e
            · exact hS.out j hj e
            · subst e; rw [← HX.out, ← HY.out]; exact hxy), Lib.hid ⟨q0 + nq, by rw [HQ0.out]; simp⟩⟩
          case measure => simp [intOf]; omega
        · have hd2 : decide (y ≤ x) = true := decide_eq_true (by omega)
          go_wp2
          go_quiet (fail)
          go_wp2
          go_ret
          refine ⟨?_, q0 + nq, by rw [HQ0.out]; simp⟩
          rw [HT.out, decide_eq_false (fun hs => ?_)]
          · rfl
          · have := List.pairwise_iff_getElem.1 hs k (k + 1) hk1 hk2 (by omega)
            rw [← HX.out, ← HY.out] at this
            omega
      · have hkm : Hid (k = m) := Lib.hid (by omega)
        have HQ0 := Lib.hid hq0
        clear hq0
        go_wp2
        go_ret
        refine ⟨?_, q0, HQ0.out⟩
        rw [HT.out, decide_eq_true (adj_lt fun j hj => hS.out j hj (by have := HN.out; have := HM.out; have := hkm.out; omega))]
        rfl
end Go.Proofs.Ytepnjolldbgglaa.Kb
