
/- Two lists of pairs: Same of the document's reference; the text walked. -/
import Derived.Test.YtclaejaicjmohaaD18
namespace Go.Proofs.Ytclaejaicjmohaa
set_option maxRecDepth 20000
open Go.RowKit
namespace E
theorem same_noP {xs ys : List (Nat × Nat)} {k : Nat} (h : ∃ x y, xs[k]? = some x ∧ ys[k]? = some y ∧ x ≠ y) : decide (xs = ys) = false := by
  obtain ⟨x, y, h1, h2, h3⟩ := h
  rw [decide_eq_false_iff_not]
  rintro rfl
  rw [h1] at h2
  injection h2 with h2
  exact h3 h2
theorem take_allP {xs : List (Nat × Nat)} {k : Nat} (h : ¬ k < xs.length) : xs.take k = xs := List.take_of_length_le (by omega)
set_option maxRecDepth 100000 in
set_option maxHeartbeats 4000000 in
theorem refsame_any (A A' : Option Addr) (c c' : Nat) (xs ys : List (Nat × Nat)) (l : Nat) (w : World) (B B' : Nat) (hr : Pq w B A xs) (hr' : Pq w B' A' ys) (hxl : xs.length = l) (hl : l ≤ 1000000) (hl' : ys.length ≤ 1000000) :
    Calls Try.prog 22 #[.slice A l c, .slice A' ys.length c'] w fun e w' => e = .returned (.bool (decide (xs = ys))) ∧ ∃ n, w' = w.drewN n := by
  subst hxl
  by_cases hlen : xs.length = ys.length
  · generalize hL : ys.length = L at *
    have hLh := Lib.hid hL
    clear hL
    subst hlen
    go_enter Try.func22, Try.ntmps22
    go_wp2
    go_loopw [13] (fun i wr => ∃ k n : Nat, k ≤ xs.length ∧ i = .int .i64 k ∧ wr = w.drewN n ∧ Hid (xs.take k = ys.take k)) (fun i _ => xs.length - (intOf i).toNat)
    case atStart => exact ⟨0, 0, by omega, rfl, rfl, rfl⟩
    case round =>
      obtain ⟨k, n, hk, rfl, rfl, hH⟩ := hrel
      by_cases hlt : k < xs.length
      · have hlt' : k < ys.length := by rw [hLh.out]; exact hlt
        obtain ⟨b, off, rfl, _, hc0, hc1⟩ := hr.at hlt
        obtain ⟨b', off', rfl, _, hd0, hd1⟩ := hr'.at hlt'
        have hxH := Lib.hid (List.getElem?_eq_getElem hlt)
        have hyH := Lib.hid (List.getElem?_eq_getElem hlt')
        have hs := Lib.hid (take_snocP hlt)
        have hs' := Lib.hid (take_snocP hlt')
        generalize xs[k] = x at *
        generalize ys[k] = y at *
        obtain ⟨x0, x1⟩ := x
        obtain ⟨y0, y1⟩ := y
        dsimp only at hc0 hc1 hd0 hd1
        by_cases he : x0 = y0 ∧ x1 = y1
        · obtain ⟨rfl, rfl⟩ := he
          have hres : Hid (xs.take (k + 1) = ys.take (k + 1)) := by
            show xs.take (k + 1) = ys.take (k + 1)
            rw [hs.out, hs'.out, hH.out]
          clear hs hs' hxH hyH hH
          go_wp2
          go_quiet (fail)
          go_wp2
          go_roundw
          case rel => exact ⟨k + 1, _, by omega, by go_num, rfl, hres⟩
          case measure => simp [intOf]; omega
        · have hres := Lib.hid (same_noP (k := k) ⟨(x0, x1), (y0, y1), hxH.out, hyH.out, fun e => he (by injection e with e1 e2; exact ⟨e1, e2⟩)⟩)
          clear hs hs' hxH hyH hH
          by_cases h0 : x0 = y0
          · subst h0
            have h1 : ¬ x1 = y1 := fun e => he ⟨rfl, e⟩
            have e1 : ((x1 : Int) == (y1 : Int)) = false := by simp; omega
            have e2 : ((x1 : Int) != (y1 : Int)) = true := by simp; omega
            have e3 : decide ((x1 : Int) = (y1 : Int)) = false := decide_eq_false (by omega)
            have e4 : decide (x1 = y1) = false := decide_eq_false h1
            clear he h1
            go_wp2
            go_quiet (fail)
            go_wp2
            go_ret
            exact ⟨ret_bool hres.out.symm, _, World.drewN_drewN _ _ _⟩
          · have e1 : ((x0 : Int) == (y0 : Int)) = false := by simp; omega
            have e2 : ((x0 : Int) != (y0 : Int)) = true := by simp; omega
            have e3 : decide ((x0 : Int) = (y0 : Int)) = false := decide_eq_false (by omega)
            have e4 : decide (x0 = y0) = false := decide_eq_false h0
            clear he h0
            go_wp2
            go_quiet (fail)
            go_wp2
            go_ret
            exact ⟨ret_bool hres.out.symm, _, World.drewN_drewN _ _ _⟩
      · have hres : Hid (decide (xs = ys) = true) := by
          have h1 := hH.out
          rw [take_allP hlt, take_allP (by rw [hLh.out]; exact hlt)] at h1
          show decide (xs = ys) = true
          simp [h1]
        go_wp2
        go_ret
        exact ⟨ret_bool hres.out.symm, _, rfl⟩
  · have hres := Lib.hid (show decide (xs = ys) = false by rw [decide_eq_false_iff_not]; rintro rfl; exact hlen rfl)
    have hne : ((xs.length : Int) == (ys.length : Int)) = false := by simp; omega
    go_enter Try.func22, Try.ntmps22
    go_wp2
    go_ret
    exact ⟨ret_bool hres.out.symm, 0, rfl⟩
end E
end Go.Proofs.Ytclaejaicjmohaa
