
/- Whether two slices of words are alike. -/
import Derived.Test.YtihhkdcgnnfkkaaRefs3B
import Derived.Deep.QuietTactic
import Derived.BigQuiet
namespace Go.Proofs.Ytihhkdcgnnfkkaa
open Go.RowKit
theorem same_noN {xs ys : List Nat} {k : Nat} (h : ∃ a b, xs[k]? = some a ∧ ys[k]? = some b ∧ a ≠ b) : decide (xs = ys) = false := by
  rw [decide_eq_false_iff_not]
  rintro rfl
  obtain ⟨a, b, h1, h2, h3⟩ := h
  rw [h1] at h2
  exact h3 (by simpa using h2)

set_option maxHeartbeats 1000000 in
theorem ref_samekeys (A A' : Option Addr) (c c' : Nat) (xs ys : List Nat) (w : World) (B B' : Nat) (hr : Rw w B A xs) (hr' : Rw w B' A' ys) (hl : xs.length ≤ 4611686018427387904) (_hl' : ys.length ≤ 4611686018427387904) :
    Calls Try.prog 17 #[.slice A xs.length c, .slice A' ys.length c'] w fun e w' => e = .returned (.bool (decide (xs = ys))) ∧ ∃ n, w' = w.drewN n := by
  by_cases hlen : xs.length = ys.length
  · generalize hL : ys.length = L at *
    have hLh := Lib.hid hL
    clear hL
    subst hlen
    go_enter Try.func17, Try.ntmps17
    go_wp2
    go_loopw [13] (fun i wr => ∃ k n : Nat, k ≤ xs.length ∧ i = .int .i64 k ∧ wr = w.drewN n ∧ Hid (xs.take k = ys.take k)) (fun i _ => xs.length - (intOf i).toNat)
    case atStart => exact ⟨0, 0, by omega, rfl, rfl, rfl⟩
    case round =>
      obtain ⟨k, n, hk, rfl, rfl, hH⟩ := hrel
      by_cases hlt : k < xs.length
      · have hlt' : k < ys.length := by rw [hLh.out]; exact hlt
        obtain ⟨b, off, rfl, _, hc⟩ := hr.at hlt
        obtain ⟨b', off', rfl, _, hc'⟩ := hr'.at hlt'
        have hx : xs[k]? = some xs[k] := List.getElem?_eq_getElem hlt
        have hy : ys[k]? = some ys[k] := List.getElem?_eq_getElem hlt'
        have hxH := Lib.hid hx
        have hyH := Lib.hid hy
        have hs := Lib.hid (take_snocN hlt)
        have hs' := Lib.hid (take_snocN hlt')
        clear hx hy
        generalize xs[k] = x at *
        generalize ys[k] = y at *
        by_cases he : x = y
        · have heb : ((x : Int) == (y : Int)) = true := by simp [he]
          have heb2 : ((x : Int) != (y : Int)) = false := by simp [he]
          have hres : Hid (xs.take (k + 1) = ys.take (k + 1)) := by
            show xs.take (k + 1) = ys.take (k + 1)
            rw [hs.out, hs'.out, hH.out, he]
          clear hs hs' hxH hyH hH he
          go_wp2
          go_quiet (fail)
          go_wp2
          go_roundw
          case rel => exact ⟨k + 1, _, by omega, by go_num, rfl, hres⟩
          case measure => simp [intOf]; omega
        · have heb : ((x : Int) == (y : Int)) = false := by simp; omega
          have heb2 : ((x : Int) != (y : Int)) = true := by simp; omega
          have hres := Lib.hid (same_noN (k := k) ⟨x, y, hxH.out, hyH.out, he⟩)
          clear hs hs' hxH hyH hH he
          go_wp2
          go_quiet (fail)
          go_wp2
          go_ret
          exact ⟨ret_bool hres.out.symm, _, World.drewN_drewN _ _ _⟩
      · have hres : Hid (decide (xs = ys) = true) := by
          have h1 := hH.out
          rw [take_allN hlt, take_allN (by rw [hLh.out]; exact hlt)] at h1
          show decide (xs = ys) = true
          simp [h1]
        go_wp2
        go_ret
        exact ⟨ret_bool hres.out.symm, _, rfl⟩
  · have hres := Lib.hid (show decide (xs = ys) = false by rw [decide_eq_false_iff_not]; rintro rfl; exact hlen rfl)
    have hne : ((xs.length : Int) == (ys.length : Int)) = false := by simp; omega
    go_enter Try.func17, Try.ntmps17
    go_wp2
    go_ret
    exact ⟨ret_bool hres.out.symm, 0, rfl⟩
end Go.Proofs.Ytihhkdcgnnfkkaa
