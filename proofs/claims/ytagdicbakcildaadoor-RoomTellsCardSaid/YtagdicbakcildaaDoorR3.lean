
/- What fits some tags; the law's example: the texts walked. -/
import Derived.Test.YtagdicbakcildaaDoorR2
namespace Go.Proofs.YtagdicbakcildaaDoor
open Go.RowKit
namespace M
/-- For how many keys a limit is enough, of some tags. -/
def ft (l : Int) (xs : List Int) : Int := xs.foldl (fun n t => min n (mo t l)) 262144
theorem ft_snoc (l : Int) (xs : List Int) (t : Int) : ft l (xs ++ [t]) = min (ft l xs) (mo t l) := by unfold ft; rw [List.foldl_append]; rfl
theorem ft_range (l : Int) (xs : List Int) : 0 ≤ ft l xs ∧ ft l xs ≤ 262144 := by
  have : ∀ (ys : List Int) (n : Int), 0 ≤ n → n ≤ 262144 → 0 ≤ ys.foldl (fun n t => min n (mo t l)) n ∧ ys.foldl (fun n t => min n (mo t l)) n ≤ 262144 := by
    intro ys
    induction ys with
    | nil => intro n h1 h2; exact ⟨h1, h2⟩
    | cons t ys ih =>
      intro n h1 h2
      have := mo_range t l
      exact ih (min n (mo t l)) (by omega) (by omega)
  exact this xs 262144 (by omega) (by omega)
end M
set_option maxRecDepth 100000 in
set_option maxHeartbeats 4000000 in
theorem fits_any (l : Int) (hl2 : l < 9223372036854775808) (A : Option Addr) (c : Nat) (xs : List Int) (n : Nat) (hn : xs.length = n) (w : World) (B : Nat) (hB : B ≤ w.heap.size) (hr : Rd w B A xs) (hl : n ≤ 1000000) (h : BT w) :
    Calls Tryd.prog 11 #[.int .i64 l, .slice A n c] w fun e w' => e = .returned (.int .i64 (M.ft l xs)) ∧ Below w.heap.size w w' := by
  have HN := Lib.hid hn
  have HT := Lib.hid h
  clear hn
  go_enter Tryd.func11, Tryd.ntmps11
  go_wp2
  go_loopw [5, 12] (fun v i wr => ∃ k : Nat, k ≤ n ∧ i = .int .i64 k ∧ v = .int .i64 (M.ft l (xs.take k)) ∧ Hid (Below w.heap.size w wr)) (fun _ i _ => n - (intOf i).toNat)
  case atStart => exact ⟨0, by omega, rfl, rfl, Lib.hid (Below.refl _ _)⟩
  case round =>
    obtain ⟨k, hk, rfl, rfl, HB⟩ := hrel
    by_cases hlt : k < n
    · have hlt' : k < xs.length := by rw [HN.out]; exact hlt
      obtain ⟨b, off, rfl, hc⟩ := (hr.below HB.out hB).at hlt'
      have d0 : (k : Int) < (n : Int) := by omega
      have wk : IntKind.i64.wrap ((k : Int) + 1) = (k : Int) + 1 := IntWalk.i64_in _ (by omega)
      have hs : M.ft l (xs.take (k + 1)) = min (M.ft l (xs.take k)) (M.mo xs[k] l) := by rw [take_snoc hlt', M.ft_snoc]
      have HS := Lib.hid hs
      have HM := Lib.hid (most_any xs[k] l hl2 wr (HT.out.below HB.out))
      clear hs
      generalize xs[k] = t at *
      generalize M.ft l (xs.take k) = f0 at *
      go_wp2_with (go_at_call 8; (with_reducible refine HM.out.mono ?_); rintro e w2 ⟨rfl, hb⟩; have HB2 := Lib.hid hb; clear hb)
      go_roundw
      case rel => exact ⟨k + 1, by omega, by go_num, by rw [HS.out], Lib.hid (HB.out.trans (HB2.out.mono HB.out.size))⟩
      case measure => simp [intOf]; omega
    · have hkn : k = n := by omega
      have e1 : xs.take k = xs := List.take_of_length_le (by rw [HN.out]; omega)
      rw [e1]
      go_wp2
      go_ret
      exact ⟨rfl, HB.out⟩
set_option maxRecDepth 100000 in
set_option maxHeartbeats 4000000 in
theorem awake_any (w : World) (h : BT w) : Calls Tryd.prog 5 #[] w fun e w' => e = .returned (.bool true) ∧ Below w.heap.size w w' := by
  have N1 : Hid (Calls Tryd.prog 6 #[.int .i64 4, .int .i64 10] w fun e w' => e = .returned (.tuple #[.int .i64 110, .int .i64 0]) ∧ Below w.heap.size w w') := Lib.hid (need_any 4 10 w h)
  have N2 : Hid (∀ W, BT W → Calls Tryd.prog 8 #[.int .i64 4, .int .i64 120] W fun e w' => e = .returned (.tuple #[.int .i64 10, .int .i64 0]) ∧ Below W.heap.size W w') := Lib.hid fun W hW => most_any 4 120 (by omega) W hW
  have HT := Lib.hid h
  clear h
  go_enter Tryd.func5, Tryd.ntmps5
  go_wp2_with (first
    | (go_at_call 8; (with_reducible refine (N2.out _ (HT.out.below HB1.out)).mono ?_); rintro e w2 ⟨rfl, hb⟩; have HB2 := Lib.hid hb; clear hb)
    | (go_at_call 6; (with_reducible refine N1.out.mono ?_); rintro e w1 ⟨rfl, hb⟩; have HB1 := Lib.hid hb; clear hb))
  go_ret
  exact ⟨by simp, HB1.out.trans (HB2.out.mono HB1.out.size)⟩
end Go.Proofs.YtagdicbakcildaaDoor
