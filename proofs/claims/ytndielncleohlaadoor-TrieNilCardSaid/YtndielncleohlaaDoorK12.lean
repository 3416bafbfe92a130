
/- What a trie and an x-fast trie use (stepstoneref11); the texts walked. -/
import Derived.Test.YtndielncleohlaaDoorK11
namespace Go.Proofs.YtndielncleohlaaDoor
set_option maxRecDepth 4000
open Go.RowKit
namespace K
/-- What a trie uses: how many unlike beginnings of 0 bits, and of 4, 10, .. 58. -/
def trs (xs : List Nat) : Nat → Nat
  | 0 => kinds xs 0
  | j + 1 => trs xs j + kinds xs (4 + 6 * j)
def trie (xs : List Nat) : Nat := trs xs 10
theorem trs_le (xs : List Nat) : ∀ j, trs xs j ≤ (j + 1) * xs.length
  | 0 => by simpa [trs] using kinds_le xs 0
  | j + 1 => by
    have h1 := trs_le xs j
    have h2 := kinds_le xs (4 + 6 * j)
    show trs xs j + kinds xs (4 + 6 * j) ≤ (j + 1 + 1) * xs.length
    rw [Nat.add_mul (j + 1)]
    omega
/-- What an x-fast trie uses. -/
def xfs (xs : List Nat) : Nat → Nat
  | 0 => xs.length
  | j + 1 => xfs xs j + kinds xs j
def xfast (xs : List Nat) : Nat := xfs xs 65
theorem xfs_le (xs : List Nat) : ∀ j, xfs xs j ≤ (j + 1) * xs.length
  | 0 => by simp [xfs]
  | j + 1 => by
    have h1 := xfs_le xs j
    have h2 := kinds_le xs j
    show xfs xs j + kinds xs j ≤ (j + 1 + 1) * xs.length
    rw [Nat.add_mul (j + 1)]
    omega
end K
set_option maxHeartbeats 2000000 in
theorem k_trie (w : World) (v : Value) (xs : List Nat) (h : KX w v xs) (hl : xs.length ≤ 1000000) :
    Calls Tryd.prog 13 #[v] w fun e w' => e = .returned (.int .i64 (K.trie xs : Nat)) ∧ Below w.heap.size w w' := by
  have hH := Lib.hid h
  have hkn := Lib.hid (fun (W : World) (hW : Below w.heap.size w W) (b : Nat) (hb : b ≤ 64) => k_kinds W v xs (h.below hW) hl b hb)
  have hk0 : Hid (∀ (W : World), Below w.heap.size w W → Calls Tryd.prog 41 #[v, .int .i64 0] W fun e w' => e = .returned (.int .i64 ((K.kinds xs 0 : Nat) : Int)) ∧ Below W.heap.size W w') := Lib.hid (fun W hW => k_kinds W v xs (h.below hW) hl 0 (by omega))
  have hE := Lib.hid (show K.trie xs = K.trs xs 10 from rfl)
  have h0 := Lib.hid (show K.trs xs 0 = K.kinds xs 0 from rfl)
  have hS := Lib.hid (fun j => show K.trs xs (j + 1) = K.trs xs j + K.kinds xs (4 + 6 * j) from rfl)
  have hLe : Hid (∀ j, j ≤ 11 → K.trs xs j ≤ 12000000) := Lib.hid (fun j hj => Nat.le_trans (K.trs_le xs j) (by
    have : (j + 1) * xs.length ≤ 12 * 1000000 := Nat.mul_le_mul (by omega) hl
    omega))
  clear h
  generalize K.trie xs = X at *
  generalize K.trs xs = trs at *
  generalize K.kinds xs = kn at *
  go_enter Tryd.func13, Tryd.ntmps13
  go_wp2_with (go_at_call 41; (with_reducible refine (hk0.out w (Below.refl _ _)).mono ?_); rintro e w2 ⟨rfl, hD⟩; have HB := Lib.hid hD; clear hD)
  go_loopw [3, 4] (fun n i wr => ∃ j : Nat, j ≤ 10 ∧ i = .int .i64 ((4 + 6 * j : Nat) : Int) ∧ n = .int .i64 ((trs j : Nat) : Int) ∧ Below w.heap.size w wr) (fun _ i => fun _ => 64 - (intOf i).toNat)
  case atStart => exact ⟨0, by omega, rfl, by rw [h0.out], HB.out⟩
  case round =>
    obtain ⟨j, hj, rfl, rfl, hbl⟩ := hrel
    have HBL := Lib.hid hbl
    by_cases hlt : j < 10
    · have hd1 : decide ((4 : Int) + 6 * (j : Int) < 64) = true := decide_eq_true (by omega)
      have hd2 : decide (4 + 6 * j < 64) = true := decide_eq_true (by omega)
      have hd3 : decide (((4 + 6 * j : Nat) : Int) < 64) = true := decide_eq_true (by omega)
      have hc := Lib.hid (hkn.out wr hbl (4 + 6 * j) (by omega))
      have hs := Lib.hid (hS.out j)
      have hl1 := hLe.out (j + 1) (by omega)
      have hsz : trs j + kn (4 + 6 * j) ≤ 12000000 := by rw [← hs.out]; exact hl1
      obtain ⟨q, hq⟩ : ∃ q, 4 + 6 * j = q := ⟨_, rfl⟩
      rw [hq] at hc hsz hd2 hd3 ⊢
      have hqs := Lib.hid (show trs (j + 1) = trs j + kn q by rw [hs.out, hq])
      have hq2 := Lib.hid hq
      have hq3 : q + 6 ≤ 64 := by omega
      clear hbl hs hl1 hd1 hq
      generalize trs j = n at *
      generalize kn q = m at *
      have hqz : (q : Int) < 64 := by omega
      have w1 : IntKind.i64.wrap ((n : Int) + (m : Int)) = ((n + m : Nat) : Int) := by rw [IntWalk.i64_in _ (by omega)]; omega
      have w2 : IntKind.i64.wrap ((q : Int) + 6) = ((q + 6 : Nat) : Int) := by rw [IntWalk.i64_in _ (by omega)]; omega
      go_wp2_with (go_at_call 41; (with_reducible refine hc.out.mono ?_); rintro e w3 ⟨rfl, hD⟩; have HB3 := Lib.hid hD; clear hD)
      go_roundw
      case rel => exact ⟨j + 1, by omega, by rw [show 4 + 6 * (j + 1) = q + 6 by have := hq2.out; omega]; rfl, by rw [hqs.out]; rfl, HBL.out.trans (HB3.out.mono HBL.out.size)⟩
      case measure => simp [intOf]; omega
    · obtain rfl : j = 10 := by omega
      rw [← hE.out]
      go_wp2
      go_ret
      exact ⟨rfl, HBL.out⟩
end Go.Proofs.YtndielncleohlaaDoor
