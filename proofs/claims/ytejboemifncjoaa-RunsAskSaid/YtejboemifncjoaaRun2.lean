
/- Len of runs; the text walked. -/
import Derived.Test.YtejboemifncjoaaRun1
namespace Go.Proofs.Ytejboemifncjoaa
open Go.RowKit
theorem flat_le {rs : List (Int × Int)} {k : Nat} : (Rn.flat (rs.take k)).length ≤ (Rn.flat rs).length := by
  conv => rhs; rw [← List.take_append_drop k rs]
  unfold Rn.flat; rw [List.flatMap_append, List.length_append]; omega
set_option maxHeartbeats 4000000 in
set_option maxRecDepth 100000 in
theorem r_len (w : World) (B n c : Nat) (A : Option Addr) (rs : List (Int × Int)) (hn : n = rs.length) (hr : Rq w B A rs) (hB : B ≤ w.heap.size) (hg : ∀ r, r ∈ rs → Rn.Good r) (few : (Rn.flat rs).length ≤ 1000000) (few2 : n ≤ 1000000) :
    Calls Try.prog 29 #[.slice A n c] w fun e w' => e = .returned (.int .i64 ((Rn.flat rs).length : Nat)) ∧ Below w.heap.size w w' := by
  have HR := Lib.hid hr
  have HN := Lib.hid hn
  have HG := Lib.hid hg
  have HF := Lib.hid few
  clear hr hn hg few
  go_enter Try.func29, Try.ntmps29
  go_wp2
  go_loopw [3, 8] (fun vn vi wr => ∃ k : Nat, k ≤ n ∧ vi = .int .i64 k ∧ vn = .int .i64 ((Rn.flat (rs.take k)).length : Nat) ∧ Hid (Below w.heap.size w wr)) (fun _ vi _ => n - (intOf vi).toNat)
  case atStart => exact ⟨0, Nat.zero_le _, rfl, rfl, Lib.hid (Below.refl _ _)⟩
  case round =>
    obtain ⟨k, hk, rfl, rfl, HW⟩ := hrel
    by_cases hlt : k < n
    · have hkz : k < rs.length := by rw [← HN.out]; exact hlt
      obtain ⟨b, off, rfl, _, hc1, hc2⟩ := (HR.out.below HW.out hB).at hkz
      have g := HG.out _ (List.getElem_mem hkz)
      unfold Rn.Good at g
      have HS := Lib.hid (Rn.flat_len_take hkz)
      have hle := flat_le (rs := rs) (k := k + 1)
      have HLE := Lib.hid (Nat.le_trans hle HF.out)
      clear hle
      generalize rs[k] = r at *
      obtain ⟨f, t⟩ := r
      simp only at hc1 hc2 g HS
      obtain ⟨q1, hq1⟩ : ∃ q1, (Rn.flat (rs.take (k + 1))).length = q1 := ⟨_, rfl⟩
      obtain ⟨q, hq⟩ : ∃ q, (Rn.flat (rs.take k)).length = q := ⟨_, rfl⟩
      rw [hq1] at HLE HS
      rw [hq] at HS
      rw [hq]
      have HQ := Lib.hid hq1
      have hs := HS.out
      have hl := HLE.out
      have w1 : IntKind.i64.wrap ((q : Int) + (t - f + 1)) = (q1 : Int) := by rw [IntWalk.i64_in _ (by omega)]; omega
      clear hq hq1 hs hl
      go_wp2
      go_roundw
      case rel => exact ⟨k + 1, by omega, by go_num, by rw [HQ.out], Lib.hid ((HW.out.alloc HW.out.size _).alloc (by have := HW.out.size; simp; omega) _)⟩
      case measure => simp [intOf]; omega
    · have hkn : rs.take k = rs := List.take_of_length_le (by rw [← HN.out]; omega)
      rw [hkn]
      clear hkn
      go_wp2
      go_ret
      exact ⟨rfl, HW.out⟩
end Go.Proofs.Ytejboemifncjoaa
