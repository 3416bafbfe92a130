/- Each, over a list of the call's own; the text walked. -/
import Derived.Test.YtbiingpdchoppaaDoorMxU25
import Derived.Test.YtbiingpdchoppaaDoorMgE
namespace Go.Proofs.YtbiingpdchoppaaDoor
set_option maxRecDepth 40000
open Go.RowKit
section
variable (w : World) (P Q m0 lim tk : Nat) (TB : Nat → Prop) (xs : List Nat)
set_option maxHeartbeats 2000000 in
theorem t_each2 (h : TWs w w P Q m0 lim TB xs tk) (A : Option Addr) (n c : Nat) (ks : List Nat) (htk : tk ≤ 100) (hks : ∀ k ∈ ks, k < 18446744073709551616) (hn : ks.length = n) (hn2 : n ≤ 1000000) (hR : KX w (.slice A n c) ks) (hTB : ∀ g, (Value.slice A n c).ownBlock = some g → ¬ TB g) :
    Calls Tryd.prog 33 #[.pointer (some ⟨P, 0, none⟩), .slice A n c] w fun e w' => e = .returned (.int .i64 (((K.eachR K.trie lim xs ks).1 : Nat) : Int)) ∧ ∃ tk', tk' ≤ 100 ∧ TWs w w' P Q m0 lim TB (K.eachR K.trie lim xs ks).2 tk' := by
  obtain ⟨T1, hT1⟩ : ∃ T1, (K.eachR K.trie lim xs ks).1 = T1 := ⟨_, rfl⟩
  obtain ⟨T2, hT2⟩ : ∃ T2, (K.eachR K.trie lim xs ks).2 = T2 := ⟨_, rfl⟩
  rw [hT1, hT2]
  have HN := Lib.hid hn
  have H0 : Hid (0 + (K.eachR K.trie lim xs (ks.drop 0)).1 = T1 ∧ (K.eachR K.trie lim xs (ks.drop 0)).2 = T2) := Lib.hid ⟨by rw [List.drop_zero, hT1, Nat.zero_add], by rw [List.drop_zero, hT2]⟩
  have HT := Lib.hid h
  have HRD := Lib.hid hR
  have HTB := Lib.hid hTB
  have HKS := Lib.hid hks
  clear h hR hT1 hT2 hn hTB hks
  go_enter Tryd.func33, Tryd.ntmps33
  go_wp2
  go_loopw [5, 10] (fun acc ix wr => ∃ (j a tk' : Nat) (ys : List Nat), j ≤ n ∧ a ≤ j ∧ tk' ≤ 100 ∧ ix = .int .i64 (j : Int) ∧ acc = .int .i64 (a : Int) ∧ Hid (TWs w wr P Q m0 lim TB ys tk') ∧ Hid (a + (K.eachR K.trie lim ys (ks.drop j)).1 = T1 ∧ (K.eachR K.trie lim ys (ks.drop j)).2 = T2)) (fun _ ix _ => n - (intOf ix).toNat)
  case atStart => exact ⟨0, 0, tk, xs, by omega, by omega, htk, rfl, rfl, HT, H0⟩
  case round =>
    obtain ⟨j, a, tk', ys, hj, haj, htj, rfl, rfl, hT, hE⟩ := hrel
    rcases Nat.lt_or_ge j n with hjr | hjr
    · have hjk : j < ks.length := by rw [HN.out]; exact hjr
      have hdr : ks.drop j = ks[j] :: ks.drop (j + 1) := List.drop_eq_getElem_cons hjk
      have hchg : K.Chg w wr TB := by
        obtain ⟨_, _, _, _, _, _, _, _, _, hC, _⟩ := hT.out
        exact hC
      have hKr := hchg.kx HRD.out HTB.out
      unfold KX at hKr
      rw [HN.out] at hKr
      obtain ⟨g, rfl⟩ := own_some hKr (by omega)
      have hcell : wr.cell? ⟨g, j, none⟩ = some (.int .u64 ((ks[j] : Nat) : Int)) := (hKr.cellAt j (by omega)).trans (by simp [wv, hjk])
      clear hKr
      have hkl := HKS.out ks[j] (List.getElem_mem hjk)
      have hE2 := hE.out
      rw [hdr] at hE2
      have hins := Lib.hid (hT.out.insert ks[j] hkl)
      have hcs := K.in_cases K.trie ys lim ks[j]
      generalize ks[j] = k at *
      have gk : (j : Int) < (n : Int) := by omega
      have wj : IntKind.i64.wrap ((j : Int) + 1) = ((j + 1 : Nat) : Int) := by rw [IntWalk.i64_in _ (by omega)]; omega
      have wa : IntKind.i64.wrap ((a : Int) + 1) = ((a + 1 : Nat) : Int) := by rw [IntWalk.i64_in _ (by omega)]; omega
      clear hdr hjk hE
      rcases hcs with e0 | ⟨e4, e4l⟩ | ⟨e5, e5l⟩
      · have HE : Hid (a + 1 + (K.eachR K.trie lim (K.inL K.trie ys lim k) (ks.drop (j + 1))).1 = T1 ∧ (K.eachR K.trie lim (K.inL K.trie ys lim k) (ks.drop (j + 1))).2 = T2) := Lib.hid (by
          unfold K.eachR at hE2
          rw [if_pos e0] at hE2
          exact ⟨by omega, hE2.2⟩)
        rw [e0] at hins
        clear hE2 e0
        go_wp2_with (go_at_call 23; (with_reducible refine hins.out.mono ?_); rintro e w2 ⟨rfl, tk2, ht2, hT2'⟩; have HT2 := Lib.hid hT2'; clear hT2')
        go_roundw
        case rel => exact ⟨j + 1, a + 1, tk2, _, by omega, by omega, by omega, by go_num, by go_num, HT2, HE⟩
        case measure => simp [intOf]; omega
      · have HE : Hid (a + (K.eachR K.trie lim ys (ks.drop (j + 1))).1 = T1 ∧ (K.eachR K.trie lim ys (ks.drop (j + 1))).2 = T2) := Lib.hid (by
          unfold K.eachR at hE2
          rw [if_neg (by omega), if_neg (by omega)] at hE2
          exact hE2)
        rw [e4, e4l] at hins
        clear hE2 e4 e4l
        go_wp2_with (go_at_call 23; (with_reducible refine hins.out.mono ?_); rintro e w2 ⟨rfl, tk2, ht2, hT2'⟩; have HT2 := Lib.hid hT2'; clear hT2')
        go_roundw
        case rel => exact ⟨j + 1, a, tk2, ys, by omega, by omega, by omega, by go_num, rfl, HT2, HE⟩
        case measure => simp [intOf]; omega
      · have HE : Hid (a = T1 ∧ ys = T2) := Lib.hid (by
          unfold K.eachR at hE2
          rw [if_neg (by omega), if_pos e5] at hE2
          exact hE2)
        rw [e5, e5l] at hins
        clear hE2 e5 e5l
        go_wp2_with (go_at_call 23; (with_reducible refine hins.out.mono ?_); rintro e w2 ⟨rfl, tk2, ht2, hT2'⟩; have HT2 := Lib.hid hT2'; clear hT2')
        go_ret
        exact ⟨by rw [HE.out.1]; rfl, tk2, by omega, by rw [← HE.out.2]; exact HT2.out⟩
    · obtain rfl : j = n := by omega
      have g0 : decide ((j : Int) < (j : Int)) = false := decide_eq_false (by omega)
      have HE : Hid (a = T1 ∧ ys = T2) := Lib.hid (by
        have h1 := hE.out
        rw [← HN.out, List.drop_length] at h1
        exact h1)
      clear hE
      go_wp2
      go_ret
      exact ⟨by rw [HE.out.1]; rfl, tk', htj, by rw [← HE.out.2]; exact hT.out⟩
end
end Go.Proofs.YtbiingpdchoppaaDoor
