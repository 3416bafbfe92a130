/- Each: many keys, one after the other; the text walked. -/
import Derived.Test.YtbiingpdchoppaaDoorMgN
namespace Go.Proofs.YtbiingpdchoppaaDoor
set_option maxRecDepth 40000
open Go.RowKit
namespace K
/-- How many of these keys are taken, and the list then: it stops at the first that doesn't fit. -/
def eachR (us : List Nat → Nat) (lim : Nat) : List Nat → List Nat → Nat × List Nat
  | xs, [] => (0, xs)
  | xs, k :: ks => if inE us xs lim k = 0 then ((eachR us lim (inL us xs lim k) ks).1 + 1, (eachR us lim (inL us xs lim k) ks).2) else if inE us xs lim k = 5 then (0, xs) else eachR us lim xs ks
theorem in_cases (us : List Nat → Nat) (xs : List Nat) (lim k : Nat) : inE us xs lim k = 0 ∨ (inE us xs lim k = 4 ∧ inL us xs lim k = xs) ∨ (inE us xs lim k = 5 ∧ inL us xs lim k = xs) := by
  unfold inE inL
  by_cases h1 : fo xs k = true
  · rw [if_pos h1, if_pos h1]; exact .inr (.inl ⟨rfl, rfl⟩)
  · rw [if_neg h1, if_neg h1]
    by_cases h2 : lim < us (add xs k)
    · rw [if_pos h2, if_pos h2]; exact .inr (.inr ⟨rfl, rfl⟩)
    · rw [if_neg h2]; exact .inl rfl
end K
theorem TWs.insert {w w1 : World} {P Q m0 lim tk : Nat} {TB : Nat → Prop} {xs : List Nat} (h : TWs w w1 P Q m0 lim TB xs tk) (k : Nat) (hk : k < 18446744073709551616) : Calls Tryd.prog 23 #[.pointer (some ⟨P, 0, none⟩), .int .u64 (k : Int)] w1 fun e w' => e = .returned (.int .i64 ((K.inE K.trie xs lim k : Nat) : Int)) ∧ ∃ tk', tk' ≤ 11 ∧ TWs w w' P Q m0 lim TB (K.inL K.trie xs lim k) tk' := by
  obtain ⟨An, cn, Af, cf, ns, fs, root, pl, hT, hC, hB⟩ := h
  refine (t_insert w1 P Q m0 lim tk root cn cf An Af ns fs xs pl hT k hk).mono ?_
  rintro e w' ⟨rfl, tk', ht, An', cn', Af', cf', ns', fs', root', pl', hT', hC', hB'⟩
  refine ⟨rfl, tk', ht, An', cn', Af', cf', ns', fs', root', pl', hT', hC.trans hC' hB, fun b hb => ?_⟩
  rcases hB' b hb with h1 | h1
  · exact hB b h1
  · exact .inr (Nat.le_trans hC.size h1)
section
variable (w : World) (P Q m0 lim tk : Nat) (TB : Nat → Prop) (xs : List Nat)
set_option maxHeartbeats 2000000 in
theorem t_each (h : TWs w w P Q m0 lim TB xs tk) (B : Nat) (hTB : ∀ j, TB j → B ≤ j) (hBw : B ≤ w.heap.size) (A : Option Addr) (n c : Nat) (ks : List Nat) (hks : ∀ k ∈ ks, k < 18446744073709551616) (hn : ks.length = n) (hn2 : n ≤ 1000000) (hR : Reads w B 1 A n (wv ks)) :
    Calls Tryd.prog 33 #[.pointer (some ⟨P, 0, none⟩), .slice A n c] w fun e w' => e = .returned (.int .i64 (((K.eachR K.trie lim xs ks).1 : Nat) : Int)) ∧ ∃ tk', TWs w w' P Q m0 lim TB (K.eachR K.trie lim xs ks).2 tk' := by
  obtain ⟨T1, hT1⟩ : ∃ T1, (K.eachR K.trie lim xs ks).1 = T1 := ⟨_, rfl⟩
  obtain ⟨T2, hT2⟩ : ∃ T2, (K.eachR K.trie lim xs ks).2 = T2 := ⟨_, rfl⟩
  rw [hT1, hT2]
  have HN := Lib.hid hn
  have H0 : Hid (0 + (K.eachR K.trie lim xs (ks.drop 0)).1 = T1 ∧ (K.eachR K.trie lim xs (ks.drop 0)).2 = T2) := Lib.hid ⟨by rw [List.drop_zero, hT1, Nat.zero_add], by rw [List.drop_zero, hT2]⟩
  have HT := Lib.hid h
  have HRD := Lib.hid hR
  have HTB := Lib.hid hTB
  have HKS := Lib.hid hks
  clear h hR hT1 hT2 hn hTB hks
  go_enter Tryd.func33, Tryd.ntmps33
  go_wp2
  go_loopw [5, 10] (fun acc ix wr => ∃ (j a tk' : Nat) (ys : List Nat), j ≤ n ∧ a ≤ j ∧ ix = .int .i64 (j : Int) ∧ acc = .int .i64 (a : Int) ∧ Hid (TWs w wr P Q m0 lim TB ys tk') ∧ Hid (a + (K.eachR K.trie lim ys (ks.drop j)).1 = T1 ∧ (K.eachR K.trie lim ys (ks.drop j)).2 = T2)) (fun _ ix _ => n - (intOf ix).toNat)
  case atStart => exact ⟨0, 0, tk, xs, by omega, by omega, rfl, rfl, HT, H0⟩
  case round =>
    obtain ⟨j, a, tk', ys, hj, haj, rfl, rfl, hT, hE⟩ := hrel
    rcases Nat.lt_or_ge j n with hjr | hjr
    · have hjk : j < ks.length := by rw [HN.out]; exact hjr
      have hdr : ks.drop j = ks[j] :: ks.drop (j + 1) := List.drop_eq_getElem_cons hjk
      have hchg : K.Chg w wr TB := by
        obtain ⟨_, _, _, _, _, _, _, _, _, hC, _⟩ := hT.out
        exact hC
      obtain ⟨ad, u, rfl, _, hu, hcell⟩ := (HRD.out.below (hchg.below hBw HTB.out)).at_ hjr
      have hu2 : u = .int .u64 ((ks[j] : Nat) : Int) := by
        have : (wv ks)[j]? = some (.int .u64 ((ks[j] : Nat) : Int)) := by simp [wv, hjk]
        rw [this] at hu
        exact (Option.some.inj hu).symm
      subst hu2
      have hkl := HKS.out ks[j] (List.getElem_mem hjk)
      have hE2 := hE.out
      rw [hdr] at hE2
      have hins := Lib.hid (hT.out.insert ks[j] hkl)
      have hcs := K.in_cases K.trie ys lim ks[j]
      generalize ks[j] = k at *
      have gk : (j : Int) < (n : Int) := by omega
      have wj : IntKind.i64.wrap ((j : Int) + 1) = ((j + 1 : Nat) : Int) := by rw [IntWalk.i64_in _ (by omega)]; omega
      have wa : IntKind.i64.wrap ((a : Int) + 1) = ((a + 1 : Nat) : Int) := by rw [IntWalk.i64_in _ (by omega)]; omega
      clear hu hdr hjk hE
      rcases hcs with e0 | ⟨e4, e4l⟩ | ⟨e5, e5l⟩
      · have HE : Hid (a + 1 + (K.eachR K.trie lim (K.inL K.trie ys lim k) (ks.drop (j + 1))).1 = T1 ∧ (K.eachR K.trie lim (K.inL K.trie ys lim k) (ks.drop (j + 1))).2 = T2) := Lib.hid (by
          unfold K.eachR at hE2
          rw [if_pos e0] at hE2
          exact ⟨by omega, hE2.2⟩)
        rw [e0] at hins
        clear hE2 e0
        go_wp2_with (go_at_call 23; (with_reducible refine hins.out.mono ?_); rintro e w2 ⟨rfl, tk2, _, hT2'⟩; have HT2 := Lib.hid hT2'; clear hT2')
        go_roundw
        case rel => exact ⟨j + 1, a + 1, tk2, _, by omega, by omega, by go_num, by go_num, HT2, HE⟩
        case measure => simp [intOf]; omega
      · have HE : Hid (a + (K.eachR K.trie lim ys (ks.drop (j + 1))).1 = T1 ∧ (K.eachR K.trie lim ys (ks.drop (j + 1))).2 = T2) := Lib.hid (by
          unfold K.eachR at hE2
          rw [if_neg (by omega), if_neg (by omega)] at hE2
          exact hE2)
        rw [e4, e4l] at hins
        clear hE2 e4 e4l
        go_wp2_with (go_at_call 23; (with_reducible refine hins.out.mono ?_); rintro e w2 ⟨rfl, tk2, _, hT2'⟩; have HT2 := Lib.hid hT2'; clear hT2')
        go_roundw
        case rel => exact ⟨j + 1, a, tk2, ys, by omega, by omega, by go_num, rfl, HT2, HE⟩
        case measure => simp [intOf]; omega
      · have HE : Hid (a = T1 ∧ ys = T2) := Lib.hid (by
          unfold K.eachR at hE2
          rw [if_neg (by omega), if_pos e5] at hE2
          exact hE2)
        rw [e5, e5l] at hins
        clear hE2 e5 e5l
        go_wp2_with (go_at_call 23; (with_reducible refine hins.out.mono ?_); rintro e w2 ⟨rfl, tk2, _, hT2'⟩; have HT2 := Lib.hid hT2'; clear hT2')
        go_ret
        exact ⟨by rw [HE.out.1]; rfl, tk2, by rw [← HE.out.2]; exact HT2.out⟩
    · obtain rfl : j = n := by omega
      have g0 : decide ((j : Int) < (j : Int)) = false := decide_eq_false (by omega)
      have HE : Hid (a = T1 ∧ ys = T2) := Lib.hid (by
        have h1 := hE.out
        rw [← HN.out, List.drop_length] at h1
        exact h1)
      clear hE
      go_wp2
      go_ret
      exact ⟨by rw [HE.out.1]; rfl, tk', by rw [← HE.out.2]; exact hT.out⟩
end
end Go.Proofs.YtbiingpdchoppaaDoor
