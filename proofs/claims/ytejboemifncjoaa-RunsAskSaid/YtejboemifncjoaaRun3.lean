
/- The closures of parts, and the search over each; the texts walked. -/
import Derived.Test.YtejboemifncjoaaRun2
namespace Go.Proofs.Ytejboemifncjoaa
open Go.RowKit
theorem clos1 (w : World) (gl gv b off i n c : Nat) (f t F : Int) (hi : i < n) (hg : w.cell? ⟨gl, 0, none⟩ = some (.slice (some ⟨b, off, none⟩) n c)) (hv : w.cell? ⟨gv, 0, none⟩ = some (.int .i64 F)) (_h1 : w.cell? ⟨b, off + i * 2, none⟩ = some (.int .u16 f)) (h2 : w.cell? ⟨b, off + i * 2 + 1, none⟩ = some (.int .u16 t)) (hf : 0 ≤ f ∧ f ≤ 65535) (ht : 0 ≤ t ∧ t ≤ 65535) :
    Calls Try.prog 46 #[.int .i64 (i : Int), .pointer (some ⟨gl, 0, none⟩), .pointer (some ⟨gv, 0, none⟩)] w fun e w' => e = .returned (.bool (decide (F ≤ t))) ∧ ∃ q, w' = w.drewN q := by
  have w1 : IntKind.i64.wrap t = t := IntWalk.i64_in _ (by omega)
  have w2 : IntKind.i64.wrap f = f := IntWalk.i64_in _ (by omega)
  have hin : (i : Int) < (n : Int) := by omega
  go_enter Try.func46, Try.ntmps46
  go_wp2
  go_quiet (fail)
  go_wp2
  go_ret
  exact ⟨rfl, _, rfl⟩
theorem clos2 (w : World) (gl gv b off i n c : Nat) (f t F : Int) (hi : i < n) (hg : w.cell? ⟨gl, 0, none⟩ = some (.slice (some ⟨b, off, none⟩) n c)) (hv : w.cell? ⟨gv, 0, none⟩ = some (.int .i64 F)) (h1 : w.cell? ⟨b, off + i * 2, none⟩ = some (.int .u16 f)) (_h2 : w.cell? ⟨b, off + i * 2 + 1, none⟩ = some (.int .u16 t)) (hf : 0 ≤ f ∧ f ≤ 65535) (ht : 0 ≤ t ∧ t ≤ 65535) :
    Calls Try.prog 47 #[.int .i64 (i : Int), .pointer (some ⟨gl, 0, none⟩), .pointer (some ⟨gv, 0, none⟩)] w fun e w' => e = .returned (.bool (decide (F < f))) ∧ ∃ q, w' = w.drewN q := by
  have w1 : IntKind.i64.wrap t = t := IntWalk.i64_in _ (by omega)
  have w2 : IntKind.i64.wrap f = f := IntWalk.i64_in _ (by omega)
  have hin : (i : Int) < (n : Int) := by omega
  go_enter Try.func47, Try.ntmps47
  go_wp2
  go_quiet (fail)
  go_wp2
  go_ret
  exact ⟨rfl, _, rfl⟩
set_option maxHeartbeats 4000000 in
set_option maxRecDepth 100000 in
theorem search1 (w : World) (n : Nat) (gl gv : Nat) (p : Nat → Bool) (few : n ≤ 1000000) (hm : ∀ a b, a ≤ b → b < n → p a = true → p b = true)
    (hc : ∀ q i, i < n → Calls Try.prog 46 #[.int .i64 (i : Int), .pointer (some ⟨gl, 0, none⟩), .pointer (some ⟨gv, 0, none⟩)] (w.drewN q) fun e w' => e = .returned (.bool (p i)) ∧ ∃ q', w' = w.drewN q') :
    Calls Try.prog 45 #[.int .i64 (n : Int), .func (.func 46) #[] #[.pointer (some ⟨gl, 0, none⟩), .pointer (some ⟨gv, 0, none⟩)]] w fun e w' => ∃ r : Nat, e = .returned (.int .i64 (r : Int)) ∧ r ≤ n ∧ (∀ k, k < r → p k = false) ∧ (∀ k, r ≤ k → k < n → p k = true) ∧ ∃ q, w' = w.drewN q := by
  have HC := Lib.hid hc
  have HM := Lib.hid hm
  clear hc hm
  go_enter Try.func45, Try.ntmps45
  go_wp2_with (fail)
  go_loopw [5, 6] (fun vi vj wr => ∃ i j : Nat, vi = .int .i64 i ∧ vj = .int .i64 j ∧ i ≤ j ∧ j ≤ n ∧ Hid (∀ k, k < i → p k = false) ∧ Hid (∀ k, j ≤ k → k < n → p k = true) ∧ Hid (∃ q, wr = w.drewN q)) (fun vi vj _ => (intOf vj - intOf vi).toNat)
  case atStart => exact ⟨0, n, rfl, rfl, Nat.zero_le _, Nat.le_refl _, Lib.hid (fun k h => by omega), Lib.hid (fun k h h' => by omega), Lib.hid ⟨0, rfl⟩⟩
  case round =>
    obtain ⟨i, j, rfl, rfl, hij, hjn, hL, hR, hQ⟩ := hrel
    obtain ⟨q, hq⟩ := hQ.out
    subst hq
    by_cases hlt : i < j
    · obtain ⟨h, hh⟩ : ∃ h, h = (i + j) / 2 := ⟨_, rfl⟩
      have eh : ((i : Int) + (j : Int)) / 2 = (h : Int) := by omega
      have hhi : i ≤ h := by omega
      have hhj : h < j := by omega
      clear hh
      have hhn : h < n := by omega
      have HCH := Lib.hid (HC.out q h hhn)
      have hs0 : 0 ≤ (i : Int) + (j : Int) := by omega
      have hs1 : (i : Int) + (j : Int) ≤ 2000000 := by omega
      obtain ⟨b, hb⟩ : ∃ b, p h = b := ⟨_, rfl⟩
      rw [hb] at HCH
      have HB := Lib.hid hb
      clear hb
      cases b
      · go_wp2_with (go_at_call 46; (with_reducible refine HCH.out.mono ?_); rintro e w' ⟨rfl, q', rfl⟩)
        go_roundw
        case rel => exact ⟨h + 1, j, by go_num, rfl, by omega, hjn, Lib.hid (fun k hk => by
          cases e : p k
          · rfl
          · have := HM.out k h (by omega) hhn e
            rw [HB.out] at this
            cases this), hR, Lib.hid ⟨_, rfl⟩⟩
        case measure => simp [intOf]; omega
      · go_wp2_with (go_at_call 46; (with_reducible refine HCH.out.mono ?_); rintro e w' ⟨rfl, q', rfl⟩)
        go_roundw
        case rel => exact ⟨i, h, rfl, rfl, hhi, by omega, hL, Lib.hid (fun k hk hkn => HM.out h k hk hkn HB.out), Lib.hid ⟨_, rfl⟩⟩
        case measure => simp [intOf]; omega
    · have hji : j = i := by omega
      subst hji
      go_wp2
      go_ret
      exact ⟨j, rfl, hjn, hL.out, hR.out, _, rfl⟩
set_option maxHeartbeats 4000000 in
set_option maxRecDepth 100000 in
theorem search2 (w : World) (n : Nat) (gl gv : Nat) (p : Nat → Bool) (few : n ≤ 1000000) (hm : ∀ a b, a ≤ b → b < n → p a = true → p b = true)
    (hc : ∀ q i, i < n → Calls Try.prog 47 #[.int .i64 (i : Int), .pointer (some ⟨gl, 0, none⟩), .pointer (some ⟨gv, 0, none⟩)] (w.drewN q) fun e w' => e = .returned (.bool (p i)) ∧ ∃ q', w' = w.drewN q') :
    Calls Try.prog 45 #[.int .i64 (n : Int), .func (.func 47) #[] #[.pointer (some ⟨gl, 0, none⟩), .pointer (some ⟨gv, 0, none⟩)]] w fun e w' => ∃ r : Nat, e = .returned (.int .i64 (r : Int)) ∧ r ≤ n ∧ (∀ k, k < r → p k = false) ∧ (∀ k, r ≤ k → k < n → p k = true) ∧ ∃ q, w' = w.drewN q := by
  have HC := Lib.hid hc
  have HM := Lib.hid hm
  clear hc hm
  go_enter Try.func45, Try.ntmps45
  go_wp2_with (fail)
  go_loopw [5, 6] (fun vi vj wr => ∃ i j : Nat, vi = .int .i64 i ∧ vj = .int .i64 j ∧ i ≤ j ∧ j ≤ n ∧ Hid (∀ k, k < i → p k = false) ∧ Hid (∀ k, j ≤ k → k < n → p k = true) ∧ Hid (∃ q, wr = w.drewN q)) (fun vi vj _ => (intOf vj - intOf vi).toNat)
  case atStart => exact ⟨0, n, rfl, rfl, Nat.zero_le _, Nat.le_refl _, Lib.hid (fun k h => by omega), Lib.hid (fun k h h' => by omega), Lib.hid ⟨0, rfl⟩⟩
  case round =>
    obtain ⟨i, j, rfl, rfl, hij, hjn, hL, hR, hQ⟩ := hrel
    obtain ⟨q, hq⟩ := hQ.out
    subst hq
    by_cases hlt : i < j
    · obtain ⟨h, hh⟩ : ∃ h, h = (i + j) / 2 := ⟨_, rfl⟩
      have eh : ((i : Int) + (j : Int)) / 2 = (h : Int) := by omega
      have hhi : i ≤ h := by omega
      have hhj : h < j := by omega
      clear hh
      have hhn : h < n := by omega
      have HCH := Lib.hid (HC.out q h hhn)
      have hs0 : 0 ≤ (i : Int) + (j : Int) := by omega
      have hs1 : (i : Int) + (j : Int) ≤ 2000000 := by omega
      obtain ⟨b, hb⟩ : ∃ b, p h = b := ⟨_, rfl⟩
      rw [hb] at HCH
      have HB := Lib.hid hb
      clear hb
      cases b
      · go_wp2_with (go_at_call 47; (with_reducible refine HCH.out.mono ?_); rintro e w' ⟨rfl, q', rfl⟩)
        go_roundw
        case rel => exact ⟨h + 1, j, by go_num, rfl, by omega, hjn, Lib.hid (fun k hk => by
          cases e : p k
          · rfl
          · have := HM.out k h (by omega) hhn e
            rw [HB.out] at this
            cases this), hR, Lib.hid ⟨_, rfl⟩⟩
        case measure => simp [intOf]; omega
      · go_wp2_with (go_at_call 47; (with_reducible refine HCH.out.mono ?_); rintro e w' ⟨rfl, q', rfl⟩)
        go_roundw
        case rel => exact ⟨i, h, rfl, rfl, hhi, by omega, hL, Lib.hid (fun k hk hkn => HM.out h k hk hkn HB.out), Lib.hid ⟨_, rfl⟩⟩
        case measure => simp [intOf]; omega
    · have hji : j = i := by omega
      subst hji
      go_wp2
      go_ret
      exact ⟨j, rfl, hjn, hL.out, hR.out, _, rfl⟩
end Go.Proofs.Ytejboemifncjoaa
