
/- array: the search by halves, Rank, Has, Select, Next; the text walked. -/
import Derived.Test.YtlinoambdlkfjaaGreatArr3
namespace Go.Proofs.YtlinoambdlkfjaaGreat.A
set_option maxRecDepth 40000
open Go.RowKit
theorem rank_at {xs : List Int} {v : Int} {i : Nat} (hi : i ≤ xs.length) (h1 : ∀ k (h : k < xs.length), k < i → xs[k] < v) (h2 : ∀ k (h : k < xs.length), i ≤ k → v ≤ xs[k]) : M.rRank xs v = i := by
  unfold M.rRank
  have e1 : (xs.take i).filter (fun x => decide (x < v)) = xs.take i := List.filter_eq_self.2 fun x hx => by
    rw [List.mem_take_iff_getElem] at hx
    obtain ⟨k, hk, rfl⟩ := hx
    simpa using h1 k (by omega) (by omega)
  have e2 : (xs.drop i).filter (fun x => decide (x < v)) = [] := List.filter_eq_nil_iff.2 fun x hx => by
    rw [List.mem_drop_iff_getElem] at hx
    obtain ⟨k, hk, rfl⟩ := hx
    have := h2 (i + k) (by omega) (by omega)
    simp; omega
  conv => lhs; rw [← List.take_append_drop i xs]
  rw [List.filter_append, e1, e2]
  simp; omega
theorem mem_at {xs : List Int} {v : Int} {i : Nat} (h1 : ∀ k (h : k < xs.length), k < i → xs[k] < v) (h2 : ∀ k (h : k < xs.length), i ≤ k → v ≤ xs[k]) (hs : xs.Pairwise (· < ·)) : v ∈ xs ↔ ∃ h : i < xs.length, xs[i] = v := by
  constructor
  · intro hv
    obtain ⟨k, hk, he⟩ := List.mem_iff_getElem.1 hv
    rcases Nat.lt_trichotomy k i with h | h | h
    · have := h1 k hk h; omega
    · subst h; exact ⟨hk, he⟩
    · have q1 := List.pairwise_iff_getElem.1 hs i k (by omega) hk h
      have q2 := h2 i (by omega) (Nat.le_refl _)
      omega
  · rintro ⟨h, rfl⟩; exact List.getElem_mem h
/-- What the halves hold. -/
def Half (xs : List Int) (v : Int) (i j : Nat) : Prop := (∀ k (h : k < xs.length), k < i → xs[k] < v) ∧ (∀ k (h : k < xs.length), j ≤ k → v ≤ xs[k])
theorem half_up {xs : List Int} {v : Int} {i j h : Nat} (hs : xs.Pairwise (· < ·)) (hh : Half xs v i j) (hl : h < xs.length) (hy : xs[h] < v) : Half xs v (h + 1) j := by
  refine ⟨fun k hk hki => ?_, hh.2⟩
  rcases Nat.lt_or_eq_of_le (show k ≤ h by omega) with e | e
  · exact Int.lt_trans (List.pairwise_iff_getElem.1 hs k h hk hl e) hy
  · subst e; exact hy
theorem half_down {xs : List Int} {v : Int} {i j h : Nat} (hs : xs.Pairwise (· < ·)) (hh : Half xs v i j) (hl : h < xs.length) (hy : v ≤ xs[h]) : Half xs v i h := by
  refine ⟨hh.1, fun k hk hki => ?_⟩
  rcases Nat.lt_or_eq_of_le hki with e | e
  · exact Int.le_trans hy (Int.le_of_lt (List.pairwise_iff_getElem.1 hs h k hl hk e))
  · subst e; exact hy
set_option maxHeartbeats 1000000 in
theorem nan_any (x : Int) (w : World) : Calls Tryz.prog 87 #[.int .u16 x] w fun e w' => e = .returned (.bool false) ∧ w = w' := by
  go_enter Tryz.func87, Tryz.ntmps87
  go_wp2
  go_ret
  exact ⟨by simp, rfl⟩
set_option maxHeartbeats 8000000 in
set_option maxRecDepth 100000 in
theorem a_search (w : World) (B n c : Nat) (A : Option Addr) (xs : List Int) (v : Int) (hn : n = xs.length) (hr : Rh w B A xs) (hs : xs.Pairwise (· < ·)) (few : n ≤ 1000000) :
    Calls Tryz.prog 71 #[.slice A n c, .int .u16 v] w fun e w' => e = .returned (.tuple #[.int .i64 (M.rRank xs v : Nat), .bool (decide (v ∈ xs))]) ∧ w = w' := by
  have HN := Lib.hid hn
  have HS := Lib.hid hs
  have HR := Lib.hid hr
  clear hn hs hr
  go_enter Tryz.func71, Tryz.ntmps71
  go_wp2_with (fail)
  go_loop [7, 8] (fun vi vj => ∃ i j : Nat, vi = .int .i64 i ∧ vj = .int .i64 j ∧ i ≤ j ∧ j ≤ n ∧ Hid (Half xs v i j)) (fun vi vj => (intOf vj - intOf vi).toNat)
  case atStart => exact ⟨0, n, rfl, rfl, Nat.zero_le _, Nat.le_refl _, Lib.hid ⟨fun k _ h => by omega, fun k h h' => by have := HN.out; omega⟩⟩
  case round =>
    obtain ⟨i, j, rfl, rfl, hij, hjn, hH⟩ := hrel
    by_cases hlt : i < j
    · obtain ⟨h, hh⟩ : ∃ h, h = (i + j) / 2 := ⟨_, rfl⟩
      have eh : ((i : Int) + (j : Int)) / 2 = (h : Int) := by omega
      have hhi : i ≤ h := by omega
      have hhj : h < j := by omega
      clear hh
      have hhn : h < n := by omega
      have hhx : h < xs.length := by rw [← HN.out]; exact hhn
      obtain ⟨b, off, hA, _, hcell⟩ := HR.out.at hhx
      subst hA
      obtain ⟨y, hy⟩ : ∃ y, y = xs[h] := ⟨_, rfl⟩
      rw [← hy] at hcell
      have HY := Lib.hid hy
      clear hy
      have hs0 : 0 ≤ (i : Int) + (j : Int) := by omega
      have hs1 : (i : Int) + (j : Int) ≤ 2000000 := by omega
      go_wp2_with (go_at_call 86; refine (less_any _ _ _).mono ?_; rintro e w' ⟨rfl, rfl⟩)
      · have e : Sort.ltInt y v = true := by assumption
        go_round
        case rel => exact ⟨h + 1, j, by go_num, rfl, by omega, hjn, Lib.hid (half_up HS.out hH.out hhx (by rw [← HY.out]; exact lt_yes e))⟩
        case measure => simp [intOf]; omega
      · have e : Sort.ltInt y v = false := by assumption
        go_round
        case rel => exact ⟨i, h, rfl, rfl, hhi, by omega, Lib.hid (half_down HS.out hH.out hhx (by rw [← HY.out]; exact lt_no e))⟩
        case measure => simp [intOf]; omega
    · have hji : j = i := by omega
      subst hji
      have hrk : Hid (M.rRank xs v = j) := Lib.hid (rank_at (by rw [← HN.out]; exact hjn) hH.out.1 hH.out.2)
      have hmem : Hid (v ∈ xs ↔ ∃ h : j < xs.length, xs[j] = v) := Lib.hid (mem_at hH.out.1 hH.out.2 HS.out)
      by_cases hin : j < n
      · have hjx : j < xs.length := by rw [← HN.out]; exact hin
        obtain ⟨b, off, hA, _, hcell⟩ := HR.out.at hjx
        subst hA
        obtain ⟨y, hy⟩ : ∃ y, y = xs[j] := ⟨_, rfl⟩
        rw [← hy] at hcell
        have HY := Lib.hid hy
        clear hy
        by_cases hyv : y = v
        · have HM : Hid (v ∈ xs) := Lib.hid (hmem.out.2 ⟨hjx, by rw [← HY.out]; exact hyv⟩)
          subst hyv
          go_wp2_with (go_at_call 87; refine (nan_any _ _).mono ?_; rintro e w' ⟨rfl, rfl⟩)
          go_ret2
          exact ⟨by rw [hrk.out, decide_eq_true HM.out]; rfl, rfl⟩
        · have HM : Hid (¬ v ∈ xs) := Lib.hid (fun hv => by obtain ⟨_, h⟩ := hmem.out.1 hv; rw [← HY.out] at h; exact hyv h)
          have hyb : (y == v) = false := by simpa using hyv
          go_wp2_with (go_at_call 87; refine (nan_any _ _).mono ?_; rintro e w' ⟨rfl, rfl⟩)
          go_ret2
          exact ⟨by rw [hrk.out, decide_eq_false HM.out]; rfl, rfl⟩
      · have HM : Hid (¬ v ∈ xs) := Lib.hid (fun hv => by obtain ⟨h, _⟩ := hmem.out.1 hv; rw [← HN.out] at h; exact hin h)
        go_wp2_with (go_at_call 87; refine (nan_any _ _).mono ?_; rintro e w' ⟨rfl, rfl⟩)
        go_ret2
        exact ⟨by rw [hrk.out, decide_eq_false HM.out]; rfl, rfl⟩
end Go.Proofs.YtlinoambdlkfjaaGreat.A
