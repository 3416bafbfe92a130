
/- array: Rank, Has, Select, Next, Prev, Is; the text walked. -/
import Derived.Test.YtlinoambdlkfjaaGreatArr4
namespace Go.Proofs.YtlinoambdlkfjaaGreat.A
set_option maxRecDepth 40000
open Go.RowKit
theorem rank_le (xs : List Int) (v : Int) : M.rRank xs v ≤ xs.length := List.length_filter_le _ _
/-- What stands ahead of a rank is less, what stands from it on isn't. -/
theorem rank_half {xs : List Int} (hs : xs.Pairwise (· < ·)) (v : Int) : Half xs v (M.rRank xs v) (M.rRank xs v) := by
  induction xs with
  | nil => exact ⟨fun k h => by simp at h, fun k h => by simp at h⟩
  | cons a l ih =>
    rw [List.pairwise_cons] at hs
    obtain ⟨i1, i2⟩ := ih hs.2
    by_cases ha : a < v
    · have e : M.rRank (a :: l) v = M.rRank l v + 1 := by unfold M.rRank; rw [List.filter_cons, if_pos (by simpa using ha)]; rfl
      rw [e]
      refine ⟨fun k hk h => ?_, fun k hk h => ?_⟩
      · cases k with
        | zero => exact ha
        | succ k => exact i1 k (by simpa using hk) (by omega)
      · cases k with
        | zero => omega
        | succ k => exact i2 k (by simpa using hk) (by omega)
    · have hz : ∀ x ∈ a :: l, ¬ x < v := fun x hx => by
        rcases List.mem_cons.1 hx with rfl | hx
        · exact ha
        · have := hs.1 x hx; omega
      have e : M.rRank (a :: l) v = 0 := by
        unfold M.rRank
        rw [List.filter_eq_nil_iff.2 fun x hx => by simpa using hz x hx]
        rfl
      rw [e]
      exact ⟨fun k hk h => by omega, fun k hk _ => by have := hz _ (List.getElem_mem hk); omega⟩
def selv (xs : List Int) (k : Int) : Int := if 0 ≤ k then xs.getD k.toNat 0 else 0
def selb (xs : List Int) (k : Int) : Bool := decide (0 ≤ k ∧ k < xs.length)
theorem next_at {xs : List Int} (hs : xs.Pairwise (· < ·)) (v : Int) : (if selb xs (M.rRank xs v : Nat) then selv xs (M.rRank xs v : Nat) else -1) = M.rNext xs v := by
  obtain ⟨h1, h2⟩ := rank_half hs v
  by_cases h : M.rRank xs v < xs.length
  · have e1 : selb xs (M.rRank xs v : Nat) = true := by unfold selb; rw [decide_eq_true_eq]; omega
    have e2 : selv xs (M.rRank xs v : Nat) = xs[M.rRank xs v] := by unfold selv; rw [if_pos (by omega)]; simp [h]
    rw [e1, if_pos rfl, e2]
    refine (M.next_of hs (List.getElem_mem h) (h2 _ h (Nat.le_refl _)) fun z hz hvz => ?_).symm
    obtain ⟨k, hk, rfl⟩ := List.mem_iff_getElem.1 hz
    rcases Nat.lt_trichotomy k (M.rRank xs v) with c | c | c
    · have := h1 k hk c; omega
    · exact Int.le_of_eq (by simp [c])
    · exact Int.le_of_lt (List.pairwise_iff_getElem.1 hs _ k h hk c)
  · have e1 : selb xs (M.rRank xs v : Nat) = false := by unfold selb; rw [decide_eq_false_iff_not]; omega
    rw [e1]
    refine (M.next_none hs fun z hz => ?_).symm
    obtain ⟨k, hk, rfl⟩ := List.mem_iff_getElem.1 hz
    exact h1 k hk (by omega)
def upv (xs : List Int) (v : Int) : Nat := if v ∈ xs then M.rRank xs v + 1 else M.rRank xs v
theorem up_le (xs : List Int) (v : Int) (hs : xs.Pairwise (· < ·)) : upv xs v ≤ xs.length := by
  unfold upv
  by_cases h : v ∈ xs
  · rw [if_pos h]
    obtain ⟨h1, h2⟩ := rank_half hs v
    obtain ⟨h3, _⟩ := (mem_at h1 h2 hs).1 h
    omega
  · rw [if_neg h]; exact rank_le xs v
theorem up_half {xs : List Int} (hs : xs.Pairwise (· < ·)) (v : Int) : (∀ k (h : k < xs.length), k < upv xs v → xs[k] ≤ v) ∧ (∀ k (h : k < xs.length), upv xs v ≤ k → v < xs[k]) := by
  obtain ⟨h1, h2⟩ := rank_half hs v
  have hm := mem_at h1 h2 hs
  unfold upv
  by_cases h : v ∈ xs
  · rw [if_pos h]
    obtain ⟨h3, h4⟩ := hm.1 h
    refine ⟨fun k hk hlt => ?_, fun k hk hle => ?_⟩
    · rcases Nat.lt_or_eq_of_le (show k ≤ M.rRank xs v by omega) with c | c
      · exact Int.le_of_lt (h1 k hk c)
      · subst c; exact Int.le_of_eq h4
    · have := List.pairwise_iff_getElem.1 hs (M.rRank xs v) k h3 hk (by omega)
      omega
  · rw [if_neg h]
    refine ⟨fun k hk hlt => Int.le_of_lt (h1 k hk hlt), fun k hk hle => ?_⟩
    rcases Int.lt_or_eq_of_le (h2 k hk hle) with c | c
    · exact c
    · exact absurd (by rw [c]; exact List.getElem_mem hk) h
theorem prev_at {xs : List Int} (hs : xs.Pairwise (· < ·)) (v : Int) : (if selb xs ((upv xs v : Nat) - 1) then selv xs ((upv xs v : Nat) - 1) else -1) = M.rPrev xs v := by
  obtain ⟨h1, h2⟩ := up_half hs v
  have hle := up_le xs v hs
  by_cases h : 0 < upv xs v
  · obtain ⟨k, hk⟩ : ∃ k, upv xs v = k + 1 := ⟨upv xs v - 1, by omega⟩
    have hkl : k < xs.length := by omega
    have ek : ((upv xs v : Nat) : Int) - 1 = (k : Int) := by omega
    rw [ek]
    have e1 : selb xs (k : Int) = true := by unfold selb; rw [decide_eq_true_eq]; omega
    have e2 : selv xs (k : Int) = xs[k] := by unfold selv; rw [if_pos (by omega)]; simp [hkl]
    rw [e1, if_pos rfl, e2]
    refine (M.prev_of hs (List.getElem_mem hkl) (h1 k hkl (by omega)) fun z hz hzv => ?_).symm
    obtain ⟨i, hi, rfl⟩ := List.mem_iff_getElem.1 hz
    rcases Nat.lt_trichotomy i k with c | c | c
    · exact Int.le_of_lt (List.pairwise_iff_getElem.1 hs i k hi hkl c)
    · exact Int.le_of_eq (by simp [c])
    · have := h2 i hi (by omega); omega
  · have e1 : selb xs ((upv xs v : Nat) - 1) = false := by unfold selb; rw [decide_eq_false_iff_not]; omega
    rw [e1]
    refine (M.prev_none hs fun z hz => ?_).symm
    obtain ⟨i, hi, rfl⟩ := List.mem_iff_getElem.1 hz
    exact h2 i hi (by omega)
section
variable (w : World) (B n c : Nat) (A : Option Addr) (xs : List Int) (v : Int) (hn : n = xs.length) (hr : Rh w B A xs) (hs : xs.Pairwise (· < ·)) (few : n ≤ 1000000)
include hn hr hs few
set_option maxHeartbeats 2000000 in
theorem a_rank : Calls Tryz.prog 169 #[.slice A n c, .int .u16 v] w fun e w' => e = .returned (.int .i64 (M.rRank xs v : Nat)) ∧ w = w' := by
  have H := Lib.hid (a_search w B n c A xs v hn hr hs few)
  clear hn hr hs
  go_enter Tryz.func169, Tryz.ntmps169
  go_wp2_with (go_at_call 71; (with_reducible refine H.out.mono ?_); rintro e w' ⟨rfl, rfl⟩)
  go_ret
  exact ⟨rfl, rfl⟩
set_option maxHeartbeats 2000000 in
theorem a_has : Calls Tryz.prog 164 #[.slice A n c, .int .u16 v] w fun e w' => e = .returned (.bool (decide (v ∈ xs))) ∧ w = w' := by
  have H := Lib.hid (a_search w B n c A xs v hn hr hs few)
  clear hn hr hs
  go_enter Tryz.func164, Tryz.ntmps164
  go_wp2_with (go_at_call 71; (with_reducible refine H.out.mono ?_); rintro e w' ⟨rfl, rfl⟩)
  go_ret
  exact ⟨rfl, rfl⟩
set_option maxHeartbeats 2000000 in
theorem a_upto : Calls Tryz.prog 170 #[.slice A n c, .int .u16 v] w fun e w' => e = .returned (.int .i64 (upv xs v : Nat)) ∧ w = w' := by
  have H := Lib.hid (a_search w B n c A xs v hn hr hs few)
  obtain ⟨r, hrk⟩ : ∃ r, r = M.rRank xs v := ⟨_, rfl⟩
  have hrn : r ≤ 1000000 := by have := rank_le xs v; omega
  have HR := Lib.hid hrk
  have H2 : Hid (Calls Tryz.prog 71 #[.slice A n c, .int .u16 v] w fun e w' => e = .returned (.tuple #[.int .i64 (r : Int), .bool (decide (v ∈ xs))]) ∧ w = w') := Lib.hid (by rw [hrk]; exact H.out)
  clear hn hr hs H hrk
  by_cases hv : v ∈ xs
  · have e : Hid (upv xs v = r + 1) := Lib.hid (by unfold upv; rw [if_pos hv, HR.out])
    have hd : decide (v ∈ xs) = true := decide_eq_true hv
    have H3 : Hid (Calls Tryz.prog 71 #[.slice A n c, .int .u16 v] w fun e w' => e = .returned (.tuple #[.int .i64 (r : Int), .bool true]) ∧ w = w') := Lib.hid (by rw [← hd]; exact H2.out)
    clear hd H2
    go_enter Tryz.func170, Tryz.ntmps170
    go_wp2_with (go_at_call 71; (with_reducible refine H3.out.mono ?_); rintro e w' ⟨rfl, rfl⟩)
    go_ret
    exact ⟨by rw [e.out]; exact congrArg (fun z => Ending.returned (Value.int .i64 z)) (by omega), rfl⟩
  · have e : Hid (upv xs v = r) := Lib.hid (by unfold upv; rw [if_neg hv, HR.out])
    have hd : decide (v ∈ xs) = false := decide_eq_false hv
    have H3 : Hid (Calls Tryz.prog 71 #[.slice A n c, .int .u16 v] w fun e w' => e = .returned (.tuple #[.int .i64 (r : Int), .bool false]) ∧ w = w') := Lib.hid (by rw [← hd]; exact H2.out)
    clear hd H2
    go_enter Tryz.func170, Tryz.ntmps170
    go_wp2_with (go_at_call 71; (with_reducible refine H3.out.mono ?_); rintro e w' ⟨rfl, rfl⟩)
    go_ret
    exact ⟨by rw [e.out]; rfl, rfl⟩
end
end Go.Proofs.YtlinoambdlkfjaaGreat.A
