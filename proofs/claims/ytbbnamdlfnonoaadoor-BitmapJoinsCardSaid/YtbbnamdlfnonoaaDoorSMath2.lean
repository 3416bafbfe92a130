
/- The next one, the last one and the k-th of a rising list. -/
import Derived.Test.YtbbnamdlfnonoaaDoorSMath
namespace Go.Proofs.YtbbnamdlfnonoaaDoor
theorem bz_up (x : Nat) : (M.bz x).Pairwise (· < ·) := by
  unfold M.bz M.bl
  rw [List.pairwise_map]
  refine List.Pairwise.imp ?_ (List.Pairwise.filter _ List.pairwise_lt_range)
  intro a b h; omega
theorem sl_up (ws : List Nat) : (sl ws).Pairwise (· < ·) := by
  unfold sl
  rw [List.pairwise_map]
  refine List.Pairwise.imp ?_ (List.Pairwise.filter _ List.pairwise_lt_range)
  intro a b h; omega
theorem next_cases {l : List Int} (hs : l.Pairwise (· < ·)) (n : Int) :
    (M.rNext l n = -1 ∧ ∀ z ∈ l, z < n) ∨ (M.rNext l n ∈ l ∧ n ≤ M.rNext l n ∧ ∀ z ∈ l, n ≤ z → M.rNext l n ≤ z) := by
  unfold M.rNext
  induction l with
  | nil => left; simp
  | cons a l ih =>
    rw [List.pairwise_cons] at hs
    by_cases h : n ≤ a
    · right
      simp [h]
      intro z hz _
      exact Int.le_of_lt (hs.1 z hz)
    · rw [List.find?_cons_of_neg (by simpa using h)]
      rcases ih hs.2 with ⟨h1, h2⟩ | ⟨h1, h2, h3⟩
      · left
        refine ⟨h1, ?_⟩
        intro z hz
        rcases List.mem_cons.1 hz with rfl | hz
        · omega
        · exact h2 z hz
      · right
        refine ⟨List.mem_cons_of_mem _ h1, h2, ?_⟩
        intro z hz hn
        rcases List.mem_cons.1 hz with rfl | hz
        · exact absurd hn h
        · exact h3 z hz hn
theorem prev_cases {l : List Int} (hs : l.Pairwise (· < ·)) (n : Int) :
    (M.rPrev l n = -1 ∧ ∀ z ∈ l, n < z) ∨ (M.rPrev l n ∈ l ∧ M.rPrev l n ≤ n ∧ ∀ z ∈ l, z ≤ n → z ≤ M.rPrev l n) := by
  unfold M.rPrev
  rcases hf : (l.filter fun x => decide (x ≤ n)).getLast? with _ | y
  · left
    refine ⟨rfl, ?_⟩
    intro z hz
    rw [List.getLast?_eq_none_iff, List.filter_eq_nil_iff] at hf
    have := hf z hz
    simp at this; omega
  · right
    obtain ⟨ys, hy⟩ := List.getLast?_eq_some_iff.1 hf
    have hm : y ∈ l.filter fun x => decide (x ≤ n) := by rw [hy]; simp
    have hp := List.Pairwise.filter (fun x => decide (x ≤ n)) hs
    rw [List.mem_filter] at hm
    refine ⟨hm.1, by simpa using hm.2, ?_⟩
    intro z hz hzn
    have hz2 : z ∈ l.filter fun x => decide (x ≤ n) := List.mem_filter.2 ⟨hz, by simpa using hzn⟩
    rw [hy] at hz2 hp
    rw [List.pairwise_append] at hp
    rcases List.mem_append.1 hz2 with h | h
    · exact Int.le_of_lt (hp.2.2 z h y (by simp))
    · simp at h; simp [h]
/-- A word's number stands in the list. -/
theorem sl_word {ws : List Nat} {k : Nat} (hk : k < ws.length) {b : Int} : b ∈ M.bz ws[k] ↔ 0 ≤ b ∧ b < 64 ∧ b + 64 * (k : Int) ∈ sl ws := by
  rw [M.mem_bz, sl_in]
  constructor
  · rintro ⟨h1, h2, h3⟩
    refine ⟨h1, h2, by omega, by omega, ?_⟩
    have e1 : (b + 64 * (k : Int)).toNat / 64 = k := by omega
    have e2 : (b + 64 * (k : Int)).toNat % 64 = b.toNat := by omega
    unfold sbit
    rw [e1, e2, List.getElem?_eq_getElem hk]; exact h3
  · rintro ⟨h1, h2, _, _, h3⟩
    refine ⟨h1, h2, ?_⟩
    have e1 : (b + 64 * (k : Int)).toNat / 64 = k := by omega
    have e2 : (b + 64 * (k : Int)).toNat % 64 = b.toNat := by omega
    unfold sbit at h3
    rw [e1, e2, List.getElem?_eq_getElem hk] at h3; exact h3
end Go.Proofs.YtbbnamdlfnonoaaDoor
