
/- Plain facts: what is left to be put in order when a row has been parted. -/
import Derived.Test.YtepnjolldbgglaaKbSrt8
namespace Go.Proofs.Ytepnjolldbgglaa.Kb
open Go.Sort
/-- Of the places from a up to b only those from x up to y have still to be put in order. -/
def Fin' (a b x y : Nat) (d dk : Array Int) : Prop := PermIn a b d dk ∧ Bel x y dk ∧ ∀ d', PermIn x y dk d' → SortedIn ltInt x y d' → SortedIn ltInt a b d'
section
variable {a b x y m v : Nat} {d dk d1 d2 : Array Int}
theorem fin_start (h : Bel a b d) : Fin' a b a b d d := ⟨permIn_refl _ _ _, h, fun _ _ h => h⟩
theorem fin_perm (h : Fin' a b x y d dk) (hp : PermIn x y dk d1) (ha : a ≤ x) (hy : y ≤ b) (hb : b ≤ d.size) : Fin' a b x y d d1 := by
  have hs := h.1.1
  exact ⟨permIn_trans _ _ _ _ _ h.1 (permIn_mono _ _ x y a b ha hy (by omega) hp), h.2.1.perm hp (by omega), fun d' h1 h2 => h.2.2 d' (permIn_trans _ _ _ _ _ hp h1) h2⟩
theorem fin_done (h : Fin' a b x y d dk) (hp : PermIn x y dk d1) (ho : SortedIn ltInt x y d1) (ha : a ≤ x) (hy : y ≤ b) (hb : b ≤ d.size) : PermIn a b d d1 ∧ SortedIn ltInt a b d1 :=
  ⟨(fin_perm h hp ha hy hb).1, h.2.2 d1 hp ho⟩
theorem glue (hL : SortedIn ltInt x m d) (hR : SortedIn ltInt (m + 1) y d) (h1 : ∀ k, x ≤ k → k < m → d[k]! ≤ d[m]!) (h2 : ∀ k, m < k → k < y → d[m]! ≤ d[k]!) : SortedIn ltInt x y d := by
  rw [sorted_iff] at hL hR ⊢
  intro i j hi hij hj
  by_cases c1 : j < m
  · exact hL i j hi hij c1
  · by_cases c2 : m < i
    · exact hR i j c2 hij hj
    · by_cases c3 : i = m
      · subst c3; exact h2 j hij hj
      · have e1 := h1 i hi (by omega)
        by_cases c4 : j = m
        · subst c4; exact e1
        · exact Int.le_trans e1 (h2 j (by omega) hj)
theorem fin_eq (h : Fin' a b x y d dk) (hx : 0 < x) (hv : dk[v]! ≤ dk[x - 1]!) (hp : PermIn x y dk d1) (h1 : ∀ k, x ≤ k → k < m → d1[k]! ≤ dk[v]!) (h2 : ∀ k, m ≤ k → k < y → dk[v]! < d1[k]!)
    (hxm : x < m) (ha : a ≤ x) (hy : y ≤ b) (hb : b ≤ d.size) : Fin' a b m y d d1 := by
  have hs := h.1.1
  have hB := h.2.1.perm hp (by omega) hx
  rw [hp.2.1 (x - 1) (.inl (by omega))] at hB
  refine ⟨(fin_perm h hp ha hy hb).1, fun _ k h3 h4 => ?_, fun d' h3 h4 => h.2.2 d' (permIn_trans _ _ _ _ _ hp (permIn_mono _ _ m y x y (by omega) (Nat.le_refl _) (by rw [hp.1]; omega) h3)) ?_⟩
  · have := h1 (m - 1) (by omega) (by omega); have := h2 k h3 h4; omega
  · rw [sorted_iff] at h4 ⊢
    intro i j hi hij hj
    have hall := permIn_all d1 d' m y (fun z => dk[v]! < z) (by rw [hp.1]; omega) h3 h2
    by_cases c1 : j < m
    · rw [h3.2.1 i (.inl (by omega)), h3.2.1 j (.inl c1)]
      have q1 := h1 i hi (by omega); have q2 := hB j (by omega) hj; omega
    · by_cases c2 : m ≤ i
      · exact h4 i j c2 hij hj
      · rw [h3.2.1 i (.inl (by omega))]
        have q1 := h1 i hi (by omega); have q2 := hall j (by omega) hj; omega
theorem bel_left (h : Fin' a b x y d dk) (hp : PermIn x y dk d1) (hmy : m ≤ y) (hy : y ≤ b) (hb : b ≤ d.size) : Bel x m d1 := by
  have hs := h.1.1
  exact fun h0 k h1 h2 => h.2.1.perm hp (by omega) h0 k h1 (by omega)
theorem bel_right (h2 : ∀ k, m < k → k < y → d1[m]! ≤ d1[k]!) : Bel (m + 1) y d1 := fun _ k h3 h4 => h2 k h3 h4
theorem fin_left (h : Fin' a b x y d dk) (hp : PermIn x y dk d1) (h1 : ∀ k, x ≤ k → k < m → d1[k]! < d1[m]!) (h2 : ∀ k, m < k → k < y → d1[m]! ≤ d1[k]!)
    (hp2 : PermIn x m d1 d2) (ho : SortedIn ltInt x m d2) (hxm : x ≤ m) (hmy : m < y) (ha : a ≤ x) (hy : y ≤ b) (hb : b ≤ d.size) : Fin' a b (m + 1) y d d2 := by
  have hs := h.1.1
  have hs1 := hp.1
  have q2 : PermIn x y d1 d2 := permIn_mono _ _ x m x y (Nat.le_refl _) (by omega) (by omega) hp2
  have em : d2[m]! = d1[m]! := hp2.2.1 m (.inr (Nat.le_refl _))
  refine ⟨(fin_perm (fin_perm h hp ha hy hb) q2 ha hy hb).1, fun _ k h3 h4 => ?_, fun d' h3 h4 => h.2.2 d' (permIn_trans _ _ _ _ _ hp (permIn_trans _ _ _ _ _ q2 (permIn_mono _ _ (m + 1) y x y (by omega) (Nat.le_refl _) (by rw [q2.1]; omega) h3))) ?_⟩
  · show d2[m + 1 - 1]! ≤ _
    rw [Nat.add_sub_cancel, em, hp2.2.1 k (.inr (by omega))]; exact h2 k h3 h4
  · have em' : d'[m]! = d1[m]! := (h3.2.1 m (.inl (by omega))).trans em
    refine glue (m := m) (fun i j hi hij hj => ?_) h4 (fun k h5 h6 => ?_) (fun k h5 h6 => ?_)
    · rw [h3.2.1 i (.inl (by omega)), h3.2.1 j (.inl (by omega))]; exact ho i j hi hij hj
    · rw [em', h3.2.1 k (.inl (by omega))]
      exact Int.le_of_lt (permIn_all d1 d2 x m (fun z => z < d1[m]!) (by omega) hp2 h1 k h5 h6)
    · rw [em']
      exact permIn_all d2 d' (m + 1) y (fun z => d1[m]! ≤ z) (by rw [q2.1]; omega) h3 (fun i h7 h8 => by rw [hp2.2.1 i (.inr (by omega))]; exact h2 i h7 h8) k h5 h6
theorem fin_right (h : Fin' a b x y d dk) (hp : PermIn x y dk d1) (h1 : ∀ k, x ≤ k → k < m → d1[k]! < d1[m]!) (h2 : ∀ k, m < k → k < y → d1[m]! ≤ d1[k]!)
    (hp2 : PermIn (m + 1) y d1 d2) (ho : SortedIn ltInt (m + 1) y d2) (hxm : x ≤ m) (hmy : m < y) (ha : a ≤ x) (hy : y ≤ b) (hb : b ≤ d.size) : Fin' a b x m d d2 := by
  have hs := h.1.1
  have hs1 := hp.1
  have q2 : PermIn x y d1 d2 := permIn_mono _ _ (m + 1) y x y (by omega) (Nat.le_refl _) (by omega) hp2
  have em : d2[m]! = d1[m]! := hp2.2.1 m (.inl (by omega))
  have f2 := fin_perm (fin_perm h hp ha hy hb) q2 ha hy hb
  refine ⟨f2.1, fun h0 k h3 h4 => f2.2.1 h0 k h3 (by omega), fun d' h3 h4 => h.2.2 d' (permIn_trans _ _ _ _ _ hp (permIn_trans _ _ _ _ _ q2 (permIn_mono _ _ x m x y (Nat.le_refl _) (by omega) (by rw [q2.1]; omega) h3))) ?_⟩
  have em' : d'[m]! = d1[m]! := (h3.2.1 m (.inr (Nat.le_refl _))).trans em
  refine glue (m := m) h4 (fun i j hi hij hj => ?_) (fun k h5 h6 => ?_) (fun k h5 h6 => ?_)
  · rw [h3.2.1 i (.inr (by omega)), h3.2.1 j (.inr (by omega))]; exact ho i j hi hij hj
  · rw [em']
    exact Int.le_of_lt (permIn_all d2 d' x m (fun z => z < d1[m]!) (by rw [q2.1]; omega) h3 (fun i h7 h8 => by rw [hp2.2.1 i (.inl (by omega))]; exact h1 i h7 h8) k h5 h6)
  · rw [em', h3.2.1 k (.inr (by omega))]
    exact permIn_all d1 d2 (m + 1) y (fun z => d1[m]! ≤ z) (by omega) hp2 (fun i h7 h8 => h2 i h7 h8) k h5 h6
end
end Go.Proofs.Ytepnjolldbgglaa.Kb
