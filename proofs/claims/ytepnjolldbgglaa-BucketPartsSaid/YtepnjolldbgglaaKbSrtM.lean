
/- Plain facts on a row that is parted about a number, and on what is put in order in parts. -/
import Derived.Sort.LotA
namespace Go.Proofs.Ytepnjolldbgglaa.Kb
open Go.Sort
theorem lt_yes {x y : Int} (h : ltInt x y = true) : x < y := by simpa [ltInt] using h
theorem lt_no {x y : Int} (h : ltInt x y = false) : y ≤ x := by simpa [ltInt] using h
theorem nlt_yes {x y : Int} (h : (!ltInt x y) = true) : y ≤ x := by simpa [ltInt] using h
theorem nlt_no {x y : Int} (h : (!ltInt x y) = false) : x < y := by simpa [ltInt] using h
theorem sorted_iff {a b : Nat} {d : Array Int} : SortedIn ltInt a b d ↔ ∀ i j, a ≤ i → i < j → j < b → d[i]! ≤ d[j]! := by
  unfold SortedIn
  exact ⟨fun h i j h1 h2 h3 => lt_no (h i j h1 h2 h3), fun h i j h1 h2 h3 => by simpa [ltInt] using h i j h1 h2 h3⟩
def Lo (p x : Int) : Prop := x < p
def Hi (p x : Int) : Prop := p ≤ x
def Le (p x : Int) : Prop := x ≤ p
def Gt (p x : Int) : Prop := p < x
theorem lo_y {p x y : Int} (h : y = p) (e : ltInt x y = true) : Lo p x := by subst h; exact lt_yes e
theorem hi_y {p x y : Int} (h : y = p) (e : ltInt x y = false) : Hi p x := by subst h; exact lt_no e
theorem hi_n {p x y : Int} (h : y = p) (e : (!ltInt x y) = true) : Hi p x := by subst h; exact nlt_yes e
theorem lo_n {p x y : Int} (h : y = p) (e : (!ltInt x y) = false) : Lo p x := by subst h; exact nlt_no e
theorem le_n {p x y : Int} (h : y = p) (e : (!ltInt y x) = true) : Le p x := by subst h; exact nlt_yes e
theorem gt_n {p x y : Int} (h : y = p) (e : (!ltInt y x) = false) : Gt p x := by subst h; exact nlt_no e
theorem gt_y {p x y : Int} (h : y = p) (e : ltInt y x = true) : Gt p x := by subst h; exact lt_yes e
theorem le_y {p x y : Int} (h : y = p) (e : ltInt y x = false) : Le p x := by subst h; exact lt_no e
theorem not_lohi {p x : Int} (h : Lo p x) (k : Hi p x) : False := by unfold Lo at h; unfold Hi at k; omega
theorem not_legt {p x : Int} (h : Le p x) (k : Gt p x) : False := by unfold Le at h; unfold Gt at k; omega
theorem lt_of {U V : Int → Int → Prop} (hUV : ∀ p x, U p x → V p x → False) {p : Int} {d : Array Int} {i j : Nat} (hle : i ≤ j) (hv : V p d[i]!) (hu : U p d[j]!) : i < j := by
  rcases Nat.lt_or_eq_of_le hle with h | h
  · exact h
  · subst h; exact (hUV _ _ hu hv).elim
/-- The row dk is d with the places from a up to b permuted; p stands at a; U holds of what stands behind it up to i, V of what stands behind j. -/
structure Pt (U V : Int → Int → Prop) (a b i j : Nat) (p : Int) (d dk : Array Int) : Prop where
  perm : PermIn a b d dk
  top : dk[a]! = p
  up : ∀ k, a < k → k < i → U p dk[k]!
  down : ∀ k, j < k → k < b → V p dk[k]!
section
variable {U V : Int → Int → Prop} {a b i j : Nat} {p : Int} {d dk : Array Int}
theorem swp_same (d : Array Int) (i : Nat) : ∀ k : Nat, (swp d i i)[k]! = d[k]! := by
  intro k
  by_cases h : k = i
  · subst h
    by_cases hk : k < d.size
    · exact swp_right d k k hk
    · rw [getElem!_neg _ k (by rw [size_swp]; exact hk), getElem!_neg _ k hk]
  · exact swp_other d i i k h h
theorem swp_at (d : Array Int) {i j : Nat} (hi : i < d.size) (hj : j < d.size) : (swp d i j)[i]! = d[j]! ∧ (swp d i j)[j]! = d[i]! := by
  by_cases h : i = j
  · subst h; exact ⟨swp_same _ _ _, swp_same _ _ _⟩
  · exact ⟨swp_left d i j hi h, swp_right d i j hj⟩
theorem Pt.start {v : Nat} (ha : a ≤ v) (hv : v < b) (hb : b ≤ d.size) : Pt U V a b (a + 1) (b - 1) d[v]! d (swp d a v) :=
  ⟨swp_permIn d a b a v (Nat.le_refl _) (by omega) ha hv hb, (swp_at d (by omega) (by omega)).1, fun k h1 h2 => by omega, fun k h1 h2 => by omega⟩
theorem Pt.next (h : Pt U V a b i j p d dk) (hu : U p dk[i]!) : Pt U V a b (i + 1) j p d dk :=
  ⟨h.perm, h.top, fun k h1 h2 => by
    by_cases e : k = i
    · subst e; exact hu
    · exact h.up k h1 (by omega), h.down⟩
theorem Pt.prev (h : Pt U V a b i j p d dk) (hv : V p dk[j]!) (hj : 0 < j) : Pt U V a b i (j - 1) p d dk :=
  ⟨h.perm, h.top, h.up, fun k h1 h2 => by
    by_cases e : k = j
    · subst e; exact hv
    · exact h.down k (by omega) h2⟩
theorem Pt.swap (h : Pt U V a b i j p d dk) (hai : a < i) (hij : i < j) (hjb : j < b) (hb : b ≤ d.size) (hu : U p dk[j]!) (hv : V p dk[i]!) : Pt U V a b (i + 1) (j - 1) p d (swp dk i j) := by
  have hs : dk.size = d.size := h.perm.1
  obtain ⟨e1, e2⟩ := swp_at dk (i := i) (j := j) (by omega) (by omega)
  refine ⟨permIn_trans _ _ _ _ _ h.perm (swp_permIn dk a b i j (by omega) (by omega) (by omega) hjb (by omega)), ?_, fun k h1 h2 => ?_, fun k h1 h2 => ?_⟩
  · rw [swp_other dk i j a (by omega) (by omega)]; exact h.top
  · by_cases e : k = i
    · subst e; rw [e1]; exact hu
    · rw [swp_other dk i j k (by omega) (by omega)]; exact h.up k h1 (by omega)
  · by_cases e : k = j
    · subst e; rw [e2]; exact hv
    · rw [swp_other dk i j k (by omega) (by omega)]; exact h.down k (by omega) h2
theorem Pt.ends (h : Pt Le Gt a b i j p d dk) (hij : j < i) : (∀ k, a ≤ k → k < i → dk[k]! ≤ p) ∧ ∀ k, i ≤ k → k < b → p < dk[k]! :=
  ⟨fun k h1 h2 => by
    by_cases e : k = a
    · subst e; exact Int.le_of_eq h.top
    · exact h.up k (by omega) h2, fun k h1 h2 => h.down k (by omega) h2⟩
theorem Pt.last (h : Pt U V a b (j + 1) j p d dk) (haj : a ≤ j) (hjb : j < b) (hb : b ≤ d.size) : PermIn a b d (swp dk j a) ∧ (swp dk j a)[j]! = p ∧ (∀ k, a ≤ k → k < j → U p (swp dk j a)[k]!) ∧ ∀ k, j < k → k < b → V p (swp dk j a)[k]! := by
  have hs : dk.size = d.size := h.perm.1
  obtain ⟨e1, e2⟩ := swp_at dk (i := j) (j := a) (by omega) (by omega)
  refine ⟨permIn_trans _ _ _ _ _ h.perm (swp_permIn dk a b j a haj hjb (Nat.le_refl _) (by omega) (by omega)), e1.trans h.top, fun k h1 h2 => ?_, fun k h1 h2 => ?_⟩
  · by_cases e : k = a
    · subst e; rw [e2]; exact h.up j (by omega) (by omega)
    · rw [swp_other dk j a k (by omega) e]; exact h.up k (by omega) (by omega)
  · rw [swp_other dk j a k (by omega) (by omega)]; exact h.down k h1 h2
end
end Go.Proofs.Ytepnjolldbgglaa.Kb
