
/- The document's lists of keys (stepstoneref11): where a key stands, the next, the last; the texts walked. -/
import Derived.Test.YtihhkdcgnnfkkaaRefsK
import Derived.Deep.RegionHeld3
namespace Go.Proofs.Ytihhkdcgnnfkkaa
set_option maxRecDepth 4000
open Go.RowKit
namespace K
/-- Where a key stands, or would stand; does it? -/
def fi (xs : List Nat) (k : Nat) : Nat := (xs.takeWhile fun x => decide (x < k)).length
def fo (xs : List Nat) (k : Nat) : Bool := decide (xs[fi xs k]? = some k)
theorem fi_le (xs : List Nat) (k : Nat) : fi xs k ≤ xs.length := (List.takeWhile_prefix _).length_le
theorem fi_lt {xs : List Nat} {k j : Nat} (h : j < fi xs k) : ∃ h' : j < xs.length, xs[j] < k := by
  have h' : j < xs.length := Nat.lt_of_lt_of_le h (fi_le xs k)
  refine ⟨h', ?_⟩
  have hm : (xs.takeWhile fun x => decide (x < k))[j]'h ∈ xs.takeWhile fun x => decide (x < k) := List.getElem_mem h
  have h2 := List.all_eq_true.1 (List.all_takeWhile (l := xs) (p := fun x => decide (x < k))) _ hm
  have e : (xs.takeWhile fun x => decide (x < k))[j]'h = xs[j] := (List.takeWhile_prefix _).getElem h
  rw [e] at h2
  exact of_decide_eq_true h2
theorem fi_at {xs : List Nat} {k : Nat} (h : fi xs k < xs.length) : k ≤ xs[fi xs k] := by
  have : ∀ (l : List Nat) (h : (l.takeWhile fun x => decide (x < k)).length < l.length), k ≤ l[(l.takeWhile fun x => decide (x < k)).length] := by
    intro l
    induction l with
    | nil => intro h; simp at h
    | cons x l ih =>
      intro h
      by_cases hx : x < k
      · simp only [List.takeWhile_cons, decide_eq_true hx, if_true] at h ⊢
        simpa using ih (by simpa using h)
      · simp only [List.takeWhile_cons, decide_eq_false hx, Bool.false_eq_true, if_false]
        simp; omega
  exact this xs h
theorem fo_lt {xs : List Nat} {k : Nat} (h : fo xs k = true) : ∃ h' : fi xs k < xs.length, xs[fi xs k] = k := by
  unfold fo at h
  have h2 := of_decide_eq_true h
  exact List.getElem?_eq_some_iff.1 h2
end K
/-- The slice holds these keys, in blocks that nobody writes. -/
def KX (w : World) (v : Value) (xs : List Nat) : Prop := w.ownsRow 0 22 1 v xs.length (wv xs)
theorem KX.form {w : World} {v : Value} {xs : List Nat} (h : KX w v xs) : (v = .slice none 0 0 ∧ xs = []) ∨ ∃ g c, v = .slice (some ⟨g, 0, none⟩) xs.length c ∧ xs.length ≤ c ∧ g < w.heap.size ∧
    ∀ (k : Nat) (h : k < xs.length), w.cell? ⟨g, k, none⟩ = some (.int .u64 (xs[k] : Nat)) := by
  rcases h.2 with ⟨rfl, hn⟩ | ⟨g, cap, cur, rfl, hb, hg, hnc, _⟩
  · exact .inl ⟨rfl, by simpa using hn⟩
  · refine .inr ⟨g, cap, rfl, hnc, (Array.getElem?_eq_some_iff.1 hg).1, fun k hk => ?_⟩
    have := h.cells (g := g) rfl k (.int .u64 (xs[k] : Nat)) (by simp [hk])
    rw [add_off] at this
    exact this
theorem KX.below {w w' : World} {v : Value} {xs : List Nat} (h : KX w v xs) (hb : Below w.heap.size w w') : KX w' v xs := by
  refine ⟨h.1, ?_⟩
  rcases h.2 with hn | ⟨g, cap, cur, e, hb0, hg, rest⟩
  · exact .inl hn
  · exact .inr ⟨g, cap, cur, e, hb0, (hb.block g (Array.getElem?_eq_some_iff.1 hg).1).trans hg, rest⟩
theorem KX.nil (w : World) : KX w (.slice none 0 0) [] := ⟨by simp, .inl ⟨rfl, rfl⟩⟩
theorem kret {i : Int} {j : Nat} {a b : Bool} (h : i = (j : Int)) (h2 : a = b) : Ending.returned (.tuple #[.int .i64 i, .bool a]) = .returned (.tuple #[.int .i64 (j : Int), .bool b]) := by rw [h, h2]
end Go.Proofs.Ytihhkdcgnnfkkaa
