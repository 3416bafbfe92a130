
/- Rows of runs; how many numbers, and whether two meet; the texts walked. -/
import Derived.Test.YtejboemifncjoaaRnMath2
import Derived.Test.YtejboemifncjoaaBFew
import Derived.Test.YtejboemifncjoaaButF
import Derived.Test.YtejboemifncjoaaAppAny
import Derived.Deep.RegionHeld3
import Derived.StillTailTactics
namespace Go.Proofs.Ytejboemifncjoaa
open Go.RowKit
abbrev rv (rs : List (Int × Int)) : List Value := rs.flatMap fun r => [.int .u16 r.1, .int .u16 r.2]
theorem rv_len (rs : List (Int × Int)) : (rv rs).length = rs.length * 2 := by
  induction rs with
  | nil => rfl
  | cons r rs ih =>
    have hc : rv (r :: rs) = Value.int .u16 r.1 :: Value.int .u16 r.2 :: rv rs := rfl
    rw [hc]; simp only [List.length_cons, ih]; omega
theorem rv_at : ∀ (rs : List (Int × Int)) (k : Nat) (h : k < rs.length), (rv rs)[k * 2]? = some (.int .u16 rs[k].1) ∧ (rv rs)[k * 2 + 1]? = some (.int .u16 rs[k].2)
  | r :: rs, 0, _ => by simp [rv]
  | r :: rs, k + 1, h => by
    have hc : rv (r :: rs) = Value.int .u16 r.1 :: Value.int .u16 r.2 :: rv rs := rfl
    have ih := rv_at rs k (by simpa using h)
    have e0 : (k + 1) * 2 = k * 2 + 2 := by omega
    rw [hc, e0]
    exact ih
theorem rv_append (rs qs : List (Int × Int)) : rv (rs ++ qs) = rv rs ++ rv qs := List.flatMap_append
theorem rv_one (rs : List (Int × Int)) : ∀ u ∈ rv rs, u.oneCell' = true := by
  intro u hu
  obtain ⟨r, _, hr⟩ := List.mem_flatMap.1 hu
  simp at hr
  rcases hr with rfl | rfl <;> rfl
/-- The slice at A has these runs, in blocks below B. -/
def Rq (w : World) (B : Nat) (A : Option Addr) (rs : List (Int × Int)) : Prop :=
  rs ≠ [] → ∃ b off, A = some ⟨b, off, none⟩ ∧ b < B ∧ ∀ (k : Nat) (h : k < rs.length), w.cell? ⟨b, off + k * 2, none⟩ = some (.int .u16 rs[k].1) ∧ w.cell? ⟨b, off + k * 2 + 1, none⟩ = some (.int .u16 rs[k].2)
theorem Rq.nil (w : World) (B : Nat) (A : Option Addr) : Rq w B A [] := fun h => absurd rfl h
theorem Rq.below {w w' : World} {B B' : Nat} {A : Option Addr} {rs : List (Int × Int)} (h : Rq w B A rs) (hb : Below B' w w') (hB : B ≤ B') : Rq w' B A rs := fun hne => by
  obtain ⟨b, off, h1, h2, h3⟩ := h hne
  exact ⟨b, off, h1, h2, fun k hk => ⟨(hb.cell (p := ⟨b, off + k * 2, none⟩) (by show b < B'; omega)).trans (h3 k hk).1, (hb.cell (p := ⟨b, off + k * 2 + 1, none⟩) (by show b < B'; omega)).trans (h3 k hk).2⟩⟩
theorem Rq.more {w : World} {B B' : Nat} {A : Option Addr} {rs : List (Int × Int)} (h : Rq w B A rs) (hB : B ≤ B') : Rq w B' A rs := fun hne => by
  obtain ⟨b, off, h1, h2, h3⟩ := h hne
  exact ⟨b, off, h1, by omega, h3⟩
theorem Rq.drew {w : World} {B : Nat} {A : Option Addr} {rs : List (Int × Int)} (h : Rq w B A rs) (n : Nat) : Rq (w.drewN n) B A rs := h
theorem Rq.at {w : World} {B : Nat} {A : Option Addr} {rs : List (Int × Int)} (h : Rq w B A rs) {k : Nat} (hk : k < rs.length) : ∃ b off, A = some ⟨b, off, none⟩ ∧ b < B ∧ w.cell? ⟨b, off + k * 2, none⟩ = some (.int .u16 rs[k].1) ∧ w.cell? ⟨b, off + k * 2 + 1, none⟩ = some (.int .u16 rs[k].2) := by
  obtain ⟨b, off, h1, h2, h3⟩ := h (by intro e; subst e; simp at hk)
  exact ⟨b, off, h1, h2, h3 k hk⟩
theorem Rq.of_own {w : World} {base : Nat} {v : Value} {rs : List (Int × Int)} (h : w.ownsRow base 46 2 v rs.length (rv rs)) : ∃ A c, v = .slice A rs.length c ∧ Rq w w.heap.size A rs ∧ rs.length ≤ c := by
  rcases h.2 with ⟨rfl, hn⟩ | ⟨g, cap, cur, rfl, hb, hg, hnc, _⟩
  · exact ⟨none, 0, by rw [hn], by rw [List.eq_nil_of_length_eq_zero hn]; exact Rq.nil _ _ _, by omega⟩
  · refine ⟨some ⟨g, 0, none⟩, cap, rfl, fun hne => ⟨g, 0, rfl, (Array.getElem?_eq_some_iff.1 hg).1, fun k hk => ?_⟩, hnc⟩
    obtain ⟨h0, h1⟩ := rv_at rs k hk
    have f := h.cells (g := g) rfl
    have f0 := f _ _ h0
    have f1 := f _ _ h1
    simp only [add_offB] at f0 f1
    rw [Nat.zero_add]
    exact ⟨f0, f1⟩
theorem r_size (w : World) (f t : Int) (hf : 0 ≤ f ∧ f ≤ 65535) (ht : 0 ≤ t ∧ t ≤ 65535) :
    Calls Try.prog 37 #[.agg #[.int .u16 f, .int .u16 t]] w fun e w' => e = .returned (.int .i64 (t - f + 1)) ∧ w' = w.alloc (.cells #[.int .u16 f, .int .u16 t] 46) := by
  have w1 : IntKind.i64.wrap t = t := IntWalk.i64_in _ (by omega)
  have w2 : IntKind.i64.wrap f = f := IntWalk.i64_in _ (by omega)
  have w3 : IntKind.i64.wrap (t - f) = t - f := IntWalk.i64_in _ (by omega)
  have w4 : IntKind.i64.wrap (t - f + 1) = t - f + 1 := IntWalk.i64_in _ (by omega)
  go_enter Try.func37, Try.ntmps37
  go_wp2
  go_ret
  exact ⟨rfl, rfl⟩
theorem r_meet (w : World) (f t f' t' : Int) (ht : 0 ≤ t ∧ t ≤ 65535) (hf' : 0 ≤ f' ∧ f' ≤ 65535) :
    Calls Try.prog 41 #[.agg #[.int .u16 f, .int .u16 t], .agg #[.int .u16 f', .int .u16 t']] w fun e w' => e = .returned (.bool (decide (f' ≤ t + 1))) ∧ w' = (w.alloc (.cells #[.int .u16 f, .int .u16 t] 46)).alloc (.cells #[.int .u16 f', .int .u16 t'] 46) := by
  have w1 : IntKind.i64.wrap t = t := IntWalk.i64_in _ (by omega)
  have w2 : IntKind.i64.wrap f' = f' := IntWalk.i64_in _ (by omega)
  have w3 : IntKind.i64.wrap (t + 1) = t + 1 := IntWalk.i64_in _ (by omega)
  go_enter Try.func41, Try.ntmps41
  go_wp2
  go_ret
  exact ⟨rfl, rfl⟩
end Go.Proofs.Ytejboemifncjoaa
