
/- How a slice of pairs that came in reads. -/
import Derived.Test.YtclaejaicjmohaaCardBaseE
import Derived.Test.YtclaejaicjmohaaD15
import Derived.Deep.Slices
import Derived.Deep.Fields
import Derived.ChangeSame
import Derived.ChangeSlices
import Derived.Carry
namespace Go.Proofs.Ytclaejaicjmohaa
open Go.ChangeShapes Go.WideShapes Go.ChangeAt Go.RowKit Go.Deep
section
variable {H : Type} {enc : TypeId × Value → H} {P : Program} {w : World} {base : Nat} {spare : Nat → Bool} {held : Bool}
theorem open_slice_fields {t e : TypeId} {fs : Array Field} {fuel : Nat} {cs : List Value} {x : DataW H × List MemPlace} (ht : P.underlying t = some (.slice e)) (he : P.underlying e = some (.struct fs))
    (hone : oneCellFields P fs = true) (hC : P.cellsOf e = fs.size) (h : DataW.trod enc P w base spare held fuel t cs = some x) :
    (cs = [.slice none 0 0] ∧ x = (.nil, [])) ∨
    ∃ (a : Addr) (len cap m : Nat) (D : Nat → DataW H) (Pl : Nat → List MemPlace), cs = [.slice (some a) len cap] ∧ base ≤ a.block ∧ len ≤ cap ∧ cap ≤ maxLen ∧ m = (if spare a.block then cap else len) ∧
      x = (.slice ((List.range len).map D) ((List.range (m - len)).map fun j => D (len + j)), MemPlace.row a (m * fs.size) ++ (List.range m).flatMap Pl) ∧
      ∀ i, i < m → ∃ (ys : List (DataW H × List MemPlace)) (n : Nat), D i = .agg (ys.map (·.1)) ∧ Pl i = ys.flatMap (·.2) ∧ ys.length = fs.size ∧
        ∀ (j : Nat) (f : Field), fs[j]? = some f → ∃ (v : Value) (y : DataW H × List MemPlace), w.cell? (a.add (i * fs.size + j)) = some v ∧ ys[j]? = some y ∧ DataW.trod enc P w base spare held n f.type [v] = some y := by
  rcases open_slice ht h with h0 | ⟨a, len, cap, m, n, D, Pl, hcs, hb, hl, hm, hmm, hx, hi⟩
  · exact .inl h0
  · refine .inr ⟨a, len, cap, m, D, Pl, hcs, hb, hl, hm, hmm, by rw [hC] at hx; exact hx, fun i him => ?_⟩
    obtain ⟨cs', hc, ht'⟩ := hi i him
    rw [hC] at hc
    obtain ⟨ys, n', hn', hy, hlen, hyl, hf⟩ := DataW.trod_struct he ht'
    obtain ⟨_, hcl, hat⟩ := World.cells?_some hc
    simp only [Prod.mk.injEq] at hy
    refine ⟨ys, n', hy.1, hy.2, hyl, fun j f hj => ?_⟩
    obtain ⟨ho, hk⟩ := hone_of hone j f hj
    have hjl : j < fs.size := (Array.getElem?_eq_some_iff.1 hj).1
    have hcell := hat j hjl
    have hv : cs'[j]? = some (cs'[j]'(by omega)) := List.getElem?_eq_getElem (by omega)
    have h1 := hf j f hj
    rw [ho, hk] at h1
    have hone' : (cs'.drop j).take 1 = [cs'[j]'(by omega)] := by
      rw [List.drop_eq_getElem_cons (by omega)]
      rfl
    rw [hone'] at h1
    have hys : ys[j]? = some (ys[j]'(by omega)) := List.getElem?_eq_getElem (by omega)
    refine ⟨_, _, ?_, hys, h1.trans hys⟩
    rw [← Go.Deep.add_add, hcell, hv]
end
theorem readPairs : Try.prog.readableRec 37 = true := by kernel_rfl
theorem rowPairs : 37 < Try.prog.types.size := of_decide_eq_true (by kernel_rfl)
theorem pairFields : ∃ f0 f1 : Field, Try.prog.underlying 39 = some (.struct #[f0, f1]) ∧ f0.type = 22 ∧ f1.type = 22 ∧ oneCellFields Try.prog #[f0, f1] = true ∧ Try.prog.cellsOf 39 = 2 :=
  ⟨_, _, Try.underlying39, rfl, rfl, by kernel_rfl, by kernel_rfl⟩
theorem open_rp {H : Type} {enc : TypeId × Value → H} {W : World} {b0 : Nat} {v : Value} {d : DataW H} {p : List MemPlace}
    (hval : Value.okWide Try.prog W .any b0 37 v) (h : DataW.Trod enc Try.prog W 0 (fun _ => true) true 37 v d p) (hlt : ∀ x ∈ p, x.block < W.heap.size) :
    ∃ A cp, ∃ xs : List (Nat × Nat), v = .slice A xs.length cp ∧ E.Pq W W.heap.size A xs ∧ xs.length ≤ 9223372036854775807 ∧ xs.length ≤ cp ∧ ∀ r ∈ xs, r.1 < 18446744073709551616 ∧ r.2 < 18446744073709551616 := by
  obtain ⟨a0, len, cap, rfl⟩ := okWide_slice Try.underlying37 hval
  obtain ⟨fuel, hf⟩ := h
  obtain ⟨f0, f1, hu, t0, t1, hone, hC⟩ := pairFields
  rcases open_slice_fields Try.underlying37 hu hone hC hf with ⟨hcs, hx⟩ | ⟨a, len', cap', m, D, Pl, hcs, _, hl, hm, hmm, hx, hi⟩
  · simp [Value.cells] at hcs
    obtain ⟨rfl, rfl, rfl⟩ := hcs
    exact ⟨none, 0, [], rfl, E.Pq.nil _ _ _, by simp, Nat.le_refl _, fun x hx => by cases hx⟩
  · simp [Value.cells] at hcs
    obtain ⟨rfl, rfl, rfl⟩ := hcs
    simp only [if_true] at hmm
    subst hmm
    simp only [Prod.mk.injEq] at hx
    obtain ⟨rfl, rfl⟩ := hx
    unfold maxLen at hm
    have hex : ∀ k, k < len → ∃ z : Nat × Nat, (z.1 < 18446744073709551616 ∧ z.2 < 18446744073709551616) ∧ W.cell? (a.add (k * 2)) = some (.int .u64 (z.1 : Nat)) ∧ W.cell? (a.add (k * 2 + 1)) = some (.int .u64 (z.2 : Nat)) := by
      intro k hk
      obtain ⟨ys, n, _, _, _, hf⟩ := hi k (by omega)
      obtain ⟨v0, y0, c0, _, d0⟩ := hf 0 f0 rfl
      obtain ⟨v1, y1, c1, _, d1⟩ := hf 1 f1 rfl
      obtain ⟨n0, hv0, _, w0⟩ := DataW.trod_int (k := .u64) (by rw [t0]; exact Try.underlying22) d0
      obtain ⟨n1, hv1, _, w1⟩ := DataW.trod_int (k := .u64) (by rw [t1]; exact Try.underlying22) d1
      obtain ⟨m0, e0, hm0⟩ := u64_nat w0
      obtain ⟨m1, e1, hm1⟩ := u64_nat w1
      simp at hv0 hv1
      subst hv0 hv1
      subst e0 e1
      exact ⟨(m0, m1), ⟨hm0, hm1⟩, c0, c1⟩
    have hch : ∃ f : Nat → Nat × Nat, ∀ k, k < len → ((f k).1 < 18446744073709551616 ∧ (f k).2 < 18446744073709551616) ∧ W.cell? (a.add (k * 2)) = some (.int .u64 ((f k).1 : Nat)) ∧ W.cell? (a.add (k * 2 + 1)) = some (.int .u64 ((f k).2 : Nat)) := by
      refine ⟨fun k => if h : k < len then Classical.choose (hex k h) else (0, 0), fun k hk => ?_⟩
      simp only [dif_pos hk]
      exact Classical.choose_spec (hex k hk)
    obtain ⟨f, hf⟩ := hch
    refine ⟨some a, m, (List.range len).map f, by rw [List.length_map, List.length_range], fun hne => ?_, by simp; omega, by simp; omega, fun x hx => ?_⟩
    · have hpos : 0 < len := by
        rcases Nat.eq_zero_or_pos len with h0 | h0
        · subst h0; simp at hne
        · exact h0
      obtain ⟨b, off, spot⟩ := a
      have hspot : spot = none := by simpa [Addr.add] using World.cell?_spot (hf 0 hpos).2.1
      subst hspot
      refine ⟨b, off, rfl, hlt (.cell b off) (List.mem_append_left _ (MemPlace.mem_row.2 ⟨0, by simp; omega, by simp⟩)), fun k hk => ?_⟩
      simp at hk
      have := hf k hk
      rw [add_plain, add_plain] at this
      simp only [List.getElem_map, List.getElem_range]
      refine ⟨this.2.1, ?_⟩
      have e := this.2.2; rwa [← Nat.add_assoc] at e
    · obtain ⟨k, hk, rfl⟩ := List.mem_map.1 hx
      exact (hf k (List.mem_range.1 hk)).1
end Go.Proofs.Ytclaejaicjmohaa
