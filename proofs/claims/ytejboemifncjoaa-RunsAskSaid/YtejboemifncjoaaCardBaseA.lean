
/- How a slice of acts that came in reads. -/
import Derived.Test.YtejboemifncjoaaCardBaseR
import Derived.Test.YtejboemifncjoaaRun23
namespace Go.Proofs.Ytejboemifncjoaa
open Go.ChangeShapes Go.WideShapes Go.ChangeAt Go.RowKit Go.Deep
theorem readActs : Try.prog.readableRec 22 = true := by kernel_rfl
theorem rowActs : 22 < Try.prog.types.size := of_decide_eq_true (by kernel_rfl)
theorem actFields : ∃ f0 f1 f2 f3 : Field, Try.prog.underlying 57 = some (.struct #[f0, f1, f2, f3]) ∧ f0.type = 5 ∧ f1.type = 31 ∧ f2.type = 31 ∧ f3.type = 31 ∧ oneCellFields Try.prog #[f0, f1, f2, f3] = true ∧ Try.prog.cellsOf 57 = 4 :=
  ⟨_, _, _, _, Try.underlying57, rfl, rfl, rfl, rfl, by kernel_rfl, by kernel_rfl⟩
theorem open_ra {H : Type} {enc : TypeId × Value → H} {W : World} {b0 : Nat} {v : Value} {d : DataW H} {p : List MemPlace}
    (hval : Value.okWide Try.prog W .any b0 22 v) (h : DataW.Trod enc Try.prog W 0 (fun _ => true) true 22 v d p) (hlt : ∀ x ∈ p, x.block < W.heap.size) :
    ∃ A cp xs, v = .slice A xs.length cp ∧ Rk W W.heap.size A xs ∧ xs.length ≤ 9223372036854775807 := by
  obtain ⟨a0, len, cap, rfl⟩ := okWide_slice Try.underlying22 hval
  obtain ⟨fuel, hf⟩ := h
  obtain ⟨f0, f1, f2, f3, hu, t0, t1, t2, t3, hone, hC⟩ := actFields
  rcases open_slice_fields Try.underlying22 hu hone hC hf with ⟨hcs, hx⟩ | ⟨a, len', cap', m, D, Pl, hcs, _, hl, hm, hmm, hx, hi⟩
  · simp [Value.cells] at hcs
    obtain ⟨rfl, rfl, rfl⟩ := hcs
    exact ⟨none, 0, [], rfl, ⟨fun x hx => (by cases hx), fun h => absurd rfl h⟩, by simp⟩
  · simp [Value.cells] at hcs
    obtain ⟨rfl, rfl, rfl⟩ := hcs
    simp only [if_true] at hmm
    subst hmm
    simp only [Prod.mk.injEq] at hx
    obtain ⟨rfl, rfl⟩ := hx
    unfold maxLen at hm
    have hex : ∀ k, k < len → ∃ z : AcB, (z.1 < 256 ∧ z.2.1 ≤ 65535 ∧ z.2.2.1 ≤ 65535 ∧ z.2.2.2 ≤ 65535) ∧ W.cell? (a.add (k * 4)) = some (.int .u8 (z.1 : Nat)) ∧ W.cell? (a.add (k * 4 + 1)) = some (.int .u16 (z.2.1 : Nat)) ∧ W.cell? (a.add (k * 4 + 2)) = some (.int .u16 (z.2.2.1 : Nat)) ∧ W.cell? (a.add (k * 4 + 3)) = some (.int .u16 (z.2.2.2 : Nat)) := by
      intro k hk
      obtain ⟨ys, n, _, _, _, hf⟩ := hi k (by omega)
      obtain ⟨v0, y0, c0, _, d0⟩ := hf 0 f0 rfl
      obtain ⟨v1, y1, c1, _, d1⟩ := hf 1 f1 rfl
      obtain ⟨v2, y2, c2, _, d2⟩ := hf 2 f2 rfl
      obtain ⟨v3, y3, c3, _, d3⟩ := hf 3 f3 rfl
      obtain ⟨n0, hv0, _, w0⟩ := DataW.trod_int (k := .u8) (by rw [t0]; exact Try.underlying5) d0
      obtain ⟨n1, hv1, _, w1⟩ := DataW.trod_int (k := .u16) (by rw [t1]; exact Try.underlying31) d1
      obtain ⟨n2, hv2, _, w2⟩ := DataW.trod_int (k := .u16) (by rw [t2]; exact Try.underlying31) d2
      obtain ⟨n3, hv3, _, w3⟩ := DataW.trod_int (k := .u16) (by rw [t3]; exact Try.underlying31) d3
      obtain ⟨m0, rfl, hm0⟩ := u8_nat w0
      obtain ⟨m1, rfl, hm1⟩ := u16_nat w1
      obtain ⟨m2, rfl, hm2⟩ := u16_nat w2
      obtain ⟨m3, rfl, hm3⟩ := u16_nat w3
      simp at hv0 hv1 hv2 hv3
      subst hv0 hv1 hv2 hv3
      exact ⟨(m0, m1, m2, m3), ⟨hm0, by show m1 ≤ _; omega, by show m2 ≤ _; omega, by show m3 ≤ _; omega⟩, c0, c1, c2, c3⟩
    have hch : ∃ f : Nat → AcB, ∀ k, k < len → ((f k).1 < 256 ∧ (f k).2.1 ≤ 65535 ∧ (f k).2.2.1 ≤ 65535 ∧ (f k).2.2.2 ≤ 65535) ∧ W.cell? (a.add (k * 4)) = some (.int .u8 ((f k).1 : Nat)) ∧ W.cell? (a.add (k * 4 + 1)) = some (.int .u16 ((f k).2.1 : Nat)) ∧ W.cell? (a.add (k * 4 + 2)) = some (.int .u16 ((f k).2.2.1 : Nat)) ∧ W.cell? (a.add (k * 4 + 3)) = some (.int .u16 ((f k).2.2.2 : Nat)) := by
      refine ⟨fun k => if h : k < len then Classical.choose (hex k h) else (0, 0, 0, 0), fun k hk => ?_⟩
      simp only [dif_pos hk]
      exact Classical.choose_spec (hex k hk)
    obtain ⟨f, hf⟩ := hch
    refine ⟨some a, _, (List.range len).map f, by rw [List.length_map, List.length_range], ⟨fun x hx => ?_, fun hne => ?_⟩, by simp; omega⟩
    · obtain ⟨k, hk, rfl⟩ := List.mem_map.1 hx
      exact (hf k (List.mem_range.1 hk)).1
    · have hpos : 0 < len := by
        rcases Nat.eq_zero_or_pos len with h0 | h0
        · subst h0; simp at hne
        · exact h0
      obtain ⟨b, off, spot⟩ := a
      have hspot : spot = none := by simpa [Addr.add] using World.cell?_spot (hf 0 hpos).2.1
      subst hspot
      refine ⟨b, off, rfl, hlt (.cell b off) (List.mem_append_left _ (MemPlace.mem_row.2 ⟨0, by simp; omega, by simp⟩)), fun k hk => ?_⟩
      simp at hk
      have := hf k hk
      rw [add_plain, add_plain, add_plain, add_plain] at this
      simp only [List.getElem_map, List.getElem_range]
      refine ⟨this.2.1, ?_, ?_, ?_⟩
      · have e := this.2.2.1; rwa [← Nat.add_assoc] at e
      · have e := this.2.2.2.1; rwa [← Nat.add_assoc] at e
      · have e := this.2.2.2.2; rwa [← Nat.add_assoc] at e
end Go.Proofs.Ytejboemifncjoaa
