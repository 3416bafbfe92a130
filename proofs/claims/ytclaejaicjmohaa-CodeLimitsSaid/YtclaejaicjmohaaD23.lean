
/- Pieces for the law CodeBack: a cut of pairs, a copy of pairs, keys put in one by one; nothing walked. -/
import Derived.Test.YtclaejaicjmohaaD22
import Derived.Test.YtclaejaicjmohaaK4
import Derived.Test.YtclaejaicjmohaaK10
namespace Go.Proofs.Ytclaejaicjmohaa
set_option maxRecDepth 20000
open Go.RowKit
namespace E
theorem cutp_h (A : Option Addr) (n c l : Nat) (L : Int) (hL : L = (l : Int)) (hl : l ≤ n) (hc : n ≤ c) : (∀ w, (Instr.sliceAt 37 (.slice A n c) none (some (.int .i64 L)) none).run Try.prog w = .ok (.slice A l c) w) ∧
    (∀ w, (Instr.slice 37 (.slice A n c) none (some (.int .i64 L)) none).run Try.prog w = .ok (.slice A l c) w) := by
  subst hL
  have hu : Try.prog.underlying 37 = some (.slice (Try.prog.elem 37)) := by kernel_rfl
  have hz : ∀ w, (Go.sizeOf (Try.prog.elem 37)).run Try.prog w = .ok 2 w := fun w => Try.sizeOf39 w
  have h2 : ∀ w, (Instr.slice 37 (.slice A n c) none (some (.int .i64 (l : Int))) none).run Try.prog w = .ok (.slice A l c) w := fun w => by
    have h := run_slice_h (P := Try.prog) (w := w) (t := 37) (a := A) (len := n) (cap := c) (ht := hu) (kh := .i64) (h := (l : Int)) (h0 := by omega) (h2 := by omega)
    rw [h, hz]
    simp [Result.andThen]
    cases A <;> simp [sliced, Addr.add]
  exact ⟨fun w => (run_sliceAt_slice (w := w) (h := hu) ..).trans (h2 w), h2⟩
theorem Pq.take {w : World} {B : Nat} {A : Option Addr} {rs : List (Nat × Nat)} (h : Pq w B A rs) (n : Nat) : Pq w B A (rs.take n) := fun hne => by
  obtain ⟨b, off, h1, h2, h3⟩ := h (fun e => hne (by rw [e]; simp))
  refine ⟨b, off, h1, h2, fun k hk => ?_⟩
  rw [List.length_take] at hk
  rw [List.getElem_take]
  exact h3 k (by omega)
theorem pv_reads {w : World} {B : Nat} {A : Option Addr} {rs : List (Nat × Nat)} (h : Pq w B A rs) : Reads w B 2 A rs.length (pv rs) := by
  refine ⟨pv_len rs, fun h0 => ?_⟩
  obtain ⟨b, off, rfl, hb, hc⟩ := h (fun e => by rw [e] at h0; simp at h0)
  refine ⟨⟨b, off, none⟩, rfl, hb, fun j u hj => ?_⟩
  have hlt : j < (pv rs).length := by
    rcases Nat.lt_or_ge j (pv rs).length with h1 | h1
    · exact h1
    · rw [List.getElem?_eq_none h1] at hj
      cases hj
  rw [pv_len] at hlt
  have hk : j / 2 < rs.length := by omega
  obtain ⟨p0, p1⟩ := pv_at rs (j / 2) hk
  obtain ⟨c0, c1⟩ := hc (j / 2) hk
  have ea : (⟨b, off, none⟩ : Addr).add j = ⟨b, off + j, none⟩ := by simp [Addr.add]
  rw [ea]
  rcases Nat.mod_two_eq_zero_or_one j with h2 | h2
  · have e : j / 2 * 2 = j := by omega
    rw [e] at p0 c0
    rw [p0] at hj
    injection hj with hj
    subst hj
    exact c0
  · have e : j / 2 * 2 + 1 = j := by omega
    rw [e] at p1
    rw [p1] at hj
    injection hj with hj
    subst hj
    rw [← c1]
    congr 2
    omega
theorem add_len (xs : List Nat) (k : Nat) : (K.add xs k).length ≤ xs.length + 1 := by
  unfold K.add
  split
  · omega
  · simp [List.length_take, List.length_drop]
    omega
end E
end Go.Proofs.Ytclaejaicjmohaa
