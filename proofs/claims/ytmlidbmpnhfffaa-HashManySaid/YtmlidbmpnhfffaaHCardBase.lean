
/- What the cards of tables' laws use besides: bytes that came in, with their bounds. -/
import Derived.Test.YtmlidbmpnhfffaaPCardBase
namespace Go.Proofs.Ytmlidbmpnhfffaa
open Go.ChangeShapes Go.WideShapes Go.ChangeAt Go.RowKit
theorem nats_of2 {zs : List Int} (h : ∀ n ∈ zs, (Lit.int .u8 n).wf = true) : ∃ xs : List Nat, zs = xs.map (fun a : Nat => (a : Int)) ∧ ∀ x ∈ xs, x < 256 := by
  induction zs with
  | nil => exact ⟨[], rfl, by simp⟩
  | cons z zs ih =>
    obtain ⟨xs, rfl, hb⟩ := ih fun n hn => h n (List.mem_cons_of_mem _ hn)
    have hz := h z (by simp)
    simp [Lit.wf, IntKind.min, IntKind.max, IntKind.signed, IntKind.bits] at hz
    refine ⟨z.toNat :: xs, by simp; omega, fun x hx => ?_⟩
    rcases List.mem_cons.1 hx with rfl | hx
    · omega
    · exact hb x hx
theorem open_rb2 {H : Type} {enc : TypeId × Value → H} {W : World} {b0 : Nat} {v : Value} {d : DataW H} {p : List MemPlace}
    (hval : Value.okWide Try.prog W .any b0 50 v) (h : DataW.Trod enc Try.prog W 0 (fun _ => true) true 50 v d p) (hlt : ∀ x ∈ p, x.block < W.heap.size) :
    ∃ A cp xs, v = .slice A xs.length cp ∧ Rb W W.heap.size A xs ∧ xs.length ≤ 9223372036854775807 ∧ ∀ x ∈ xs, x < 256 := by
  obtain ⟨a0, len, cap, rfl⟩ := okWide_slice Try.underlying50 hval
  obtain ⟨fuel, hf⟩ := h
  rcases open_ints Try.underlying50 Try.underlying5 cellsByte hf with ⟨hcs, hx⟩ | ⟨a, len', cap', zs, hcs, _, hl, hm, hz, hx, hcell, hwz⟩
  · simp [Value.cells] at hcs
    obtain ⟨rfl, rfl, rfl⟩ := hcs
    exact ⟨none, 0, [], rfl, fun h => absurd rfl h, by simp, by simp⟩
  · simp [Value.cells] at hcs
    obtain ⟨rfl, rfl, rfl⟩ := hcs
    simp only [Prod.mk.injEq] at hx
    obtain ⟨rfl, rfl⟩ := hx
    simp only [if_true] at hz
    obtain ⟨xs, rfl, hb⟩ := nats_of2 hwz
    rw [List.length_map] at hz hcell hlt
    unfold maxLen at hm
    refine ⟨some a, cap, xs.take len, ?_, fun hne => ?_, by rw [List.length_take]; omega, fun x hx => hb x (List.mem_of_mem_take hx)⟩
    · rw [List.length_take, Nat.min_eq_left (by omega)]
    · have hpos : 0 < xs.length := by
        rcases Nat.eq_zero_or_pos xs.length with h0 | h0
        · have : xs = [] := List.eq_nil_of_length_eq_zero h0
          subst this; simp at hne
        · exact h0
      obtain ⟨b, off, spot⟩ := a
      have hspot : spot = none := by simpa [Addr.add] using World.cell?_spot (hcell 0 hpos)
      subst hspot
      refine ⟨b, off, rfl, hlt (.cell b off) (MemPlace.mem_row.2 ⟨0, hpos, by simp⟩), fun k hk => ?_⟩
      rw [List.length_take] at hk
      have := hcell k (by omega)
      rw [add_plain] at this
      rw [this]
      simp [List.getD, show k < xs.length by omega]
end Go.Proofs.Ytmlidbmpnhfffaa
