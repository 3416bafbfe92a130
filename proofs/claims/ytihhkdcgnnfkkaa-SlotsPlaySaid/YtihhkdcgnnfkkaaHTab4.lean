
/- New, Len, Size, Probes, Clear; a nil table; the texts walked. -/
import Derived.Test.YtihhkdcgnnfkkaaHTab3
namespace Go.Proofs.Ytihhkdcgnnfkkaa.Hs
set_option maxRecDepth 4000
open Go.RowKit
theorem tab_clear_nil (w : World) : Calls Try.prog 29 #[.pointer none] w fun e w' => e = .returned (.tuple #[]) ∧ w = w' := by
  go_enter Try.func29, Try.ntmps29
  go_wp2
  refine bodyPost_ret (results_none rfl _ _ _) rfl ?_
  exact ⟨rfl, rfl⟩
theorem tab_get_nil (w : World) (a b : Value) : Calls Try.prog 35 #[.pointer none, .agg #[a, b]] w fun e w' => e = .returned (.tuple #[.int .u64 0, .bool false]) ∧ Below w.heap.size w w' := by
  go_enter Try.func35, Try.ntmps35
  go_wp2
  go_ret2
  exact ⟨rfl, (Below.refl _ w).alloc (Nat.le_refl _) _⟩
theorem tab_put_nil (w : World) (a b v : Value) : Calls Try.prog 32 #[.pointer none, .agg #[a, b], v] w fun e w' => e = .returned (.bool false) ∧ Below w.heap.size w w' := by
  go_enter Try.func32, Try.ntmps32
  go_wp2
  go_ret
  exact ⟨rfl, (Below.refl _ w).alloc (Nat.le_refl _) _⟩
theorem tab_drop_nil (w : World) (a b : Value) : Calls Try.prog 24 #[.pointer none, .agg #[a, b]] w fun e w' => e = .returned (.bool false) ∧ Below w.heap.size w w' := by
  go_enter Try.func24, Try.ntmps24
  go_wp2
  go_ret
  exact ⟨rfl, (Below.refl _ w).alloc (Nat.le_refl _) _⟩
theorem tb_new {w : World} {P Q M seed : Nat} (h1 : TRow w P Q M seed 8 0 0) (h2 : w.heap[Q]? = some (.cells (ev (List.replicate 8 H.z)).toArray 86 (0, 0))) {cl t p : Nat} (hm : Mt w M 0 cl 0 t p) (ht : t ≤ cl) : Tab w P Q M seed 8 [] 0 cl := by
  refine ⟨List.replicate 8 H.z, t, p, ⟨?_, h2, ⟨3, by omega, by omega, by simp⟩, fun e he => ?_⟩, by simp, H.inv_rep _ _, by rw [H.ents_rep], by simp, by omega, hm, ht⟩
  · rw [List.length_replicate]; exact h1
  · rw [List.eq_of_mem_replicate he]; decide
theorem mk_eight : ∃ E : List Value, E = ev (List.replicate 8 H.z) ∧ ∀ w : World, (Instr.makeSlice 77 (.int .i64 8) (.int .i64 8)).run Try.prog w = .ok (.slice (some ⟨w.heap.size, 0, none⟩) 8 8) (w.alloc (.cells E.toArray 86)) :=
  ⟨_, rfl, fun w => mk_entries 8 (by omega) w⟩
def NewP (w : World) (M? : Option Nat) (seed : Nat) (e : Ending) (w' : World) : Prop :=
  ∃ P Q M, e = .returned (.pointer (some ⟨P, 0, none⟩)) ∧ Tab w' P Q M seed 8 [] 0 0 ∧ Below w.heap.size w w' ∧ w.heap.size ≤ P ∧ w.heap.size ≤ Q ∧ (M? = some M ∨ (M? = none ∧ w.heap.size ≤ M))
theorem tab_new_nil (w : World) (seed : Nat) : Calls Try.prog 22 #[.pointer none, .int .u64 (seed : Int)] w (NewP w none seed) := by
  obtain ⟨E, hE, hmk⟩ := mk_eight
  have HE := Lib.hid hE
  clear hE
  go_enter Try.func22, Try.ntmps22
  go_wp2_with (first
    | (go_at_call 20; (with_reducible refine (m_new _).mono ?_); rintro e w1 ⟨rfl, hm, hb1⟩; have hmH := Lib.hid hm; clear hm; have hbH := Lib.hid hb1; clear hb1))
  go_ret
  have hlt := hmH.out.lt
  have hb2 : Below w1.heap.size w1 ((w1.alloc (.cells E.toArray 86)).alloc (.cells #[.pointer (some ⟨w.heap.size, 0, none⟩), .int .u64 (seed : Int), .slice (some ⟨w1.heap.size, 0, none⟩) 8 8, .int .i64 0, .int .i64 0] 79)) :=
    ((Below.refl _ w1).alloc (Nat.le_refl _) _).alloc (by simp) _
  refine ⟨w1.heap.size + 1, w1.heap.size, w.heap.size, rfl, tb_new ?_ ?_ (hmH.out.below hb2 hlt) (Nat.le_refl _), hbH.out.trans (hb2.mono (by omega)), by omega, by omega, .inr ⟨rfl, Nat.le_refl _⟩⟩
  · have hz : (w1.alloc (.cells E.toArray 86)).heap.size = w1.heap.size + 1 := by simp
    have := alloc_topI (w1.alloc (.cells E.toArray 86)) (.cells #[.pointer (some ⟨w.heap.size, 0, none⟩), .int .u64 (seed : Int), .slice (some ⟨w1.heap.size, 0, none⟩) 8 8, .int .i64 0, .int .i64 0] 79)
    rw [hz] at this
    exact this
  · rw [← HE.out]; exact (Below.heap_alloc _ _ _ (by simp)).trans (alloc_topI w1 _)
theorem tab_new (w : World) (seed M : Nat) (hm : Mt w M 0 0 0 0 0) : Calls Try.prog 22 #[.pointer (some ⟨M, 0, none⟩), .int .u64 (seed : Int)] w (NewP w (some M) seed) := by
  obtain ⟨E, hE, hmk⟩ := mk_eight
  have HE := Lib.hid hE
  clear hE
  have hmH := Lib.hid hm
  clear hm
  go_enter Try.func22, Try.ntmps22
  go_wp2
  go_ret
  have hlt := hmH.out.lt
  have hb2 : Below w.heap.size w ((w.alloc (.cells E.toArray 86)).alloc (.cells #[.pointer (some ⟨M, 0, none⟩), .int .u64 (seed : Int), .slice (some ⟨w.heap.size, 0, none⟩) 8 8, .int .i64 0, .int .i64 0] 79)) :=
    ((Below.refl _ w).alloc (Nat.le_refl _) _).alloc (by simp) _
  refine ⟨w.heap.size + 1, w.heap.size, M, rfl, tb_new ?_ ?_ (hmH.out.below hb2 hlt) (Nat.le_refl _), hb2, by omega, by omega, .inl rfl⟩
  · have hz : (w.alloc (.cells E.toArray 86)).heap.size = w.heap.size + 1 := by simp
    have := alloc_topI (w.alloc (.cells E.toArray 86)) (.cells #[.pointer (some ⟨M, 0, none⟩), .int .u64 (seed : Int), .slice (some ⟨w.heap.size, 0, none⟩) 8 8, .int .i64 0, .int .i64 0] 79)
    rw [hz] at this
    exact this
  · rw [← HE.out]; exact (Below.heap_alloc _ _ _ (by simp)).trans (alloc_topI w _)
end Go.Proofs.Ytihhkdcgnnfkkaa.Hs
