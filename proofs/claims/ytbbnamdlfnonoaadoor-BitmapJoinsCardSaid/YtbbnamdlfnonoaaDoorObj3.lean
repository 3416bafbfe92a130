
/- New, and a nil strip. -/
import Derived.Test.YtbbnamdlfnonoaaDoorObj2
namespace Go.Proofs.YtbbnamdlfnonoaaDoor
open Go.RowKit
theorem alloc_top (w : World) (o : Obj) {k : Nat} (hk : k = w.heap.size) : (w.alloc o).heap[k]? = some o := by
  subst hk
  show (w.heap.push o)[w.heap.size]? = some o
  simp
theorem made_zero (n : Nat) : madeCells #[Value.int .u64 0] n = (wv (List.replicate n 0)).toArray := by
  apply Array.toList_inj.1
  rw [toList_madeCells_one]
  simp [wv]
theorem s_words_nil (w : World) : Calls Tryd.prog 45 #[.pointer none] w fun e w' => e = .returned (.slice none 0 0) ∧ w = w' := by
  go_enter Tryd.func45, Tryd.ntmps45
  go_wp2
  go_ret
  exact ⟨rfl, rfl⟩
theorem s_select_nil (w : World) (k : Int) : Calls Tryd.prog 52 #[.pointer none, .int .i64 k] w fun e w' => e = .returned (.int .i64 (-1)) ∧ w = w' := by
  go_enter Tryd.func52, Tryd.ntmps52
  go_wp2
  refine bodyPost_ret (results_tmp (t := 4) rfl _ _ _) rfl ?_
  exact ⟨rfl, rfl⟩
theorem s_new_no (w : World) (n : Int) (hn : ¬ (0 ≤ n ∧ n ≤ 4096)) : Calls Tryd.prog 62 #[.int .i64 n] w fun e w' => e = .returned (.tuple #[.pointer none, .int .i64 1]) ∧ w = w' := by
  by_cases h0 : 0 ≤ n
  · have h1 : 4096 < n := by omega
    go_enter Tryd.func62, Tryd.ntmps62
    go_wp2
    go_ret2
    exact ⟨rfl, rfl⟩
  · go_enter Tryd.func62, Tryd.ntmps62
    go_wp2
    go_ret2
    exact ⟨rfl, rfl⟩
theorem s_new (w : World) (n : Nat) (hn : n ≤ 4096) : Calls Tryd.prog 62 #[.int .i64 (n : Int)] w fun e w' => ∃ s h, e = .returned (.tuple #[.pointer (some ⟨s, 0, none⟩), .int .i64 0]) ∧ St w' s h (List.replicate n 0) ∧ w.grownBy w' none ∧ w.heap.size ≤ s ∧ w.heap.size ≤ h := by
  have h0 : 0 ≤ (n : Int) := by omega
  have h1 : (n : Int) ≤ 4096 := by omega
  have hmk : ∀ w : World, (Instr.makeSlice 66 (.int .i64 (n : Int)) (.int .i64 (n : Int))).run Tryd.prog w = .ok (.slice (some ⟨w.heap.size, 0, none⟩) n n) (w.alloc (.cells (madeCells (Value.int .u64 0).cells n) 65)) := by
    intro w
    obtain ⟨ti, hi, hb, hz, hsz⟩ : ∃ ti, Tryd.prog.info? 65 = some ti ∧ ti.bytes = 8 ∧ ti.zero = some (.int .u64 0) ∧ ti.size = 1 := ⟨_, rfl, rfl, rfl, rfl⟩
    have := run_make (P := Tryd.prog) w 66 65 ti _ (by kernel_rfl) hi hz .i64 .i64 (n : Int) (n : Int) (by omega) (by omega) (by rw [hb]; omega) (by omega)
    simpa [hsz] using this
  go_enter Tryd.func62, Tryd.ntmps62
  go_wp2
  go_ret2
  refine ⟨w.heap.size + 1, w.heap.size, rfl, ⟨?_, ?_, ?_, ?_⟩, ?_, by omega, by omega⟩
  · rw [List.length_replicate]; exact alloc_top _ _ (by simp)
  · rw [Below.heap_alloc _ _ _ (by simp), alloc_top _ _ rfl, made_zero]
  · intro x hx
    rw [List.eq_of_mem_replicate hx]; decide
  · rw [List.length_replicate]; exact hn
  · exact (World.grownBy_alloc _ _ none).trans (World.grownBy_alloc _ _ none)
end Go.Proofs.YtbbnamdlfnonoaaDoor
