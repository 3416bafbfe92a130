
/- A strip in memory, and what the calls of package strip do to it: contracts, the text walked. -/
import Derived.Test.YtbbnamdlfnonoaaDoorRefs3B
import Derived.Lib.Hide
import Derived.Laws.Rows
import Derived.StillTailTactics
namespace Go.Proofs.YtbbnamdlfnonoaaDoor
open Go.RowKit

/-- Block s is a strip's struct, block h its words. -/
def St (w : World) (s h : Nat) (ws : List Nat) : Prop :=
  w.heap[s]? = some (.cells #[.slice (some ⟨h, 0, none⟩) ws.length ws.length] 87 (0, 0)) ∧ w.heap[h]? = some (.cells (wv ws).toArray 65 (0, 0)) ∧ (∀ x ∈ ws, x < 18446744073709551616) ∧ ws.length ≤ 4096
section
variable {w w' : World} {s h : Nat} {ws : List Nat}
theorem St.head (a : St w s h ws) : w.cell? ⟨s, 0, none⟩ = some (.slice (some ⟨h, 0, none⟩) ws.length ws.length) := cell_of_row w s 0 _ _ (0, 0) a.1
theorem St.cell (a : St w s h ws) (k : Nat) (hk : k < ws.length) : w.cell? ⟨h, k, none⟩ = some (.int .u64 (ws[k] : Nat)) := by
  rw [cell_of_row w h k _ _ (0, 0) a.2.1]
  simp [wv, hk]
theorem St.frozen (a : St w s h ws) (k : Nat) : w.frozen? ⟨h, k, none⟩ = false := by
  have := a.2.1
  simp [World.frozen?, this]
theorem St.lt (a : St w s h ws) : s < w.heap.size ∧ h < w.heap.size := by
  constructor
  · rcases Nat.lt_or_ge s w.heap.size with hlt | hge
    · exact hlt
    · have := a.1; rw [Array.getElem?_eq_none hge] at this; cases this
  · rcases Nat.lt_or_ge h w.heap.size with hlt | hge
    · exact hlt
    · have := a.2.1; rw [Array.getElem?_eq_none hge] at this; cases this
theorem St.ne (a : St w s h ws) : s ≠ h := by
  rintro rfl
  have h1 := a.1
  rw [a.2.1] at h1
  injection h1 with h1
  injection h1 with _ ht
  exact absurd ht (by decide)
theorem St.word (a : St w s h ws) (k : Nat) (hk : k < ws.length) : ws[k] < 18446744073709551616 := a.2.2.1 _ (List.getElem_mem hk)
theorem St.below {B : Nat} (a : St w s h ws) (hb : Below B w w') (hs : s < B) (hh : h < B) : St w' s h ws := ⟨(hb.block s hs).trans a.1, (hb.block h hh).trans a.2.1, a.2.2⟩
theorem St.drew (a : St w s h ws) (n : Nat) : St (w.drewN n) s h ws := a
/-- A word stored. -/
theorem St.store (a : St w s h ws) (k : Nat) (y : Nat) (hy : y < 18446744073709551616) : St (w.setCell ⟨h, k, none⟩ (.int .u64 (y : Nat))) s h (ws.set k y) := by
  refine ⟨?_, ?_, ?_, by rw [List.length_set]; exact a.2.2.2⟩
  · rw [List.length_set]
    exact (Below.heap_setCell w ⟨h, k, none⟩ _ s a.ne).trans a.1
  · have := a.2.1
    simp [World.setCell, Array.getElem?_modify, this, wv, List.map_set]
  · intro x hx
    rcases List.mem_or_eq_of_mem_set hx with hx | rfl
    · exact a.2.2.1 x hx
    · exact hy
theorem set_grown (w : World) (h k : Nat) (u : Value) : w.grownBy (w.setCell ⟨h, k, none⟩ u) (some h) :=
  ⟨rfl, rfl, rfl, by simp [World.setCell], fun j _ hne => Below.heap_setCell w _ u j (fun e => hne (by rw [e]))⟩
end

theorem s_bits (w : World) (s h : Nat) (ws : List Nat) (a : St w s h ws) :
    Calls Tryd.prog 67 #[.pointer (some ⟨s, 0, none⟩)] w fun e w' => e = .returned (.int .i64 ((64 * ws.length : Nat) : Int)) ∧ w = w' := by
  have hc := a.head
  have hl := a.2.2.2
  clear a
  generalize ws.length = n at *
  go_enter Tryd.func67, Tryd.ntmps67
  go_wp2
  go_ret
  exact ⟨ret_int (by omega), rfl⟩
theorem s_bits_nil (w : World) : Calls Tryd.prog 67 #[.pointer none] w fun e w' => e = .returned (.int .i64 0) ∧ w = w' := by
  go_enter Tryd.func67, Tryd.ntmps67
  go_wp2
  go_ret
  exact ⟨rfl, rfl⟩
theorem s_there (w : World) (s h : Nat) (ws : List Nat) (a : St w s h ws) (i : Int) :
    Calls Tryd.prog 69 #[.pointer (some ⟨s, 0, none⟩), .int .i64 i] w fun e w' => e = .returned (.bool (decide (0 ≤ i ∧ i < (64 * ws.length : Nat)))) ∧ w = w' := by
  have hb := Lib.hid (s_bits w s h ws a)
  clear a
  by_cases h0 : 0 ≤ i
  all_goals
    go_enter Tryd.func69, Tryd.ntmps69
    go_wp2_with (go_at_call 67; refine hb.out.mono ?_; rintro e w' ⟨rfl, rfl⟩)
    go_ret
    refine ⟨ret_bool ?_, rfl⟩
  · simp [h0]
  · rw [Bool.eq_iff_iff]
    simp
    omega
theorem s_there_nil (w : World) (i : Int) :
    Calls Tryd.prog 69 #[.pointer none, .int .i64 i] w fun e w' => e = .returned (.bool false) ∧ w = w' := by
  by_cases h0 : 0 ≤ i
  all_goals
    go_enter Tryd.func69, Tryd.ntmps69
    go_wp2_with (go_at_call 67; refine (s_bits_nil _).mono ?_; rintro e w' ⟨rfl, rfl⟩)
    go_ret
    first | exact ⟨rfl, rfl⟩ | (refine ⟨ret_bool ?_, rfl⟩; simp; omega)

/-- Is bit i of the words set? -/
def sbit (ws : List Nat) (i : Nat) : Bool := (ws[i / 64]?.getD 0).testBit (i % 64)
theorem s_get_out (w : World) (s h : Nat) (ws : List Nat) (a : St w s h ws) (i : Int) (ho : ¬ (0 ≤ i ∧ i < ((64 * ws.length : Nat) : Int))) :
    Calls Tryd.prog 47 #[.pointer (some ⟨s, 0, none⟩), .int .i64 i] w fun e w' => e = .returned (.bool false) ∧ w = w' := by
  have ht := Lib.hid (s_there w s h ws a i)
  have d : decide (0 ≤ i ∧ i < ((64 * ws.length : Nat) : Int)) = false := by rw [decide_eq_false_iff_not]; exact ho
  have hc := a.head
  rw [d] at ht
  clear a d ho
  go_enter Tryd.func47, Tryd.ntmps47
  go_wp2_with (go_at_call 69; refine ht.out.mono ?_; rintro e w' ⟨rfl, rfl⟩)
  go_ret
  exact ⟨rfl, rfl⟩
theorem s_get_in (w : World) (s h : Nat) (ws : List Nat) (a : St w s h ws) (i : Nat) (hi : i < 64 * ws.length) :
    Calls Tryd.prog 47 #[.pointer (some ⟨s, 0, none⟩), .int .i64 (i : Int)] w fun e w' => e = .returned (.bool (sbit ws i)) ∧ w = w' := by
  have ht := Lib.hid (s_there w s h ws a i)
  have d : decide (0 ≤ (i : Int) ∧ (i : Int) < ((64 * ws.length : Nat) : Int)) = true := by rw [decide_eq_true_eq]; omega
  have hc := a.head
  have hle := a.2.2.2
  have hk : i / 64 < ws.length := by omega
  have hw := a.cell (i / 64) hk
  have hx := a.word (i / 64) hk
  have hb := M.has_bit (ws[i / 64]) (i % 64) (Nat.mod_lt _ (by decide))
  have hs : Hid (sbit ws i = (ws[i / 64]).testBit (i % 64)) := by
    show sbit ws i = _
    unfold sbit
    rw [List.getElem?_eq_getElem hk]; rfl
  have hi2 : i ≤ 262144 := by omega
  rw [d] at ht
  clear a d
  generalize ws[i / 64] = x at *
  generalize ws.length = n at *
  have e1 : (i : Int) / 64 = ((i / 64 : Nat) : Int) := by omega
  have e2 : (i : Int) % 64 = ((i % 64 : Nat) : Int) := by omega
  generalize i / 64 = q at *
  generalize i % 64 = r at *
  go_enter Tryd.func47, Tryd.ntmps47
  go_wp2_with (first
    | (go_at_call 69; refine ht.out.mono ?_; rintro e w' ⟨rfl, rfl⟩)
    | (go_at_call 70; refine (bit_get x hx _ _).mono ?_; rintro e w' ⟨rfl, rfl⟩))
  go_ret
  exact ⟨ret_bool hs.out.symm, rfl⟩

end Go.Proofs.YtbbnamdlfnonoaaDoor
