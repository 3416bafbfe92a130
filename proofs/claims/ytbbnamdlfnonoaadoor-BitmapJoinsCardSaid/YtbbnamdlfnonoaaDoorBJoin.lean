
/- Bitmaps joined word by word; the text walked. -/
import Derived.Test.YtbbnamdlfnonoaaDoorBRow
namespace Go.Proofs.YtbbnamdlfnonoaaDoor
open Go.RowKit Go.Shelf
/-- The slice at A reads as these pointers. -/
def Rps (w : World) (A : Option Addr) (ps : List (Option Addr)) : Prop := ps ≠ [] → ∃ b off, A = some ⟨b, off, none⟩ ∧ b < w.heap.size ∧ ∀ (k : Nat) (h : k < ps.length), w.cell? ⟨b, off + k, none⟩ = some (.pointer ps[k])
theorem Rps.below {w w' : World} {A : Option Addr} {ps : List (Option Addr)} (h : Rps w A ps) (hb : Below w.heap.size w w') : Rps w' A ps := fun hne => by
  obtain ⟨b, off, rfl, hlt, hc⟩ := h hne
  exact ⟨b, off, rfl, Nat.lt_of_lt_of_le hlt hb.size, fun k hk => (hb.cell (p := ⟨b, off + k, none⟩) hlt).trans (hc k hk)⟩
theorem rest_from (b off len c : Nat) (hk : 1 ≤ len) (hc : len ≤ c) : ∃ A3, (1 < len → A3 = some ⟨b, off + 1, none⟩) ∧
    (∀ w, (Instr.sliceAt 73 (.slice (some ⟨b, off, none⟩) len c) (some (.int .i64 1)) none none).run Tryd.prog w = .ok (.slice A3 (len - 1) (c - 1)) w) ∧
    (∀ w, (Instr.slice 73 (.slice (some ⟨b, off, none⟩) len c) (some (.int .i64 1)) none none).run Tryd.prog w = .ok (.slice A3 (len - 1) (c - 1)) w) := by
  have hu : Tryd.prog.underlying 73 = some (.slice (Tryd.prog.elem 73)) := by kernel_rfl
  have hz : ∀ w, (Go.sizeOf (Tryd.prog.elem 73)).run Tryd.prog w = .ok 1 w := fun w => Tryd.sizeOf24 w
  have h2 : ∀ w, (Instr.slice 73 (.slice (some ⟨b, off, none⟩) len c) (some (.int .i64 1)) none none).run Tryd.prog w = .ok (sliced (some ⟨b, off, none⟩) 1 len c 1) w := fun w => by
    have h := run_slice_l (P := Tryd.prog) (w := w) (t := 73) (a := some ⟨b, off, none⟩) (len := len) (cap := c) (ht := hu) (kl := .i64) (l := 1) (h0 := by omega) (h1 := by omega)
    rw [h, hz]
    simp [Result.andThen]
  refine ⟨if c = 1 then some ⟨b, off, none⟩ else (some (⟨b, off, none⟩ : Addr)).map (·.add (1 * 1)), fun h => ?_, fun w => ?_, fun w => (h2 w).trans rfl⟩
  · rw [if_neg (by omega)]
    rfl
  · exact (run_sliceAt_slice (w := w) (h := hu) ..).trans ((h2 w).trans rfl)
def mix (f : Nat → Nat → Nat) (zs us : List Nat) (j : Nat) : List Nat := List.zipWith f (zs.take j) (us.take j) ++ zs.drop j
theorem mix_zero (f : Nat → Nat → Nat) (zs us : List Nat) : mix f zs us 0 = zs := by simp [mix]
theorem mix_all (f : Nat → Nat → Nat) {zs us : List Nat} {j : Nat} (h : zs.length ≤ j) (h2 : us.length ≤ j) : mix f zs us j = List.zipWith f zs us := by
  unfold mix
  rw [List.take_of_length_le h, List.take_of_length_le h2, List.drop_of_length_le h, List.append_nil]
theorem mix_at (f : Nat → Nat → Nat) {zs us : List Nat} {j : Nat} (h : j < zs.length) (h2 : j < us.length) : (mix f zs us j)[j]? = some zs[j] := by
  unfold mix
  have hl : (List.zipWith f (zs.take j) (us.take j)).length = j := by rw [List.length_zipWith, List.length_take, List.length_take]; omega
  rw [List.getElem?_append_right (by omega), hl, Nat.sub_self, List.getElem?_drop]
  simp [h]
theorem mix_set (f : Nat → Nat → Nat) {zs us : List Nat} {j : Nat} (h : j < zs.length) (h2 : j < us.length) : (mix f zs us j).set j (f zs[j] us[j]) = mix f zs us (j + 1) := by
  unfold mix
  have hl : (List.zipWith f (zs.take j) (us.take j)).length = j := by rw [List.length_zipWith, List.length_take, List.length_take]; omega
  rw [List.set_append, if_neg (by omega), hl, Nat.sub_self, List.drop_eq_getElem_cons h, List.set_cons_zero, List.take_succ_eq_append_getElem h, List.take_succ_eq_append_getElem h2,
    List.zipWith_append (by rw [List.length_take, List.length_take]; omega), List.append_assoc]
  rfl
theorem mix_len (f : Nat → Nat → Nat) {zs us : List Nat} {j : Nat} (h : us.length = zs.length) : (mix f zs us j).length = zs.length := by
  unfold mix
  rw [List.length_append, List.length_zipWith, List.length_take, List.length_take, List.length_drop]
  omega
/-- All joined from the left. -/
def joined (f : Nat → Nat → Nat) (ws : List (List Nat)) (k : Nat) : List Nat := ((ws.drop 1).take k).foldl (List.zipWith f) (ws[0]?.getD [])
theorem joined_zero (f : Nat → Nat → Nat) (ws : List (List Nat)) : joined f ws 0 = ws[0]?.getD [] := by simp [joined]
theorem joined_succ (f : Nat → Nat → Nat) (ws : List (List Nat)) (k : Nat) (h : k + 1 < ws.length) : joined f ws (k + 1) = List.zipWith f (joined f ws k) ws[k + 1] := by
  unfold joined
  have h1 : k < (ws.drop 1).length := by rw [List.length_drop]; omega
  rw [List.take_succ_eq_append_getElem h1, List.foldl_append]
  simp
theorem joined_len (f : Nat → Nat → Nat) (ws : List (List Nat)) (hw : ∀ u ∈ ws, u.length = 1024) (h0 : 0 < ws.length) : ∀ k, k < ws.length → (joined f ws k).length = 1024
  | 0, _ => by rw [joined_zero, List.getElem?_eq_getElem h0]; exact hw _ (List.getElem_mem h0)
  | k + 1, hk => by rw [joined_succ f ws k hk, List.length_zipWith, joined_len f ws hw h0 k (by omega), hw _ (List.getElem_mem hk)]; rfl
theorem joined_lt (f : Nat → Nat → Nat) (hf : ∀ a b, a < 18446744073709551616 → b < 18446744073709551616 → f a b < 18446744073709551616) (ws : List (List Nat)) (hw : ∀ u ∈ ws, ∀ x ∈ u, x < 18446744073709551616) (h0 : 0 < ws.length) : ∀ k, k < ws.length → ∀ x ∈ joined f ws k, x < 18446744073709551616
  | 0, _ => by rw [joined_zero, List.getElem?_eq_getElem h0]; exact hw _ (List.getElem_mem h0)
  | k + 1, hk => by
    rw [joined_succ f ws k hk]
    intro x hx
    obtain ⟨i, hi, rfl⟩ := List.getElem_of_mem hx
    rw [List.getElem_zipWith]
    exact hf _ _ (joined_lt f hf ws hw h0 k (by omega) _ (List.getElem_mem _)) (hw _ (List.getElem_mem hk) _ (List.getElem_mem _))
theorem Row.cellR {w : World} {g : Nat} {L : List Nat} {k : Nat} {x : Nat} (h : w.heap[g]? = some (.cells (wv L).toArray 65 (0, 0))) (hx : L[k]? = some x) : w.cell? ⟨g, k, none⟩ = some (.int .u64 (x : Int)) := by
  rw [cell_of_row w g k _ _ (0, 0) h]
  simp [wv, hx]
theorem wv_store {w : World} {g k x : Nat} {L : List Nat} (h : w.heap[g]? = some (.cells (wv L).toArray 65 (0, 0))) : (w.setCell ⟨g, k, none⟩ (.int .u64 (x : Int))).heap[g]? = some (.cells (wv (L.set k x)).toArray 65 (0, 0)) := by
  simp [World.setCell, Array.getElem?_modify, h, wv, List.map_set]
end Go.Proofs.YtbbnamdlfnonoaaDoor
