
/- slices.Sort over a row of one's own: the same numbers, in order. -/
import Derived.Test.YtepnjolldbgglaaKbSrt9
import Derived.Test.YtepnjolldbgglaaKbBut
namespace Go.Proofs.Ytepnjolldbgglaa.Kb
open Go.RowKit Go.Sort
theorem own_holdsH {w : World} {base g n cap : Nat} {xs : List Int} (h : w.ownsRow base 23 1 (.slice (some ⟨g, 0, none⟩) n cap) n (hv xs)) (_hl : xs.length = n) : Holds (Value.int .u64) w g 0 xs.toArray := by
  intro j hj
  have hj' : j < xs.length := by simpa using hj
  refine ⟨?_, by rw [Nat.zero_add]; exact h.frozenAt j⟩
  have := h.cells (g := g) rfl j (.int .u64 xs[j]) (by simp [hj'])
  rw [add_offB] at this
  rw [Nat.zero_add, this, getElem!_pos xs.toArray j hj]
  simp
theorem sw_but {w w' : World} {blk off : Nat} {d : Array Int} (h : SW (Value.int .u64) w blk off d w') : ButS w w' (· = blk) := by
  obtain ⟨n, os, rfl⟩ := h
  refine ⟨rfl, rfl, rfl, ?_, fun j hj hne => ?_⟩
  · show w.heap.size ≤ ((w.heap.modify blk _) ++ os).size
    simp
  · show ((w.heap.modify blk _) ++ os)[j]? = _
    rw [Array.getElem?_append_left (by simpa using hj), Array.getElem?_modify]
    have : ¬ blk = j := fun e => hne e.symm
    simp [this]
theorem sw_own {w w' : World} {base g n cap : Nat} {xs ys : List Int} (h : w.ownsRow base 23 1 (.slice (some ⟨g, 0, none⟩) n cap) n (hv xs)) (hl : ys.length = n) (hw : SW (Value.int .u64) w g 0 ys.toArray w') :
    w'.ownsRow base 23 1 (.slice (some ⟨g, 0, none⟩) n cap) n (hv ys) := by
  obtain ⟨q, os, rfl⟩ := hw
  rcases h.2 with ⟨h1, h2⟩ | ⟨g', cap', cur, h1, hb, hg, hnc, hcm, hcs, ht⟩
  · simp at h1
  · simp only [Value.slice.injEq, Option.some.injEq, Addr.mk.injEq, and_true, true_and] at h1
    obtain ⟨rfl, rfl⟩ := h1
    have hlt : g < w.heap.size := (Array.getElem?_eq_some_iff.1 hg).1
    refine ⟨by simp [hl], .inr ⟨g, cap, putCells (Value.int .u64) 0 ys.toArray cur, rfl, hb, ?_, hnc, hcm, by simpa [putCells] using hcs, ?_⟩⟩
    · show ((w.heap.modify g _) ++ os)[g]? = _
      rw [Array.getElem?_append_left (by simpa using hlt), Array.getElem?_modify, hg]
      simp [onCells]
    · apply List.ext_getElem?
      intro j
      by_cases hj : j < n
      · rw [List.getElem?_take_of_lt (by omega), Array.getElem?_toList]
        simp [putCells, hl, hj, show j < cur.size by omega]
      · rw [List.getElem?_take_eq_none (by omega), List.getElem?_eq_none (by simp; omega)]
set_option maxHeartbeats 4000000 in
theorem so_sort (w : World) (base g n cap : Nat) (xs : List Int) (h : w.ownsRow base 23 1 (.slice (some ⟨g, 0, none⟩) n cap) n (hv xs)) (hl : xs.length = n) (few : n < 4611686018427387904) :
    Calls Try.prog 27 #[.slice (some ⟨g, 0, none⟩) n cap] w fun e w' => e = .returned (.tuple #[]) ∧ ∃ ys : List Int, ys.Perm xs ∧ ys.Pairwise (· ≤ ·) ∧
      w'.ownsRow base 23 1 (.slice (some ⟨g, 0, none⟩) n cap) n (hv ys) ∧ ButS w w' (· = g) := by
  have hg : g < w.heap.size := (h.lt g rfl).2
  have R : Rr w g 0 n xs.toArray w := by
    have := Rr.start (own_holdsH h hl) hg (by simpa [hl] using few)
    simpa [hl] using this
  have HR := Lib.hid R
  have HO := Lib.hid h
  have HL := Lib.hid hl
  have HB : Hid (Bel 0 n xs.toArray) := Lib.hid (fun h => absurd h (by omega))
  have P := so_pdq w g 0 n cap n 0 n (by omega) (Nat.le_refl _) (by omega)
  have HP : Hid (∀ (W : World) (l : Int) (d : Array Int), Rr w g 0 n d W → Bel 0 n d → Calls Try.prog 32 #[.slice (some ⟨g, 0, none⟩) n cap, .int .i64 0, .int .i64 n, .int .i64 l] W fun e w' => e = .returned (.tuple #[]) ∧ Sr w g 0 n 0 n d (SortedIn ltInt 0 n) w') := Lib.hid P
  clear R h hl P
  go_enter Try.func27, Try.ntmps27
  go_wp2_with (first
    | (go_at_call 33; (with_reducible refine (len_any _ _ (by omega) (by omega)).mono ?_); rintro e w' ⟨rfl, rfl⟩)
    | (go_at_call 32; (with_reducible refine (HP.out _ _ _ HR.out HB.out).mono ?_); rintro e w' ⟨rfl, d', h1, h2, h3⟩; replace h1 := Lib.hid h1; replace h2 := Lib.hid h2; replace h3 := Lib.hid h3))
  go_end0
  have hs := h1.out.size
  have hp := h2.out.2.2
  have e1 : (d'.extract 0 n).toList = d'.toList := by simp [← hs]
  have e2 : (xs.toArray.extract 0 n).toList = xs := by simp [← HL.out]
  rw [e1, e2] at hp
  refine ⟨rfl, d'.toList, hp, ?_, sw_own HO.out (by simp [hs]) (by simpa using h1.out.sw), sw_but h1.out.sw⟩
  rw [List.pairwise_iff_getElem]
  intro i j hi hj hij
  have := sorted_iff.1 h3.out i j (Nat.zero_le _) hij (by simpa [hs] using hj)
  have hj' : j < d'.size := by simpa using hj
  have hi' : i < d'.size := by simpa using hi
  rw [getElem!_pos d' i hi', getElem!_pos d' j hj'] at this
  simpa using this
end Go.Proofs.Ytepnjolldbgglaa.Kb
