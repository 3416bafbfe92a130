
/- A row of 64-bit numbers that is put in order: what stays, and what a swap does; the comparison, walked. -/
import Derived.Test.YtepnjolldbgglaaProg
import Derived.WalkKit
import Derived.BigGuard
import Derived.BigCall
import Derived.CellFam
import Derived.Deep.Draws
import Derived.Deep.QuietTactic
import Derived.BigQuiet
import Derived.RegionTactic
import Derived.Lib.Hide
import Derived.IntWalk
import Derived.Sort.LotA
import Derived.Sort.LotB
import Derived.Shelf.GgSortFunc.SW
namespace Go.Proofs.Ytepnjolldbgglaa.Kb
open Go.RowKit Go.Sort
/-- In w the n cells at blk, off read as d; all else is as in w0, but for what is new. -/
structure Rr (w0 : World) (blk off n : Nat) (d : Array Int) (w : World) : Prop where
  size : d.size = n
  sw : SW (Value.int .u64) w0 blk off d w
  lt : blk < w0.heap.size
  h0 : ∃ d0 : Array Int, Holds (Value.int .u64) w0 blk off d0 ∧ d0.size = n
  few : n < 4611686018427387904
section
variable {w0 w : World} {blk off n : Nat} {d d' : Array Int}
theorem Rr.start (h : Holds (Value.int .u64) w0 blk off d) (hb : blk < w0.heap.size) (hn : d.size < 4611686018427387904) : Rr w0 blk off d.size d w0 :=
  ⟨rfl, SW.start h, hb, ⟨d, h, rfl⟩, hn⟩
theorem Rr.holds (h : Rr w0 blk off n d w) : Holds (Value.int .u64) w blk off d := by
  obtain ⟨d0, h0, hs⟩ := h.h0
  exact h.sw.holds h.lt h0 (h.size.trans hs.symm)
theorem Rr.cell (h : Rr w0 blk off n d w) {t : Nat} (ht : t < n) : w.cell? ⟨blk, off + t, none⟩ = some (.int .u64 d[t]!) := (h.holds t (by rw [h.size]; exact ht)).1
theorem Rr.free (h : Rr w0 blk off n d w) {t : Nat} (ht : t < n) : w.frozen? ⟨blk, off + t, none⟩ = false := (h.holds t (by rw [h.size]; exact ht)).2
theorem Rr.drewN (h : Rr w0 blk off n d w) (q : Nat) : Rr w0 blk off n d (w.drewN q) := ⟨h.size, h.sw.drewN q, h.lt, h.h0, h.few⟩
theorem Rr.alloc (h : Rr w0 blk off n d w) (o : Obj) : Rr w0 blk off n d (w.alloc o) := ⟨h.size, h.sw.alloc o, h.lt, h.h0, h.few⟩
theorem Rr.setNew (h : Rr w0 blk off n d w) (b o : Nat) (v : Value) (hb : w0.heap.size ≤ b) : Rr w0 blk off n d (w.setCell ⟨b, o, none⟩ v) := ⟨h.size, h.sw.setCell_new b o v hb, h.lt, h.h0, h.few⟩
theorem Rr.le (h : Rr w0 blk off n d w) : w0.heap.size ≤ w.heap.size := h.sw.le
theorem Rr.swap (h : Rr w0 blk off n d w) (i j : Nat) (hi : i < n) (hj : j < n) :
    Rr w0 blk off n (swp d i j) ((w.setCell ⟨blk, off + i, none⟩ (.int .u64 d[j]!)).setCell ⟨blk, off + j, none⟩ (.int .u64 d[i]!)) :=
  ⟨(size_swp d i j).trans h.size, h.sw.swap h.lt i j (by rw [h.size]; exact hi) (by rw [h.size]; exact hj), h.lt, h.h0, h.few⟩
/-- The same with names for what is read, and draws ahead. -/
theorem Rr.swapG (h : Rr w0 blk off n d w) {G : Nat → Int} (hG : Hid (∀ t, G t = d[t]!)) (q i j : Nat) (hi : i < n) (hj : j < n) :
    Rr w0 blk off n (swp d i j) (((w.setCell ⟨blk, off + i, none⟩ (.int .u64 (G j))).setCell ⟨blk, off + j, none⟩ (.int .u64 (G i))).drewN q) := by
  rw [hG.out, hG.out]; exact (h.swap i j hi hj).drewN q
end
/-- What a step on the places from a up to b leaves: the row with these permuted, of which Q holds. -/
def Sr (w0 : World) (blk off n a b : Nat) (d : Array Int) (Q : Array Int → Prop) (w' : World) : Prop := ∃ d', Rr w0 blk off n d' w' ∧ PermIn a b d d' ∧ Q d'
set_option maxHeartbeats 1000000 in
theorem isnan_any (x : Int) (w : World) : Calls Try.prog 34 #[.int .u64 x] w fun e w' => e = .returned (.bool false) ∧ w' = w := by
  go_enter Try.func34, Try.ntmps34
  go_wp2
  go_ret
  exact ⟨by simp, rfl⟩
set_option maxHeartbeats 1000000 in
theorem less_any (x y : Int) (w : World) : Calls Try.prog 29 #[.int .u64 x, .int .u64 y] w fun e w' => e = .returned (.bool (ltInt x y)) ∧ w' = w := by
  go_enter Try.func29, Try.ntmps29
  go_wp2_with (go_at_call 34; refine (isnan_any _ _).mono ?_; rintro e w' ⟨rfl, rfl⟩)
  go_ret
  exact ⟨rfl, rfl⟩
theorem ins_go {a j : Nat} {d : Array Int} (hj : a < j) (hl : ltInt d[j]! d[j - 1]! = true) : insInner ltInt a (j - 1) (swp d j (j - 1)) = insInner ltInt a j d := by
  cases j with
  | zero => omega
  | succ k => simp only [Nat.add_sub_cancel] at hl ⊢; rw [insInner.eq_2]; simp [hl]; intro h; omega
theorem ins_outer {a b i : Nat} (d : Array Int) (h : i < b) : insOuter ltInt a b i d = insOuter ltInt a b (i + 1) (insInner ltInt a i d) := by
  rw [insOuter, if_pos h]
theorem ins_stop {a j : Nat} {d : Array Int} (h : j ≤ a ∨ ltInt d[j]! d[j - 1]! = false) : insInner ltInt a j d = d := by
  cases j with
  | zero => rw [insInner]
  | succ k =>
    simp only [Nat.add_sub_cancel] at h
    rw [insInner]
    rcases h with h | h
    · simp; omega
    · simp [h]
/-- The comparison in a region behind draws. -/
theorem less_more (x y : Int) (w : World) (a n : Nat) : Calls Try.prog 29 #[.int .u64 x, .int .u64 y] (w.drewN (a + n)) fun e w' => e = .returned (.bool (ltInt x y)) ∧ ∃ m, w' = w.drewN (a + m) :=
  (less_any x y _).mono fun _ _ h => ⟨h.1, n, h.2⟩
theorem w64 (a : Int) (h0 : 0 ≤ a) (h : a < 9223372036854775808) : IntKind.i64.wrap a = a := IntWalk.i64_in _ (by omega)
set_option maxHeartbeats 4000000 in
set_option maxRecDepth 100000 in
theorem so_ins (w0 w : World) (blk off n cap a b : Nat) (d : Array Int) (h : Rr w0 blk off n d w) (hab : a ≤ b) (hb : b ≤ n) :
    Calls Try.prog 35 #[.slice (some ⟨blk, off, none⟩) n cap, .int .i64 a, .int .i64 b] w fun e w' =>
      e = .returned (.tuple #[]) ∧ Sr w0 blk off n a b d (SortedIn ltInt a b) w' := by
  have few := h.few
  suffices H : Calls Try.prog 35 #[.slice (some ⟨blk, off, none⟩) n cap, .int .i64 a, .int .i64 b] w fun e w' =>
      e = .returned (.tuple #[]) ∧ Rr w0 blk off n (insertionSort ltInt d a b) w' from
    H.mono fun e w' hw => ⟨hw.1, _, hw.2, (insertionSort_holds swo_ltInt d a b hab (by rw [h.size]; exact hb)).1, (insertionSort_holds swo_ltInt d a b hab (by rw [h.size]; exact hb)).2⟩
  have H := Lib.hid h
  clear h
  go_enter Try.func35, Try.ntmps35
  go_wp2
  go_loopw [6] (fun vi wr => ∃ (i : Nat) (dk : Array Int), vi = .int .i64 i ∧ a < i ∧ i ≤ b + 1 ∧ Hid (Rr w0 blk off n dk wr ∧ insOuter ltInt a b i dk = insertionSort ltInt d a b)) (fun vi _ => b + 1 - (intOf vi).toNat)
  case atStart => exact ⟨a + 1, d, by go_num, by omega, by omega, Lib.hid ⟨H.out, rfl⟩⟩
  case round =>
    obtain ⟨i, dk, rfl, hai, hib, hK⟩ := hrel
    by_cases hlt : i < b
    · go_wp2
      go_loopw [7] (fun vj wr2 => ∃ (j : Nat) (dj : Array Int), vj = .int .i64 j ∧ a ≤ j ∧ j ≤ i ∧ Hid (Rr w0 blk off n dj wr2 ∧ insInner ltInt a j dj = insInner ltInt a i dk)) (fun vj _ => (intOf vj).toNat)
      case atStart => exact ⟨i, dk, rfl, by omega, Nat.le_refl _, Lib.hid ⟨hK.out.1, rfl⟩⟩
      case round =>
        obtain ⟨j, dj, rfl, haj, hji, hJ⟩ := hrel
        have out : (j ≤ a ∨ ltInt dj[j]! dj[j - 1]! = false) → ∀ q, ∃ (i' : Nat) (dk' : Array Int), Value.int .i64 ((i : Int) + 1) = .int .i64 (i' : Nat) ∧ a < i' ∧ i' ≤ b + 1 ∧ Hid (Rr w0 blk off n dk' (wr.drewN q) ∧ insOuter ltInt a b i' dk' = insertionSort ltInt d a b) := fun hs q =>
          ⟨i + 1, dj, by go_num, by omega, by omega, Lib.hid ⟨hJ.out.1.drewN q, by rw [← hK.out.2, ins_outer dk hlt, ← hJ.out.2, ins_stop hs]⟩⟩
        have OUT := Lib.hid out
        clear out
        obtain ⟨G, hG⟩ : ∃ G : Nat → Int, ∀ t, G t = dj[t]! := ⟨fun t => dj[t]!, fun _ => rfl⟩
        have hcw : ∀ t, t < n → wr.cell? ⟨blk, off + t, none⟩ = some (.int .u64 (G t)) := fun t ht => by rw [hG]; exact hJ.out.1.cell ht
        have hfw : ∀ t, t < n → wr.frozen? ⟨blk, off + t, none⟩ = false := fun t ht => hJ.out.1.free ht
        have HG := Lib.hid hG
        clear hG
        go_wp2
        by_cases hja : a < j
        · go_quiet (first | (go_at_call 29; refine Calls.quiet_of_same (less_any _ _ _)))
          go_wp2
          · have hl : ltInt (G j) (G (j - 1)) = true := by assumption
            go_region
            all_goals go_wp2
            go_roundw
            case rel =>
              refine ⟨j - 1, swp dj j (j - 1), by congr 1; omega, by omega, by omega, Lib.hid ⟨?_, ?_⟩⟩
              · exact hJ.out.1.swapG HG (nq + 1) j (j - 1) (by omega) (by omega)
              · rw [← hJ.out.2, ← ins_go hja (by rw [← HG.out, ← HG.out]; exact hl)]
            case measure => simp [intOf]; omega
          · have hl : ltInt (G j) (G (j - 1)) = false := by assumption
            go_roundw
            case rel => exact OUT.out (Or.inr (by rw [← HG.out, ← HG.out]; exact hl)) nq
            case measure => simp [intOf]; omega
        · go_quiet (first | (go_at_call 29; refine Calls.quiet_of_same (less_any _ _ _)))
          go_wp2
          go_roundw
          case rel => exact OUT.out (Or.inl (by omega)) nq
          case measure => simp [intOf]; omega
    · go_wp2
      go_end0
      exact ⟨rfl, by have e := hK.out.2; rw [insOuter, if_neg hlt] at e; rw [← e]; exact hK.out.1⟩
end Go.Proofs.Ytepnjolldbgglaa.Kb
