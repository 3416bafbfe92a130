/- A row of 16-bit numbers that is put in order: what stays, and what a swap does; the comparison, walked. Plain facts on a row that is parted about a number, and on what is put in order in parts. The heap: one number goes down; the heap is built and emptied; the text walked. The heap is built and emptied; the text walked. -/
import Derived.Test.YtkehehfphccpbaaGreatDoorProg
import Derived.WalkKit
import Derived.BigGuard
import Derived.BigCall
import Derived.CellFam
import Derived.Deep.Draws
import Derived.Deep.QuietTactic
import Derived.BigQuiet
import Derived.RegionTactic
import Derived.Lib.Hide
import Derived.IntWalk
import Derived.Sort.LotA
import Derived.Sort.LotB
import Derived.Shelf.GgSortFunc.SW
section
namespace Go.Proofs.YtkehehfphccpbaaGreatDoor.A
open Go.RowKit Go.Sort
/-- In w the n cells at blk, off read as d; all else is as in w0, but for what is new. -/
structure Rr (w0 : World) (blk off n : Nat) (d : Array Int) (w : World) : Prop where
  size : d.size = n
  sw : SW (Value.int .u16) w0 blk off d w
  lt : blk < w0.heap.size
  h0 : ∃ d0 : Array Int, Holds (Value.int .u16) w0 blk off d0 ∧ d0.size = n
  few : n < 4611686018427387904
section
variable {w0 w : World} {blk off n : Nat} {d d' : Array Int}
theorem Rr.start (h : Holds (Value.int .u16) w0 blk off d) (hb : blk < w0.heap.size) (hn : d.size < 4611686018427387904) : Rr w0 blk off d.size d w0 :=
  ⟨rfl, SW.start h, hb, ⟨d, h, rfl⟩, hn⟩
theorem Rr.holds (h : Rr w0 blk off n d w) : Holds (Value.int .u16) w blk off d := by
  obtain ⟨d0, h0, hs⟩ := h.h0
  exact h.sw.holds h.lt h0 (h.size.trans hs.symm)
theorem Rr.cell (h : Rr w0 blk off n d w) {t : Nat} (ht : t < n) : w.cell? ⟨blk, off + t, none⟩ = some (.int .u16 d[t]!) := (h.holds t (by rw [h.size]; exact ht)).1
theorem Rr.free (h : Rr w0 blk off n d w) {t : Nat} (ht : t < n) : w.frozen? ⟨blk, off + t, none⟩ = false := (h.holds t (by rw [h.size]; exact ht)).2
theorem Rr.drewN (h : Rr w0 blk off n d w) (q : Nat) : Rr w0 blk off n d (w.drewN q) := ⟨h.size, h.sw.drewN q, h.lt, h.h0, h.few⟩
theorem Rr.alloc (h : Rr w0 blk off n d w) (o : Obj) : Rr w0 blk off n d (w.alloc o) := ⟨h.size, h.sw.alloc o, h.lt, h.h0, h.few⟩
theorem Rr.setNew (h : Rr w0 blk off n d w) (b o : Nat) (v : Value) (hb : w0.heap.size ≤ b) : Rr w0 blk off n d (w.setCell ⟨b, o, none⟩ v) := ⟨h.size, h.sw.setCell_new b o v hb, h.lt, h.h0, h.few⟩
theorem Rr.le (h : Rr w0 blk off n d w) : w0.heap.size ≤ w.heap.size := h.sw.le
theorem Rr.swap (h : Rr w0 blk off n d w) (i j : Nat) (hi : i < n) (hj : j < n) :
    Rr w0 blk off n (swp d i j) ((w.setCell ⟨blk, off + i, none⟩ (.int .u16 d[j]!)).setCell ⟨blk, off + j, none⟩ (.int .u16 d[i]!)) :=
  ⟨(size_swp d i j).trans h.size, h.sw.swap h.lt i j (by rw [h.size]; exact hi) (by rw [h.size]; exact hj), h.lt, h.h0, h.few⟩
/-- The same with names for what is read, and draws ahead. -/
theorem Rr.swapG (h : Rr w0 blk off n d w) {G : Nat → Int} (hG : Hid (∀ t, G t = d[t]!)) (q i j : Nat) (hi : i < n) (hj : j < n) :
    Rr w0 blk off n (swp d i j) (((w.setCell ⟨blk, off + i, none⟩ (.int .u16 (G j))).setCell ⟨blk, off + j, none⟩ (.int .u16 (G i))).drewN q) := by
  rw [hG.out, hG.out]; exact (h.swap i j hi hj).drewN q
end
/-- What a step on the places from a up to b leaves: the row with these permuted, of which Q holds. -/
def Sr (w0 : World) (blk off n a b : Nat) (d : Array Int) (Q : Array Int → Prop) (w' : World) : Prop := ∃ d', Rr w0 blk off n d' w' ∧ PermIn a b d d' ∧ Q d'
set_option maxHeartbeats 1000000 in
theorem isnan_any (x : Int) (w : World) : Calls Tryz.prog 118 #[.int .u16 x] w fun e w' => e = .returned (.bool false) ∧ w' = w := by
  go_enter Tryz.func118, Tryz.ntmps118
  go_wp2
  go_ret
  exact ⟨by simp, rfl⟩
set_option maxHeartbeats 1000000 in
theorem less_any (x y : Int) (w : World) : Calls Tryz.prog 94 #[.int .u16 x, .int .u16 y] w fun e w' => e = .returned (.bool (ltInt x y)) ∧ w' = w := by
  go_enter Tryz.func94, Tryz.ntmps94
  go_wp2_with (go_at_call 118; refine (isnan_any _ _).mono ?_; rintro e w' ⟨rfl, rfl⟩)
  go_ret
  exact ⟨rfl, rfl⟩
theorem ins_go {a j : Nat} {d : Array Int} (hj : a < j) (hl : ltInt d[j]! d[j - 1]! = true) : insInner ltInt a (j - 1) (swp d j (j - 1)) = insInner ltInt a j d := by
  cases j with
  | zero => omega
  | succ k => simp only [Nat.add_sub_cancel] at hl ⊢; rw [insInner.eq_2]; simp [hl]; intro h; omega
theorem ins_outer {a b i : Nat} (d : Array Int) (h : i < b) : insOuter ltInt a b i d = insOuter ltInt a b (i + 1) (insInner ltInt a i d) := by
  rw [insOuter, if_pos h]
theorem ins_stop {a j : Nat} {d : Array Int} (h : j ≤ a ∨ ltInt d[j]! d[j - 1]! = false) : insInner ltInt a j d = d := by
  cases j with
  | zero => rw [insInner]
  | succ k =>
    simp only [Nat.add_sub_cancel] at h
    rw [insInner]
    rcases h with h | h
    · simp; omega
    · simp [h]
/-- The comparison in a region behind draws. -/
theorem less_more (x y : Int) (w : World) (a n : Nat) : Calls Tryz.prog 94 #[.int .u16 x, .int .u16 y] (w.drewN (a + n)) fun e w' => e = .returned (.bool (ltInt x y)) ∧ ∃ m, w' = w.drewN (a + m) :=
  (less_any x y _).mono fun _ _ h => ⟨h.1, n, h.2⟩
theorem w64 (a : Int) (h0 : 0 ≤ a) (h : a < 9223372036854775808) : IntKind.i64.wrap a = a := IntWalk.i64_in _ (by omega)
set_option maxHeartbeats 4000000 in
set_option maxRecDepth 100000 in
theorem so_ins (w0 w : World) (blk off n cap a b : Nat) (d : Array Int) (h : Rr w0 blk off n d w) (hab : a ≤ b) (hb : b ≤ n) :
    Calls Tryz.prog 108 #[.slice (some ⟨blk, off, none⟩) n cap, .int .i64 a, .int .i64 b] w fun e w' =>
      e = .returned (.tuple #[]) ∧ Sr w0 blk off n a b d (SortedIn ltInt a b) w' := by
  have few := h.few
  suffices H : Calls Tryz.prog 108 #[.slice (some ⟨blk, off, none⟩) n cap, .int .i64 a, .int .i64 b] w fun e w' =>
      e = .returned (.tuple #[]) ∧ Rr w0 blk off n (insertionSort ltInt d a b) w' from
    H.mono fun e w' hw => ⟨hw.1, _, hw.2, (insertionSort_holds swo_ltInt d a b hab (by rw [h.size]; exact hb)).1, (insertionSort_holds swo_ltInt d a b hab (by rw [h.size]; exact hb)).2⟩
  have H := Lib.hid h
  clear h
  go_enter Tryz.func108, Tryz.ntmps108
  go_wp2
  go_loopw [6] (fun vi wr => ∃ (i : Nat) (dk : Array Int), vi = .int .i64 i ∧ a < i ∧ i ≤ b + 1 ∧ Hid (Rr w0 blk off n dk wr ∧ insOuter ltInt a b i dk = insertionSort ltInt d a b)) (fun vi _ => b + 1 - (intOf vi).toNat)
  case atStart => exact ⟨a + 1, d, by go_num, by omega, by omega, Lib.hid ⟨H.out, rfl⟩⟩
  case round =>
    obtain ⟨i, dk, rfl, hai, hib, hK⟩ := hrel
    by_cases hlt : i < b
    · go_wp2
      go_loopw [7] (fun vj wr2 => ∃ (j : Nat) (dj : Array Int), vj = .int .i64 j ∧ a ≤ j ∧ j ≤ i ∧ Hid (Rr w0 blk off n dj wr2 ∧ insInner ltInt a j dj = insInner ltInt a i dk)) (fun vj _ => (intOf vj).toNat)
      case atStart => exact ⟨i, dk, rfl, by omega, Nat.le_refl _, Lib.hid ⟨hK.out.1, rfl⟩⟩
      case round =>
        obtain ⟨j, dj, rfl, haj, hji, hJ⟩ := hrel
        have out : (j ≤ a ∨ ltInt dj[j]! dj[j - 1]! = false) → ∀ q, ∃ (i' : Nat) (dk' : Array Int), Value.int .i64 ((i : Int) + 1) = .int .i64 (i' : Nat) ∧ a < i' ∧ i' ≤ b + 1 ∧ Hid (Rr w0 blk off n dk' (wr.drewN q) ∧ insOuter ltInt a b i' dk' = insertionSort ltInt d a b) := fun hs q =>
          ⟨i + 1, dj, by go_num, by omega, by omega, Lib.hid ⟨hJ.out.1.drewN q, by rw [← hK.out.2, ins_outer dk hlt, ← hJ.out.2, ins_stop hs]⟩⟩
        have OUT := Lib.hid out
        clear out
        obtain ⟨G, hG⟩ : ∃ G : Nat → Int, ∀ t, G t = dj[t]! := ⟨fun t => dj[t]!, fun _ => rfl⟩
        have hcw : ∀ t, t < n → wr.cell? ⟨blk, off + t, none⟩ = some (.int .u16 (G t)) := fun t ht => by rw [hG]; exact hJ.out.1.cell ht
        have hfw : ∀ t, t < n → wr.frozen? ⟨blk, off + t, none⟩ = false := fun t ht => hJ.out.1.free ht
        have HG := Lib.hid hG
        clear hG
        go_wp2
        by_cases hja : a < j
        · go_quiet (first | (go_at_call 94; refine Calls.quiet_of_same (less_any _ _ _)))
          go_wp2
          · have hl : ltInt (G j) (G (j - 1)) = true := by assumption
            go_region
            all_goals go_wp2
            go_roundw
            case rel =>
              refine ⟨j - 1, swp dj j (j - 1), by congr 1; omega, by omega, by omega, Lib.hid ⟨?_, ?_⟩⟩
              · exact hJ.out.1.swapG HG (nq + 1) j (j - 1) (by omega) (by omega)
              · rw [← hJ.out.2, ← ins_go hja (by rw [← HG.out, ← HG.out]; exact hl)]
            case measure => simp [intOf]; omega
          · have hl : ltInt (G j) (G (j - 1)) = false := by assumption
            go_roundw
            case rel => exact OUT.out (Or.inr (by rw [← HG.out, ← HG.out]; exact hl)) nq
            case measure => simp [intOf]; omega
        · go_quiet (first | (go_at_call 94; refine Calls.quiet_of_same (less_any _ _ _)))
          go_wp2
          go_roundw
          case rel => exact OUT.out (Or.inl (by omega)) nq
          case measure => simp [intOf]; omega
    · go_wp2
      go_end0
      exact ⟨rfl, by have e := hK.out.2; rw [insOuter, if_neg hlt] at e; rw [← e]; exact hK.out.1⟩
end Go.Proofs.YtkehehfphccpbaaGreatDoor.A
end
section
namespace Go.Proofs.YtkehehfphccpbaaGreatDoor.A
open Go.Sort
theorem lt_yes {x y : Int} (h : ltInt x y = true) : x < y := by simpa [ltInt] using h
theorem lt_no {x y : Int} (h : ltInt x y = false) : y ≤ x := by simpa [ltInt] using h
theorem nlt_yes {x y : Int} (h : (!ltInt x y) = true) : y ≤ x := by simpa [ltInt] using h
theorem nlt_no {x y : Int} (h : (!ltInt x y) = false) : x < y := by simpa [ltInt] using h
theorem sorted_iff {a b : Nat} {d : Array Int} : SortedIn ltInt a b d ↔ ∀ i j, a ≤ i → i < j → j < b → d[i]! ≤ d[j]! := by
  unfold SortedIn
  exact ⟨fun h i j h1 h2 h3 => lt_no (h i j h1 h2 h3), fun h i j h1 h2 h3 => by simpa [ltInt] using h i j h1 h2 h3⟩
def Lo (p x : Int) : Prop := x < p
def Hi (p x : Int) : Prop := p ≤ x
def Le (p x : Int) : Prop := x ≤ p
def Gt (p x : Int) : Prop := p < x
theorem lo_y {p x y : Int} (h : y = p) (e : ltInt x y = true) : Lo p x := by subst h; exact lt_yes e
theorem hi_y {p x y : Int} (h : y = p) (e : ltInt x y = false) : Hi p x := by subst h; exact lt_no e
theorem hi_n {p x y : Int} (h : y = p) (e : (!ltInt x y) = true) : Hi p x := by subst h; exact nlt_yes e
theorem lo_n {p x y : Int} (h : y = p) (e : (!ltInt x y) = false) : Lo p x := by subst h; exact nlt_no e
theorem le_n {p x y : Int} (h : y = p) (e : (!ltInt y x) = true) : Le p x := by subst h; exact nlt_yes e
theorem gt_n {p x y : Int} (h : y = p) (e : (!ltInt y x) = false) : Gt p x := by subst h; exact nlt_no e
theorem gt_y {p x y : Int} (h : y = p) (e : ltInt y x = true) : Gt p x := by subst h; exact lt_yes e
theorem le_y {p x y : Int} (h : y = p) (e : ltInt y x = false) : Le p x := by subst h; exact lt_no e
theorem not_lohi {p x : Int} (h : Lo p x) (k : Hi p x) : False := by unfold Lo at h; unfold Hi at k; omega
theorem not_legt {p x : Int} (h : Le p x) (k : Gt p x) : False := by unfold Le at h; unfold Gt at k; omega
theorem lt_of {U V : Int → Int → Prop} (hUV : ∀ p x, U p x → V p x → False) {p : Int} {d : Array Int} {i j : Nat} (hle : i ≤ j) (hv : V p d[i]!) (hu : U p d[j]!) : i < j := by
  rcases Nat.lt_or_eq_of_le hle with h | h
  · exact h
  · subst h; exact (hUV _ _ hu hv).elim
/-- The row dk is d with the places from a up to b permuted; p stands at a; U holds of what stands behind it up to i, V of what stands behind j. -/
structure Pt (U V : Int → Int → Prop) (a b i j : Nat) (p : Int) (d dk : Array Int) : Prop where
  perm : PermIn a b d dk
  top : dk[a]! = p
  up : ∀ k, a < k → k < i → U p dk[k]!
  down : ∀ k, j < k → k < b → V p dk[k]!
section
variable {U V : Int → Int → Prop} {a b i j : Nat} {p : Int} {d dk : Array Int}
theorem swp_same (d : Array Int) (i : Nat) : ∀ k : Nat, (swp d i i)[k]! = d[k]! := by
  intro k
  by_cases h : k = i
  · subst h
    by_cases hk : k < d.size
    · exact swp_right d k k hk
    · rw [getElem!_neg _ k (by rw [size_swp]; exact hk), getElem!_neg _ k hk]
  · exact swp_other d i i k h h
theorem swp_at (d : Array Int) {i j : Nat} (hi : i < d.size) (hj : j < d.size) : (swp d i j)[i]! = d[j]! ∧ (swp d i j)[j]! = d[i]! := by
  by_cases h : i = j
  · subst h; exact ⟨swp_same _ _ _, swp_same _ _ _⟩
  · exact ⟨swp_left d i j hi h, swp_right d i j hj⟩
theorem Pt.start {v : Nat} (ha : a ≤ v) (hv : v < b) (hb : b ≤ d.size) : Pt U V a b (a + 1) (b - 1) d[v]! d (swp d a v) :=
  ⟨swp_permIn d a b a v (Nat.le_refl _) (by omega) ha hv hb, (swp_at d (by omega) (by omega)).1, fun k h1 h2 => by omega, fun k h1 h2 => by omega⟩
theorem Pt.next (h : Pt U V a b i j p d dk) (hu : U p dk[i]!) : Pt U V a b (i + 1) j p d dk :=
  ⟨h.perm, h.top, fun k h1 h2 => by
    by_cases e : k = i
    · subst e; exact hu
    · exact h.up k h1 (by omega), h.down⟩
theorem Pt.prev (h : Pt U V a b i j p d dk) (hv : V p dk[j]!) (hj : 0 < j) : Pt U V a b i (j - 1) p d dk :=
  ⟨h.perm, h.top, h.up, fun k h1 h2 => by
    by_cases e : k = j
    · subst e; exact hv
    · exact h.down k (by omega) h2⟩
theorem Pt.swap (h : Pt U V a b i j p d dk) (hai : a < i) (hij : i < j) (hjb : j < b) (hb : b ≤ d.size) (hu : U p dk[j]!) (hv : V p dk[i]!) : Pt U V a b (i + 1) (j - 1) p d (swp dk i j) := by
  have hs : dk.size = d.size := h.perm.1
  obtain ⟨e1, e2⟩ := swp_at dk (i := i) (j := j) (by omega) (by omega)
  refine ⟨permIn_trans _ _ _ _ _ h.perm (swp_permIn dk a b i j (by omega) (by omega) (by omega) hjb (by omega)), ?_, fun k h1 h2 => ?_, fun k h1 h2 => ?_⟩
  · rw [swp_other dk i j a (by omega) (by omega)]; exact h.top
  · by_cases e : k = i
    · subst e; rw [e1]; exact hu
    · rw [swp_other dk i j k (by omega) (by omega)]; exact h.up k h1 (by omega)
  · by_cases e : k = j
    · subst e; rw [e2]; exact hv
    · rw [swp_other dk i j k (by omega) (by omega)]; exact h.down k (by omega) h2
theorem Pt.ends (h : Pt Le Gt a b i j p d dk) (hij : j < i) : (∀ k, a ≤ k → k < i → dk[k]! ≤ p) ∧ ∀ k, i ≤ k → k < b → p < dk[k]! :=
  ⟨fun k h1 h2 => by
    by_cases e : k = a
    · subst e; exact Int.le_of_eq h.top
    · exact h.up k (by omega) h2, fun k h1 h2 => h.down k (by omega) h2⟩
theorem Pt.last (h : Pt U V a b (j + 1) j p d dk) (haj : a ≤ j) (hjb : j < b) (hb : b ≤ d.size) : PermIn a b d (swp dk j a) ∧ (swp dk j a)[j]! = p ∧ (∀ k, a ≤ k → k < j → U p (swp dk j a)[k]!) ∧ ∀ k, j < k → k < b → V p (swp dk j a)[k]! := by
  have hs : dk.size = d.size := h.perm.1
  obtain ⟨e1, e2⟩ := swp_at dk (i := j) (j := a) (by omega) (by omega)
  refine ⟨permIn_trans _ _ _ _ _ h.perm (swp_permIn dk a b j a haj hjb (Nat.le_refl _) (by omega) (by omega)), e1.trans h.top, fun k h1 h2 => ?_, fun k h1 h2 => ?_⟩
  · by_cases e : k = a
    · subst e; rw [e2]; exact h.up j (by omega) (by omega)
    · rw [swp_other dk j a k (by omega) e]; exact h.up k (by omega) (by omega)
  · rw [swp_other dk j a k (by omega) (by omega)]; exact h.down k h1 h2
end
end Go.Proofs.YtkehehfphccpbaaGreatDoor.A
end
section
namespace Go.Proofs.YtkehehfphccpbaaGreatDoor.A
open Go.RowKit Go.Sort
theorem sd_stop {hi F root : Nat} (d : Array Int) (h : hi ≤ 2 * root + 1) : siftDown ltInt hi F root d = d := by
  rw [siftDown, dif_pos h]
theorem sd_two {hi F root c : Nat} {d : Array Int} (h : c = 2 * root + 1) (h2 : c + 1 < hi) (hl : ltInt d[F + c]! d[F + c + 1]! = true) :
    siftDown ltInt hi F root d = if ltInt d[F + root]! d[F + (c + 1)]! then siftDown ltInt hi F (c + 1) (swp d (F + root) (F + (c + 1))) else d := by
  subst h
  rw [siftDown, dif_neg (by omega), if_pos (by simp [hl]; omega), dif_pos (by omega)]
  cases ltInt d[F + root]! d[F + (2 * root + 1 + 1)]! <;> simp
theorem sd_one {hi F root c : Nat} {d : Array Int} (h : c = 2 * root + 1) (h1 : c < hi) (hl : hi ≤ c + 1 ∨ ltInt d[F + c]! d[F + c + 1]! = false) :
    siftDown ltInt hi F root d = if ltInt d[F + root]! d[F + c]! then siftDown ltInt hi F c (swp d (F + root) (F + c)) else d := by
  subst h
  rw [siftDown, dif_neg (by omega), if_neg (by rcases hl with hl | hl; simp; omega; simp [hl])]
  cases ltInt d[F + root]! d[F + (2 * root + 1)]! <;> simp
set_option maxHeartbeats 8000000 in
set_option maxRecDepth 100000 in
theorem so_sift (w0 w : World) (blk off n cap lo hi F : Nat) (d : Array Int) (h : Rr w0 blk off n d w) (hF : F + hi ≤ n) (hlo : lo ≤ n) :
    Calls Tryz.prog 122 #[.slice (some ⟨blk, off, none⟩) n cap, .int .i64 lo, .int .i64 hi, .int .i64 F] w fun e w' =>
      e = .returned (.tuple #[]) ∧ Rr w0 blk off n (siftDown ltInt hi F lo d) w' := by
  have few := h.few
  have H := Lib.hid h
  clear h
  go_enter Tryz.func122, Tryz.ntmps122
  go_wp2
  go_loopw [8] (fun vr wr => ∃ (r : Nat) (dk : Array Int), vr = .int .i64 r ∧ r ≤ n ∧ Hid (Rr w0 blk off n dk wr ∧ siftDown ltInt hi F r dk = siftDown ltInt hi F lo d)) (fun vr _ => hi - (intOf vr).toNat)
  case atStart => exact ⟨lo, d, rfl, hlo, Lib.hid ⟨H.out, rfl⟩⟩
  case round =>
    obtain ⟨r, dk, rfl, hr, hK⟩ := hrel
    obtain ⟨c, hc⟩ : ∃ c : Nat, c = 2 * r + 1 := ⟨_, rfl⟩
    have ec : (2 : Int) * (r : Int) + 1 = (c : Int) := by omega
    have HC := Lib.hid hc
    obtain ⟨G, hG⟩ : ∃ G : Nat → Int, ∀ t, G t = dk[t]! := ⟨fun t => dk[t]!, fun _ => rfl⟩
    have hcw : ∀ t, t < n → wr.cell? ⟨blk, off + t, none⟩ = some (.int .u16 (G t)) := fun t ht => by rw [hG]; exact hK.out.1.cell ht
    have hfw : ∀ t, t < n → wr.frozen? ⟨blk, off + t, none⟩ = false := fun t ht => hK.out.1.free ht
    have HG := Lib.hid hG
    clear hG
    have fin2 : ltInt (G (F + c)) (G (F + c + 1)) = true → c + 1 < hi → (ltInt (G (F + r)) (G (F + (c + 1))) = false → dk = siftDown ltInt hi F lo d) ∧ (ltInt (G (F + r)) (G (F + (c + 1))) = true → siftDown ltInt hi F (c + 1) (swp dk (F + r) (F + (c + 1))) = siftDown ltInt hi F lo d) := by
      rw [HG.out, HG.out, HG.out, HG.out, ← hK.out.2]
      intro e h2
      rw [sd_two hc h2 e]
      exact ⟨fun e => by simp [e], fun e => by simp [e]⟩
    have fin1 : (hi ≤ c + 1 ∨ ltInt (G (F + c)) (G (F + c + 1)) = false) → c < hi → (ltInt (G (F + r)) (G (F + c)) = false → dk = siftDown ltInt hi F lo d) ∧ (ltInt (G (F + r)) (G (F + c)) = true → siftDown ltInt hi F c (swp dk (F + r) (F + c)) = siftDown ltInt hi F lo d) := by
      rw [HG.out, HG.out, HG.out, ← hK.out.2]
      intro e h2
      rw [sd_one hc h2 e]
      exact ⟨fun e => by simp [e], fun e => by simp [e]⟩
    have F2 := Lib.hid fin2
    have F1 := Lib.hid fin1
    clear fin1 fin2
    have stop : hi ≤ c → siftDown ltInt hi F r dk = dk := fun h => sd_stop dk (by omega)
    clear hc
    by_cases h1 : c < hi
    · have tR : ((F : Int) + (r : Int)).toNat = F + r := by omega
      have tC : ((F : Int) + (c : Int)).toNat = F + c := by omega
      have tD : ((F : Int) + (c : Int) + 1).toNat = F + c + 1 := by omega
      have tE : ((F : Int) + ((c : Int) + 1)).toNat = F + (c + 1) := by omega
      have l1 : F + r < n := by omega
      have l2 : F + c < n := by omega
      have y0 : (0 : Int) ≤ (F : Int) + (r : Int) := by omega
      have y1 : (0 : Int) ≤ (F : Int) + (c : Int) := by omega
      have y2 : (0 : Int) ≤ (F : Int) + (c : Int) + 1 := by omega
      have y3 : (0 : Int) ≤ (F : Int) + ((c : Int) + 1) := by omega
      by_cases h2 : c + 1 < hi
      · have l3 : F + c + 1 < n := by omega
        have l4 : F + (c + 1) < n := by omega
        have hd : decide ((c : Int) + 1 < (hi : Int)) = true := by rw [decide_eq_true_eq]; omega
        obtain ⟨v0, v1, v2, v3, v4⟩ : IntKind.i64.wrap ((c : Int) + 1) = (c : Int) + 1 ∧ IntKind.i64.wrap ((F : Int) + (r : Int)) = (F : Int) + (r : Int) ∧ IntKind.i64.wrap ((F : Int) + (c : Int)) = (F : Int) + (c : Int) ∧ IntKind.i64.wrap ((F : Int) + (c : Int) + 1) = (F : Int) + (c : Int) + 1 ∧ IntKind.i64.wrap ((F : Int) + ((c : Int) + 1)) = (F : Int) + ((c : Int) + 1) := ⟨w64 _ (by omega) (by omega), w64 _ (by omega) (by omega), w64 _ (by omega) (by omega), w64 _ (by omega) (by omega), w64 _ (by omega) (by omega)⟩
        go_wp2
        go_quiet (first | (go_at_call 94; refine Calls.quiet_of_same (less_any _ _ _)) | (go_at_call 94; exact less_more _ _ _ _ _))
        go_wp2
        all_goals go_quiet (first | (go_at_call 94; refine Calls.quiet_of_same (less_any _ _ _)) | (go_at_call 94; exact less_more _ _ _ _ _))
        all_goals go_wp2
        · have e1 : ltInt (G (F + c)) (G (F + c + 1)) = true := by assumption
          have e2 : ltInt (G (F + r)) (G (F + (c + 1))) = false := by simpa using ‹(!ltInt (G (F + r)) (G (F + (c + 1)))) = true›
          refine bodyPost_ret (results_none rfl _ _ _) rfl ?_
          exact ⟨rfl, by rw [← (F2.out e1 h2).1 e2]; exact (hK.out.1.drewN _).drewN _⟩
        · have e1 : ltInt (G (F + c)) (G (F + c + 1)) = true := by assumption
          have e2 : ltInt (G (F + r)) (G (F + (c + 1))) = true := by simpa using ‹(!ltInt (G (F + r)) (G (F + (c + 1)))) = false›
          go_region
          all_goals go_wp2
          go_roundw
          case rel => exact ⟨c + 1, _, by go_num, by omega, Lib.hid ⟨hK.out.1.swapG HG _ _ _ l1 l4, (F2.out e1 h2).2 e2⟩⟩
          case measure => simp [intOf]; have := HC.out; omega
        · have e1 : hi ≤ c + 1 ∨ ltInt (G (F + c)) (G (F + c + 1)) = false := .inr ‹_›
          have e2 : ltInt (G (F + r)) (G (F + c)) = false := by simpa using ‹(!ltInt (G (F + r)) (G (F + c))) = true›
          refine bodyPost_ret (results_none rfl _ _ _) rfl ?_
          exact ⟨rfl, by rw [← (F1.out e1 h1).1 e2]; exact (hK.out.1.drewN _).drewN _⟩
        · have e1 : hi ≤ c + 1 ∨ ltInt (G (F + c)) (G (F + c + 1)) = false := .inr ‹_›
          have e2 : ltInt (G (F + r)) (G (F + c)) = true := by simpa using ‹(!ltInt (G (F + r)) (G (F + c))) = false›
          go_region
          all_goals go_wp2
          go_roundw
          case rel => exact ⟨c, _, rfl, by omega, Lib.hid ⟨hK.out.1.swapG HG _ _ _ l1 l2, (F1.out e1 h1).2 e2⟩⟩
          case measure => simp [intOf]; have := HC.out; omega
      · have hd : decide ((c : Int) + 1 < (hi : Int)) = false := by rw [decide_eq_false_iff_not]; omega
        obtain ⟨v0, v1, v2⟩ : IntKind.i64.wrap ((c : Int) + 1) = (c : Int) + 1 ∧ IntKind.i64.wrap ((F : Int) + (r : Int)) = (F : Int) + (r : Int) ∧ IntKind.i64.wrap ((F : Int) + (c : Int)) = (F : Int) + (c : Int) := ⟨w64 _ (by omega) (by omega), w64 _ (by omega) (by omega), w64 _ (by omega) (by omega)⟩
        go_wp2
        go_quiet (first | (go_at_call 94; refine Calls.quiet_of_same (less_any _ _ _)) | (go_at_call 94; exact less_more _ _ _ _ _))
        go_wp2
        go_quiet (first | (go_at_call 94; refine Calls.quiet_of_same (less_any _ _ _)) | (go_at_call 94; exact less_more _ _ _ _ _))
        go_wp2
        · have e1 : hi ≤ c + 1 ∨ ltInt (G (F + c)) (G (F + c + 1)) = false := .inl (by omega)
          have e2 : ltInt (G (F + r)) (G (F + c)) = false := by simpa using ‹(!ltInt (G (F + r)) (G (F + c))) = true›
          refine bodyPost_ret (results_none rfl _ _ _) rfl ?_
          exact ⟨rfl, by rw [← (F1.out e1 h1).1 e2]; exact (hK.out.1.drewN _).drewN _⟩
        · have e1 : hi ≤ c + 1 ∨ ltInt (G (F + c)) (G (F + c + 1)) = false := .inl (by omega)
          have e2 : ltInt (G (F + r)) (G (F + c)) = true := by simpa using ‹(!ltInt (G (F + r)) (G (F + c))) = false›
          go_region
          all_goals go_wp2
          go_roundw
          case rel => exact ⟨c, _, rfl, by omega, Lib.hid ⟨hK.out.1.swapG HG _ _ _ l1 l2, (F1.out e1 h1).2 e2⟩⟩
          case measure => simp [intOf]; have := HC.out; omega
    · go_wp2
      go_end0
      exact ⟨rfl, by rw [← hK.out.2, stop (by omega)]; exact hK.out.1⟩
end Go.Proofs.YtkehehfphccpbaaGreatDoor.A
end
section
namespace Go.Proofs.YtkehehfphccpbaaGreatDoor.A
open Go.RowKit Go.Sort
set_option maxHeartbeats 8000000 in
set_option maxRecDepth 100000 in
theorem so_heap (w0 w : World) (blk off n cap a b : Nat) (d : Array Int) (h : Rr w0 blk off n d w) (hab : a < b) (hb : b ≤ n) :
    Calls Tryz.prog 109 #[.slice (some ⟨blk, off, none⟩) n cap, .int .i64 a, .int .i64 b] w fun e w' =>
      e = .returned (.tuple #[]) ∧ Sr w0 blk off n a b d (SortedIn ltInt a b) w' := by
  have few := h.few
  suffices H : Calls Tryz.prog 109 #[.slice (some ⟨blk, off, none⟩) n cap, .int .i64 a, .int .i64 b] w fun e w' =>
      e = .returned (.tuple #[]) ∧ Rr w0 blk off n (heapSort ltInt d a b) w' from
    H.mono fun e w' hw => ⟨hw.1, _, hw.2, (heapSort_holds swo_ltInt d a b (by omega) (by rw [h.size]; exact hb)).1, (heapSort_holds swo_ltInt d a b (by omega) (by rw [h.size]; exact hb)).2⟩
  have H := Lib.hid h
  clear h
  obtain ⟨L, hL⟩ : ∃ L, L = b - a := ⟨_, rfl⟩
  obtain ⟨m, hm⟩ : ∃ m, m = (L - 1) / 2 := ⟨_, rfl⟩
  obtain ⟨L1, hL1⟩ : ∃ L1, L1 = L - 1 := ⟨_, rfl⟩
  obtain ⟨B, hB⟩ : ∃ B, B = heapBuild ltInt L a (m + 1) d := ⟨_, rfl⟩
  have hE : heapSort ltInt d a b = heapPop ltInt a (L1 + 1) B := by
    unfold heapSort; rw [hB, hm, hL1, hL, show b - a - 1 + 1 = b - a by omega]
  have HE := Lib.hid hE
  have eL : (b : Int) - (a : Int) = (L : Int) := by omega
  have e1 : (L : Int) - 1 = (L1 : Int) := by omega
  have em : (L1 : Int) / 2 = (m : Int) := by omega
  have hLb : a + L = b := by omega
  have hl1 : L1 + 1 = L := by omega
  have hmL : m < L := by omega
  have HLb := Lib.hid hLb
  have HL1 := Lib.hid hl1
  have HB := Lib.hid hB
  clear hE hL hm hL1 hLb hl1 hB
  have hL0 : 0 ≤ (L1 : Int) := by omega
  go_enter Tryz.func109, Tryz.ntmps109
  go_wp2
  go_loopw [9] (fun vi wr => ∃ (dk : Array Int), (∃ t : Nat, vi = .int .i64 t ∧ t < L ∧ Hid (Rr w0 blk off n dk wr ∧ heapBuild ltInt L a (t + 1) dk = B)) ∨ (vi = .int .i64 (-1) ∧ Hid (Rr w0 blk off n dk wr ∧ dk = B))) (fun vi _ => (intOf vi + 1).toNat)
  case atStart => exact ⟨d, .inl ⟨m, by simp, hmL, Lib.hid ⟨H.out, HB.out.symm⟩⟩⟩
  case round =>
    obtain ⟨dk, hrel⟩ := hrel
    rcases hrel with ⟨t, rfl, ht, hK⟩ | ⟨rfl, hK⟩
    · have hL2 : a + L ≤ n := by have := HLb.out; omega
      go_wp2_with (go_at_call 122; refine (so_sift w0 _ blk off n cap t L a dk hK.out.1 hL2 (by omega)).mono ?_; rintro e w' ⟨rfl, hw'⟩; replace hw' := Lib.hid hw')
      go_roundw
      case rel =>
        refine ⟨siftDown ltInt L a t dk, ?_⟩
        rcases Nat.eq_zero_or_pos t with h0 | h0
        · exact .inr ⟨by subst h0; rfl, Lib.hid ⟨hw'.out, by subst h0; exact hK.out.2⟩⟩
        · exact .inl ⟨t - 1, by congr 1; omega, by omega, Lib.hid ⟨hw'.out, by rw [show t - 1 + 1 = t by omega]; exact hK.out.2⟩⟩
      case measure => first | (simp [intOf]; done) | (simp [intOf]; omega)
    · go_wp2
      go_loopw [10] (fun vi wr => ∃ (dk : Array Int), (∃ t : Nat, vi = .int .i64 t ∧ t < L ∧ Hid (Rr w0 blk off n dk wr ∧ heapPop ltInt a (t + 1) dk = heapSort ltInt d a b)) ∨ (vi = .int .i64 (-1) ∧ Hid (Rr w0 blk off n dk wr ∧ dk = heapSort ltInt d a b))) (fun vi _ => (intOf vi + 1).toNat)
      case atStart => exact ⟨dk, .inl ⟨L1, by simp, by have := HL1.out; omega, Lib.hid ⟨hK.out.1, by rw [hK.out.2]; exact HE.out.symm⟩⟩⟩
      case round =>
        obtain ⟨dk2, hrel⟩ := hrel
        rcases hrel with ⟨t, rfl, ht, hJ⟩ | ⟨rfl, hJ⟩
        · have hL2 : a + L ≤ n := by have := HLb.out; omega
          obtain ⟨G, hG⟩ : ∃ G : Nat → Int, ∀ t, G t = dk2[t]! := ⟨fun t => dk2[t]!, fun _ => rfl⟩
          have hcw : ∀ t, t < n → wr.cell? ⟨blk, off + t, none⟩ = some (.int .u16 (G t)) := fun t ht => by rw [hG]; exact hJ.out.1.cell ht
          have hfw : ∀ t, t < n → wr.frozen? ⟨blk, off + t, none⟩ = false := fun t ht => hJ.out.1.free ht
          have HG := Lib.hid hG
          clear hG
          have tT : ((a : Int) + (t : Int)).toNat = a + t := by omega
          have l0 : a < n := by omega
          have l1 : a + t < n := by omega
          have y0 : (0 : Int) ≤ (a : Int) + (t : Int) := by omega
          have v1 := w64 ((a : Int) + (t : Int)) (by omega) (by omega)
          rcases Nat.eq_zero_or_pos t with h0 | h0
          · subst h0
            go_wp2
            go_region
            all_goals go_wp2_with (go_at_call 122; refine (so_sift w0 _ blk off n cap 0 0 a (swp dk2 a (a + 0)) (hJ.out.1.swapG HG 1 a (a + 0) l0 l1) (by omega) (by omega)).mono ?_; rintro e w' ⟨rfl, hw'⟩; replace hw' := Lib.hid hw')
            go_roundw
            case rel => exact ⟨_, .inr ⟨rfl, Lib.hid ⟨hw'.out, hJ.out.2⟩⟩⟩
            case measure => simp [intOf]
          · have hne : ¬ t = 0 := by omega
            go_wp2
            go_region
            all_goals go_wp2_with (go_at_call 122; refine (so_sift w0 _ blk off n cap 0 t a (swp dk2 a (a + t)) (hJ.out.1.swapG HG 1 a (a + t) l0 l1) (by omega) (by omega)).mono ?_; rintro e w' ⟨rfl, hw'⟩; replace hw' := Lib.hid hw')
            go_roundw
            case rel => exact ⟨_, .inl ⟨t - 1, by first | (congr 1; done) | (congr 1; omega), by omega, Lib.hid ⟨hw'.out, by rw [show t - 1 + 1 = t by omega]; exact hJ.out.2⟩⟩⟩
            case measure => first | (simp [intOf]; done) | (simp [intOf]; omega)
        · go_wp2
          go_end0
          exact ⟨rfl, by rw [← hJ.out.2]; exact hJ.out.1⟩
end Go.Proofs.YtkehehfphccpbaaGreatDoor.A
end
