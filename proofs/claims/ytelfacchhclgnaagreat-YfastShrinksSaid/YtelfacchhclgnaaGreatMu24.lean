/- A row of 64-bit numbers that is put in order: what stays, and what a swap does; the comparison, walked. Plain facts on a row that is parted about a number, and on what is put in order in parts. A row that is nearly in order is put in order, where few steps will do; the text walked. -/
import Derived.Test.YtelfacchhclgnaaGreatProg
import Derived.WalkKit
import Derived.BigGuard
import Derived.BigCall
import Derived.CellFam
import Derived.Deep.Draws
import Derived.Deep.QuietTactic
import Derived.BigQuiet
import Derived.RegionTactic
import Derived.Lib.Hide
import Derived.IntWalk
import Derived.Sort.LotA
import Derived.Sort.LotB
import Derived.Shelf.GgSortFunc.SW
section
namespace Go.Proofs.YtelfacchhclgnaaGreat.Kb
set_option maxRecDepth 20000
open Go.RowKit Go.Sort
/-- In w the n cells at blk, off read as d; all else is as in w0, but for what is new. -/
structure Rr (w0 : World) (blk off n : Nat) (d : Array Int) (w : World) : Prop where
  size : d.size = n
  sw : SW (Value.int .u64) w0 blk off d w
  lt : blk < w0.heap.size
  h0 : ∃ d0 : Array Int, Holds (Value.int .u64) w0 blk off d0 ∧ d0.size = n
  few : n < 4611686018427387904
section
variable {w0 w : World} {blk off n : Nat} {d d' : Array Int}
theorem Rr.start (h : Holds (Value.int .u64) w0 blk off d) (hb : blk < w0.heap.size) (hn : d.size < 4611686018427387904) : Rr w0 blk off d.size d w0 :=
  ⟨rfl, SW.start h, hb, ⟨d, h, rfl⟩, hn⟩
theorem Rr.holds (h : Rr w0 blk off n d w) : Holds (Value.int .u64) w blk off d := by
  obtain ⟨d0, h0, hs⟩ := h.h0
  exact h.sw.holds h.lt h0 (h.size.trans hs.symm)
theorem Rr.cell (h : Rr w0 blk off n d w) {t : Nat} (ht : t < n) : w.cell? ⟨blk, off + t, none⟩ = some (.int .u64 d[t]!) := (h.holds t (by rw [h.size]; exact ht)).1
theorem Rr.free (h : Rr w0 blk off n d w) {t : Nat} (ht : t < n) : w.frozen? ⟨blk, off + t, none⟩ = false := (h.holds t (by rw [h.size]; exact ht)).2
theorem Rr.drewN (h : Rr w0 blk off n d w) (q : Nat) : Rr w0 blk off n d (w.drewN q) := ⟨h.size, h.sw.drewN q, h.lt, h.h0, h.few⟩
theorem Rr.alloc (h : Rr w0 blk off n d w) (o : Obj) : Rr w0 blk off n d (w.alloc o) := ⟨h.size, h.sw.alloc o, h.lt, h.h0, h.few⟩
theorem Rr.setNew (h : Rr w0 blk off n d w) (b o : Nat) (v : Value) (hb : w0.heap.size ≤ b) : Rr w0 blk off n d (w.setCell ⟨b, o, none⟩ v) := ⟨h.size, h.sw.setCell_new b o v hb, h.lt, h.h0, h.few⟩
theorem Rr.le (h : Rr w0 blk off n d w) : w0.heap.size ≤ w.heap.size := h.sw.le
theorem Rr.swap (h : Rr w0 blk off n d w) (i j : Nat) (hi : i < n) (hj : j < n) :
    Rr w0 blk off n (swp d i j) ((w.setCell ⟨blk, off + i, none⟩ (.int .u64 d[j]!)).setCell ⟨blk, off + j, none⟩ (.int .u64 d[i]!)) :=
  ⟨(size_swp d i j).trans h.size, h.sw.swap h.lt i j (by rw [h.size]; exact hi) (by rw [h.size]; exact hj), h.lt, h.h0, h.few⟩
/-- The same with names for what is read, and draws ahead. -/
theorem Rr.swapG (h : Rr w0 blk off n d w) {G : Nat → Int} (hG : Hid (∀ t, G t = d[t]!)) (q i j : Nat) (hi : i < n) (hj : j < n) :
    Rr w0 blk off n (swp d i j) (((w.setCell ⟨blk, off + i, none⟩ (.int .u64 (G j))).setCell ⟨blk, off + j, none⟩ (.int .u64 (G i))).drewN q) := by
  rw [hG.out, hG.out]; exact (h.swap i j hi hj).drewN q
end
/-- What a step on the places from a up to b leaves: the row with these permuted, of which Q holds. -/
def Sr (w0 : World) (blk off n a b : Nat) (d : Array Int) (Q : Array Int → Prop) (w' : World) : Prop := ∃ d', Rr w0 blk off n d' w' ∧ PermIn a b d d' ∧ Q d'
set_option maxHeartbeats 1000000 in
theorem isnan_any (x : Int) (w : World) : Calls Tryz.prog 145 #[.int .u64 x] w fun e w' => e = .returned (.bool false) ∧ w' = w := by
  go_enter Tryz.func145, Tryz.ntmps145
  go_wp2
  go_ret
  exact ⟨by simp, rfl⟩
set_option maxHeartbeats 1000000 in
theorem less_any (x y : Int) (w : World) : Calls Tryz.prog 118 #[.int .u64 x, .int .u64 y] w fun e w' => e = .returned (.bool (ltInt x y)) ∧ w' = w := by
  go_enter Tryz.func118, Tryz.ntmps118
  go_wp2_with (go_at_call 145; refine (isnan_any _ _).mono ?_; rintro e w' ⟨rfl, rfl⟩)
  go_ret
  exact ⟨rfl, rfl⟩
theorem ins_go {a j : Nat} {d : Array Int} (hj : a < j) (hl : ltInt d[j]! d[j - 1]! = true) : insInner ltInt a (j - 1) (swp d j (j - 1)) = insInner ltInt a j d := by
  cases j with
  | zero => omega
  | succ k => simp only [Nat.add_sub_cancel] at hl ⊢; rw [insInner.eq_2]; simp [hl]; intro h; omega
theorem ins_outer {a b i : Nat} (d : Array Int) (h : i < b) : insOuter ltInt a b i d = insOuter ltInt a b (i + 1) (insInner ltInt a i d) := by
  rw [insOuter, if_pos h]
theorem ins_stop {a j : Nat} {d : Array Int} (h : j ≤ a ∨ ltInt d[j]! d[j - 1]! = false) : insInner ltInt a j d = d := by
  cases j with
  | zero => rw [insInner]
  | succ k =>
    simp only [Nat.add_sub_cancel] at h
    rw [insInner]
    rcases h with h | h
    · simp; omega
    · simp [h]
/-- The comparison in a region behind draws. -/
theorem less_more (x y : Int) (w : World) (a n : Nat) : Calls Tryz.prog 118 #[.int .u64 x, .int .u64 y] (w.drewN (a + n)) fun e w' => e = .returned (.bool (ltInt x y)) ∧ ∃ m, w' = w.drewN (a + m) :=
  (less_any x y _).mono fun _ _ h => ⟨h.1, n, h.2⟩
theorem w64 (a : Int) (h0 : 0 ≤ a) (h : a < 9223372036854775808) : IntKind.i64.wrap a = a := IntWalk.i64_in _ (by omega)
set_option maxHeartbeats 4000000 in
set_option maxRecDepth 100000 in
theorem so_ins (w0 w : World) (blk off n cap a b : Nat) (d : Array Int) (h : Rr w0 blk off n d w) (hab : a ≤ b) (hb : b ≤ n) :
    Calls Tryz.prog 163 #[.slice (some ⟨blk, off, none⟩) n cap, .int .i64 a, .int .i64 b] w fun e w' =>
      e = .returned (.tuple #[]) ∧ Sr w0 blk off n a b d (SortedIn ltInt a b) w' := by
  have few := h.few
  suffices H : Calls Tryz.prog 163 #[.slice (some ⟨blk, off, none⟩) n cap, .int .i64 a, .int .i64 b] w fun e w' =>
      e = .returned (.tuple #[]) ∧ Rr w0 blk off n (insertionSort ltInt d a b) w' from
    H.mono fun e w' hw => ⟨hw.1, _, hw.2, (insertionSort_holds swo_ltInt d a b hab (by rw [h.size]; exact hb)).1, (insertionSort_holds swo_ltInt d a b hab (by rw [h.size]; exact hb)).2⟩
  have H := Lib.hid h
  clear h
  go_enter Tryz.func163, Tryz.ntmps163
  go_wp2
  go_loopw [6] (fun vi wr => ∃ (i : Nat) (dk : Array Int), vi = .int .i64 i ∧ a < i ∧ i ≤ b + 1 ∧ Hid (Rr w0 blk off n dk wr ∧ insOuter ltInt a b i dk = insertionSort ltInt d a b)) (fun vi _ => b + 1 - (intOf vi).toNat)
  case atStart => exact ⟨a + 1, d, by go_num, by omega, by omega, Lib.hid ⟨H.out, rfl⟩⟩
  case round =>
    obtain ⟨i, dk, rfl, hai, hib, hK⟩ := hrel
    by_cases hlt : i < b
    · go_wp2
      go_loopw [7] (fun vj wr2 => ∃ (j : Nat) (dj : Array Int), vj = .int .i64 j ∧ a ≤ j ∧ j ≤ i ∧ Hid (Rr w0 blk off n dj wr2 ∧ insInner ltInt a j dj = insInner ltInt a i dk)) (fun vj _ => (intOf vj).toNat)
      case atStart => exact ⟨i, dk, rfl, by omega, Nat.le_refl _, Lib.hid ⟨hK.out.1, rfl⟩⟩
      case round =>
        obtain ⟨j, dj, rfl, haj, hji, hJ⟩ := hrel
        have out : (j ≤ a ∨ ltInt dj[j]! dj[j - 1]! = false) → ∀ q, ∃ (i' : Nat) (dk' : Array Int), Value.int .i64 ((i : Int) + 1) = .int .i64 (i' : Nat) ∧ a < i' ∧ i' ≤ b + 1 ∧ Hid (Rr w0 blk off n dk' (wr.drewN q) ∧ insOuter ltInt a b i' dk' = insertionSort ltInt d a b) := fun hs q =>
          ⟨i + 1, dj, by go_num, by omega, by omega, Lib.hid ⟨hJ.out.1.drewN q, by rw [← hK.out.2, ins_outer dk hlt, ← hJ.out.2, ins_stop hs]⟩⟩
        have OUT := Lib.hid out
        clear out
        obtain ⟨G, hG⟩ : ∃ G : Nat → Int, ∀ t, G t = dj[t]! := ⟨fun t => dj[t]!, fun _ => rfl⟩
        have hcw : ∀ t, t < n → wr.cell? ⟨blk, off + t, none⟩ = some (.int .u64 (G t)) := fun t ht => by rw [hG]; exact hJ.out.1.cell ht
        have hfw : ∀ t, t < n → wr.frozen? ⟨blk, off + t, none⟩ = false := fun t ht => hJ.out.1.free ht
        have HG := Lib.hid hG
        clear hG
        go_wp2
        by_cases hja : a < j
        · go_quiet (first | (go_at_call 118; refine Calls.quiet_of_same (less_any _ _ _)))
          go_wp2
          · have hl : ltInt (G j) (G (j - 1)) = true := by assumption
            go_region
            all_goals go_wp2
            go_roundw
            case rel =>
              refine ⟨j - 1, swp dj j (j - 1), by congr 1; omega, by omega, by omega, Lib.hid ⟨?_, ?_⟩⟩
              · exact hJ.out.1.swapG HG (nq + 1) j (j - 1) (by omega) (by omega)
              · rw [← hJ.out.2, ← ins_go hja (by rw [← HG.out, ← HG.out]; exact hl)]
            case measure => simp [intOf]; omega
          · have hl : ltInt (G j) (G (j - 1)) = false := by assumption
            go_roundw
            case rel => exact OUT.out (Or.inr (by rw [← HG.out, ← HG.out]; exact hl)) nq
            case measure => simp [intOf]; omega
        · go_quiet (first | (go_at_call 118; refine Calls.quiet_of_same (less_any _ _ _)))
          go_wp2
          go_roundw
          case rel => exact OUT.out (Or.inl (by omega)) nq
          case measure => simp [intOf]; omega
    · go_wp2
      go_end0
      exact ⟨rfl, by have e := hK.out.2; rw [insOuter, if_neg hlt] at e; rw [← e]; exact hK.out.1⟩
end Go.Proofs.YtelfacchhclgnaaGreat.Kb
end
section
namespace Go.Proofs.YtelfacchhclgnaaGreat.Kb
set_option maxRecDepth 20000
open Go.Sort
theorem lt_yes {x y : Int} (h : ltInt x y = true) : x < y := by simpa [ltInt] using h
theorem lt_no {x y : Int} (h : ltInt x y = false) : y ≤ x := by simpa [ltInt] using h
theorem nlt_yes {x y : Int} (h : (!ltInt x y) = true) : y ≤ x := by simpa [ltInt] using h
theorem nlt_no {x y : Int} (h : (!ltInt x y) = false) : x < y := by simpa [ltInt] using h
theorem sorted_iff {a b : Nat} {d : Array Int} : SortedIn ltInt a b d ↔ ∀ i j, a ≤ i → i < j → j < b → d[i]! ≤ d[j]! := by
  unfold SortedIn
  exact ⟨fun h i j h1 h2 h3 => lt_no (h i j h1 h2 h3), fun h i j h1 h2 h3 => by simpa [ltInt] using h i j h1 h2 h3⟩
def Lo (p x : Int) : Prop := x < p
def Hi (p x : Int) : Prop := p ≤ x
def Le (p x : Int) : Prop := x ≤ p
def Gt (p x : Int) : Prop := p < x
theorem lo_y {p x y : Int} (h : y = p) (e : ltInt x y = true) : Lo p x := by subst h; exact lt_yes e
theorem hi_y {p x y : Int} (h : y = p) (e : ltInt x y = false) : Hi p x := by subst h; exact lt_no e
theorem hi_n {p x y : Int} (h : y = p) (e : (!ltInt x y) = true) : Hi p x := by subst h; exact nlt_yes e
theorem lo_n {p x y : Int} (h : y = p) (e : (!ltInt x y) = false) : Lo p x := by subst h; exact nlt_no e
theorem le_n {p x y : Int} (h : y = p) (e : (!ltInt y x) = true) : Le p x := by subst h; exact nlt_yes e
theorem gt_n {p x y : Int} (h : y = p) (e : (!ltInt y x) = false) : Gt p x := by subst h; exact nlt_no e
theorem gt_y {p x y : Int} (h : y = p) (e : ltInt y x = true) : Gt p x := by subst h; exact lt_yes e
theorem le_y {p x y : Int} (h : y = p) (e : ltInt y x = false) : Le p x := by subst h; exact lt_no e
theorem not_lohi {p x : Int} (h : Lo p x) (k : Hi p x) : False := by unfold Lo at h; unfold Hi at k; omega
theorem not_legt {p x : Int} (h : Le p x) (k : Gt p x) : False := by unfold Le at h; unfold Gt at k; omega
theorem lt_of {U V : Int → Int → Prop} (hUV : ∀ p x, U p x → V p x → False) {p : Int} {d : Array Int} {i j : Nat} (hle : i ≤ j) (hv : V p d[i]!) (hu : U p d[j]!) : i < j := by
  rcases Nat.lt_or_eq_of_le hle with h | h
  · exact h
  · subst h; exact (hUV _ _ hu hv).elim
/-- The row dk is d with the places from a up to b permuted; p stands at a; U holds of what stands behind it up to i, V of what stands behind j. -/
structure Pt (U V : Int → Int → Prop) (a b i j : Nat) (p : Int) (d dk : Array Int) : Prop where
  perm : PermIn a b d dk
  top : dk[a]! = p
  up : ∀ k, a < k → k < i → U p dk[k]!
  down : ∀ k, j < k → k < b → V p dk[k]!
section
variable {U V : Int → Int → Prop} {a b i j : Nat} {p : Int} {d dk : Array Int}
theorem swp_same (d : Array Int) (i : Nat) : ∀ k : Nat, (swp d i i)[k]! = d[k]! := by
  intro k
  by_cases h : k = i
  · subst h
    by_cases hk : k < d.size
    · exact swp_right d k k hk
    · rw [getElem!_neg _ k (by rw [size_swp]; exact hk), getElem!_neg _ k hk]
  · exact swp_other d i i k h h
theorem swp_at (d : Array Int) {i j : Nat} (hi : i < d.size) (hj : j < d.size) : (swp d i j)[i]! = d[j]! ∧ (swp d i j)[j]! = d[i]! := by
  by_cases h : i = j
  · subst h; exact ⟨swp_same _ _ _, swp_same _ _ _⟩
  · exact ⟨swp_left d i j hi h, swp_right d i j hj⟩
theorem Pt.start {v : Nat} (ha : a ≤ v) (hv : v < b) (hb : b ≤ d.size) : Pt U V a b (a + 1) (b - 1) d[v]! d (swp d a v) :=
  ⟨swp_permIn d a b a v (Nat.le_refl _) (by omega) ha hv hb, (swp_at d (by omega) (by omega)).1, fun k h1 h2 => by omega, fun k h1 h2 => by omega⟩
theorem Pt.next (h : Pt U V a b i j p d dk) (hu : U p dk[i]!) : Pt U V a b (i + 1) j p d dk :=
  ⟨h.perm, h.top, fun k h1 h2 => by
    by_cases e : k = i
    · subst e; exact hu
    · exact h.up k h1 (by omega), h.down⟩
theorem Pt.prev (h : Pt U V a b i j p d dk) (hv : V p dk[j]!) (hj : 0 < j) : Pt U V a b i (j - 1) p d dk :=
  ⟨h.perm, h.top, h.up, fun k h1 h2 => by
    by_cases e : k = j
    · subst e; exact hv
    · exact h.down k (by omega) h2⟩
theorem Pt.swap (h : Pt U V a b i j p d dk) (hai : a < i) (hij : i < j) (hjb : j < b) (hb : b ≤ d.size) (hu : U p dk[j]!) (hv : V p dk[i]!) : Pt U V a b (i + 1) (j - 1) p d (swp dk i j) := by
  have hs : dk.size = d.size := h.perm.1
  obtain ⟨e1, e2⟩ := swp_at dk (i := i) (j := j) (by omega) (by omega)
  refine ⟨permIn_trans _ _ _ _ _ h.perm (swp_permIn dk a b i j (by omega) (by omega) (by omega) hjb (by omega)), ?_, fun k h1 h2 => ?_, fun k h1 h2 => ?_⟩
  · rw [swp_other dk i j a (by omega) (by omega)]; exact h.top
  · by_cases e : k = i
    · subst e; rw [e1]; exact hu
    · rw [swp_other dk i j k (by omega) (by omega)]; exact h.up k h1 (by omega)
  · by_cases e : k = j
    · subst e; rw [e2]; exact hv
    · rw [swp_other dk i j k (by omega) (by omega)]; exact h.down k (by omega) h2
theorem Pt.ends (h : Pt Le Gt a b i j p d dk) (hij : j < i) : (∀ k, a ≤ k → k < i → dk[k]! ≤ p) ∧ ∀ k, i ≤ k → k < b → p < dk[k]! :=
  ⟨fun k h1 h2 => by
    by_cases e : k = a
    · subst e; exact Int.le_of_eq h.top
    · exact h.up k (by omega) h2, fun k h1 h2 => h.down k (by omega) h2⟩
theorem Pt.last (h : Pt U V a b (j + 1) j p d dk) (haj : a ≤ j) (hjb : j < b) (hb : b ≤ d.size) : PermIn a b d (swp dk j a) ∧ (swp dk j a)[j]! = p ∧ (∀ k, a ≤ k → k < j → U p (swp dk j a)[k]!) ∧ ∀ k, j < k → k < b → V p (swp dk j a)[k]! := by
  have hs : dk.size = d.size := h.perm.1
  obtain ⟨e1, e2⟩ := swp_at dk (i := j) (j := a) (by omega) (by omega)
  refine ⟨permIn_trans _ _ _ _ _ h.perm (swp_permIn dk a b j a haj hjb (Nat.le_refl _) (by omega) (by omega)), e1.trans h.top, fun k h1 h2 => ?_, fun k h1 h2 => ?_⟩
  · by_cases e : k = a
    · subst e; rw [e2]; exact h.up j (by omega) (by omega)
    · rw [swp_other dk j a k (by omega) e]; exact h.up k (by omega) (by omega)
  · rw [swp_other dk j a k (by omega) (by omega)]; exact h.down k h1 h2
end
end Go.Proofs.YtelfacchhclgnaaGreat.Kb
end
section
namespace Go.Proofs.YtelfacchhclgnaaGreat.Kb
set_option maxRecDepth 20000
open Go.RowKit Go.Sort
theorem sorted_far {a i j k : Nat} {d : Array Int} (h : SortedIn ltInt a i d) (hj : i ≤ j) (hk : i ≤ k) : SortedIn ltInt a i (swp d j k) := by
  intro p q h1 h2 h3
  rw [swp_other d j k p (by omega) (by omega), swp_other d j k q (by omega) (by omega)]
  exact h p q h1 h2 h3
theorem sorted_short {a i : Nat} {d : Array Int} (h : i ≤ a + 1) : SortedIn ltInt a i d := fun p q h1 h2 h3 => by omega
theorem ins_start {a i i1 : Nat} {d : Array Int} (h : SortedIn ltInt a i d) (hi : i1 + 1 = i) : Ins ltInt a i1 i1 (swp d i i1) :=
  ⟨fun p q h1 h2 h3 h4 h5 => by
    rw [swp_other d i i1 p (by omega) h4, swp_other d i i1 q (by omega) h5]
    exact h p q h1 h2 (by omega), fun q h1 h2 => by omega⟩
theorem ins_step {a j i : Nat} {d : Array Int} (h : Ins ltInt a j i d) (hl : ltInt d[j]! d[j - 1]! = true) (haj : a < j) (hs : j < d.size) : Ins ltInt a (j - 1) i (swp d j (j - 1)) := by
  cases j with
  | zero => omega
  | succ k => exact Ins.step h hl (by omega) hs
/-- Nothing from a up to b is less than what stands ahead of a. -/
def Bel (a b : Nat) (d : Array Int) : Prop := 0 < a → ∀ k, a ≤ k → k < b → d[a - 1]! ≤ d[k]!
theorem Bel.perm {a b : Nat} {d dk : Array Int} (h : Bel a b d) (hp : PermIn a b d dk) (hb : b ≤ d.size) : Bel a b dk := fun h0 k h1 h2 => by
  rw [hp.2.1 (a - 1) (.inl (by omega))]
  exact permIn_all d dk a b (fun x => d[a - 1]! ≤ x) hb hp (fun i h3 h4 => h h0 i h3 h4) k h1 h2
theorem below_no {a b : Nat} {d dk : Array Int} (h : Bel a b d) (hp : PermIn a b d dk) (hb : b ≤ dk.size) (hab : a < b) (h0 : 1 ≤ a) : ltInt dk[a]! dk[a - 1]! = false := by
  have := h.perm hp (by rw [← hp.1]; exact hb) (by omega) a (Nat.le_refl _) hab
  simpa [ltInt] using this
set_option maxHeartbeats 40000000 in
set_option maxRecDepth 100000 in
theorem so_partial (w0 w : World) (blk off n cap a b : Nat) (d : Array Int) (h : Rr w0 blk off n d w) (hab : a < b) (hb : b ≤ n) (hbel : Bel a b d) :
    Calls Tryz.prog 168 #[.slice (some ⟨blk, off, none⟩) n cap, .int .i64 a, .int .i64 b] w fun e w' =>
      ∃ t : Bool, e = .returned (.bool t) ∧ Sr w0 blk off n a b d (fun d' => t = true → SortedIn ltInt a b d') w' := by
  have few := h.few
  have HZ : Hid (b ≤ d.size) := Lib.hid (by rw [h.size]; exact hb)
  have H := Lib.hid h
  have HBL := Lib.hid hbel
  obtain ⟨L, hL⟩ : ∃ L, L = b - a := ⟨_, rfl⟩
  have eL : (b : Int) - (a : Int) = (L : Int) := by omega
  have hLn : L ≤ n := by omega
  clear h hbel hL
  go_enter Tryz.func168, Tryz.ntmps168
  go_wp2
  go_loopw [7, 8] (fun vi vs wr => ∃ (s i : Nat) (dk : Array Int), vi = .int .i64 i ∧ vs = .int .i64 s ∧ s ≤ 5 ∧ a < i ∧ i ≤ b ∧ Hid (Rr w0 blk off n dk wr ∧ PermIn a b d dk ∧ SortedIn ltInt a i dk)) (fun _ vs _ => 5 - (intOf vs).toNat)
  case atStart => exact ⟨0, a + 1, d, by go_num, rfl, by omega, by omega, by omega, Lib.hid ⟨H.out, permIn_refl _ _ _, sorted_short (Nat.le_refl _)⟩⟩
  case round =>
    obtain ⟨s, i0, dk, rfl, rfl, hs, hi1, hi2, hK⟩ := hrel
    by_cases hs5 : s < 5
    · have hs5' : decide ((s : Int) < 5) = true := by rw [decide_eq_true_eq]; omega
      go_wp2
      go_loopw [7] (fun vi wr => ∃ (i : Nat), vi = .int .i64 i ∧ a < i ∧ i ≤ b ∧ Hid (Rr w0 blk off n dk wr ∧ PermIn a b d dk ∧ SortedIn ltInt a i dk)) (fun vi _ => b - (intOf vi).toNat)
      case atStart => exact ⟨i0, rfl, hi1, hi2, hK⟩
      case round =>
        clear hK hi1 hi2
        obtain ⟨i, rfl, hi1, hi2, hK⟩ := hrel
        obtain ⟨G, hG⟩ : ∃ G : Nat → Int, ∀ t, G t = dk[t]! := ⟨fun t => dk[t]!, fun _ => rfl⟩
        have hcw : ∀ t, t < n → wr.cell? ⟨blk, off + t, none⟩ = some (.int .u64 (G t)) := fun t ht => by rw [hG]; exact hK.out.1.cell ht
        have hfw : ∀ t, t < n → wr.frozen? ⟨blk, off + t, none⟩ = false := fun t ht => hK.out.1.free ht
        have HG := Lib.hid hG
        clear hG
        by_cases hib : i < b
        · have li : i < n := by omega
          have li1 : i - 1 < n := by omega
          have hbq : ((i : Int) == (b : Int)) = false := by rw [beq_eq_false_iff_ne]; omega
          by_cases h50 : L < 50
          · have h50' : (L : Int) < 50 := by omega
            go_wp2
            go_quiet (first | (go_at_call 118; refine Calls.quiet_of_same (less_any _ _ _)) | (go_at_call 118; exact less_more _ _ _ _ _))
            go_wp2
            · have e : (!ltInt (G i) (G (i - 1))) = true := by assumption
              go_roundw
              case rel => exact ⟨i + 1, by go_num, by omega, by omega, Lib.hid ⟨hK.out.1.drewN _, hK.out.2.1, SortedIn.snoc swo_ltInt hK.out.2.2 (by rw [← HG.out, ← HG.out]; simpa using e)⟩⟩
              case measure => simp [intOf]; omega
            · go_ret
              exact ⟨false, rfl, dk, hK.out.1.drewN _, hK.out.2.1, fun e => by cases e⟩
          · have h50' : ¬ (L : Int) < 50 := by omega
            have h50'' : 50 ≤ (L : Int) := by omega
            go_wp2
            go_quiet (first | (go_at_call 118; refine Calls.quiet_of_same (less_any _ _ _)) | (go_at_call 118; exact less_more _ _ _ _ _))
            go_wp2
            · have e : (!ltInt (G i) (G (i - 1))) = true := by assumption
              go_roundw
              case rel => exact ⟨i + 1, by go_num, by omega, by omega, Lib.hid ⟨hK.out.1.drewN _, hK.out.2.1, SortedIn.snoc swo_ltInt hK.out.2.2 (by rw [← HG.out, ← HG.out]; simpa using e)⟩⟩
              case measure => simp [intOf]; omega
            · have hlt : (!ltInt (G i) (G (i - 1))) = false := by assumption
              clear hlt
              obtain ⟨i1, hi⟩ : ∃ i1, i1 + 1 = i := ⟨i - 1, by omega⟩
              obtain ⟨u, hu⟩ : ∃ u, u = i - a := ⟨_, rfl⟩
              obtain ⟨t, ht⟩ : ∃ t, t = b - i := ⟨_, rfl⟩
              have hai1 : a ≤ i1 := by omega
              have hu2 : i ≤ a + u := by omega
              have ht2 : i + t ≤ b := by omega
              have li2 : i1 < n := by omega
              have hne : ¬ i = i1 := by omega
              have hne' : ¬ i1 = i := by omega
              have eu : (i : Int) - (a : Int) = (u : Int) := by omega
              have et : (b : Int) - (i : Int) = (t : Int) := by omega
              have ei : (i : Int) - 1 = (i1 : Int) := by omega
              have HI1 := Lib.hid hi
              have hN := Lib.hid hK.out.2.2
              clear hi hu ht
              by_cases hu : 2 ≤ u
              · have hu' : 2 ≤ (u : Int) := by omega
                by_cases ht : 2 ≤ t
                · have ht' : 2 ≤ (t : Int) := by omega
                  go_region
                  all_goals go_wp2
                  go_loopw [9] (fun vj wr => ∃ (j : Nat) (dj : Array Int), vj = .int .i64 j ∧ a ≤ j ∧ j ≤ i1 ∧ Hid (Rr w0 blk off n dj wr ∧ PermIn a b d dj ∧ Ins ltInt a j i1 dj)) (fun vj _ => (intOf vj).toNat)
                  case atStart => exact ⟨i1, swp dk i i1, rfl, by omega, Nat.le_refl _, Lib.hid ⟨hK.out.1.swapG HG (nq + 1) i i1 li li2, permIn_trans _ _ _ _ _ hK.out.2.1 (swp_permIn dk a b i i1 (by omega) hib hai1 (by omega) (by rw [hK.out.2.1.1]; exact HZ.out)), ins_start hN.out HI1.out⟩⟩
                  case round =>
                    obtain ⟨j, dj, rfl, hj1, hj2, hJ⟩ := hrel
                    by_cases hj0 : 1 ≤ j
                    · have hj0' : 1 ≤ (j : Int) := by omega
                      have lj : j < n := by omega
                      have lj1 : j - 1 < n := by omega
                      obtain ⟨G, hG⟩ : ∃ G : Nat → Int, ∀ t, G t = dj[t]! := ⟨fun t => dj[t]!, fun _ => rfl⟩
                      have hcw : ∀ t, t < n → wr.cell? ⟨blk, off + t, none⟩ = some (.int .u64 (G t)) := fun t ht => by rw [hG]; exact hJ.out.1.cell ht
                      have hfw : ∀ t, t < n → wr.frozen? ⟨blk, off + t, none⟩ = false := fun t ht => hJ.out.1.free ht
                      have HG := Lib.hid hG
                      clear hG
                      go_wp2
                      go_quiet (first | (go_at_call 118; refine Calls.quiet_of_same (less_any _ _ _)) | (go_at_call 118; exact less_more _ _ _ _ _))
                      go_wp2
                      · have e : (!ltInt (G j) (G (j - 1))) = true := by assumption
                        have hM : Hid (Rr w0 blk off n dj (wr.drewN nq) ∧ PermIn a b d dj ∧ SortedIn ltInt a i dj) := Lib.hid ⟨hJ.out.1.drewN _, hJ.out.2.1, by
                          have hh := Ins.stop swo_ltInt hJ.out.2.2 (.inr (by rw [← HG.out, ← HG.out]; simpa using e))
                          rw [HI1.out] at hh; exact hh⟩
                        clear e
                        go_loopw [10] (fun vj wr => ∃ (j : Nat) (dj : Array Int), vj = .int .i64 j ∧ i + 1 ≤ j ∧ j ≤ b ∧ Hid (Rr w0 blk off n dj wr ∧ PermIn a b d dj ∧ SortedIn ltInt a i dj)) (fun vj _ => b - (intOf vj).toNat)
                        case atStart => exact ⟨i + 1, dj, by go_num, Nat.le_refl _, by omega, Lib.hid ⟨hM.out.1, hM.out.2.1, hM.out.2.2⟩⟩
                        case round =>
                          obtain ⟨j, dj, rfl, hj1, hj2, hJ⟩ := hrel
                          by_cases hjb : j < b
                          · have lj : j < n := by omega
                            have lj1 : j - 1 < n := by omega
                            obtain ⟨G, hG⟩ : ∃ G : Nat → Int, ∀ t, G t = dj[t]! := ⟨fun t => dj[t]!, fun _ => rfl⟩
                            have hcw : ∀ t, t < n → wr.cell? ⟨blk, off + t, none⟩ = some (.int .u64 (G t)) := fun t ht => by rw [hG]; exact hJ.out.1.cell ht
                            have hfw : ∀ t, t < n → wr.frozen? ⟨blk, off + t, none⟩ = false := fun t ht => hJ.out.1.free ht
                            have HG := Lib.hid hG
                            clear hG
                            go_wp2
                            go_quiet (first | (go_at_call 118; refine Calls.quiet_of_same (less_any _ _ _)) | (go_at_call 118; exact less_more _ _ _ _ _))
                            go_wp2
                            · have e : (!ltInt (G j) (G (j - 1))) = true := by assumption
                              go_roundw
                              case rel => exact ⟨s + 1, i, dj, rfl, by go_num, by omega, hi1, by omega, Lib.hid ⟨hJ.out.1.drewN _, hJ.out.2.1, hJ.out.2.2⟩⟩
                              case measure => simp [intOf]; omega
                            · go_region
                              all_goals go_wp2
                              go_roundw
                              case rel => exact ⟨j + 1, swp dj j (j - 1), by go_num, by omega, by omega, Lib.hid ⟨hJ.out.1.swapG HG _ j (j - 1) lj lj1, permIn_trans _ _ _ _ _ hJ.out.2.1 (swp_permIn dj a b j (j - 1) (by omega) hjb (by omega) (by omega) (by rw [hJ.out.2.1.1]; exact HZ.out)), sorted_far hJ.out.2.2 (by omega) (by omega)⟩⟩
                              case measure => simp [intOf]; omega
                          · go_wp2
                            go_roundw
                            case rel => exact ⟨s + 1, i, dj, rfl, by go_num, by omega, hi1, by omega, Lib.hid ⟨hJ.out.1, hJ.out.2.1, hJ.out.2.2⟩⟩
                            case measure => simp [intOf]; omega
                      · have e : (!ltInt (G j) (G (j - 1))) = false := by assumption
                        have hl : ltInt dj[j]! dj[j - 1]! = true := by rw [← HG.out, ← HG.out]; simpa using e
                        have haj : a < j := by
                          rcases Nat.lt_or_eq_of_le hj1 with h | h
                          · exact h
                          · subst h; rw [below_no HBL.out hJ.out.2.1 (by rw [hJ.out.2.1.1]; exact HZ.out) (by omega) hj0] at hl; cases hl
                        have HL := Lib.hid hl
                        clear hl e
                        have hne : ¬ j = j - 1 := by omega
                        go_region
                        all_goals go_wp2
                        go_roundw
                        case rel => exact ⟨j - 1, swp dj j (j - 1), by first | (congr 1; done) | (congr 1; omega), by omega, by omega, Lib.hid ⟨hJ.out.1.swapG HG _ j (j - 1) lj lj1, permIn_trans _ _ _ _ _ hJ.out.2.1 (swp_permIn dj a b j (j - 1) (by omega) (by omega) (by omega) (by omega) (by rw [hJ.out.2.1.1]; exact HZ.out)), ins_step hJ.out.2.2 HL.out haj (by rw [hJ.out.2.1.1]; have := HZ.out; omega)⟩⟩
                        case measure => simp [intOf]; omega
                    · have hj0' : ¬ 1 ≤ (j : Int) := by omega
                      have hM : Hid (Rr w0 blk off n dj wr ∧ PermIn a b d dj ∧ SortedIn ltInt a i dj) := Lib.hid ⟨hJ.out.1, hJ.out.2.1, by
                        have hh := Ins.stop swo_ltInt hJ.out.2.2 (.inl (by omega))
                        rw [HI1.out] at hh; exact hh⟩
                      go_wp2
                      go_loopw [10] (fun vj wr => ∃ (j : Nat) (dj : Array Int), vj = .int .i64 j ∧ i + 1 ≤ j ∧ j ≤ b ∧ Hid (Rr w0 blk off n dj wr ∧ PermIn a b d dj ∧ SortedIn ltInt a i dj)) (fun vj _ => b - (intOf vj).toNat)
                      case atStart => exact ⟨i + 1, dj, by go_num, Nat.le_refl _, by omega, Lib.hid ⟨hM.out.1, hM.out.2.1, hM.out.2.2⟩⟩
                      case round =>
                        obtain ⟨j, dj, rfl, hj1, hj2, hJ⟩ := hrel
                        by_cases hjb : j < b
                        · have lj : j < n := by omega
                          have lj1 : j - 1 < n := by omega
                          obtain ⟨G, hG⟩ : ∃ G : Nat → Int, ∀ t, G t = dj[t]! := ⟨fun t => dj[t]!, fun _ => rfl⟩
                          have hcw : ∀ t, t < n → wr.cell? ⟨blk, off + t, none⟩ = some (.int .u64 (G t)) := fun t ht => by rw [hG]; exact hJ.out.1.cell ht
                          have hfw : ∀ t, t < n → wr.frozen? ⟨blk, off + t, none⟩ = false := fun t ht => hJ.out.1.free ht
                          have HG := Lib.hid hG
                          clear hG
                          go_wp2
                          go_quiet (first | (go_at_call 118; refine Calls.quiet_of_same (less_any _ _ _)) | (go_at_call 118; exact less_more _ _ _ _ _))
                          go_wp2
                          · have e : (!ltInt (G j) (G (j - 1))) = true := by assumption
                            go_roundw
                            case rel => exact ⟨s + 1, i, dj, rfl, by go_num, by omega, hi1, by omega, Lib.hid ⟨hJ.out.1.drewN _, hJ.out.2.1, hJ.out.2.2⟩⟩
                            case measure => simp [intOf]; omega
                          · go_region
                            all_goals go_wp2
                            go_roundw
                            case rel => exact ⟨j + 1, swp dj j (j - 1), by go_num, by omega, by omega, Lib.hid ⟨hJ.out.1.swapG HG _ j (j - 1) lj lj1, permIn_trans _ _ _ _ _ hJ.out.2.1 (swp_permIn dj a b j (j - 1) (by omega) hjb (by omega) (by omega) (by rw [hJ.out.2.1.1]; exact HZ.out)), sorted_far hJ.out.2.2 (by omega) (by omega)⟩⟩
                            case measure => simp [intOf]; omega
                        · go_wp2
                          go_roundw
                          case rel => exact ⟨s + 1, i, dj, rfl, by go_num, by omega, hi1, by omega, Lib.hid ⟨hJ.out.1, hJ.out.2.1, hJ.out.2.2⟩⟩
                          case measure => simp [intOf]; omega
                · have ht' : ¬ 2 ≤ (t : Int) := by omega
                  go_region
                  all_goals go_wp2
                  go_loopw [9] (fun vj wr => ∃ (j : Nat) (dj : Array Int), vj = .int .i64 j ∧ a ≤ j ∧ j ≤ i1 ∧ Hid (Rr w0 blk off n dj wr ∧ PermIn a b d dj ∧ Ins ltInt a j i1 dj)) (fun vj _ => (intOf vj).toNat)
                  case atStart => exact ⟨i1, swp dk i i1, rfl, by omega, Nat.le_refl _, Lib.hid ⟨hK.out.1.swapG HG (nq + 1) i i1 li li2, permIn_trans _ _ _ _ _ hK.out.2.1 (swp_permIn dk a b i i1 (by omega) hib hai1 (by omega) (by rw [hK.out.2.1.1]; exact HZ.out)), ins_start hN.out HI1.out⟩⟩
                  case round =>
                    obtain ⟨j, dj, rfl, hj1, hj2, hJ⟩ := hrel
                    by_cases hj0 : 1 ≤ j
                    · have hj0' : 1 ≤ (j : Int) := by omega
                      have lj : j < n := by omega
                      have lj1 : j - 1 < n := by omega
                      obtain ⟨G, hG⟩ : ∃ G : Nat → Int, ∀ t, G t = dj[t]! := ⟨fun t => dj[t]!, fun _ => rfl⟩
                      have hcw : ∀ t, t < n → wr.cell? ⟨blk, off + t, none⟩ = some (.int .u64 (G t)) := fun t ht => by rw [hG]; exact hJ.out.1.cell ht
                      have hfw : ∀ t, t < n → wr.frozen? ⟨blk, off + t, none⟩ = false := fun t ht => hJ.out.1.free ht
                      have HG := Lib.hid hG
                      clear hG
                      go_wp2
                      go_quiet (first | (go_at_call 118; refine Calls.quiet_of_same (less_any _ _ _)) | (go_at_call 118; exact less_more _ _ _ _ _))
                      go_wp2
                      · have e : (!ltInt (G j) (G (j - 1))) = true := by assumption
                        have hM : Hid (Rr w0 blk off n dj (wr.drewN nq) ∧ PermIn a b d dj ∧ SortedIn ltInt a i dj) := Lib.hid ⟨hJ.out.1.drewN _, hJ.out.2.1, by
                          have hh := Ins.stop swo_ltInt hJ.out.2.2 (.inr (by rw [← HG.out, ← HG.out]; simpa using e))
                          rw [HI1.out] at hh; exact hh⟩
                        clear e
                        go_roundw
                        case rel => exact ⟨s + 1, i, dj, rfl, by go_num, by omega, hi1, by omega, Lib.hid ⟨hM.out.1, hM.out.2.1, hM.out.2.2⟩⟩
                        case measure => simp [intOf]; omega
                      · have e : (!ltInt (G j) (G (j - 1))) = false := by assumption
                        have hl : ltInt dj[j]! dj[j - 1]! = true := by rw [← HG.out, ← HG.out]; simpa using e
                        have haj : a < j := by
                          rcases Nat.lt_or_eq_of_le hj1 with h | h
                          · exact h
                          · subst h; rw [below_no HBL.out hJ.out.2.1 (by rw [hJ.out.2.1.1]; exact HZ.out) (by omega) hj0] at hl; cases hl
                        have HL := Lib.hid hl
                        clear hl e
                        have hne : ¬ j = j - 1 := by omega
                        go_region
                        all_goals go_wp2
                        go_roundw
                        case rel => exact ⟨j - 1, swp dj j (j - 1), by first | (congr 1; done) | (congr 1; omega), by omega, by omega, Lib.hid ⟨hJ.out.1.swapG HG _ j (j - 1) lj lj1, permIn_trans _ _ _ _ _ hJ.out.2.1 (swp_permIn dj a b j (j - 1) (by omega) (by omega) (by omega) (by omega) (by rw [hJ.out.2.1.1]; exact HZ.out)), ins_step hJ.out.2.2 HL.out haj (by rw [hJ.out.2.1.1]; have := HZ.out; omega)⟩⟩
                        case measure => simp [intOf]; omega
                    · have hj0' : ¬ 1 ≤ (j : Int) := by omega
                      have hM : Hid (Rr w0 blk off n dj wr ∧ PermIn a b d dj ∧ SortedIn ltInt a i dj) := Lib.hid ⟨hJ.out.1, hJ.out.2.1, by
                        have hh := Ins.stop swo_ltInt hJ.out.2.2 (.inl (by omega))
                        rw [HI1.out] at hh; exact hh⟩
                      go_wp2
                      go_roundw
                      case rel => exact ⟨s + 1, i, dj, rfl, by go_num, by omega, hi1, by omega, Lib.hid ⟨hM.out.1, hM.out.2.1, hM.out.2.2⟩⟩
                      case measure => simp [intOf]; omega
              · have hu' : ¬ 2 ≤ (u : Int) := by omega
                by_cases ht : 2 ≤ t
                · have ht' : 2 ≤ (t : Int) := by omega
                  have hM : Hid (PermIn a b d (swp dk i i1) ∧ SortedIn ltInt a i (swp dk i i1)) := Lib.hid ⟨permIn_trans _ _ _ _ _ hK.out.2.1 (swp_permIn dk a b i i1 (by omega) hib hai1 (by omega) (by rw [hK.out.2.1.1]; exact HZ.out)), sorted_short (by omega)⟩
                  go_region
                  all_goals go_wp2
                  go_loopw [10] (fun vj wr => ∃ (j : Nat) (dj : Array Int), vj = .int .i64 j ∧ i + 1 ≤ j ∧ j ≤ b ∧ Hid (Rr w0 blk off n dj wr ∧ PermIn a b d dj ∧ SortedIn ltInt a i dj)) (fun vj _ => b - (intOf vj).toNat)
                  case atStart => exact ⟨i + 1, (swp dk i i1), by go_num, Nat.le_refl _, by omega, Lib.hid ⟨hK.out.1.swapG HG (nq + 1) i i1 li li2, hM.out.1, hM.out.2⟩⟩
                  case round =>
                    obtain ⟨j, dj, rfl, hj1, hj2, hJ⟩ := hrel
                    by_cases hjb : j < b
                    · have lj : j < n := by omega
                      have lj1 : j - 1 < n := by omega
                      obtain ⟨G, hG⟩ : ∃ G : Nat → Int, ∀ t, G t = dj[t]! := ⟨fun t => dj[t]!, fun _ => rfl⟩
                      have hcw : ∀ t, t < n → wr.cell? ⟨blk, off + t, none⟩ = some (.int .u64 (G t)) := fun t ht => by rw [hG]; exact hJ.out.1.cell ht
                      have hfw : ∀ t, t < n → wr.frozen? ⟨blk, off + t, none⟩ = false := fun t ht => hJ.out.1.free ht
                      have HG := Lib.hid hG
                      clear hG
                      go_wp2
                      go_quiet (first | (go_at_call 118; refine Calls.quiet_of_same (less_any _ _ _)) | (go_at_call 118; exact less_more _ _ _ _ _))
                      go_wp2
                      · have e : (!ltInt (G j) (G (j - 1))) = true := by assumption
                        go_roundw
                        case rel => exact ⟨s + 1, i, dj, rfl, by go_num, by omega, hi1, by omega, Lib.hid ⟨hJ.out.1.drewN _, hJ.out.2.1, hJ.out.2.2⟩⟩
                        case measure => simp [intOf]; omega
                      · go_region
                        all_goals go_wp2
                        go_roundw
                        case rel => exact ⟨j + 1, swp dj j (j - 1), by go_num, by omega, by omega, Lib.hid ⟨hJ.out.1.swapG HG _ j (j - 1) lj lj1, permIn_trans _ _ _ _ _ hJ.out.2.1 (swp_permIn dj a b j (j - 1) (by omega) hjb (by omega) (by omega) (by rw [hJ.out.2.1.1]; exact HZ.out)), sorted_far hJ.out.2.2 (by omega) (by omega)⟩⟩
                        case measure => simp [intOf]; omega
                    · go_wp2
                      go_roundw
                      case rel => exact ⟨s + 1, i, dj, rfl, by go_num, by omega, hi1, by omega, Lib.hid ⟨hJ.out.1, hJ.out.2.1, hJ.out.2.2⟩⟩
                      case measure => simp [intOf]; omega
                · have ht' : ¬ 2 ≤ (t : Int) := by omega
                  exfalso; omega
        · have hbi : i = b := by omega
          subst hbi
          go_wp2
          go_quiet (first | (go_at_call 118; refine Calls.quiet_of_same (less_any _ _ _)) | (go_at_call 118; exact less_more _ _ _ _ _))
          go_wp2
          go_ret
          exact ⟨true, rfl, dk, hK.out.1.drewN _, hK.out.2.1, fun _ => hK.out.2.2⟩
    · go_wp2
      go_ret
      exact ⟨false, rfl, dk, hK.out.1, hK.out.2.1, fun e => by cases e⟩
end Go.Proofs.YtelfacchhclgnaaGreat.Kb
end
