/- slices.Concat at lists of 64-bit numbers: a row of one's own that holds them all; the text walked. slices.Compact at 64-bit numbers: laid over the library's contract. A row of 64-bit numbers that is put in order: what stays, and what a swap does; the comparison, walked. Plain facts on a row that is parted about a number, and on what is put in order in parts. A row that is nearly in order is put in order, where few steps will do; the text walked. Plain facts: what is left to be put in order when a row has been parted. The heap: one number goes down; the heap is built and emptied; the text walked. The heap is built and emptied; the text walked. A row is parted about one of its numbers; the text walked. A range turned round; the choice of a number about which a row is parted; the text walked. The number about which a row is parted is chosen; the text walked. Some patterns are broken: three numbers change places with others, by a sequence that looks like chance; the text walked. Some patterns are broken; the text walked. The sort itself: parted about a number, the smaller part by itself, the greater one in the next round; the text walked. slices.Sort over a row of one's own: the same numbers, in order. slices.Compact over a row of one's own that is in order: each number once. slices.Sort and Compact of nothing. Plain facts: a row of Bools read as the list of the places that are true. -/
import Derived.Lib.AppendZeros
import Derived.Shelf.SlGeneric
import Derived.Shelf.SlicesE.Compact
import Derived.Test.YtialjokdaniofaaGreatProg
import Derived.WalkKit
import Derived.BigGuard
import Derived.BigCall
import Derived.CellFam
import Derived.Deep.Draws
import Derived.Deep.QuietTactic
import Derived.BigQuiet
import Derived.RegionTactic
import Derived.Lib.Hide
import Derived.IntWalk
import Derived.Sort.LotA
import Derived.Sort.LotB
import Derived.Shelf.GgSortFunc.SW
import Derived.Laws.BitsAllLaws
import Derived.Laws.Bits64b
import Derived.Laws.Closers25b
import Derived.Lib.BitFns
import Derived.Lib.Strings
import Derived.Lib.Small
import Derived.Lib.Walk
import Derived.Deep.CutRange
import Derived.Test.YtialjokdaniofaaGreatMq25
import Derived.Test.YtialjokdaniofaaGreatMq01
section
namespace Go.Proofs.YtialjokdaniofaaGreat.Kb
set_option maxRecDepth 20000
open Go.RowKit
abbrev Part := Option Addr × Nat × List Int
def cat (L : List Part) : List Int := L.flatMap (·.2.2)
/-- The row of slices at gp, from off on, reads as the parts L. -/
def Parts (w : World) (B gp off : Nat) (L : List Part) : Prop := ∀ k (h : k < L.length), w.cell? ⟨gp, off + k, none⟩ = some (.slice L[k].1 L[k].2.2.length L[k].2.1) ∧ Rh w B L[k].1 L[k].2.2
theorem cat_snoc {L : List Part} {k : Nat} (h : k < L.length) : cat (L.take (k + 1)) = cat (L.take k) ++ L[k].2.2 := by
  unfold cat; rw [List.take_succ_eq_append_getElem h, List.flatMap_append]; simp
theorem cat_le {L : List Part} {k : Nat} : (cat (L.take k)).length ≤ (cat L).length := by
  conv => rhs; rw [← List.take_append_drop k L]
  unfold cat; rw [List.flatMap_append, List.length_append]; omega
theorem Rh.reads {w : World} {B : Nat} {A : Option Addr} {xs : List Int} (h : Rh w B A xs) : Reads w B 1 A xs.length (hv xs) := by
  refine ⟨by simp, fun hn => ?_⟩
  obtain ⟨b, off, rfl, hb, hc⟩ := h (by intro e; subst e; simp at hn)
  refine ⟨_, rfl, hb, fun j u hu => ?_⟩
  have hj : j < xs.length := by
    rcases Nat.lt_or_ge j xs.length with h1 | h1
    · exact h1
    · rw [List.getElem?_eq_none (by simpa using h1)] at hu; cases hu
  have e : (⟨b, off, none⟩ : Addr).add j = ⟨b, off + j, none⟩ := by
    unfold Addr.add
    by_cases h0 : j = 0 <;> simp [h0]
  rw [e, hc j hj]
  simpa [hj] using hu
theorem hv_one (xs : List Int) : ∀ u ∈ hv xs, u.oneCell' = true := by
  intro u hu
  rw [hv, List.mem_map] at hu
  obtain ⟨x, _, rfl⟩ := hu
  rfl
theorem size_zero1 (k : IntKind) (n : Nat) : (Builtin.zeroCells #[Value.int k 0] n).size = n := by simp [Builtin.zeroCells]
set_option maxHeartbeats 4000000 in
theorem grow_nil (w : World) (n : Nat) (hn : n ≤ 1099511627776) : Calls Tryz.prog 120 #[.slice none 0 0, .int .i64 n] w fun e w' =>
    ∃ v, e = .returned v ∧ w'.ownsRow w.heap.size 22 1 v 0 [] ∧ Below w.heap.size w w' := by
  obtain ⟨ti, hi, hz0, hz1, hz2⟩ : ∃ ti, Tryz.prog.info? 22 = some ti ∧ ti.zero = some (.int .u64 0) ∧ ti.size = 1 ∧ ti.bytes = 8 := ⟨_, rfl, rfl, rfl, rfl⟩
  rcases Nat.eq_zero_or_pos n with h0 | h0
  · subst h0
    go_enter Tryz.func120, Tryz.ntmps120
    go_wp2
    go_ret
    exact ⟨_, rfl, ⟨rfl, .inl ⟨rfl, rfl⟩⟩, Below.refl _ _⟩
  · have hr := Lib.run_append_nil_zeros (P := Tryz.prog) w 47 3 47 22 ti (.int .u64 0) .i64 .i64 Tryz.underlying47 Tryz.underlying3 hi hz0 n h0 (by omega) (by omega) (by rw [hz2]; omega)
    have HR := Lib.hid hr
    have hi' := Lib.hid hi
    clear hr hi hz0 hz1 hz2
    go_enter Tryz.func120, Tryz.ntmps120
    go_wp2_with (at_builtin; refine Lib.wpList_append_run _ rfl _ _ _ _ rfl _ _ rfl rfl _ _ HR.out ?_)
    go_ret
    have hge := grownCap_ge w n 0 22
    have hle := grownCap_le_maxLen w n 0 22 (by unfold maxLen; omega)
    refine ⟨_, rfl, ⟨rfl, .inr ⟨w.heap.size, grownCap w n 0 22, Builtin.zeroCells #[Value.int IntKind.u64 0] n ++ Builtin.zeroCells #[Value.int IntKind.u64 0] (grownCap w n 0 22 - n), rfl, Nat.le_refl _, ?_, Nat.zero_le _, hle, ?_, by simp⟩⟩, ?_⟩
    · exact heap_alloc_new w _
    · rw [Array.size_append, size_zero1, size_zero1]; omega
    · have hb := (Below.refl w.heap.size w).alloc (Nat.le_refl _) (Obj.cells (Builtin.zeroCells #[Value.int IntKind.u64 0] n ++ Builtin.zeroCells #[Value.int IntKind.u64 0] (grownCap w n 0 22 - n)) 22)
      exact ⟨hb.os, hb.tape, hb.output, hb.size, hb.block⟩
set_option maxHeartbeats 8000000 in
set_option maxRecDepth 100000 in
theorem concat_any (w : World) (B gp off cap : Nat) (L : List Part) (h : Parts w B gp off L) (hB : B ≤ w.heap.size) (hg : gp < w.heap.size) (hn : (cat L).length ≤ 1099511627776) (hL : L.length ≤ 1099511627776) :
    Calls Tryz.prog 86 #[.slice (some ⟨gp, off, none⟩) L.length cap] w fun e w' =>
      ∃ v, e = .returned v ∧ w'.ownsRow w.heap.size 22 1 v (cat L).length (hv (cat L)) ∧ Below w.heap.size w w' := by
  have H := Lib.hid h
  obtain ⟨m, hm⟩ : ∃ m, m = L.length := ⟨_, rfl⟩
  obtain ⟨ti, hi, hz0, hz1, hz2⟩ : ∃ ti, Tryz.prog.info? 22 = some ti ∧ ti.zero = some (.int .u64 0) ∧ ti.size = 1 ∧ ti.bytes = 8 := ⟨_, rfl, rfl, rfl, rfl⟩
  have HM := Lib.hid hm
  have HI := Lib.hid hi
  have HZ0 := Lib.hid hz0
  have HZ1 := Lib.hid hz1
  have HZ2 := Lib.hid hz2
  have hmn : m ≤ 1099511627776 := by omega
  rw [← hm]
  clear hi hz0 hz1 hz2 h
  have HLm := Lib.hid hL
  have HN := Lib.hid hn
  clear hm hL hn
  go_enter Tryz.func86, Tryz.ntmps86
  go_wp2
  go_loop [3, 11] (fun vs vi => ∃ k s : Nat, vi = .int .i64 k ∧ vs = .int .i64 s ∧ k ≤ m ∧ Hid (s = (cat (L.take k)).length)) (fun _ vi => m - (intOf vi).toNat)
  case atStart => exact ⟨0, 0, rfl, rfl, Nat.zero_le _, Lib.hid rfl⟩
  case round =>
    obtain ⟨k, s, rfl, rfl, hk, hs⟩ := hrel
    by_cases hlt : k < m
    · have hkL : k < L.length := by rw [← HM.out]; exact hlt
      obtain ⟨q, hq⟩ : ∃ q : Nat, q = (L[k]).2.2.length := ⟨_, rfl⟩
      obtain ⟨A, hA⟩ : ∃ A, A = (L[k]).1 := ⟨_, rfl⟩
      obtain ⟨c, hc⟩ : ∃ c, c = (L[k]).2.1 := ⟨_, rfl⟩
      have hcell : w.cell? ⟨gp, off + k, none⟩ = some (.slice A q c) := by rw [hq, hA, hc]; exact (H.out k hkL).1
      have hsum : Hid (s + q = (cat (L.take (k + 1))).length) := Lib.hid (by rw [hs.out, cat_snoc hkL, List.length_append, hq])
      have hb : s + q ≤ 1099511627776 := by rw [hsum.out]; exact Nat.le_trans cat_le HN.out
      clear hq hA hc
      go_wp2
      go_round
      case rel => exact ⟨k + 1, s + q, by go_num, by go_num, by omega, hsum⟩
      case measure => simp [intOf]; omega
    · have hsn : s ≤ 1099511627776 := by rw [hs.out]; exact Nat.le_trans cat_le HN.out
      go_wp2_with (go_at_call 120; (with_reducible refine (grow_nil w s hsn).mono ?_); rintro e w1 ⟨v, rfl, h1, h2⟩; replace h1 := Lib.hid h1; replace h2 := Lib.hid h2)
      go_loopw [6, 27] (fun vn vi wr => ∃ (k : Nat), vi = .int .i64 k ∧ k ≤ m ∧ Hid (wr.ownsRow w.heap.size 22 1 vn (cat (L.take k)).length (hv (cat (L.take k)))) ∧ Hid (Below w.heap.size w wr)) (fun _ vi _ => m - (intOf vi).toNat)
      case atStart => exact ⟨0, rfl, Nat.zero_le _, h1, h2⟩
      case round =>
        obtain ⟨j, rfl, hj, ho, hbl⟩ := hrel
        obtain ⟨vn, hvn⟩ : ∃ vn, vn = u6 := ⟨_, rfl⟩
        subst hvn
        by_cases hlt : j < m
        · have hjL : j < L.length := by rw [← HM.out]; exact hlt
          obtain ⟨xs, hxs⟩ : ∃ xs, xs = (L[j]).2.2 := ⟨_, rfl⟩
          obtain ⟨q, hq⟩ : ∃ q : Nat, q = xs.length := ⟨_, rfl⟩
          obtain ⟨A, hA⟩ : ∃ A, A = (L[j]).1 := ⟨_, rfl⟩
          obtain ⟨c, hc⟩ : ∃ c, c = (L[j]).2.1 := ⟨_, rfl⟩
          have hcell : wr.cell? ⟨gp, off + j, none⟩ = some (.slice A q c) := by
            rw [hbl.out.cell (p := ⟨gp, off + j, none⟩) hg, hq, hxs, hA, hc]; exact (H.out j hjL).1
          have hrd : Hid (Reads wr B 1 A q (hv xs)) := Lib.hid (by
            have := Rh.reads ((H.out j hjL).2.below hbl.out hB)
            rw [← hxs, ← hA, ← hq] at this; exact this)
          have hcat : Hid (cat (L.take (j + 1)) = cat (L.take j) ++ xs) := Lib.hid (by rw [cat_snoc hjL, hxs])
          obtain ⟨s1, hs1⟩ : ∃ s1, s1 = (cat (L.take j)).length := ⟨_, rfl⟩
          have hb : s1 + q ≤ 1099511627776 := by
            have e : (cat (L.take (j + 1))).length = s1 + q := by rw [hcat.out, List.length_append, hs1, hq]
            rw [← e]; exact Nat.le_trans cat_le HN.out
          have ho' : Hid (wr.ownsRow w.heap.size 22 1 vn s1 (hv (cat (L.take j)))) := Lib.hid (by rw [hs1]; exact ho.out)
          have HQ : Hid (s1 + q = (cat (L.take (j + 1))).length ∧ hv (cat (L.take j)) ++ hv xs = hv (cat (L.take (j + 1)))) := Lib.hid ⟨by rw [hcat.out, List.length_append, hs1, hq], by rw [hcat.out]; simp⟩
          have hws : w.heap.size ≤ wr.heap.size := hbl.out.size
          clear hxs hq hA hc hs1
          go_wp2_with (at_builtin; refine wpList_append_any _ rfl (.tmp 31) (.tmp 32) 47 rfl w.heap.size 22 ti (.int .u64 0) 1 8 Tryz.underlying47 HI.out HZ0.out HZ1.out HZ2.out rfl (by decide) vn s1 (hv (cat (L.take j))) rfl ho'.out B A q c (hv xs) rfl hrd.out (hv_one xs) (by unfold maxLen; omega) (by omega) hws ?_; intro v' w' g1 g2 g3; replace g1 := Lib.hid g1; replace g2 := Lib.hid g2; replace g3 := Lib.hid g3)
          go_roundw
          case rel => exact ⟨j + 1, by go_num, by omega, Lib.hid (by rw [← HQ.out.1, ← HQ.out.2]; exact g1.out), Lib.hid (hbl.out.grown g2.out hws (fun g hg => (ho'.out.lt g hg).1))⟩
          case measure => simp [intOf]; omega
        · have hjm : j = m := by omega
          have hfin : Hid (cat (L.take j) = cat L) := Lib.hid (by rw [hjm, HM.out, List.take_length])
          clear hjm
          go_wp2
          go_ret
          refine ⟨_, rfl, ?_, hbl.out⟩
          have := ho.out
          rw [hfin.out] at this
          exact this
end Go.Proofs.YtialjokdaniofaaGreat.Kb
end
section
namespace Go.Proofs
set_option maxRecDepth 20000
open Go.Shelf
def Tryz.compH_ren : Go.Shelf.Ren := ⟨fun | 43 => 135 | n => n, fun | 22 => 47 | 23 => 22 | 3 => 3 | 4 => 4 | 0 => 0 | n => n, fun | n => n⟩
end Go.Proofs
end
section
namespace Go.Proofs.YtialjokdaniofaaGreat.Kb
set_option maxRecDepth 20000
open Go.RowKit Go.Sort
/-- In w the n cells at blk, off read as d; all else is as in w0, but for what is new. -/
structure Rr (w0 : World) (blk off n : Nat) (d : Array Int) (w : World) : Prop where
  size : d.size = n
  sw : SW (Value.int .u64) w0 blk off d w
  lt : blk < w0.heap.size
  h0 : ∃ d0 : Array Int, Holds (Value.int .u64) w0 blk off d0 ∧ d0.size = n
  few : n < 4611686018427387904
section
variable {w0 w : World} {blk off n : Nat} {d d' : Array Int}
theorem Rr.start (h : Holds (Value.int .u64) w0 blk off d) (hb : blk < w0.heap.size) (hn : d.size < 4611686018427387904) : Rr w0 blk off d.size d w0 :=
  ⟨rfl, SW.start h, hb, ⟨d, h, rfl⟩, hn⟩
theorem Rr.holds (h : Rr w0 blk off n d w) : Holds (Value.int .u64) w blk off d := by
  obtain ⟨d0, h0, hs⟩ := h.h0
  exact h.sw.holds h.lt h0 (h.size.trans hs.symm)
theorem Rr.cell (h : Rr w0 blk off n d w) {t : Nat} (ht : t < n) : w.cell? ⟨blk, off + t, none⟩ = some (.int .u64 d[t]!) := (h.holds t (by rw [h.size]; exact ht)).1
theorem Rr.free (h : Rr w0 blk off n d w) {t : Nat} (ht : t < n) : w.frozen? ⟨blk, off + t, none⟩ = false := (h.holds t (by rw [h.size]; exact ht)).2
theorem Rr.drewN (h : Rr w0 blk off n d w) (q : Nat) : Rr w0 blk off n d (w.drewN q) := ⟨h.size, h.sw.drewN q, h.lt, h.h0, h.few⟩
theorem Rr.alloc (h : Rr w0 blk off n d w) (o : Obj) : Rr w0 blk off n d (w.alloc o) := ⟨h.size, h.sw.alloc o, h.lt, h.h0, h.few⟩
theorem Rr.setNew (h : Rr w0 blk off n d w) (b o : Nat) (v : Value) (hb : w0.heap.size ≤ b) : Rr w0 blk off n d (w.setCell ⟨b, o, none⟩ v) := ⟨h.size, h.sw.setCell_new b o v hb, h.lt, h.h0, h.few⟩
theorem Rr.le (h : Rr w0 blk off n d w) : w0.heap.size ≤ w.heap.size := h.sw.le
theorem Rr.swap (h : Rr w0 blk off n d w) (i j : Nat) (hi : i < n) (hj : j < n) :
    Rr w0 blk off n (swp d i j) ((w.setCell ⟨blk, off + i, none⟩ (.int .u64 d[j]!)).setCell ⟨blk, off + j, none⟩ (.int .u64 d[i]!)) :=
  ⟨(size_swp d i j).trans h.size, h.sw.swap h.lt i j (by rw [h.size]; exact hi) (by rw [h.size]; exact hj), h.lt, h.h0, h.few⟩
end
/-- What a step on the places from a up to b leaves: the row with these permuted, of which Q holds. -/
def Sr (w0 : World) (blk off n a b : Nat) (d : Array Int) (Q : Array Int → Prop) (w' : World) : Prop := ∃ d', Rr w0 blk off n d' w' ∧ PermIn a b d d' ∧ Q d'
set_option maxHeartbeats 1000000 in
theorem isnan_any (x : Int) (w : World) : Calls Tryz.prog 145 #[.int .u64 x] w fun e w' => e = .returned (.bool false) ∧ w' = w := by
  go_enter Tryz.func145, Tryz.ntmps145
  go_wp2
  go_ret
  exact ⟨by simp, rfl⟩
set_option maxHeartbeats 1000000 in
theorem less_any (x y : Int) (w : World) : Calls Tryz.prog 118 #[.int .u64 x, .int .u64 y] w fun e w' => e = .returned (.bool (ltInt x y)) ∧ w' = w := by
  go_enter Tryz.func118, Tryz.ntmps118
  go_wp2_with (go_at_call 145; refine (isnan_any _ _).mono ?_; rintro e w' ⟨rfl, rfl⟩)
  go_ret
  exact ⟨rfl, rfl⟩
end Go.Proofs.YtialjokdaniofaaGreat.Kb
end
section
namespace Go.Proofs.YtialjokdaniofaaGreat.Kb
set_option maxRecDepth 20000
open Go.Sort
theorem lt_yes {x y : Int} (h : ltInt x y = true) : x < y := by simpa [ltInt] using h
theorem lt_no {x y : Int} (h : ltInt x y = false) : y ≤ x := by simpa [ltInt] using h
def Lo (p x : Int) : Prop := x < p
def Hi (p x : Int) : Prop := p ≤ x
def Le (p x : Int) : Prop := x ≤ p
def Gt (p x : Int) : Prop := p < x
/-- The row dk is d with the places from a up to b permuted; p stands at a; U holds of what stands behind it up to i, V of what stands behind j. -/
structure Pt (U V : Int → Int → Prop) (a b i j : Nat) (p : Int) (d dk : Array Int) : Prop where
  perm : PermIn a b d dk
  top : dk[a]! = p
  up : ∀ k, a < k → k < i → U p dk[k]!
  down : ∀ k, j < k → k < b → V p dk[k]!
section
variable {U V : Int → Int → Prop} {a b i j : Nat} {p : Int} {d dk : Array Int}
theorem swp_same (d : Array Int) (i : Nat) : ∀ k : Nat, (swp d i i)[k]! = d[k]! := by
  intro k
  by_cases h : k = i
  · subst h
    by_cases hk : k < d.size
    · exact swp_right d k k hk
    · rw [getElem!_neg _ k (by rw [size_swp]; exact hk), getElem!_neg _ k hk]
  · exact swp_other d i i k h h
theorem swp_at (d : Array Int) {i j : Nat} (hi : i < d.size) (hj : j < d.size) : (swp d i j)[i]! = d[j]! ∧ (swp d i j)[j]! = d[i]! := by
  by_cases h : i = j
  · subst h; exact ⟨swp_same _ _ _, swp_same _ _ _⟩
  · exact ⟨swp_left d i j hi h, swp_right d i j hj⟩
theorem Pt.start {v : Nat} (ha : a ≤ v) (hv : v < b) (hb : b ≤ d.size) : Pt U V a b (a + 1) (b - 1) d[v]! d (swp d a v) :=
  ⟨swp_permIn d a b a v (Nat.le_refl _) (by omega) ha hv hb, (swp_at d (by omega) (by omega)).1, fun k h1 h2 => by omega, fun k h1 h2 => by omega⟩
theorem Pt.next (h : Pt U V a b i j p d dk) (hu : U p dk[i]!) : Pt U V a b (i + 1) j p d dk :=
  ⟨h.perm, h.top, fun k h1 h2 => by
    by_cases e : k = i
    · subst e; exact hu
    · exact h.up k h1 (by omega), h.down⟩
theorem Pt.prev (h : Pt U V a b i j p d dk) (hv : V p dk[j]!) (hj : 0 < j) : Pt U V a b i (j - 1) p d dk :=
  ⟨h.perm, h.top, h.up, fun k h1 h2 => by
    by_cases e : k = j
    · subst e; exact hv
    · exact h.down k (by omega) h2⟩
theorem Pt.swap (h : Pt U V a b i j p d dk) (hai : a < i) (hij : i < j) (hjb : j < b) (hb : b ≤ d.size) (hu : U p dk[j]!) (hv : V p dk[i]!) : Pt U V a b (i + 1) (j - 1) p d (swp dk i j) := by
  have hs : dk.size = d.size := h.perm.1
  obtain ⟨e1, e2⟩ := swp_at dk (i := i) (j := j) (by omega) (by omega)
  refine ⟨permIn_trans _ _ _ _ _ h.perm (swp_permIn dk a b i j (by omega) (by omega) (by omega) hjb (by omega)), ?_, fun k h1 h2 => ?_, fun k h1 h2 => ?_⟩
  · rw [swp_other dk i j a (by omega) (by omega)]; exact h.top
  · by_cases e : k = i
    · subst e; rw [e1]; exact hu
    · rw [swp_other dk i j k (by omega) (by omega)]; exact h.up k h1 (by omega)
  · by_cases e : k = j
    · subst e; rw [e2]; exact hv
    · rw [swp_other dk i j k (by omega) (by omega)]; exact h.down k (by omega) h2
theorem Pt.ends (h : Pt Le Gt a b i j p d dk) (hij : j < i) : (∀ k, a ≤ k → k < i → dk[k]! ≤ p) ∧ ∀ k, i ≤ k → k < b → p < dk[k]! :=
  ⟨fun k h1 h2 => by
    by_cases e : k = a
    · subst e; exact Int.le_of_eq h.top
    · exact h.up k (by omega) h2, fun k h1 h2 => h.down k (by omega) h2⟩
theorem Pt.last (h : Pt U V a b (j + 1) j p d dk) (haj : a ≤ j) (hjb : j < b) (hb : b ≤ d.size) : PermIn a b d (swp dk j a) ∧ (swp dk j a)[j]! = p ∧ (∀ k, a ≤ k → k < j → U p (swp dk j a)[k]!) ∧ ∀ k, j < k → k < b → V p (swp dk j a)[k]! := by
  have hs : dk.size = d.size := h.perm.1
  obtain ⟨e1, e2⟩ := swp_at dk (i := j) (j := a) (by omega) (by omega)
  refine ⟨permIn_trans _ _ _ _ _ h.perm (swp_permIn dk a b j a haj hjb (Nat.le_refl _) (by omega) (by omega)), e1.trans h.top, fun k h1 h2 => ?_, fun k h1 h2 => ?_⟩
  · by_cases e : k = a
    · subst e; rw [e2]; exact h.up j (by omega) (by omega)
    · rw [swp_other dk j a k (by omega) e]; exact h.up k (by omega) (by omega)
  · rw [swp_other dk j a k (by omega) (by omega)]; exact h.down k h1 h2
end
end Go.Proofs.YtialjokdaniofaaGreat.Kb
end
section
namespace Go.Proofs.YtialjokdaniofaaGreat.Kb
set_option maxRecDepth 20000
open Go.RowKit Go.Sort
/-- Nothing from a up to b is less than what stands ahead of a. -/
def Bel (a b : Nat) (d : Array Int) : Prop := 0 < a → ∀ k, a ≤ k → k < b → d[a - 1]! ≤ d[k]!
theorem Bel.perm {a b : Nat} {d dk : Array Int} (h : Bel a b d) (hp : PermIn a b d dk) (hb : b ≤ d.size) : Bel a b dk := fun h0 k h1 h2 => by
  rw [hp.2.1 (a - 1) (.inl (by omega))]
  exact permIn_all d dk a b (fun x => d[a - 1]! ≤ x) hb hp (fun i h3 h4 => h h0 i h3 h4) k h1 h2
end Go.Proofs.YtialjokdaniofaaGreat.Kb
end
section
namespace Go.Proofs.YtialjokdaniofaaGreat.Kb
set_option maxRecDepth 20000
open Go.Sort
/-- Of the places from a up to b only those from x up to y have still to be put in order. -/
def Fin' (a b x y : Nat) (d dk : Array Int) : Prop := PermIn a b d dk ∧ Bel x y dk ∧ ∀ d', PermIn x y dk d' → SortedIn ltInt x y d' → SortedIn ltInt a b d'
section
variable {a b x y m v : Nat} {d dk d1 d2 : Array Int}
end
end Go.Proofs.YtialjokdaniofaaGreat.Kb
end
section
namespace Go.Proofs.YtialjokdaniofaaGreat.Kb
set_option maxRecDepth 20000
open Go.RowKit Go.Sort
end Go.Proofs.YtialjokdaniofaaGreat.Kb
end
section
namespace Go.Proofs.YtialjokdaniofaaGreat.Kb
set_option maxRecDepth 20000
open Go.RowKit Go.Sort
end Go.Proofs.YtialjokdaniofaaGreat.Kb
end
section
namespace Go.Proofs.YtialjokdaniofaaGreat.Kb
set_option maxRecDepth 20000
open Go.RowKit Go.Sort
end Go.Proofs.YtialjokdaniofaaGreat.Kb
end
section
namespace Go.Proofs.YtialjokdaniofaaGreat.Kb
set_option maxRecDepth 20000
open Go.RowKit Go.Sort
/-- The row, and a counter beside it. -/
structure Sp (w0 : World) (blk off n : Nat) (d : Array Int) (g : Nat) (w : World) : Prop where
  row : Rr w0 blk off n d w
  new : w0.heap.size ≤ g
  at' : ∃ s, w.cell? ⟨g, 0, none⟩ = some (.int .i64 s)
  free : w.frozen? ⟨g, 0, none⟩ = false
theorem Sp.drewN {w0 w : World} {blk off n g : Nat} {d : Array Int} (h : Sp w0 blk off n d g w) (q : Nat) : Sp w0 blk off n d g (w.drewN q) := ⟨h.row.drewN q, h.new, h.at', h.free⟩
theorem Sp.set {w0 w : World} {blk off n g : Nat} {d : Array Int} (h : Sp w0 blk off n d g w) (s : Int) : Sp w0 blk off n d g (w.setCell ⟨g, 0, none⟩ (.int .i64 s)) := by
  obtain ⟨t, ht⟩ := h.at'
  exact ⟨h.row.setNew g 0 _ h.new, h.new, ⟨s, by rw [World.cell?_setCell_same (h := ht)]⟩, by rw [World.frozen?_setCell]; exact h.free⟩
end Go.Proofs.YtialjokdaniofaaGreat.Kb
end
section
namespace Go.Proofs.YtialjokdaniofaaGreat.Kb
set_option maxRecDepth 20000
open Go.RowKit Go.Sort
end Go.Proofs.YtialjokdaniofaaGreat.Kb
end
section
namespace Go.Proofs.YtialjokdaniofaaGreat.Kb
set_option maxRecDepth 20000
open Go.RowKit Go.Sort
theorem tab_all : ∀ n, n < 256 → ((Lib.len8tab[n]?).getD 0).toNat = Lib.bitLen n ∧ Lib.bitLen n ≤ 8 := by decide +kernel
theorem tab_len (b : Int) (h0 : 0 ≤ b) (h : b < 256) (hi : b.toNat < Lib.len8tab.size) : wrap64 ((Lib.len8tab[b.toNat]'hi).toNat : Int) = (Lib.bitLen b.toNat : Int) ∧ Lib.bitLen b.toNat ≤ 8 := by
  obtain ⟨h1, h2⟩ := tab_all b.toNat (by omega)
  rw [getElem?_pos Lib.len8tab b.toNat hi] at h1
  refine ⟨?_, h2⟩
  have e : ((Lib.len8tab[b.toNat]'hi).toNat : Int) = (Lib.bitLen b.toNat : Int) := by rw [← h1]; rfl
  rw [e]; unfold wrap64; omega
/-- The row, and a number that turns beside it. -/
structure Sq (w0 : World) (blk off n : Nat) (d : Array Int) (g : Nat) (w : World) : Prop where
  row : Rr w0 blk off n d w
  new : w0.heap.size ≤ g
  at' : ∃ s, w.cell? ⟨g, 0, none⟩ = some (.int .u64 s)
  free : w.frozen? ⟨g, 0, none⟩ = false
section
variable {w0 w : World} {blk off n g : Nat} {d : Array Int}
theorem Sq.drewN (h : Sq w0 blk off n d g w) (q : Nat) : Sq w0 blk off n d g (w.drewN q) := ⟨h.row.drewN q, h.new, h.at', h.free⟩
theorem Sq.set (h : Sq w0 blk off n d g w) (s : Int) : Sq w0 blk off n d g (w.setCell ⟨g, 0, none⟩ (.int .u64 s)) := by
  obtain ⟨t, ht⟩ := h.at'
  exact ⟨h.row.setNew g 0 _ h.new, h.new, ⟨s, by rw [World.cell?_setCell_same (h := ht)]⟩, by rw [World.frozen?_setCell]; exact h.free⟩
end
end Go.Proofs.YtialjokdaniofaaGreat.Kb
end
section
namespace Go.Proofs.YtialjokdaniofaaGreat.Kb
set_option maxRecDepth 20000
open Go.RowKit Go.Sort
end Go.Proofs.YtialjokdaniofaaGreat.Kb
end
section
namespace Go.Proofs.YtialjokdaniofaaGreat.Kb
set_option maxRecDepth 20000
open Go.RowKit Go.Sort
/-- What is promised of the sort, from a up to b. -/
def PdqAt (w0 : World) (blk off n cap a b : Nat) : Prop := ∀ (w : World) (l : Int) (d : Array Int), Rr w0 blk off n d w → Bel a b d →
  Calls Tryz.prog 152 #[.slice (some ⟨blk, off, none⟩) n cap, .int .i64 a, .int .i64 b, .int .i64 l] w fun e w' => e = .returned (.tuple #[]) ∧ Sr w0 blk off n a b d (SortedIn ltInt a b) w'
end Go.Proofs.YtialjokdaniofaaGreat.Kb
end
section
namespace Go.Proofs.YtialjokdaniofaaGreat.Kb
set_option maxRecDepth 20000
open Go.RowKit Go.Sort
end Go.Proofs.YtialjokdaniofaaGreat.Kb
end
section
namespace Go.Proofs.YtialjokdaniofaaGreat.Kb
set_option maxRecDepth 20000
open Go.RowKit Go.Sort Go.Lib
end Go.Proofs.YtialjokdaniofaaGreat.Kb
end
section
namespace Go.Proofs.YtialjokdaniofaaGreat.Kb
set_option maxRecDepth 20000
open Go.RowKit
theorem own_low {w : World} {base b : Nat} {e : TypeId} {n : Nat} {v : Value} {xs : List Value} (h : w.ownsRow base e 1 v n xs) (hb : b ≤ base) : w.ownsRow b e 1 v n xs := by
  refine ⟨h.1, ?_⟩
  rcases h.2 with h1 | ⟨g, cap, cur, h1, h2, h3⟩
  · exact .inl h1
  · exact .inr ⟨g, cap, cur, h1, Nat.le_trans hb h2, h3⟩
theorem rh_cell {w : World} {B : Nat} {A : Option Addr} {n c : Nat} {xs : List Int} (hr : Rh w B A xs) (hn : n = xs.length) (hB : B ≤ w.heap.size) : Parts (w.alloc (.cells #[.slice A n c] 47)) B w.heap.size 0 [(A, c, xs)] := by
  intro k hk
  have hk0 : k = 0 := by simp at hk; exact hk
  subst hk0
  refine ⟨by simp [hn], ?_⟩
  exact hr.below ((Below.refl _ _).alloc hB _) (Nat.le_refl _)
end Go.Proofs.YtialjokdaniofaaGreat.Kb
end
section
namespace Go.Proofs.YtialjokdaniofaaGreat
namespace M
/-- The places that are true, rising. -/
def L (bs : List Bool) : List Int := ((List.range bs.length).filter fun i => bs[i]?.getD false).map fun i : Nat => (i : Int)
/-- All from f up to t are there (o), or not; n were changed. -/
def Chg (o : Bool) (l l' : List Int) (f t : Int) (n : Nat) : Prop :=
  l'.Pairwise (· < ·) ∧ (∀ y, y ∈ l' ↔ if f ≤ y ∧ y ≤ t then o = true else y ∈ l) ∧ (if o then n + l.length = l'.length else n + l'.length = l.length)
theorem Chg.same {o : Bool} {l a b : List Int} {f t : Int} {n m : Nat} (h : Chg o l a f t n) (k : Chg o l b f t m) : a = b ∧ n = m := by
  have e : a = b := sorted_ext h.1 k.1 fun y => (h.2.1 y).trans (k.2.1 y).symm
  subst e
  refine ⟨rfl, ?_⟩
  have h1 := h.2.2
  have h2 := k.2.2
  cases o
  · rw [if_neg (by decide)] at h1 h2; omega
  · rw [if_pos rfl] at h1 h2; omega
end M
end Go.Proofs.YtialjokdaniofaaGreat
end
