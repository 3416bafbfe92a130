
/- slices.Concat at lists of 16-bit numbers: a row of one's own that holds them all; the text walked. -/
import Derived.Test.YtlinoambdlkfjaaGreatButF
import Derived.Test.YtlinoambdlkfjaaGreatAppAny
import Derived.Lib.AppendZeros
namespace Go.Proofs.YtlinoambdlkfjaaGreat.A
set_option maxRecDepth 40000
open Go.RowKit
abbrev Part := Option Addr × Nat × List Int
def cat (L : List Part) : List Int := L.flatMap (·.2.2)
/-- The row of slices at gp, from off on, reads as the parts L. -/
def Parts (w : World) (B gp off : Nat) (L : List Part) : Prop := ∀ k (h : k < L.length), w.cell? ⟨gp, off + k, none⟩ = some (.slice L[k].1 L[k].2.2.length L[k].2.1) ∧ Rh w B L[k].1 L[k].2.2
theorem cat_snoc {L : List Part} {k : Nat} (h : k < L.length) : cat (L.take (k + 1)) = cat (L.take k) ++ L[k].2.2 := by
  unfold cat; rw [List.take_succ_eq_append_getElem h, List.flatMap_append]; simp
theorem cat_le {L : List Part} {k : Nat} : (cat (L.take k)).length ≤ (cat L).length := by
  conv => rhs; rw [← List.take_append_drop k L]
  unfold cat; rw [List.flatMap_append, List.length_append]; omega
theorem Rh.reads {w : World} {B : Nat} {A : Option Addr} {xs : List Int} (h : Rh w B A xs) : Reads w B 1 A xs.length (hv xs) := by
  refine ⟨by simp, fun hn => ?_⟩
  obtain ⟨b, off, rfl, hb, hc⟩ := h (by intro e; subst e; simp at hn)
  refine ⟨_, rfl, hb, fun j u hu => ?_⟩
  have hj : j < xs.length := by
    rcases Nat.lt_or_ge j xs.length with h1 | h1
    · exact h1
    · rw [List.getElem?_eq_none (by simpa using h1)] at hu; cases hu
  have e : (⟨b, off, none⟩ : Addr).add j = ⟨b, off + j, none⟩ := by
    unfold Addr.add
    by_cases h0 : j = 0 <;> simp [h0]
  rw [e, hc j hj]
  simpa [hj] using hu
theorem hv_one (xs : List Int) : ∀ u ∈ hv xs, u.oneCell' = true := by
  intro u hu
  rw [hv, List.mem_map] at hu
  obtain ⟨x, _, rfl⟩ := hu
  rfl
theorem size_zero1 (k : IntKind) (n : Nat) : (Builtin.zeroCells #[Value.int k 0] n).size = n := by simp [Builtin.zeroCells]
set_option maxHeartbeats 4000000 in
theorem grow_nil (w : World) (n : Nat) (hn : n ≤ 1099511627776) : Calls Tryz.prog 88 #[.slice none 0 0, .int .i64 n] w fun e w' =>
    ∃ v, e = .returned v ∧ w'.ownsRow w.heap.size 50 1 v 0 [] ∧ Below w.heap.size w w' := by
  obtain ⟨ti, hi, hz0, hz1, hz2⟩ : ∃ ti, Tryz.prog.info? 50 = some ti ∧ ti.zero = some (.int .u16 0) ∧ ti.size = 1 ∧ ti.bytes = 2 := ⟨_, rfl, rfl, rfl, rfl⟩
  rcases Nat.eq_zero_or_pos n with h0 | h0
  · subst h0
    go_enter Tryz.func88, Tryz.ntmps88
    go_wp2
    go_ret
    exact ⟨_, rfl, ⟨rfl, .inl ⟨rfl, rfl⟩⟩, Below.refl _ _⟩
  · have hr := Lib.run_append_nil_zeros (P := Tryz.prog) w 84 3 84 50 ti (.int .u16 0) .i64 .i64 Tryz.underlying84 Tryz.underlying3 hi hz0 n h0 (by omega) (by omega) (by rw [hz2]; omega)
    have HR := Lib.hid hr
    have hi' := Lib.hid hi
    clear hr hi hz0 hz1 hz2
    go_enter Tryz.func88, Tryz.ntmps88
    go_wp2_with (at_builtin; refine Lib.wpList_append_run _ rfl _ _ _ _ rfl _ _ rfl rfl _ _ HR.out ?_)
    go_ret
    have hge := grownCap_ge w n 0 50
    have hle := grownCap_le_maxLen w n 0 50 (by unfold maxLen; omega)
    refine ⟨_, rfl, ⟨rfl, .inr ⟨w.heap.size, grownCap w n 0 50, Builtin.zeroCells #[Value.int IntKind.u16 0] n ++ Builtin.zeroCells #[Value.int IntKind.u16 0] (grownCap w n 0 50 - n), rfl, Nat.le_refl _, ?_, Nat.zero_le _, hle, ?_, by simp⟩⟩, ?_⟩
    · exact heap_alloc_new w _
    · rw [Array.size_append, size_zero1, size_zero1]; omega
    · have hb := (Below.refl w.heap.size w).alloc (Nat.le_refl _) (Obj.cells (Builtin.zeroCells #[Value.int IntKind.u16 0] n ++ Builtin.zeroCells #[Value.int IntKind.u16 0] (grownCap w n 0 50 - n)) 50)
      exact ⟨hb.os, hb.tape, hb.output, hb.size, hb.block⟩
set_option maxHeartbeats 8000000 in
set_option maxRecDepth 100000 in
theorem concat_any (w : World) (B gp off cap : Nat) (L : List Part) (h : Parts w B gp off L) (hB : B ≤ w.heap.size) (hg : gp < w.heap.size) (hn : (cat L).length ≤ 1099511627776) (hL : L.length ≤ 1099511627776) :
    Calls Tryz.prog 72 #[.slice (some ⟨gp, off, none⟩) L.length cap] w fun e w' =>
      ∃ v, e = .returned v ∧ w'.ownsRow w.heap.size 50 1 v (cat L).length (hv (cat L)) ∧ Below w.heap.size w w' := by
  have H := Lib.hid h
  obtain ⟨m, hm⟩ : ∃ m, m = L.length := ⟨_, rfl⟩
  obtain ⟨ti, hi, hz0, hz1, hz2⟩ : ∃ ti, Tryz.prog.info? 50 = some ti ∧ ti.zero = some (.int .u16 0) ∧ ti.size = 1 ∧ ti.bytes = 2 := ⟨_, rfl, rfl, rfl, rfl⟩
  have HM := Lib.hid hm
  have HI := Lib.hid hi
  have HZ0 := Lib.hid hz0
  have HZ1 := Lib.hid hz1
  have HZ2 := Lib.hid hz2
  have hmn : m ≤ 1099511627776 := by omega
  rw [← hm]
  clear hi hz0 hz1 hz2 h
  have HLm := Lib.hid hL
  have HN := Lib.hid hn
  clear hm hL hn
  go_enter Tryz.func72, Tryz.ntmps72
  go_wp2
  go_loop [3, 11] (fun vs vi => ∃ k s : Nat, vi = .int .i64 k ∧ vs = .int .i64 s ∧ k ≤ m ∧ Hid (s = (cat (L.take k)).length)) (fun _ vi => m - (intOf vi).toNat)
  case atStart => exact ⟨0, 0, rfl, rfl, Nat.zero_le _, Lib.hid rfl⟩
  case round =>
    obtain ⟨k, s, rfl, rfl, hk, hs⟩ := hrel
    by_cases hlt : k < m
    · have hkL : k < L.length := by rw [← HM.out]; exact hlt
      obtain ⟨q, hq⟩ : ∃ q : Nat, q = (L[k]).2.2.length := ⟨_, rfl⟩
      obtain ⟨A, hA⟩ : ∃ A, A = (L[k]).1 := ⟨_, rfl⟩
      obtain ⟨c, hc⟩ : ∃ c, c = (L[k]).2.1 := ⟨_, rfl⟩
      have hcell : w.cell? ⟨gp, off + k, none⟩ = some (.slice A q c) := by rw [hq, hA, hc]; exact (H.out k hkL).1
      have hsum : Hid (s + q = (cat (L.take (k + 1))).length) := Lib.hid (by rw [hs.out, cat_snoc hkL, List.length_append, hq])
      have hb : s + q ≤ 1099511627776 := by rw [hsum.out]; exact Nat.le_trans cat_le HN.out
      clear hq hA hc
      go_wp2
      go_round
      case rel => exact ⟨k + 1, s + q, by go_num, by go_num, by omega, hsum⟩
      case measure => simp [intOf]; omega
    · have hsn : s ≤ 1099511627776 := by rw [hs.out]; exact Nat.le_trans cat_le HN.out
      go_wp2_with (go_at_call 88; (with_reducible refine (grow_nil w s hsn).mono ?_); rintro e w1 ⟨v, rfl, h1, h2⟩; replace h1 := Lib.hid h1; replace h2 := Lib.hid h2)
      go_loopw [6, 27] (fun vn vi wr => ∃ (k : Nat), vi = .int .i64 k ∧ k ≤ m ∧ Hid (wr.ownsRow w.heap.size 50 1 vn (cat (L.take k)).length (hv (cat (L.take k)))) ∧ Hid (Below w.heap.size w wr)) (fun _ vi _ => m - (intOf vi).toNat)
      case atStart => exact ⟨0, rfl, Nat.zero_le _, h1, h2⟩
      case round =>
        obtain ⟨j, rfl, hj, ho, hbl⟩ := hrel
        obtain ⟨vn, hvn⟩ : ∃ vn, vn = u6 := ⟨_, rfl⟩
        subst hvn
        by_cases hlt : j < m
        · have hjL : j < L.length := by rw [← HM.out]; exact hlt
          obtain ⟨xs, hxs⟩ : ∃ xs, xs = (L[j]).2.2 := ⟨_, rfl⟩
          obtain ⟨q, hq⟩ : ∃ q : Nat, q = xs.length := ⟨_, rfl⟩
          obtain ⟨A, hA⟩ : ∃ A, A = (L[j]).1 := ⟨_, rfl⟩
          obtain ⟨c, hc⟩ : ∃ c, c = (L[j]).2.1 := ⟨_, rfl⟩
          have hcell : wr.cell? ⟨gp, off + j, none⟩ = some (.slice A q c) := by
            rw [hbl.out.cell (p := ⟨gp, off + j, none⟩) hg, hq, hxs, hA, hc]; exact (H.out j hjL).1
          have hrd : Hid (Reads wr B 1 A q (hv xs)) := Lib.hid (by
            have := Rh.reads ((H.out j hjL).2.below hbl.out hB)
            rw [← hxs, ← hA, ← hq] at this; exact this)
          have hcat : Hid (cat (L.take (j + 1)) = cat (L.take j) ++ xs) := Lib.hid (by rw [cat_snoc hjL, hxs])
          obtain ⟨s1, hs1⟩ : ∃ s1, s1 = (cat (L.take j)).length := ⟨_, rfl⟩
          have hb : s1 + q ≤ 1099511627776 := by
            have e : (cat (L.take (j + 1))).length = s1 + q := by rw [hcat.out, List.length_append, hs1, hq]
            rw [← e]; exact Nat.le_trans cat_le HN.out
          have ho' : Hid (wr.ownsRow w.heap.size 50 1 vn s1 (hv (cat (L.take j)))) := Lib.hid (by rw [hs1]; exact ho.out)
          have HQ : Hid (s1 + q = (cat (L.take (j + 1))).length ∧ hv (cat (L.take j)) ++ hv xs = hv (cat (L.take (j + 1)))) := Lib.hid ⟨by rw [hcat.out, List.length_append, hs1, hq], by rw [hcat.out]; simp⟩
          have hws : w.heap.size ≤ wr.heap.size := hbl.out.size
          clear hxs hq hA hc hs1
          go_wp2_with (at_builtin; refine wpList_append_any _ rfl (.tmp 31) (.tmp 32) 84 rfl w.heap.size 50 ti (.int .u16 0) 1 2 Tryz.underlying84 HI.out HZ0.out HZ1.out HZ2.out rfl (by decide) vn s1 (hv (cat (L.take j))) rfl ho'.out B A q c (hv xs) rfl hrd.out (hv_one xs) (by unfold maxLen; omega) (by omega) hws ?_; intro v' w' g1 g2 g3; replace g1 := Lib.hid g1; replace g2 := Lib.hid g2; replace g3 := Lib.hid g3)
          go_roundw
          case rel => exact ⟨j + 1, by go_num, by omega, Lib.hid (by rw [← HQ.out.1, ← HQ.out.2]; exact g1.out), Lib.hid (hbl.out.grown g2.out hws (fun g hg => (ho'.out.lt g hg).1))⟩
          case measure => simp [intOf]; omega
        · have hjm : j = m := by omega
          have hfin : Hid (cat (L.take j) = cat L) := Lib.hid (by rw [hjm, HM.out, List.take_length])
          clear hjm
          go_wp2
          go_ret
          refine ⟨_, rfl, ?_, hbl.out⟩
          have := ho.out
          rw [hfin.out] at this
          exact this
end Go.Proofs.YtlinoambdlkfjaaGreat.A
