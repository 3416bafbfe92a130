
/- runs.gaps: the runs of all other numbers; the text walked. -/
import Derived.Test.YtejboemifncjoaaRun9
namespace Go.Proofs.Ytejboemifncjoaa
open Go.RowKit
theorem u16_in {x : Int} (h0 : 0 ≤ x) (h : x ≤ 65535) : IntKind.u16.wrap x = x := by
  simp [IntKind.wrap, IntKind.signed, IntKind.bits]
  omega
theorem own_more {w : World} {base n : Nat} {v : Value} {gs : List (Int × Int)} {a b : Int} (hn : n = gs.length) (h : w.ownsRow base 46 2 v (n + 1) (rv gs ++ [.int .u16 a, .int .u16 b])) : w.ownsRow base 46 2 v (gs ++ [(a, b)]).length (rv (gs ++ [(a, b)])) := by
  subst hn
  rw [rv_append, List.length_append]
  exact h
theorem own_slice {w : World} {base n : Nat} {v : Value} {xs : List Value} (h : w.ownsRow base 46 2 v n xs) : ∃ A c, v = .slice A n c := by
  rcases h.2 with ⟨h1, h0⟩ | ⟨g, cap, cur, h1, _⟩
  · exact ⟨none, 0, by rw [h1, h0]⟩
  · exact ⟨_, cap, h1⟩
theorem box_kept {wr wn : World} {base n : Nat} {e T : TypeId} {v f t : Value} {xs : List Value} {o' : Obj} (h : wr.ownsRow base e 2 v n xs) (hg : ((wr.alloc (.cells #[f, t] T)).alloc o').grownBy wn v.ownBlock) : wn.cell? ⟨wr.heap.size, 0, none⟩ = some f ∧ wn.cell? ⟨wr.heap.size, 1, none⟩ = some t := by
  have h1 : ((wr.alloc (.cells #[f, t] T)).alloc o').heap[wr.heap.size]? = some (.cells #[f, t] T (0, 0)) := by
    have a := alloc_topI wr (.cells #[f, t] T)
    have b := (Below.refl (wr.alloc (.cells #[f, t] T)).heap.size (wr.alloc (.cells #[f, t] T))).alloc (Nat.le_refl _) o'
    exact (b.block wr.heap.size (by simp)).trans a
  have h2 : wn.heap[wr.heap.size]? = some (.cells #[f, t] T (0, 0)) := (hg.block wr.heap.size (by simp; omega) (fun he => by
    have := (h.lt _ he.symm).2
    omega)).trans h1
  exact ⟨by rw [cell_of_row _ _ 0 _ _ (0, 0) h2]; rfl, by rw [cell_of_row _ _ 1 _ _ (0, 0) h2]; rfl⟩
set_option maxHeartbeats 8000000 in
set_option maxRecDepth 100000 in
theorem r_gaps (w : World) (B n c : Nat) (A : Option Addr) (rs : List (Int × Int)) (hn : n = rs.length) (hr : Rq w B A rs) (hB : B ≤ w.heap.size) (hg : Rn.Ok rs) (few : n ≤ 1000000) :
    Calls Try.prog 42 #[.slice A n c] w (OfP w (n + 1) fun x => 0 ≤ x ∧ x ≤ 65535 ∧ ¬ Rn.V rs x) := by
  obtain ⟨i0, hi, hz0, hz1, hz2⟩ : ∃ ti, Try.prog.info? 46 = some ti ∧ ti.zero = some (.agg #[.int .u16 0, .int .u16 0]) ∧ ti.size = 2 ∧ ti.bytes = 4 := ⟨_, rfl, rfl, rfl, rfl⟩
  have HR := Lib.hid hr
  have HN := Lib.hid hn
  have HG := Lib.hid hg
  clear hr hn hg
  go_enter Try.func42, Try.ntmps42
  go_wp2
  go_loopw [3, 4, 9] (fun vr vf vi wr => ∃ (k : Nat) (gs : List (Int × Int)) (fr : Int), k ≤ n ∧ vi = .int .i64 k ∧ vf = .int .i64 fr ∧ Hid (wr.ownsRow w.heap.size 46 2 vr gs.length (rv gs)) ∧ Hid (Rn.Gaps rs gs k fr) ∧ gs.length ≤ k ∧ Hid (Below w.heap.size w wr)) (fun _ _ vi _ => n - (intOf vi).toNat)
  case atStart => exact ⟨0, [], 0, Nat.zero_le _, rfl, rfl, Lib.hid ⟨rfl, .inl ⟨rfl, rfl⟩⟩, Lib.hid (Rn.Gaps.start HG.out), Nat.le_refl _, Lib.hid (Below.refl _ _)⟩
  case round =>
    obtain ⟨k, gs, fr, hk, rfl, rfl, HO, HGA, hgl, HW⟩ := hrel
    obtain ⟨vr, hvr⟩ : ∃ v, v = u3 := ⟨_, rfl⟩
    subst hvr
    obtain ⟨A', cA, rfl⟩ := own_slice HO.out
    have hfr0 := HGA.out.low
    have hfr1 := HGA.out.top
    obtain ⟨m, hm⟩ : ∃ m, gs.length = m := ⟨_, rfl⟩
    rw [hm]
    rw [hm] at HO hgl
    have HM := Lib.hid hm
    clear hm
    by_cases hlt : k < n
    · have hkx : k < rs.length := by rw [← HN.out]; exact hlt
      obtain ⟨b, off, rfl, _, c1, c2⟩ := (HR.out.below HW.out hB).at hkx
      have hgd := HG.out.1 _ (List.getElem_mem hkx)
      unfold Rn.Good at hgd
      have HST := Lib.hid (HGA.out.step HG.out hkx)
      obtain ⟨x, hx⟩ : ∃ x, x = rs[k] := ⟨_, rfl⟩
      rw [← hx] at c1 c2 hgd HST
      clear hx HGA
      obtain ⟨f, t⟩ := x
      simp only at c1 c2 hgd HST
      have w1 : IntKind.i64.wrap f = f := IntWalk.i64_in _ (by omega)
      have w2 : IntKind.i64.wrap t = t := IntWalk.i64_in _ (by omega)
      have w3 : IntKind.i64.wrap (t + 1) = t + 1 := IntWalk.i64_in _ (by omega)
      by_cases hff : fr < f
      · have w4 : IntKind.u16.wrap fr = fr := u16_in hfr0 (by omega)
        have w5 : IntKind.u16.wrap (f - 1) = f - 1 := u16_in (by omega) (by omega)
        rw [if_pos hff] at HST
        have HOW := Lib.hid ((HO.out.alloc (.cells #[.int .u16 f, .int .u16 t] 46)).alloc (.cells #[.int .u16 fr, .int .u16 (f - 1)] 46))
        go_wp2_with (at_builtin; refine wpList_append_own _ rfl _ _ 24 rfl w.heap.size 46 i0 (.agg #[.int .u16 0, .int .u16 0]) 2 4 Try.underlying24 hi hz0 hz1 hz2 rfl (by decide) _ _ _ rfl HOW.out ⟨_, 0, none⟩ 1 1 [.int .u16 fr, .int .u16 (f - 1)] rfl rfl ?e1 ?e2 ?e3 ?e4 ?e5 ?_)
        case e1 => exact news2' _ _ (by simp) _ _ _
        case e2 => exact fun u hu => int_one hu
        case e3 => unfold maxLen; omega
        case e4 => omega
        case e5 => have := HW.out.size; simp; omega
        intro v' wn hown' hgrow _
        have HON := Lib.hid (own_more HM.out.symm hown')
        have HWN : Hid (Below w.heap.size w wn) := Lib.hid (Below.grown (show Below w.heap.size w _ from (HW.out.alloc HW.out.size _).alloc (by have := HW.out.size; simp; omega) _) hgrow (by have := HW.out.size; simp; omega) (fun g hg => (HOW.out.lt g hg).1))
        obtain ⟨bx0, bx1⟩ := box_kept HO.out hgrow
        clear hown' hgrow HOW HO
        go_wp2
        go_roundw
        case rel => exact ⟨k + 1, gs ++ [(fr, f - 1)], t + 1, by omega, by go_num, rfl, HON, HST, by rw [List.length_append, HM.out]; simp; omega, HWN⟩
        case measure => simp [intOf]; omega
      · rw [if_neg hff] at HST
        go_wp2
        go_roundw
        case rel => exact ⟨k + 1, gs, t + 1, by omega, by go_num, rfl, Lib.hid (by rw [HM.out]; exact HO.out.alloc _), HST, by rw [HM.out]; omega, Lib.hid (HW.out.alloc HW.out.size _)⟩
        case measure => simp [intOf]; omega
    · have HST := Lib.hid (HGA.out.stop (by rw [← HN.out]; omega))
      by_cases hff : fr ≤ 65535
      · have w4 : IntKind.u16.wrap fr = fr := u16_in hfr0 hff
        rw [if_pos hff] at HST
        have HOW := Lib.hid (HO.out.alloc (.cells #[.int .u16 fr, .int .u16 65535] 46))
        go_wp2_with (at_builtin; refine wpList_append_own _ rfl _ _ 24 rfl w.heap.size 46 i0 (.agg #[.int .u16 0, .int .u16 0]) 2 4 Try.underlying24 hi hz0 hz1 hz2 rfl (by decide) _ _ _ rfl HOW.out ⟨_, 0, none⟩ 1 1 [.int .u16 fr, .int .u16 65535] rfl rfl ?f1 ?f2 ?f3 ?f4 ?f5 ?_)
        case f1 => exact news2' _ _ (by simp) _ _ _
        case f2 => exact fun u hu => int_one hu
        case f3 => unfold maxLen; omega
        case f4 => omega
        case f5 => have := HW.out.size; simp; omega
        intro v' wn hown' hgrow _
        have HON := Lib.hid (own_more HM.out.symm hown')
        have HWN : Hid (Below w.heap.size w wn) := Lib.hid (Below.grown (show Below w.heap.size w _ from HW.out.alloc HW.out.size _) hgrow (by have := HW.out.size; simp; omega) (fun g hg => (HOW.out.lt g hg).1))
        clear hown' hgrow HOW HO
        go_wp2
        go_ret
        exact ⟨v', gs ++ [(fr, 65535)], rfl, HST.out.1, HST.out.2, by rw [List.length_append, HM.out]; simp; omega, HON.out, HWN.out⟩
      · rw [if_neg hff] at HST
        go_wp2
        go_ret
        exact ⟨_, gs, rfl, HST.out.1, HST.out.2, by rw [HM.out]; omega, by rw [HM.out]; exact HO.out, HW.out⟩
end Go.Proofs.Ytejboemifncjoaa
