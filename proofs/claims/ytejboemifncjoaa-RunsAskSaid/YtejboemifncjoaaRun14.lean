
/- runs.Add and runs.Drop; the texts walked. -/
import Derived.Test.YtejboemifncjoaaRun13
namespace Go.Proofs.Ytejboemifncjoaa
open Go.RowKit
set_option maxHeartbeats 8000000 in
set_option maxRecDepth 100000 in
theorem r_add (w : World) (B n c B' n' c' : Nat) (A A' : Option Addr) (rs : List (Int × Int)) (xs : List Int) (hn : n = rs.length) (hr : Rq w B A rs) (hB : B ≤ w.heap.size) (hg : Rn.Ok rs) (hn' : n' = xs.length) (hr' : Rh w B' A' xs) (hB' : B' ≤ w.heap.size) (hx : ∀ y ∈ xs, 0 ≤ y ∧ y ≤ 65535) (few : n' ≤ 500000) :
    Calls Try.prog 28 #[.slice A n c, .slice A' n' c'] w (ResP w fun x => Rn.V rs x ∨ x ∈ xs) := by
  have hnl : n ≤ 65536 := by rw [hn]; exact ok_len hg
  have HO := Lib.hid (r_of w B' n' c' A' xs hn' hr' hB' hx (by omega))
  have HN := Lib.hid hn
  have HR := Lib.hid hr
  have HB := Lib.hid hB
  have HG := Lib.hid hg
  clear hn hr hB hg hn' hr' hB' hx
  go_enter Try.func28, Try.ntmps28
  go_wp2_with (first
    | (go_at_call 21; (with_reducible refine HO.out.mono ?_); rintro e w1 ⟨val, qs, rfl, q1, q2, q3, q4, q5⟩
       obtain ⟨Aq, cq, hvq, rq, _⟩ := Rq.of_own q4
       subst hvq
       obtain ⟨nq, hnq⟩ : ∃ nq, qs.length = nq := ⟨_, rfl⟩
       rw [hnq]
       have hnq2 : nq ≤ 65536 := by rw [← hnq]; exact ok_len q1
       have HQ1 := Lib.hid q1
       have HQ2 := Lib.hid q2
       have HQ5 := Lib.hid q5
       have HC := Lib.hid (cat_two w1 w1.heap.size n c nq cq A Aq rs qs HN.out hnq.symm ((HR.out.below q5 HB.out).more (Nat.le_trans HB.out q5.size)) rq (Nat.le_refl _) (by omega) (by omega))
       have HNQ := Lib.hid hnq
       clear q1 q2 q3 q4 q5 rq hnq HO)
    | (go_at_call 40; (with_reducible refine HC.out.mono ?_); rintro e w2 ⟨v2, rfl, h1, h2⟩
       have HJ := Lib.hid (joined_any w2 w1.heap.size (rs ++ qs).length v2 (rs ++ qs) h1 rfl (fun r hr => (List.mem_append.1 hr).elim (HG.out.1 r) (HQ1.out.1 r)) h2.size (by rw [List.length_append, ← HN.out, HNQ.out]; omega))
       have H2 := Lib.hid h2
       clear h1 h2 HC)
    | (go_at_call 38; (with_reducible refine HJ.out.mono ?_); rintro e w3 ⟨v3, ps, rfl, j1, j2, _, j4, j5⟩; replace j1 := Lib.hid j1; replace j2 := Lib.hid j2; replace j4 := Lib.hid j4; replace j5 := Lib.hid j5))
  go_ret
  refine ⟨v3, ps, rfl, j1.out, fun x => ?_, own_low j4.out HQ5.out.size, HQ5.out.trans ((H2.out.mono HQ5.out.size).trans (j5.out.mono HQ5.out.size))⟩
  rw [j2.out x, Rn.V_append, HQ2.out x]
set_option maxHeartbeats 8000000 in
set_option maxRecDepth 100000 in
theorem r_drop (w : World) (B n c B' n' c' : Nat) (A A' : Option Addr) (rs : List (Int × Int)) (xs : List Int) (hn : n = rs.length) (hr : Rq w B A rs) (hB : B ≤ w.heap.size) (hg : Rn.Ok rs) (hn' : n' = xs.length) (hr' : Rh w B' A' xs) (hB' : B' ≤ w.heap.size) (hx : ∀ y ∈ xs, 0 ≤ y ∧ y ≤ 65535) (few : n' ≤ 500000) :
    Calls Try.prog 31 #[.slice A n c, .slice A' n' c'] w (ResP w fun x => Rn.V rs x ∧ ¬ x ∈ xs) := by
  have hnl : n ≤ 65536 := by rw [hn]; exact ok_len hg
  have HO := Lib.hid (r_gaps w B n c A rs hn hr hB hg (by omega))
  have HR := Lib.hid hr'
  have HB := Lib.hid hB'
  have HX := Lib.hid hx
  have HN := Lib.hid hn'
  have HG := Lib.hid hg
  clear hn hr hB hg hn' hr' hB' hx
  go_enter Try.func31, Try.ntmps31
  go_wp2_with (first
    | (go_at_call 42; (with_reducible refine HO.out.mono ?_); rintro e w1 ⟨val, qs, rfl, q1, q2, q3, q4, q5⟩
       obtain ⟨Aq, cq, hvq, rq, _⟩ := Rq.of_own q4
       subst hvq
       have HQ2 := Lib.hid q2
       have HQ5 := Lib.hid q5
       have HA := Lib.hid (r_add w1 w1.heap.size qs.length cq B' n' c' Aq A' qs xs rfl rq (Nat.le_refl _) q1 HN.out (HR.out.below q5 HB.out) (Nat.le_trans HB.out q5.size) HX.out few)
       obtain ⟨nq, hnq⟩ : ∃ nq, qs.length = nq := ⟨_, rfl⟩
       rw [hnq] at HA
       rw [hnq]
       clear q1 q2 q3 q4 q5 rq hnq HO)
    | (go_at_call 28; (with_reducible refine HA.out.mono ?_); rintro e w2 ⟨v2, ps, rfl, h1, h2, h3, h4⟩
       obtain ⟨Ap, cp, hvp, rp, _⟩ := Rq.of_own h3
       subst hvp
       have HP2 := Lib.hid h2
       have HP4 := Lib.hid h4
       have HO2 := Lib.hid (r_gaps w2 w2.heap.size ps.length cp Ap ps rfl rp (Nat.le_refl _) h1 (Nat.le_trans (ok_len h1) (by omega)))
       obtain ⟨np, hnp⟩ : ∃ np, ps.length = np := ⟨_, rfl⟩
       rw [hnp] at HO2
       rw [hnp]
       clear h1 h2 h3 h4 rp hnp HA)
    | (go_at_call 42; (with_reducible refine HO2.out.mono ?_); rintro e w3 ⟨v3, os, rfl, o1, o2, o3, o4, o5⟩; replace o1 := Lib.hid o1; replace o2 := Lib.hid o2; replace o4 := Lib.hid o4; replace o5 := Lib.hid o5))
  go_ret
  refine ⟨v3, os, rfl, o1.out, fun x => ?_, own_low o4.out (Nat.le_trans HQ5.out.size HP4.out.size), HQ5.out.trans ((HP4.out.mono HQ5.out.size).trans (o5.out.mono (Nat.le_trans HQ5.out.size HP4.out.size)))⟩
  have hx := HX.out
  have hr := fun h => Rn.V_range HG.out (x := x) h
  rw [o2.out x, HP2.out x, HQ2.out x]
  constructor
  · rintro ⟨a, b, c⟩
    refine ⟨Classical.byContradiction fun h => c (.inl ⟨a, b, h⟩), fun h => c (.inr h)⟩
  · rintro ⟨a, b⟩
    have := hr a
    refine ⟨this.1, this.2, ?_⟩
    rintro (h | h)
    · exact h.2.2 a
    · exact b h
end Go.Proofs.Ytejboemifncjoaa
