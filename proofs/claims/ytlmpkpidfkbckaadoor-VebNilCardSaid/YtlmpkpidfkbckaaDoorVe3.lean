
/- A key is put into a tree that has none, one, or it; the texts walked. -/
import Derived.Test.YtlmpkpidfkbckaaDoorVe2
namespace Go.Proofs.YtlmpkpidfkbckaaDoor
set_option maxRecDepth 40000
open Go.RowKit
section
variable {w w' : World} {P N G T cn cf tk b : Nat} {An Af : Option Addr} {ns : List (Nd × Bool)} {keys o0 : Int}
theorem v_alloc (k : Nat) (h : VS w P N G T An cn Af cf [] tk keys o0 b) : Calls Tryd.prog 63 #[.pointer (some ⟨N, 0, none⟩), nv0 k k] w fun e w' => e = .returned (.tuple #[.int .i64 0, .bool true]) ∧ ∃ An' cn' Af' cf', VS w' P N G T An' cn' Af' cf' [(nd0 k k, true)] tk keys o0 b ∧ Below b w w' := by
  obtain ⟨i, ns', fs', hi, _, h2, h3, h4, h5, hc⟩ := q_alloc w N G 4000 cn cf An Af [] [] h.q 0 0 k k (-1) (by decide)
  obtain ⟨rfl, rfl, hl⟩ := h5 rfl
  have e : ns' = [(nd0 k k, true)] := by
    match ns', hl, h2 with
    | [x], _, h2 => simp at h2; rw [h2]
  subst e
  exact hc.mono fun e w' ⟨he, hs⟩ => ⟨he, h.step hs⟩
theorem v_put (a k : Nat) (h : VS w P N G T An cn Af cf [(nd0 a a, true)] tk keys o0 b) : Calls Tryd.prog 40 #[.pointer (some ⟨N, 0, none⟩), .int .i64 0, nv0 a k] w fun e w' => e = .returned (.bool true) ∧ (∃ An' cn' Af' cf', VS w' P N G T An' cn' Af' cf' [(nd0 a k, true)] tk keys o0 b ∧ Below b w w') ∧ ∀ (g : Nat) (cs : Array Value), w.heap[g]? = some (.cells cs 66 (0, 0)) → w'.heap[g]? = some (.cells cs 66 (0, 0)) :=
  (q_put w N G 4000 cn cf An Af [(nd0 a a, true)] [] h.q 0 (Nat.lt_succ_self 0) rfl 0 0 a k (-1) (nd0 a k) rfl).mono fun e w' ⟨he, hs⟩ => ⟨he, h.step hs, fun g cs hg => by
    obtain ⟨_, _, _, _, _, hc, _⟩ := hs
    exact (hc.block g (row_lt hg) (qb_ne h.q hg (by decide) (by decide) (by decide))).trans hg⟩
theorem VS.over (h : VS w P N G T An cn Af cf ns tk keys o0 b) (x : Int) : VS (w.setCell ⟨P, 5, none⟩ (.int .i64 x)) P N G T An cn Af cf ns tk keys x b ∧ Below b w (w.setCell ⟨P, 5, none⟩ (.int .i64 x)) := by
  obtain ⟨cs, hg⟩ := h.mt
  have hc := chg_set w P 5 (.int .i64 x) (· = P) rfl
  have hv := row_set h.v 5 (.int .i64 x)
  exact ⟨⟨by simpa using hv, h.q.chg hc (fun j hj e => by have e2 : j = P := e; subst e2; exact qb_ne h.q h.v (by decide) (by decide) (by decide) hj), h.m.chg hc (fun e => row_ne h.v hg (by decide) e.symm), h.lo.1, h.lo.2.1, h.lo.2.2.1, by simpa [World.setCell] using h.lo.2.2.2⟩, hc.below h.lo.2.2.2 (fun j e => by have e2 : j = P := e; have := h.lo.1; omega)⟩
theorem VS.keyed (h : VS w P N G T An cn Af cf ns tk keys o0 b) (x : Int) : VS ((w.setCell ⟨P, 3, none⟩ (.int .i64 0)).setCell ⟨P, 4, none⟩ (.int .i64 x)) P N G T An cn Af cf ns tk x o0 b ∧ Below b w ((w.setCell ⟨P, 3, none⟩ (.int .i64 0)).setCell ⟨P, 4, none⟩ (.int .i64 x)) := by
  obtain ⟨cs, hg⟩ := h.mt
  have hc := (chg_set w P 3 (.int .i64 0) (· = P) rfl).same (chg_set _ P 4 (.int .i64 x) (· = P) rfl)
  have hv := row_set (row_set h.v 3 (.int .i64 0)) 4 (.int .i64 x)
  exact ⟨⟨by simpa using hv, h.q.chg hc (fun j hj e => by have e2 : j = P := e; subst e2; exact qb_ne h.q h.v (by decide) (by decide) (by decide) hj), h.m.chg hc (fun e => row_ne h.v hg (by decide) e.symm), h.lo.1, h.lo.2.1, h.lo.2.2.1, by simpa [World.setCell] using h.lo.2.2.2⟩, hc.below h.lo.2.2.2 (fun j e => by have e2 : j = P := e; have := h.lo.1; omega)⟩
set_option maxHeartbeats 4000000 in
theorem make_first (k : Nat) (h : VS w P N G T An cn Af cf [] tk keys 0 b) : Calls Tryd.prog 42 #[.pointer (some ⟨P, 0, none⟩), .int .i64 0, .int .u64 (k : Int)] w fun e w' => e = .returned (.int .i64 0) ∧ ∃ An' cn' Af' cf', VS w' P N G T An' cn' Af' cf' [(nd0 k k, true)] tk keys 1 b ∧ Below b w w' := by
  have hS1 : Hid (w.drew.cell? ⟨P, 1, none⟩ = some (.pointer (some ⟨N, 0, none⟩))) := Lib.hid (h.c 1)
  have HSI := fun W => Lib.hid (single_any W k)
  have H := Lib.hid h
  clear h
  go_enter Tryd.func42, Tryd.ntmps42
  go_wp2
  go_region_held3 (fun Y => Y.cell? ⟨P, 1, none⟩ = some (.pointer (some ⟨N, 0, none⟩))) (first | (with_reducible exact hS1.out) | (with_reducible exact hS2.out) | (with_reducible exact hS3.out) | go_keep) (first
    | (go_at_call 64; (with_reducible refine (HSI _).out.mono ?_); rintro e w1 ⟨rfl, hb1⟩
       have h1 := H.out.below (below_ud hb1)
       have hS2 : Hid (w1.cell? ⟨P, 1, none⟩ = some (.pointer (some ⟨N, 0, none⟩))) := Lib.hid (h1.c 1)
       have HAL := Lib.hid (v_alloc k h1)
       have B1 : Hid (Below b w w1) := Lib.hid ((below_ud hb1).mono H.out.lo.2.2.2)
       clear hb1 h1)
    | (go_at_call 63; (refine HAL.out.mono ?_); rintro e w2 ⟨rfl, An', cn', Af', cf', h2, hb2⟩
       have hS3 : Hid (w2.cell? ⟨P, 1, none⟩ = some (.pointer (some ⟨N, 0, none⟩))) := Lib.hid (h2.c 1)
       have c5 : w2.cell? ⟨P, 5, none⟩ = some (.int .i64 0) := h2.c 5
       have f5 := frozen_of_row w2 P 5 _ _ h2.v
       have H2 := Lib.hid h2
       have B2 := Lib.hid hb2
       clear h2 hb2))
  all_goals
    have e1 : IntKind.i64.wrap (0 + 1) = 1 := by decide
    go_wp2
    go_region
    all_goals
      go_wp2
      go_ret
      obtain ⟨h3, b3⟩ := H2.out.over 1
      have b2 := B2.out
      refine ⟨rfl, An', cn', Af', cf', h3.below (below_dr (Below.refl _ _) _), ?_⟩
      exact below_dr ((B1.out.trans b2).trans b3) _
end
end Go.Proofs.YtlmpkpidfkbckaaDoor
