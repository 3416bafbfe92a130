
/- runs.Fill; the text walked. -/
import Derived.Test.YtejboemifncjoaaRun11
namespace Go.Proofs.Ytejboemifncjoaa
open Go.RowKit
theorem rq_one (w : World) (a b : Int) : Rq (w.alloc (.cells #[.int .u16 a, .int .u16 b] 46)) (w.heap.size + 1) (some ⟨w.heap.size, 0, none⟩) [(a, b)] := fun _ => by
  have h := alloc_topI w (.cells #[.int .u16 a, .int .u16 b] 46)
  refine ⟨w.heap.size, 0, rfl, by omega, fun k hk => ?_⟩
  have hk0 : k = 0 := by simp at hk; exact hk
  subst hk0
  exact ⟨by rw [cell_of_row _ _ _ _ _ (0, 0) h]; rfl, by rw [cell_of_row _ _ _ _ _ (0, 0) h]; rfl⟩
theorem take_mem {ws : List (Int × Int)} {k : Nat} (hk : k < ws.length) (r : Int × Int) : r ∈ ws.take (k + 1) ↔ r ∈ ws.take k ∨ r = ws[k] := by
  rw [List.take_succ_eq_append_getElem hk, List.mem_append, List.mem_singleton]
set_option maxHeartbeats 8000000 in
set_option maxRecDepth 100000 in
theorem r_fill (w : World) (B n c : Nat) (A : Option Addr) (rs : List (Int × Int)) (f t : Int) (hn : n = rs.length) (hr : Rq w B A rs) (hB : B ≤ w.heap.size) (hg : Rn.Ok rs) (hc : n ≤ c) (hf : 0 ≤ f ∧ f ≤ 65535) (ht : 0 ≤ t ∧ t ≤ 65535) :
    Calls Try.prog 25 #[.slice A n c, .int .u16 f, .int .u16 t] w (ResP w fun x => Rn.V rs x ∨ (f ≤ x ∧ x ≤ t)) := by
  have few : n ≤ 1000000 := by rw [hn]; exact Nat.le_trans (ok_len hg) (by omega)
  by_cases hft : t < f
  · have HC := Lib.hid (r_clone w B n c A rs hn hr hB few)
    have HX := Lib.hid hft
    have HN := Lib.hid hn
    have HG := Lib.hid hg
    clear hn hr hB hg hc few
    go_enter Try.func25, Try.ntmps25
    go_wp2_with (go_at_call 39; (with_reducible refine HC.out.mono ?_); rintro e w2 ⟨v, rfl, h1, h2⟩; replace h1 := Lib.hid h1; replace h2 := Lib.hid h2)
    go_ret
    exact ⟨v, rs, rfl, HG.out, fun x => ⟨.inl, fun h => h.elim id (fun h => by have := HX.out; omega)⟩, by rw [← HN.out]; exact h1.out, h2.out⟩
  · have w1 : IntKind.i64.wrap f = f := IntWalk.i64_in _ (by omega)
    have w2' : IntKind.i64.wrap t = t := IntWalk.i64_in _ (by omega)
    have w3 : IntKind.i64.wrap (f - 1) = f - 1 := IntWalk.i64_in _ (by omega)
    have w4 : IntKind.i64.wrap (t + 1) = t + 1 := IntWalk.i64_in _ (by omega)
    have HP := Lib.hid (r_parts w B n c A rs (f - 1) (t + 1) hn hr hB hg hc few)
    have HN := Lib.hid hn
    have HR := Lib.hid hr
    have HB := Lib.hid hB
    have HG := Lib.hid hg
    clear hn hr hB hg
    go_enter Try.func25, Try.ntmps25
    go_wp2_with (go_at_call 36; (with_reducible refine HP.out.mono ?_); rintro e w2 ⟨i, j, A2, c2, A3, c3, rfl, hPP⟩; replace hPP := Lib.hid hPP)
    have hij := hPP.out.ij
    have hjn := hPP.out.jn
    have SP := Lib.hid (split3 (rs := rs) hij)
    have HWL : Hid (((rs.take j).drop i).length = j - i) := Lib.hid (by rw [List.length_drop, List.length_take]; have := HN.out; omega)
    have R2 := Lib.hid hPP.out.r2
    have P2 := Lib.hid hPP.out.p2
    obtain ⟨ws, hws⟩ : ∃ ws, ws = (rs.take j).drop i := ⟨_, rfl⟩
    rw [← hws] at HWL R2 P2 SP
    have HWS := Lib.hid hws
    clear hws
    obtain ⟨q, hq⟩ : ∃ q, j - i = q := ⟨_, rfl⟩
    rw [hq] at HWL
    rw [hq]
    have hq6 : q ≤ 1000000 := by omega
    clear hq HP
    go_loopw [1, 2, 31] (fun vf vt vi wr => ∃ (k : Nat) (f' t' : Int), k ≤ q ∧ vi = .int .i64 k ∧ vf = .int .u16 f' ∧ vt = .int .u16 t' ∧ Hid (f' ≤ f ∧ (∀ r, r ∈ ws.take k → f' ≤ r.1) ∧ (f' = f ∨ ∃ r, r ∈ ws.take k ∧ f' = r.1)) ∧ Hid (t ≤ t' ∧ (∀ r, r ∈ ws.take k → r.2 ≤ t') ∧ (t' = t ∨ ∃ r, r ∈ ws.take k ∧ t' = r.2)) ∧ Hid (Below w2.heap.size w2 wr)) (fun _ _ vi _ => q - (intOf vi).toNat)
    case atStart => exact ⟨0, f, t, Nat.zero_le _, rfl, rfl, rfl, Lib.hid ⟨Int.le_refl _, fun r h => absurd h (by simp), .inl rfl⟩, Lib.hid ⟨Int.le_refl _, fun r h => absurd h (by simp), .inl rfl⟩, Lib.hid (Below.refl _ _)⟩
    case round =>
      obtain ⟨k, f', t', hk, rfl, rfl, rfl, HF, HT, HW⟩ := hrel
      by_cases hlt : k < q
      · have hkw : k < ws.length := by rw [HWL.out]; exact hlt
        obtain ⟨b, off, hA, _, c1, c2'⟩ := (R2.out.below HW.out (Nat.le_trans HB.out hPP.out.low.size)).at hkw
        subst hA
        have TM := Lib.hid (take_mem hkw)
        obtain ⟨x, hx⟩ : ∃ x, x = ws[k] := ⟨_, rfl⟩
        rw [← hx] at c1 c2' TM
        clear hx
        obtain ⟨a, b'⟩ := x
        simp only at c1 c2'
        have ha := alloc_topI wr (.cells #[.int .u16 a, .int .u16 b'] 46)
        have hS0 : (wr.alloc (.cells #[.int .u16 a, .int .u16 b'] 46)).cell? ⟨wr.heap.size, 0, none⟩ = some (.int .u16 a) ∧ (wr.alloc (.cells #[.int .u16 a, .int .u16 b'] 46)).cell? ⟨wr.heap.size, 1, none⟩ = some (.int .u16 b') := ⟨by rw [cell_of_row _ _ 0 _ _ (0, 0) ha]; rfl, by rw [cell_of_row _ _ 1 _ _ (0, 0) ha]; rfl⟩
        have HWA := Lib.hid (HW.out.alloc HW.out.size (.cells #[.int .u16 a, .int .u16 b'] 46))
        clear ha
        go_wp2
        go_region_held3 (fun (V : World) => V.cell? ⟨wr.heap.size, 0, none⟩ = some (.int .u16 a) ∧ V.cell? ⟨wr.heap.size, 1, none⟩ = some (.int .u16 b')) (first | exact hS0) (fail)
        all_goals
          go_wp2
          go_roundw
          case rel => exact ⟨k + 1, min f' a, max t' b', by omega, by go_num, rfl, rfl, Lib.hid (by
              obtain ⟨h1, h2, h3⟩ := HF.out
              refine ⟨by omega, fun r hr => ?_, ?_⟩
              · rcases (TM.out r).1 hr with e | e
                · have := h2 r e; omega
                · subst e; show min f' a ≤ a; omega
              · rcases Int.lt_or_le a f' with e | e
                · exact .inr ⟨(a, b'), (TM.out _).2 (.inr rfl), by show min f' a = a; omega⟩
                · have em : min f' a = f' := by omega
                  rw [em]
                  exact h3.imp id (fun ⟨r, hr, e⟩ => ⟨r, (TM.out r).2 (.inl hr), e⟩)), Lib.hid (by
              obtain ⟨h1, h2, h3⟩ := HT.out
              refine ⟨by omega, fun r hr => ?_, ?_⟩
              · rcases (TM.out r).1 hr with e | e
                · have := h2 r e; omega
                · subst e; show b' ≤ max t' b'; omega
              · rcases Int.lt_or_le t' b' with e | e
                · exact .inr ⟨(a, b'), (TM.out _).2 (.inr rfl), by show max t' b' = b'; omega⟩
                · have em : max t' b' = t' := by omega
                  rw [em]
                  exact h3.imp id (fun ⟨r, hr, e⟩ => ⟨r, (TM.out r).2 (.inl hr), e⟩)), Lib.hid (by first | exact HWA.out | exact below_drewN HWA.out _ | exact below_drewN (below_drewN HWA.out _) _)⟩
          case measure => simp [intOf]; omega
      · have hkq : ws.take k = ws := List.take_of_length_le (by rw [HWL.out]; omega)
        rw [hkq] at HF HT
        clear hkq
        have z1 : (wr.alloc (.cells #[.int .u16 f', .int .u16 t'] 46)).heap.size = wr.heap.size + 1 := by simp
        have b1 := (Below.refl wr.heap.size wr).alloc (Nat.le_refl _) (.cells #[.int .u16 f', .int .u16 t'] 46)
        have hlw : Below w2.heap.size w2 (wr.alloc (.cells #[.int .u16 f', .int .u16 t'] 46)) := HW.out.alloc HW.out.size _
        have hBs : B ≤ w2.heap.size := Nat.le_trans HB.out hPP.out.low.size
        have hBw : B ≤ wr.heap.size := Nat.le_trans hBs HW.out.size
        have h3 := cat_three (wr.alloc (.cells #[.int .u16 f', .int .u16 t'] 46)) (wr.heap.size + 1) i c 1 1 (n - j) c3 A (some ⟨wr.heap.size, 0, none⟩) A3 (rs.take i) [(f', t')] (rs.drop j)
          (by rw [List.length_take]; have := HN.out; omega) rfl (by rw [List.length_drop, HN.out])
          ((rq_take (((HR.out.below hPP.out.low HB.out).below hlw hBs))).more (by omega)) (rq_one wr f' t') ((hPP.out.r3.below hlw hBs).more (by omega)) (by rw [z1]; exact Nat.le_refl _) (by omega) (by omega) (by omega)
        rw [z1] at h3
        have HC := Lib.hid h3
        have HBA := Lib.hid hlw
        have FO := Lib.hid (Rn.fill_ok (aa := rs.take i) (ws := ws) (bs := rs.drop j) (f := f) (t := t) (f' := f') (t' := t') (by rw [SP.out]; exact HG.out) hf.1 (by omega) ht.2 hPP.out.p1 hPP.out.p3 P2.out HF.out HT.out)
        have HZ := Lib.hid z1
        clear h3 hlw b1 z1 HF HT hBs hBw
        go_wp2_with (go_at_call 40; (with_reducible refine HC.out.mono ?_); rintro e w5 ⟨v, rfl, h1, h2⟩; replace h1 := Lib.hid h1; replace h2 := Lib.hid h2)
        go_ret
        have hlow := hPP.out.low.trans (HBA.out.mono hPP.out.low.size)
        exact ⟨v, _, rfl, FO.out.1, fun x => by rw [FO.out.2 x, SP.out], own_low h1.out (by have := hlow.size; rw [HZ.out] at this; exact this), hlow.trans (h2.out.mono (by have := hlow.size; rw [HZ.out] at this; exact this))⟩
end Go.Proofs.Ytejboemifncjoaa
