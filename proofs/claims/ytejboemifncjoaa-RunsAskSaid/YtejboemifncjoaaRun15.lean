
/- runs.Is; the text walked. -/
import Derived.Test.YtejboemifncjoaaRun14
namespace Go.Proofs.Ytejboemifncjoaa
open Go.RowKit
/-- The k-th is a run, at least two above the one ahead. -/
def Gd (rs : List (Int × Int)) (k : Nat) (h : k < rs.length) : Prop := rs[k].1 ≤ rs[k].2 ∧ (0 < k → (rs[k - 1]'(by omega)).2 + 2 ≤ rs[k].1)
def GA (rs : List (Int × Int)) : Prop := ∀ k (h : k < rs.length), Gd rs k h
theorem ok_ga {rs : List (Int × Int)} (h : Rn.Ok rs) : GA rs := fun k hk =>
  ⟨(h.1 _ (List.getElem_mem hk)).2.1, fun h0 => List.pairwise_iff_getElem.1 h.2 (k - 1) k (by omega) hk (by omega)⟩
set_option maxHeartbeats 8000000 in
set_option maxRecDepth 100000 in
theorem r_is (w : World) (B n c : Nat) (A : Option Addr) (rs : List (Int × Int)) (hn : n = rs.length) (hr : Rq w B A rs) (hB : B ≤ w.heap.size) (hx : ∀ r ∈ rs, (0 ≤ r.1 ∧ r.1 ≤ 65535) ∧ 0 ≤ r.2 ∧ r.2 ≤ 65535) (few : n ≤ 1000000) (b : Bool) (hb : b = true ↔ GA rs) :
    Calls Try.prog 27 #[.slice A n c] w fun e w' => e = .returned (.bool b) ∧ Below w.heap.size w w' := by
  have HR := Lib.hid hr
  have HN := Lib.hid hn
  have HX := Lib.hid hx
  have HBB := Lib.hid hb
  clear hr hn hx hb
  go_enter Try.func27, Try.ntmps27
  go_wp2
  go_loopw [7] (fun vi wr => ∃ k : Nat, k ≤ n ∧ vi = .int .i64 k ∧ Hid (∀ i (h : i < rs.length), i < k → Gd rs i h) ∧ Hid (Below w.heap.size w wr)) (fun vi _ => n - (intOf vi).toNat)
  case atStart => exact ⟨0, Nat.zero_le _, rfl, Lib.hid (fun i _ h => absurd h (by omega)), Lib.hid (Below.refl _ _)⟩
  case round =>
    obtain ⟨k, hk, rfl, HGD, HW⟩ := hrel
    by_cases hlt : k < n
    · have hkx : k < rs.length := by rw [← HN.out]; exact hlt
      obtain ⟨bk, off, hA, hbB, c1, c2⟩ := (HR.out.below HW.out hB).at hkx
      subst hA
      have hxk := HX.out _ (List.getElem_mem hkx)
      have HNO : Hid (¬ Gd rs k hkx → b = false) := Lib.hid (fun h => by
        cases hb : b
        · rfl
        · exact absurd (HBB.out.1 hb k hkx) h)
      have HGK : Hid (Gd rs k hkx ↔ rs[k].1 ≤ rs[k].2 ∧ (0 < k → (rs[k - 1]'(by omega)).2 + 2 ≤ rs[k].1)) := Lib.hid Iff.rfl
      obtain ⟨x, hx⟩ : ∃ x, x = rs[k] := ⟨_, rfl⟩
      rw [← hx] at c1 c2 hxk HGK
      clear hx
      obtain ⟨f, t⟩ := x
      simp only at c1 c2 hxk HGK
      have HWA := Lib.hid (HW.out.alloc HW.out.size (.cells #[.int .u16 f, .int .u16 t] 46))
      by_cases hft : t < f
      · have hbf := HNO.out (fun h => by have := (HGK.out.1 h).1; omega)
        subst hbf
        go_wp2
        go_quiet (fail)
        go_wp2
        go_ret
        exact ⟨rfl, by first | exact HWA.out | exact below_drewN HWA.out _⟩
      · have hdt : decide (t < f) = false := decide_eq_false hft
        by_cases hk0 : k = 0
        · have HGK' : Hid (Gd rs k hkx) := Lib.hid (HGK.out.2 ⟨by omega, fun h => by omega⟩)
          have HNX : Hid (∀ i (h : i < rs.length), i < k + 1 → Gd rs i h) := Lib.hid (fun i h hi => by
            rcases Nat.lt_or_ge i k with e | e
            · exact HGD.out i h e
            · obtain rfl : i = k := by omega
              exact HGK'.out)
          have hki : ((k : Nat) : Int) = 0 := by omega
          have hkd : decide (0 < (k : Int)) = false := decide_eq_false (by omega)
          have hkd3 : decide (0 < k) = false := decide_eq_false (by omega)
          clear hk0 hki
          go_wp2
          go_quiet (fail)
          go_wp2
          go_roundw
          case rel => exact ⟨k + 1, by omega, by go_num, HNX, Lib.hid (by first | exact HWA.out | exact below_drewN HWA.out _)⟩
          case measure => simp [intOf]; omega
        · obtain ⟨k', rfl⟩ : ∃ k', k = k' + 1 := ⟨k - 1, by omega⟩
          have hk'x : k' < rs.length := by omega
          obtain ⟨bk2, off2, hA2, _, d1, d2⟩ := (HR.out.below HW.out hB).at hk'x
          cases hA2
          have hxk2 := HX.out _ (List.getElem_mem hk'x)
          have HGK2 : Hid (Gd rs (k' + 1) hkx ↔ f ≤ t ∧ rs[k'].2 + 2 ≤ f) := Lib.hid (HGK.out.trans ⟨fun h => ⟨h.1, h.2 (by omega)⟩, fun h => ⟨h.1, fun _ => h.2⟩⟩)
          obtain ⟨y, hy⟩ : ∃ y, y = rs[k'] := ⟨_, rfl⟩
          rw [← hy] at d1 d2 hxk2 HGK2
          clear hy HGK
          obtain ⟨lf, lt⟩ := y
          simp only at d1 d2 hxk2 HGK2
          have wk : IntKind.i64.wrap (((k' + 1 : Nat) : Int) - 1) = (k' : Int) := by rw [IntWalk.i64_in _ (by omega)]; omega
          have hkd : decide (0 < ((k' + 1 : Nat) : Int)) = true := decide_eq_true (by omega)
          have wk2 : IntKind.i64.wrap ((k' : Int) + 1 - 1) = (k' : Int) := by rw [IntWalk.i64_in _ (by omega)]; omega
          have hkd2 : decide (0 < (k' : Int) + 1) = true := decide_eq_true (by omega)
          have wk3 : IntKind.i64.wrap (k' : Int) = (k' : Int) := IntWalk.i64_in _ (by omega)
          have hkd3 : decide (0 < k' + 1) = true := decide_eq_true (by omega)
          have hi1 : (0 : Int) ≤ (k' : Int) := by omega
          have hi2 : (k' : Int) < (n : Int) := by omega
          have hi3 : k' < n := by omega
          have hbw : bk < wr.heap.size := by have := HW.out.size; omega
          have HBX := Lib.hid ((Below.refl wr.heap.size wr).alloc (Nat.le_refl _) (.cells #[.int .u16 f, .int .u16 t] 46))
          have hS0 : (wr.alloc (.cells #[.int .u16 f, .int .u16 t] 46)).cell? ⟨bk, off + k' * 2, none⟩ = some (.int .u16 lf) ∧ (wr.alloc (.cells #[.int .u16 f, .int .u16 t] 46)).cell? ⟨bk, off + k' * 2 + 1, none⟩ = some (.int .u16 lt) ∧ (wr.alloc (.cells #[.int .u16 f, .int .u16 t] 46)).cell? ⟨wr.heap.size, 0, none⟩ = some (.int .u16 f) ∧ (wr.alloc (.cells #[.int .u16 f, .int .u16 t] 46)).cell? ⟨wr.heap.size, 1, none⟩ = some (.int .u16 t) := by
            have ha := alloc_topI wr (.cells #[.int .u16 f, .int .u16 t] 46)
            refine ⟨(HBX.out.cell (p := ⟨bk, off + k' * 2, none⟩) hbw).trans d1, (HBX.out.cell (p := ⟨bk, off + k' * 2 + 1, none⟩) hbw).trans d2, ?_, ?_⟩
            · rw [cell_of_row _ _ 0 _ _ (0, 0) ha]; rfl
            · rw [cell_of_row _ _ 1 _ _ (0, 0) ha]; rfl
          obtain ⟨m, hm⟩ : ∃ m, decide (f ≤ lt + 1) = m := ⟨_, rfl⟩
          have MT := fun W => Lib.hid (r_meetB W lf lt f t (by omega) (by omega) m hm)
          have HM := Lib.hid hm
          clear hm d1 d2
          go_wp2
          go_region_held3 (fun (V : World) => V.cell? ⟨bk, off + k' * 2, none⟩ = some (.int .u16 lf) ∧ V.cell? ⟨bk, off + k' * 2 + 1, none⟩ = some (.int .u16 lt) ∧ V.cell? ⟨wr.heap.size, 0, none⟩ = some (.int .u16 f) ∧ V.cell? ⟨wr.heap.size, 1, none⟩ = some (.int .u16 t)) (first | exact hS0 | exact hS3) (first
            | (go_at_call 41; (with_reducible refine (MT _).out.mono ?_); rintro e w3 ⟨rfl, hb3⟩
               have hS3 : w3.cell? ⟨bk, off + k' * 2, none⟩ = some (.int .u16 lf) ∧ w3.cell? ⟨bk, off + k' * 2 + 1, none⟩ = some (.int .u16 lt) ∧ w3.cell? ⟨wr.heap.size, 0, none⟩ = some (.int .u16 f) ∧ w3.cell? ⟨wr.heap.size, 1, none⟩ = some (.int .u16 t) := by
                 have h1 : bk < (wr.alloc (.cells #[.int .u16 f, .int .u16 t] 46)).heap.size := by simp; omega
                 have h2 : wr.heap.size < (wr.alloc (.cells #[.int .u16 f, .int .u16 t] 46)).heap.size := by simp
                 exact ⟨(hb3.cell (p := ⟨bk, off + k' * 2, none⟩) h1).trans hS0.1, (hb3.cell (p := ⟨bk, off + k' * 2 + 1, none⟩) h1).trans hS0.2.1, (hb3.cell (p := ⟨wr.heap.size, 0, none⟩) h2).trans hS0.2.2.1, (hb3.cell (p := ⟨wr.heap.size, 1, none⟩) h2).trans hS0.2.2.2⟩
               have HB3 := Lib.hid hb3))
          all_goals
            have HW3 : Hid (Below w.heap.size w w3) := Lib.hid (by first | exact HWA.out.trans (HB3.out.mono (HWA.out.size)) | exact (below_drewN HWA.out 1).trans (HB3.out.mono (HWA.out.size)))
            clear hS3 hS0
            cases m
            · have HGK' : Hid (Gd rs (k' + 1) hkx) := Lib.hid (HGK2.out.2 ⟨by omega, by have := of_decide_eq_false HM.out; omega⟩)
              have HNX : Hid (∀ i (h : i < rs.length), i < k' + 1 + 1 → Gd rs i h) := Lib.hid (fun i h hi => by
                rcases Nat.lt_or_ge i (k' + 1) with e | e
                · exact HGD.out i h e
                · obtain rfl : i = k' + 1 := by omega
                  exact HGK'.out)
              go_wp2
              go_roundw
              case rel => exact ⟨k' + 1 + 1, by omega, by go_num, HNX, HW3⟩
              case measure => simp [intOf]; omega
            · have hbf := HNO.out (fun h => by have h2 := (HGK2.out.1 h).2; have := of_decide_eq_true HM.out; omega)
              subst hbf
              go_wp2
              go_ret
              exact ⟨rfl, HW3.out⟩
    · have hbt : b = true := HBB.out.2 (fun i h => HGD.out i h (by have := HN.out; omega))
      subst hbt
      go_wp2
      go_ret
      exact ⟨rfl, HW.out⟩
end Go.Proofs.Ytejboemifncjoaa
