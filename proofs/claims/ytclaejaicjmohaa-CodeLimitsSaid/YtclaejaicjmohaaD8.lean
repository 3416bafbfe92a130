
/- Cuts of bytes; what the document reads in front: Read; the text walked. -/
import Derived.Test.YtclaejaicjmohaaD7
namespace Go.Proofs.Ytclaejaicjmohaa
set_option maxRecDepth 20000
open Go.RowKit
namespace E
def cutA (A : Option Addr) (l c : Nat) : Option Addr := if c = l then A else A.map (·.add (l * 1))
theorem Rb.drop {w : World} {B n c l : Nat} {A : Option Addr} {xs : List Nat} (hr : Rb w B A xs) (hn : xs.length = n) (hc : n ≤ c) : Rb w B (cutA A l c) (xs.drop l) := by
  intro hne
  have hlt : l < n := by
    rcases Nat.lt_or_ge l n with e | e
    · exact e
    · exact absurd (List.eq_nil_of_length_eq_zero (by rw [List.length_drop]; omega)) hne
  obtain ⟨b, off, rfl, hb, hcl⟩ := hr (by intro e; subst e; simp at hn; omega)
  refine ⟨b, off + l, ?_, hb, fun k hk => ?_⟩
  · unfold cutA
    rw [if_neg (by omega)]
    show some _ = some _
    unfold Addr.add
    by_cases h0 : l = 0 <;> simp [h0]
  · rw [List.length_drop] at hk
    have := hcl (l + k) (by omega)
    rw [show off + l + k = off + (l + k) by omega, this]
    simp
theorem cutb_l (A : Option Addr) (n c l : Nat) (L : Int) (hL : L = (l : Int)) (hl : l ≤ n) : (∀ w, (Instr.sliceAt 23 (.slice A n c) (some (.int .i64 L)) none none).run Try.prog w = .ok (.slice (cutA A l c) (n - l) (c - l)) w) ∧
    (∀ w, (Instr.slice 23 (.slice A n c) (some (.int .i64 L)) none none).run Try.prog w = .ok (.slice (cutA A l c) (n - l) (c - l)) w) := by
  subst hL
  have hu : Try.prog.underlying 23 = some (.slice (Try.prog.elem 23)) := by kernel_rfl
  have hz : ∀ w, (Go.sizeOf (Try.prog.elem 23)).run Try.prog w = .ok 1 w := fun w => Try.sizeOf5 w
  have h2 : ∀ w, (Instr.slice 23 (.slice A n c) (some (.int .i64 (l : Int))) none none).run Try.prog w = .ok (sliced A l n c 1) w := fun w => by
    have h := run_slice_l (P := Try.prog) (w := w) (t := 23) (a := A) (len := n) (cap := c) (ht := hu) (kl := .i64) (l := (l : Int)) (h0 := by omega) (h1 := by omega)
    rw [h, hz]
    simp [Result.andThen]
  exact ⟨fun w => (run_sliceAt_slice (w := w) (h := hu) ..).trans (h2 w), h2⟩
theorem cutb_h (A : Option Addr) (n c l : Nat) (L : Int) (hL : L = (l : Int)) (hl : l ≤ n) (hc : n ≤ c) : (∀ w, (Instr.sliceAt 23 (.slice A n c) none (some (.int .i64 L)) none).run Try.prog w = .ok (.slice A l c) w) ∧
    (∀ w, (Instr.slice 23 (.slice A n c) none (some (.int .i64 L)) none).run Try.prog w = .ok (.slice A l c) w) := by
  subst hL
  have hu : Try.prog.underlying 23 = some (.slice (Try.prog.elem 23)) := by kernel_rfl
  have hz : ∀ w, (Go.sizeOf (Try.prog.elem 23)).run Try.prog w = .ok 1 w := fun w => Try.sizeOf5 w
  have h2 : ∀ w, (Instr.slice 23 (.slice A n c) none (some (.int .i64 (l : Int))) none).run Try.prog w = .ok (.slice A l c) w := fun w => by
    have h := run_slice_h (P := Try.prog) (w := w) (t := 23) (a := A) (len := n) (cap := c) (ht := hu) (kh := .i64) (h := (l : Int)) (h0 := by omega) (h2 := by omega)
    rw [h, hz]
    simp [Result.andThen]
    cases A <;> simp [sliced, Addr.add]
  exact ⟨fun w => (run_sliceAt_slice (w := w) (h := hu) ..).trans (h2 w), h2⟩
theorem bel_of {w w3 : World} {n : Nat} (hb : Below (w.drewN n).heap.size (w.drewN n) w3) : Below w.heap.size w w3 := (bel2 w n).trans hb
theorem rb_own {w : World} {base m c : Nat} {A : Option Addr} {xs : List Nat} (h : w.ownsRow base 5 1 (.slice A m c) m (bv xs)) (hm : xs.length = m) : Rb w w.heap.size A xs := by
  subst hm
  obtain ⟨A', c', e, hr⟩ := Rb.of_own h
  injection e with e1 _ _
  subst e1
  exact hr
theorem lead_at : ∀ (p : List Nat) (k : Nat), k < lead p → ∃ h : k < p.length, 128 ≤ p[k]
  | [], k, h => by simp [lead] at h
  | b :: t, k, h => by
    by_cases hb : 128 ≤ b
    · have e : lead (b :: t) = lead t + 1 := by simp [lead, hb]
      rw [e] at h
      cases k with
      | zero => exact ⟨by simp, hb⟩
      | succ k =>
        obtain ⟨h1, h2⟩ := lead_at t k (by omega)
        exact ⟨by simp; omega, by simpa using h2⟩
    · have e : lead (b :: t) = 0 := by simp [lead, hb]
      omega
theorem lead_end : ∀ (p : List Nat) (h : lead p < p.length), p[lead p] < 128
  | [], h => by simp [lead] at h
  | b :: t, h => by
    by_cases hb : 128 ≤ b
    · have e : lead (b :: t) = lead t + 1 := by simp [lead, hb]
      have h1 := lead_end t (by rw [e] at h; simpa using h)
      simp only [e]
      simpa using h1
    · have e : lead (b :: t) = 0 := by simp [lead, hb]
      simp only [e]
      simpa using hb
/-- The value from a place on, one place further ahead. -/
theorem val_back {p : List Nat} {m j : Nat} (hj : j < m) (hm : m ≤ p.length) : val ((p.take m).drop j) = p[j] % 128 + 128 * val ((p.take m).drop (j + 1)) := by
  have h : j < (p.take m).length := by rw [List.length_take]; omega
  rw [List.drop_eq_getElem_cons h, List.getElem_take]
  rfl
set_option maxRecDepth 100000 in
set_option maxHeartbeats 4000000 in
theorem refread_any (w : World) (A : Option Addr) (c : Nat) (bs : List Nat) (l : Nat) (hl : bs.length = l) (hlc : l ≤ c) (hl2 : l ≤ 1000000000) (hr : Rb w w.heap.size A bs) :
    Calls Try.prog 15 #[.slice A l c] w fun e w' => ∃ n k : Nat, e = .returned (.tuple #[.int .u64 (n : Int), .int .i64 (k : Int)]) ∧ Rd bs n k ∧ Below w.heap.size w w' := by
  have HL := Lib.hid hl
  obtain ⟨s, hs⟩ : ∃ s, lead bs = s := ⟨_, rfl⟩
  have hsl : s ≤ l := by rw [← hs, ← hl]; exact lead_le bs
  have HAT : Hid (∀ k, k < s → ∃ h : k < bs.length, 128 ≤ bs[k]) := Lib.hid (by rw [← hs]; exact lead_at bs)
  have HEND : Hid (∀ h : s < bs.length, bs[s] < 128) := Lib.hid (by subst hs; exact lead_end bs)
  have HN1 : Hid (s = l ∨ 9 < s → Rd bs 0 0) := Lib.hid (fun h => rd_no1 (by rw [hs, hl]; exact h))
  have HN2 : Hid (∀ i, s < l → i ≤ s → 2 ^ 64 ≤ val ((bs.take (s + 1)).drop i) → Rd bs 0 0) := Lib.hid (fun i h1 h2 h3 => rd_no2 (i := i) (by rw [hs, hl]; exact h1) (by rw [hs]; exact h2) (by rw [hs]; exact h3))
  have HTRY : Hid (s < l → val (bs.take (s + 1)) < 2 ^ 64 → if enc (val (bs.take (s + 1))) = bs.take (s + 1) then Rd bs (val (bs.take (s + 1))) (s + 1) else Rd bs 0 0) := Lib.hid (fun h1 h2 => by have := rd_try (p := bs) (by rw [hs, hl]; exact h1) (by rw [hs]; exact h2); rw [hs] at this; exact this)
  clear hs hl
  go_enter Try.func15, Try.ntmps15
  go_wp2
  go_loopw [4] (fun v wr => ∃ k q : Nat, k ≤ s ∧ v = .int .i64 k ∧ wr = w.drewN q) (fun v _ => l - (intOf v).toNat)
  case atStart => exact ⟨0, 0, by omega, rfl, rfl⟩
  case round =>
    obtain ⟨k, q, hk, rfl, rfl⟩ := hrel
    by_cases hlt : k < s
    · obtain ⟨hkl, hk2⟩ := HAT.out k hlt
      obtain ⟨b1, off, rfl, _, hc⟩ := (hr.drew q).at hkl
      have d0 : decide ((k : Int) < (l : Int)) = true := decide_eq_true (by omega)
      have wk : IntKind.i64.wrap ((k : Int) + 1) = (k : Int) + 1 := IntWalk.i64_in _ (by omega)
      generalize bs[k] = b at *
      have d1 : decide ((128 : Int) ≤ (b : Int)) = true := decide_eq_true (by omega)
      have d2 : decide (128 ≤ b) = true := decide_eq_true hk2
      go_wp2
      go_roundw
      case rel => exact ⟨k + 1, q, by omega, by go_num, rfl⟩
      case measure => simp [intOf]; omega
    · obtain rfl : k = s := by omega
      clear hlt hk
      by_cases hsl2 : k = l
      · subst hsl2
        have HR := Lib.hid (HN1.out (.inl rfl))
        go_wp2
        go_ret2
        exact ⟨0, 0, rfl, HR.out, bel2 _ _⟩
      · have hlt : k < l := by omega
        have hlt' : k < bs.length := by rw [HL.out]; exact hlt
        obtain ⟨b1, off, hA, _, hc⟩ := (hr.drew q).at hlt'
        have hb := HEND.out hlt'
        have hr0 := Lib.hid hr
        subst hA
        have d0 : decide ((k : Int) < (l : Int)) = true := decide_eq_true (by omega)
        have e0 : ((k : Int) == (l : Int)) = false := beq_eq_false_iff_ne.2 (by omega)
        generalize bs[k] = b at *
        have d1 : decide ((128 : Int) ≤ (b : Int)) = false := decide_eq_false (by omega)
        have d2 : decide (128 ≤ b) = false := decide_eq_false (by omega)
        by_cases h9 : 9 < k
        · have HR := Lib.hid (HN1.out (.inr h9))
          have d3 : decide ((9 : Int) < (k : Int)) = true := decide_eq_true (by omega)
          have d4 : decide (9 < k) = true := decide_eq_true h9
          clear hr
          go_wp2
          go_ret2
          exact ⟨0, 0, rfl, HR.out, bel2 _ _⟩
        · have d3 : decide ((9 : Int) < (k : Int)) = false := decide_eq_false (by omega)
          have d4 : decide (9 < k) = false := decide_eq_false h9
          clear hr
          go_wp2
          clear d1 d2 hc hb
          have hv0 : val ((bs.take (k + 1)).drop (k + 1)) = 0 := by rw [List.drop_of_length_le (by rw [List.length_take]; omega)]; rfl
          go_loopw [5, 6] (fun n i wr => ∃ (j q : Nat), j ≤ k + 1 ∧ i = .int .i64 ((j : Int) - 1) ∧ n = .int .u64 (val ((bs.take (k + 1)).drop j) : Nat) ∧ Hid (val ((bs.take (k + 1)).drop j) < 2 ^ 64) ∧ wr = w.drewN q) (fun _ i _ => (intOf i + 1).toNat)
          case atStart => exact ⟨k + 1, q, Nat.le_refl _, by go_num, by rw [hv0]; rfl, Lib.hid (by rw [hv0]; decide), rfl⟩
          case round =>
            obtain ⟨j, q2, hj, rfl, rfl, HV, rfl⟩ := hrel
            cases j with
            | succ j =>
              have ej : (((j + 1 : Nat) : Int) - 1) = (j : Int) := by omega
              rw [ej]
              have hjl : j < bs.length := by have := HL.out; omega
              obtain ⟨b2, off2, hA, _, hc⟩ := (hr0.out.drew q2).at hjl
              injection hA with hA
              injection hA with e1 e2 _
              subst e1 e2
              have hvb := val_back (p := bs) (j := j) (m := k + 1) (by omega) (by have := HL.out; omega)
              have HBIG := Lib.hid (HN2.out j hlt (by omega))
              have hVlt := HV.out
              obtain ⟨bb, hbb⟩ : ∃ b, bs[j] = b := ⟨_, rfl⟩
              rw [hbb] at hc hvb
              obtain ⟨r, hr1⟩ : ∃ r, bb % 128 = r := ⟨_, rfl⟩
              rw [hr1] at hvb
              have x1 : (bb : Int) % 128 = (r : Int) := by omega
              have x2 : (bb : Int).tmod 128 = (r : Int) := by rw [Int.tmod_eq_emod_of_nonneg (by omega)]; omega
              have hr128 : r < 128 := by omega
              have x3 : IntKind.u8.wrap (r : Int) = (r : Int) := IntWalk.u8_in _ (by omega)
              have x4 : IntKind.u64.wrap (r : Int) = (r : Int) := wrap_u64_small (by omega) (by omega)
              obtain ⟨V2, hV2⟩ : ∃ V, val ((bs.take (k + 1)).drop j) = V := ⟨_, rfl⟩
              rw [hV2] at hvb HBIG
              generalize val ((bs.take (k + 1)).drop (j + 1)) = V at *
              obtain ⟨m, hm⟩ : ∃ m, 18446744073709551615 - r = m := ⟨_, rfl⟩
              have y1 : IntKind.u64.wrap (18446744073709551615 - (r : Int)) = (m : Int) := by rw [show 18446744073709551615 - (r : Int) = (m : Int) by omega]; exact wrap_u64_small (by omega) (by omega)
              obtain ⟨d, hd⟩ : ∃ d, m / 128 = d := ⟨_, rfl⟩
              have y2 : (m : Int) / 128 = (d : Int) := by omega
              have y3 : IntKind.u64.wrap (d : Int) = (d : Int) := wrap_u64_small (by omega) (by omega)
              have z1 : decide ((0 : Int) ≤ (j : Int)) = true := decide_eq_true (by omega)
              have z2 : IntKind.i64.wrap ((j : Int) - 1) = (j : Int) - 1 := IntWalk.i64_in _ (by omega)
              by_cases hov : d < V
              · have q1 : decide ((d : Int) < (V : Int)) = true := decide_eq_true (by omega)
                have q3 : decide (d < V) = true := decide_eq_true hov
                have HR := Lib.hid (HBIG.out (by omega))
                clear hm hd hVlt hvb hr1 hbb hV2 hov ej
                go_wp2
                go_ret2
                exact ⟨0, 0, rfl, HR.out, bel2 _ _⟩
              · have q1 : decide ((d : Int) < (V : Int)) = false := decide_eq_false (by omega)
                have q3 : decide (d < V) = false := decide_eq_false hov
                have y4 : IntKind.u64.wrap (128 * (V : Int)) = 128 * (V : Int) := wrap_u64_small (by omega) (by omega)
                have y5 : IntKind.u64.wrap (128 * (V : Int) + (r : Int)) = (V2 : Int) := by rw [show 128 * (V : Int) + (r : Int) = (V2 : Int) by omega]; exact wrap_u64_small (by omega) (by omega)
                have HV2 : Hid (V2 < 2 ^ 64) := Lib.hid (by omega)
                have HE := Lib.hid hV2
                clear hm hd hVlt hvb hr1 hbb hV2 hov ej
                go_wp2
                go_roundw
                case rel => exact ⟨j, q2, by omega, rfl, by rw [HE.out], by rw [HE.out]; exact HV2, rfl⟩
                case measure => first | (simp [intOf]; done) | (simp [intOf]; omega)
            | zero =>
              have ej : (((0 : Nat) : Int) - 1) = -1 := by omega
              rw [ej]
              have hVlt := HV.out
              have hTRY := HTRY.out hlt
              simp only [List.drop_zero] at hVlt ⊢
              obtain ⟨V, hV⟩ : ∃ V, val (bs.take (k + 1)) = V := ⟨_, rfl⟩
              rw [hV] at hVlt hTRY ⊢
              obtain ⟨m, hm⟩ : ∃ m, (enc V).length = m := ⟨_, rfl⟩
              have hm10 : m ≤ 10 := by rw [← hm]; exact enc_ten (by omega)
              have HNUM : Hid (∀ W, Calls Try.prog 14 #[.int .u64 (V : Int)] W fun e w' => ∃ v', e = .returned v' ∧ w'.ownsRow W.heap.size 5 1 v' m (bv (enc V)) ∧ Below W.heap.size W w') := Lib.hid (by rw [← hm]; exact fun W => refnum_any V V (Nat.le_refl _) (by omega) W)
              have w1 : IntKind.i64.wrap ((k : Int) + 1) = (k : Int) + 1 := IntWalk.i64_in _ (by omega)
              have hcut := cutb_h (some ⟨b1, off, none⟩) l c (k + 1) ((k : Int) + 1) (by omega) (by omega) hlc
              have a1 := hcut.1
              have a2 := hcut.2
              have htk : (bs.take (k + 1)).length = k + 1 := by have := HL.out; rw [List.length_take]; omega
              have HSM : Hid (∀ W A1 c1, Below w.heap.size w W → Rb W W.heap.size A1 (enc V) → Calls Try.prog 13 #[.slice A1 m c1, .slice (some ⟨b1, off, none⟩) (k + 1) c] W fun e w' => e = .returned (.bool (decide (enc V = bs.take (k + 1)))) ∧ Below W.heap.size W w') := Lib.hid (by
                rw [← hm]
                intro W A1 c1 hW hR
                have h2 := (hr0.out.below hW (Nat.le_refl _)).take (k + 1)
                have := ref_samebytes A1 (some ⟨b1, off, none⟩) c1 c (enc V) (bs.take (k + 1)) W _ _ hR h2 (by omega) (by omega)
                rw [htk] at this
                exact this.mono fun e w' ⟨h3, n, h4⟩ => ⟨h3, by rw [h4]; exact bel2 _ _⟩)
              have HB0 := Lib.hid (below_drewN (Below.refl w.heap.size w) q2)
              have HLEN := Lib.hid hm
              clear hcut htk hm hV ej
              by_cases hsame : enc V = bs.take (k + 1)
              · rw [if_pos hsame] at hTRY
                have HR := Lib.hid (hTRY (by omega))
                rw [decide_eq_true hsame] at HSM
                clear hTRY hsame hVlt
                go_wp2
                go_region_held3 (fun _ => True) (trivial) (first
                  | (go_at_call 13; (with_reducible refine (HSM.out _ _ _ HB1.out HR1.out).mono ?_); rintro e w4 ⟨rfl, hb⟩; have HB2 := Lib.hid (HB1.out.trans (hb.mono HB1.out.size)); clear hb)
                  | (go_at_call 14; (with_reducible refine (HNUM.out _).mono ?_); rintro e w3 ⟨v3, rfl, ho, hb⟩; obtain ⟨A3, c3, rfl⟩ := own_formB ho; have HB1 : Hid (Below w.heap.size w w3) := Lib.hid (bel_of hb); have HR1 := Lib.hid (rb_own ho HLEN.out); clear ho hb))
                all_goals
                  go_wp2
                  go_ret2
                  exact ⟨V, k + 1, by first | rfl | simp, HR.out, HB2.out⟩
              · rw [if_neg hsame] at hTRY
                have HR := Lib.hid (hTRY (by omega))
                rw [decide_eq_false hsame] at HSM
                clear hTRY hsame hVlt
                go_wp2
                go_region_held3 (fun _ => True) (trivial) (first
                  | (go_at_call 13; (with_reducible refine (HSM.out _ _ _ HB1.out HR1.out).mono ?_); rintro e w4 ⟨rfl, hb⟩; have HB2 := Lib.hid (HB1.out.trans (hb.mono HB1.out.size)); clear hb)
                  | (go_at_call 14; (with_reducible refine (HNUM.out _).mono ?_); rintro e w3 ⟨v3, rfl, ho, hb⟩; obtain ⟨A3, c3, rfl⟩ := own_formB ho; have HB1 : Hid (Below w.heap.size w w3) := Lib.hid (bel_of hb); have HR1 := Lib.hid (rb_own ho HLEN.out); clear ho hb))
                all_goals
                  go_wp2
                  go_ret2
                  exact ⟨0, 0, rfl, HR.out, HB2.out⟩
end E
end Go.Proofs.Ytclaejaicjmohaa
