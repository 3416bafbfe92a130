
/- The law ArrayAsks; the text walked. -/
import Derived.Test.YtfccgefpchgdlaaArr12
namespace Go.Proofs.Ytfccgefpchgdlaa
open Go.RowKit
theorem sel_at (zs : List Int) (k : Int) : (if selb zs k then selv zs k else -1) = M.rSel zs k := by
  unfold selb selv M.rSel
  by_cases h0 : k < 0
  · rw [if_pos h0, if_neg (by rw [decide_eq_true_eq]; omega)]
  · rw [if_neg h0]
    by_cases h1 : k < zs.length
    · have h2 : k.toNat < zs.length := by omega
      rw [if_pos (by rw [decide_eq_true_eq]; omega), if_pos (by omega), List.getD_eq_getElem?_getD, List.getElem?_eq_getElem h2]
      rfl
    · rw [if_neg (by rw [decide_eq_true_eq]; omega), List.getElem?_eq_none (by omega)]
      rfl
theorem sel_in {zs : List Int} {k : Int} (h : selb zs k = true) : selv zs k ∈ zs := by
  unfold selb at h
  rw [decide_eq_true_eq] at h
  have h2 : k.toNat < zs.length := by omega
  unfold selv
  rw [if_pos h.1, List.getD_eq_getElem?_getD, List.getElem?_eq_getElem h2]
  exact List.getElem_mem h2
theorem sel_pack {zs : List Int} (hz : ∀ y ∈ zs, 0 ≤ y ∧ y ≤ 65535) (k : Int) : ∃ x b, (if selb zs k then selv zs k else 0) = x ∧ selb zs k = b ∧ 0 ≤ x ∧ x ≤ 65535 ∧ (if b then x else -1) = (if selb zs k then selv zs k else -1) := by
  by_cases h : selb zs k = true
  · have h1 := hz _ (sel_in h)
    refine ⟨selv zs k, true, by rw [if_pos h], h, h1.1, h1.2, by rw [if_pos h, if_pos rfl]⟩
  · refine ⟨0, false, by rw [if_neg h], by simpa using h, by omega, by omega, by rw [if_neg h]; rfl⟩
theorem has_at {w : World} {g n : Nat} {bs : List Bool} (a : Bs w g n bs) {v : Nat} (hv : v ≤ 65535) {zs : List Int} (hs : M.L bs = zs) : w.cell? ⟨g, v, none⟩ = some (.bool (decide ((v : Int) ∈ zs))) := by
  subst hs
  have hn := a.top_ge
  have hlen := a.len
  rw [a.cell v (by omega)]
  congr 2
  rw [Bool.eq_iff_iff, decide_eq_true_eq]
  have hk : v < bs.length := by omega
  constructor
  · intro h
    exact M.L_in.2 ⟨by omega, by rw [Int.toNat_natCast, List.getElem?_eq_getElem hk, h]⟩
  · intro hy
    have h2 := (M.L_in.1 hy).2
    rw [Int.toNat_natCast, List.getElem?_eq_getElem hk] at h2
    exact Option.some.inj h2
set_option maxHeartbeats 16000000 in
set_option maxRecDepth 100000 in
theorem law_asks (A : Option Addr) (cp : Nat) (xs : List Int) (v : Nat) (hv : v < 65536) (k : Int) (hk : -9223372036854775808 ≤ k ∧ k ≤ 9223372036854775807) (w : World) (hr : Rh w w.heap.size A xs) (hl : xs.length ≤ 9223372036854775807) (hx : ∀ y ∈ xs, 0 ≤ y ∧ y ≤ 65535) :
    Calls Try.prog 4 #[.slice A xs.length cp, .int .u16 (v : Int), .int .i64 k] w fun e w' => e = .returned (.bool true) ∧ Below w.heap.size w w' := by
  have hrH := Lib.hid hr
  have hxH : Hid (∀ y ∈ xs.take 300, 0 ≤ y ∧ y ≤ 65535) := fun y hy => hx y (List.mem_of_mem_take hy)
  have hfew : ∀ W, Rh W W.heap.size A xs → Hid (Calls Try.prog 9 #[.slice A xs.length cp, .int .i64 300] W fun e w' => ∃ A' c', e = .returned (.slice A' (xs.take 300).length c') ∧ Rh w' w'.heap.size A' (xs.take 300) ∧ Young W.heap.size A' ∧ Below W.heap.size W w') := fun W h => f_few A cp xs 300 W h hl (by decide)
  clear hr hx
  obtain ⟨ys, hys⟩ : ∃ ys, xs.take 300 = ys := ⟨_, rfl⟩
  have hl3 : ys.length ≤ 300 := by rw [← hys, List.length_take]; omega
  rw [hys] at hfew hxH
  clear hys
  obtain ⟨n, hn⟩ : ∃ n, n = ys.length := ⟨_, rfl⟩
  rw [← hn] at hfew hl3
  have HN := Lib.hid hn
  have HF := Lib.hid hfew
  clear hn hfew
  have wv : IntKind.i64.wrap (v : Int) = (v : Int) := IntWalk.i64_in _ (by omega)
  go_enter Try.func4, Try.ntmps4
  go_wp2_with (go_at_call 8; (with_reducible refine (awake_any w).mono ?_); rintro e w1 ⟨rfl, hb1⟩)
  have HB1 := Lib.hid hb1
  have R1 : Hid (Rh w1 w1.heap.size A xs) := Lib.hid ((hrH.out.below hb1 (Nat.le_refl _)).more hb1.size)
  clear hb1
  go_wp2_with (go_at_call 9; (with_reducible refine (HF.out w1 R1.out).out.mono ?_); rintro e w2 ⟨A2, c2, rfl, hr2, -, hb2⟩; replace hr2 := Lib.hid hr2; replace hb2 := Lib.hid hb2)
  have HB2 := Lib.hid (HB1.out.trans (hb2.out.mono HB1.out.size))
  have R2 : Hid (Rh w2 w2.heap.size A xs) := Lib.hid ((R1.out.below hb2.out (Nat.le_refl _)).more hb2.out.size)
  have C3 : Hid (Calls Try.prog 12 #[.slice A2 n c2] w2 fun e w' => ∃ g n bs, e = .returned (.slice (some ⟨g, 0, none⟩) n n) ∧ Bs w' g n bs ∧ OfL (M.L bs) ys ∧ w2.heap.size ≤ g ∧ Below w2.heap.size w2 w') := Lib.hid (by rw [HN.out]; exact f_of A2 c2 ys w2 hr2.out (by have := HN.out; omega) hxH.out)
  clear hb2 R1
  go_wp2_with (go_at_call 12; (with_reducible refine C3.out.mono ?_); rintro e w3 ⟨g, m, bs, rfl, hbs, hof, -, hb3⟩; replace hbs := Lib.hid hbs; replace hof := Lib.hid hof; replace hb3 := Lib.hid hb3)
  have HB3 := Lib.hid (HB2.out.trans (hb3.out.mono HB2.out.size))
  have R3 : Hid (Rh w3 w3.heap.size A xs) := Lib.hid ((R2.out.below hb3.out (Nat.le_refl _)).more hb3.out.size)
  clear hb3 HB2 R2 hr2 C3 HB1
  go_wp2_with (go_at_call 9; (with_reducible refine (HF.out w3 R3.out).out.mono ?_); rintro e w4 ⟨A4, c4, rfl, hr4, -, hb4⟩; replace hr4 := Lib.hid hr4; replace hb4 := Lib.hid hb4)
  have HB4 := Lib.hid (HB3.out.trans (hb4.out.mono HB3.out.size))
  have BS4 := Lib.hid (hbs.out.all_below hb4.out)
  clear hb4 HB3 R3 hbs HF
  go_wp2_with (first
    | (go_at_call 10; (with_reducible refine (of_any w4 w4.heap.size n c4 A4 ys HN.out hr4.out (Nat.le_refl _) (by omega)).mono ?_); rintro e w5 ⟨v5, zs, rfl, z1, z2, z3, hb5, z4⟩
       obtain ⟨A5, c5, hv5, hr5, _⟩ := own_reads z3
       subst hv5
       obtain ⟨N, hNz⟩ : ∃ N, N = zs.length := ⟨_, rfl⟩
       rw [← hNz]
       have hN : N ≤ 300 := (by rw [hNz]; exact Nat.le_trans z4 hl3)
       have HLOW : Hid (Below w.heap.size w w5) := Lib.hid (HB4.out.trans (hb5.mono HB4.out.size))
       have BS5 := Lib.hid (BS4.out.all_below hb5)
       have EQ : Hid (M.L bs = zs) := Lib.hid (M.sorted_ext hof.out.1 z1 fun x => by rw [hof.out.2 x, z2 x])
       obtain ⟨r4, hr4⟩ : ∃ r, M.rSel zs k = r := ⟨_, rfl⟩
       have hsel : 0 ≤ k → Hid (Calls Try.prog 15 #[.slice (some ⟨g, 0, none⟩) m m, .int .i64 k] w5 fun e w' => e = .returned (.int .i64 r4) ∧ w5 = w') := fun hk0 => by
         obtain ⟨K, rfl⟩ : ∃ K : Nat, k = (K : Int) := ⟨k.toNat, by omega⟩
         have h1 := f_select w5 g m bs BS5.out K (by omega)
         rw [EQ.out, hr4] at h1
         exact h1
       have HZ := Lib.hid (fun y (hy : y ∈ zs) => hxH.out y ((z2 y).1 hy))
       have HR4 := Lib.hid hr4
       have HNz := Lib.hid hNz
       have R5 := Lib.hid hr5
       replace z1 := Lib.hid z1
       clear hNz hr5 z2 z3 z4 hb5 hr4 BS4 hof hxH)
    | (go_at_call 15; (with_reducible refine (hsel (by omega)).out.mono ?_); rintro e w6 ⟨rfl, rfl⟩))
  all_goals
    have hneg : k < 0 ∨ (N : Int) ≤ k → Hid (r4 = -1) := fun hk => by
      show _ = _
      rw [← HR4.out, ← sel_at, if_neg]
      unfold selb
      rw [decide_eq_true_eq, ← HNz.out]
      omega
    obtain ⟨x1, c1, e1, i1, p1, q1, f1⟩ := sel_pack HZ.out (M.rRank zs (v : Int) : Nat)
    obtain ⟨x2, c2, e2, i2, p2, q2, f2⟩ := sel_pack HZ.out ((upv zs (v : Int) : Nat) - 1)
    obtain ⟨x4, c4, e4, i4, p4, q4, f4⟩ := sel_pack HZ.out k
    rw [next_at z1.out] at f1
    rw [prev_at z1.out] at f2
    rw [sel_at, HR4.out] at f4
    obtain ⟨r1, hr1⟩ : ∃ r, M.rNext zs (v : Int) = r := ⟨_, rfl⟩
    obtain ⟨r2, hr2⟩ : ∃ r, M.rPrev zs (v : Int) = r := ⟨_, rfl⟩
    obtain ⟨r3, hr3⟩ : ∃ r, M.rRank zs (v : Int) = r := ⟨_, rfl⟩
    obtain ⟨c, hc⟩ : ∃ r, decide ((v : Int) ∈ zs) = r := ⟨_, rfl⟩
    rw [hr1] at f1
    rw [hr2] at f2
    have RR : ∀ M, Hid (Rh (w5.drewN M) w5.heap.size A5 zs) := fun M => R5.out.drew M
    have hHas : ∀ M, Hid (Calls Try.prog 16 #[.slice A5 N c5, .int .u16 (v : Int)] (w5.drewN M) fun e w'' => e = .returned (.bool c) ∧ ∃ m, w'' = w5.drewN m) := fun M => by
      have h1 := a_has (w5.drewN M) w5.heap.size N c5 A5 zs (v : Int) HNz.out (RR M).out z1.out (by omega)
      rw [hc] at h1
      exact Calls.quiet_of_same (h1.mono (by rintro e w' ⟨rfl, rfl⟩; exact ⟨rfl, rfl⟩))
    have hNext : ∀ M, Hid (Calls Try.prog 18 #[.slice A5 N c5, .int .u16 (v : Int)] (w5.drewN M) fun e w'' => e = .returned (.tuple #[.int .u16 x1, .bool c1]) ∧ ∃ m, w'' = w5.drewN m) := fun M => by
      have h1 := a_next (w5.drewN M) w5.heap.size N c5 A5 zs (v : Int) HNz.out (RR M).out z1.out (by omega)
      rw [e1, i1] at h1
      exact Calls.quiet_of_same (h1.mono (by rintro e w' ⟨rfl, rfl⟩; exact ⟨rfl, rfl⟩))
    have hPrev : ∀ M, Hid (Calls Try.prog 20 #[.slice A5 N c5, .int .u16 (v : Int)] (w5.drewN M) fun e w'' => e = .returned (.tuple #[.int .u16 x2, .bool c2]) ∧ ∃ m, w'' = w5.drewN m) := fun M => by
      have h1 := a_prev (w5.drewN M) w5.heap.size N c5 A5 zs (v : Int) HNz.out (RR M).out z1.out (by omega)
      rw [e2, i2] at h1
      exact Calls.quiet_of_same (h1.mono (by rintro e w' ⟨rfl, rfl⟩; exact ⟨rfl, rfl⟩))
    have hRank : ∀ M, Hid (Calls Try.prog 22 #[.slice A5 N c5, .int .u16 (v : Int)] (w5.drewN M) fun e w'' => e = .returned (.int .i64 (r3 : Int)) ∧ ∃ m, w'' = w5.drewN m) := fun M => by
      have h1 := a_rank (w5.drewN M) w5.heap.size N c5 A5 zs (v : Int) HNz.out (RR M).out z1.out (by omega)
      rw [hr3] at h1
      exact Calls.quiet_of_same (h1.mono (by rintro e w' ⟨rfl, rfl⟩; exact ⟨rfl, rfl⟩))
    have hSel : ∀ M, Hid (Calls Try.prog 24 #[.slice A5 N c5, .int .i64 k] (w5.drewN M) fun e w'' => e = .returned (.tuple #[.int .u16 x4, .bool c4]) ∧ ∃ m, w'' = w5.drewN m) := fun M => by
      have h1 := a_select (w5.drewN M) w5.heap.size N c5 A5 zs k HNz.out (RR M).out (by omega)
      rw [e4, i4] at h1
      exact Calls.quiet_of_same (h1.mono (by rintro e w' ⟨rfl, rfl⟩; exact ⟨rfl, rfl⟩))
    have hfN : ∀ M, Hid (Calls Try.prog 19 #[.slice (some ⟨g, 0, none⟩) m m, .int .i64 (v : Int)] (w5.drewN M) fun e w'' => e = .returned (.int .i64 r1) ∧ ∃ m, w'' = w5.drewN m) := fun M => by
      have h1 := f_next (w5.drewN M) g m bs (BS5.out.drew M) (v : Int) (by omega)
      rw [EQ.out, hr1] at h1
      exact Calls.quiet_of_same (h1.mono (by rintro e w' ⟨rfl, rfl⟩; exact ⟨rfl, rfl⟩))
    have hfP : ∀ M, Hid (Calls Try.prog 21 #[.slice (some ⟨g, 0, none⟩) m m, .int .i64 (v : Int)] (w5.drewN M) fun e w'' => e = .returned (.int .i64 r2) ∧ ∃ m, w'' = w5.drewN m) := fun M => by
      have h1 := f_prev (w5.drewN M) g m bs (BS5.out.drew M) (v : Int) (by omega)
      rw [EQ.out, hr2] at h1
      exact Calls.quiet_of_same (h1.mono (by rintro e w' ⟨rfl, rfl⟩; exact ⟨rfl, rfl⟩))
    have hfR : ∀ M, Hid (Calls Try.prog 23 #[.slice (some ⟨g, 0, none⟩) m m, .int .i64 (v : Int)] (w5.drewN M) fun e w'' => e = .returned (.int .i64 (r3 : Int)) ∧ ∃ m, w'' = w5.drewN m) := fun M => by
      have h1 := f_rank (w5.drewN M) g m bs (BS5.out.drew M) (v : Int)
      rw [EQ.out, hr3] at h1
      exact Calls.quiet_of_same (h1.mono (by rintro e w' ⟨rfl, rfl⟩; exact ⟨rfl, rfl⟩))
    have hA : ∀ (x : Int) (b : Bool) (r : Int), 0 ≤ x → x ≤ 65535 → (if b then x else -1) = r → ∀ M, Hid (Calls Try.prog 17 #[.int .u16 x, .bool b] (w5.drewN M) fun e w'' => e = .returned (.int .i64 r) ∧ ∃ m, w'' = w5.drewN m) := fun x b r h0 h1 h2 M => by
      have h3 := f_at (w5.drewN M) x h0 h1 b
      rw [h2] at h3
      exact Calls.quiet_of_same (h3.mono (by rintro e w' ⟨rfl, rfl⟩; exact ⟨rfl, rfl⟩))
    have hA1 := hA x1 c1 r1 p1 q1 f1
    have hA2 := hA x2 c2 r2 p2 q2 f2
    have hA4 := hA x4 c4 r4 p4 q4 f4
    have hcell := has_at BS5.out (Nat.le_of_lt_succ hv) EQ.out
    rw [hc] at hcell
    have hm65 := BS5.out.top_ge
    have hi1 : (0 : Int) ≤ (v : Int) := by omega
    have hi2 : (v : Int) < (m : Int) := by omega
    have hvn : v < m := by omega
    first
      | (have hr4n := (hneg (by omega)).out
         subst hr4n)
      | skip
    clear hr1 hr2 hr3 hc e1 e2 e4 i1 i2 i4 f1 f2 f4 hA hsel hneg p1 q1 p2 q2 p4 q4
    go_quiet ((first
      | (go_at_call 16; with_reducible exact (hHas _).out)
      | (go_at_call 18; with_reducible exact (hNext _).out)
      | (go_at_call 20; with_reducible exact (hPrev _).out)
      | (go_at_call 22; with_reducible exact (hRank _).out)
      | (go_at_call 24; with_reducible exact (hSel _).out)
      | (go_at_call 19; with_reducible exact (hfN _).out)
      | (go_at_call 21; with_reducible exact (hfP _).out)
      | (go_at_call 23; with_reducible exact (hfR _).out)
      | (go_at_call 17; first | with_reducible exact (hA1 _).out | with_reducible exact (hA2 _).out | with_reducible exact (hA4 _).out)))
    go_wp2
    go_ret
    exact ⟨rfl, below_drewN HLOW.out _⟩
end Go.Proofs.Ytfccgefpchgdlaa
