
/- The law HashMany: many keys beside one another; the text walked. -/
import Derived.Test.YtmlidbmpnhfffaaHRise
import Derived.Test.YtmlidbmpnhfffaaHKeys
namespace Go.Proofs.Ytmlidbmpnhfffaa
open Go.RowKit
theorem tx_all {w : World} {A : Nat → Prop} {P M seed n pr cl : Nat} {es : List (H.Key × Nat)} (a : TX w A P M seed n es pr cl) (hr : Ris es) (hl : es.length ≤ 1000000) (m : Nat) (mi : Int) (hmi : mi = (m : Int)) (hm : 0 < m) (hm2 : m ≤ 1000000) :
    Calls Try.prog 15 #[.pointer (some ⟨P, 0, none⟩), .int .i64 mi] w (AllP w (es.take m)) := by
  obtain ⟨Q, ha, _⟩ := a
  subst hmi
  have h := all_law w (some ⟨P, 0, none⟩) (es.map mkE) m hm hm2 (by rw [List.length_map]; exact hl) (fun W hW => rising_tab W P Q M seed n pr cl es (ha.but (ButS.of_below hW (Nat.le_refl _) (S := fun _ => False)) (fun _ _ h => h)) hr hl)
  have e : (es.map mkE).map ekv = es := by
    rw [List.map_map]
    conv => rhs; rw [← List.map_id es]
    exact List.map_congr_left (fun x _ => ekv_mkE x)
  rw [e] at h
  exact h
theorem modI3 (j : Nat) : (j : Int) % 3 = ((j % 3 : Nat) : Int) ∧ (j : Int).tmod 3 = ((j % 3 : Nat) : Int) := by
  have e : (j : Int) % 3 = ((j % 3 : Nat) : Int) := by omega
  exact ⟨e, by rw [Int.tmod_eq_emod_of_nonneg (by omega)]; exact e⟩
set_option maxRecDepth 100000 in
set_option maxHeartbeats 4000000 in
theorem law_many (seed f st q : Nat) (hst : st < 18446744073709551616) (hq : q < 256) (w : World) :
    Calls Try.prog 4 #[.int .u64 (seed : Int), .int .u64 (f : Int), .int .u64 (st : Int), .int .u8 (q : Int)] w fun e w' => e = .returned (.bool true) ∧ Below w.heap.size w w' := by
  have hor := u64_or_one st hst
  have hodd := H.or_one st
  generalize st ||| 1 = s at *
  have HO := Lib.hid hodd
  clear hodd
  have w1 : IntKind.i64.wrap (q : Int) = (q : Int) := IntWalk.i64_in _ (by omega)
  have w2 : IntKind.i64.wrap (1 + (q : Int)) = 1 + (q : Int) := IntWalk.i64_in _ (by omega)
  have hkey : ∀ (k j : Nat), k ≤ 256 → j < 256 → (∀ i, i < k → i ≠ j) → ∀ x ∈ H.kept k (fun _ => true) (fun i => ((i % 3, H.px f s i), i)), x.1 ≠ (j % 3, H.px f s j) := by
    intro k j hk hj hne x hx e
    obtain ⟨i, hi, _, rfl⟩ := H.kept_mem.1 hx
    exact hne i hi (H.px_inj HO.out (by omega) (by omega) (Prod.mk.inj e).2)
  have HKY := Lib.hid hkey
  clear hkey
  go_enter Try.func4, Try.ntmps4
  go_wp2_with (first
    | (go_at_call 8; (with_reducible refine (awake_any _).mono ?_); rintro e w1 ⟨rfl, hb1⟩; have HB1 := Lib.hid hb1; clear hb1)
    | (go_at_call 10; (with_reducible refine (tx_new_nil w1 w1.heap.size (Nat.le_refl _) seed _ rfl).mono ?_); rintro e w2 ⟨P, M, rfl, ht, hb⟩
       have T2 := Lib.hid ht
       have B2 := Lib.hid hb
       clear ht hb))
  go_loopw [28] (fun u wr => ∃ j n pr : Nat, u = .int .i64 (j : Int) ∧ j ≤ q + 1 ∧ Hid (TX wr (fun j => w1.heap.size ≤ j) P M seed n (H.kept j (fun _ => true) (fun i => ((i % 3, H.px f s i), i))) pr 0) ∧ Hid (Below w1.heap.size w1 wr))
    (fun u _ => q + 1 - (intOf u).toNat)
  case atStart => exact ⟨0, 8, 0, rfl, by omega, T2, B2⟩
  case round =>
    obtain ⟨j, n, pr, rfl, hj, HT, HB⟩ := hrel
    clear T2 B2
    by_cases hlt : j < q + 1
    · have hT1 : decide ((j : Int) < 1 + (q : Int)) = true := decide_eq_true (by omega)
      obtain ⟨p1, p2⟩ := px_int f s j
      obtain ⟨m1, m2⟩ := modI3 j
      have wj : IntKind.u64.wrap (j : Int) = (j : Int) := u64_in _ (by omega) (by omega)
      have hz := HB.out.size
      have hl3 : j % 3 < 3 := Nat.mod_lt _ (by decide)
      have wl : IntKind.u8.wrap ((j % 3 : Nat) : Int) = ((j % 3 : Nat) : Int) := by simp [IntKind.wrap, IntKind.signed, IntKind.bits]; omega
      have hput := Lib.hid (tx_put_no HT.out (fun i hi => by omega) (j % 3, H.px f s j) ((j % 3 : Nat) : Int) (H.px f s j : Int) (j : Int) rfl rfl j rfl (show j % 3 < 256 by omega) (H.px_lt f s j) (by omega) (HKY.out j j (by omega) (by omega) (fun i hi => by omega)) (by have := H.kept_len j (fun _ => true) (fun i => ((i % 3, H.px f s i), i)); omega))
      have hks : (((j % 3, H.px f s j), j) :: H.kept j (fun _ => true) (fun i => ((i % 3, H.px f s i), i))).Perm (H.kept (j + 1) (fun _ => true) (fun i => ((i % 3, H.px f s i), i))) := H.kept_succ j (fun _ => true) (fun i => ((i % 3, H.px f s i), i)) rfl
      have HKS := Lib.hid hks
      clear hks
      generalize H.px f s j = px at *
      generalize j % 3 = lv at *
      go_wp2_with (first
        | (go_at_call 17; (with_reducible refine hput.out.mono ?_); rintro e w4 ⟨n4, p4, rfl, ht, hb, _, _⟩
           have T4 := Lib.hid ht
           have B4 := Lib.hid hb
           clear ht hb))
      exact ⟨⟨j + 1, n4, p4, by go_num, by omega, Lib.hid (T4.out.perm HKS.out), Lib.hid (HB.out.trans (B4.out.below hz (fun _ h => h)))⟩, by simp [intOf]; omega⟩
    · obtain rfl : j = q + 1 := by omega
      have hT1 : decide (((q + 1 : Nat) : Int) < 1 + (q : Int)) = false := decide_eq_false (by omega)
      have hT2 : decide ((q : Int) + 1 < 1 + (q : Int)) = false := decide_eq_false (by omega)
      go_wp2
      try rw [show ((q + 1 : Nat) : Int) = (q : Int) + 1 by omega]
      clear hT1 hT2 hj
      go_loopw [48] (fun u wr => ∃ j n pr cl : Nat, u = .int .i64 (j : Int) ∧ j ≤ q + 1 ∧ cl = 2 * j ∧ Hid (TX wr (fun j => w1.heap.size ≤ j) P M seed n (H.kept (q + 1) (fun _ => true) (fun i => ((i % 3, H.px f s i), i))) pr cl) ∧ Hid (Below w1.heap.size w1 wr))
        (fun u _ => q + 1 - (intOf u).toNat)
      case atStart => exact ⟨0, n, pr, 0, rfl, by omega, rfl, HT, HB⟩
      case round =>
        clear HT HB
        obtain ⟨j, n, pr, cl, rfl, hj, hcl, HT, HB⟩ := hrel
        by_cases hlt : j < q + 1
        · have hT1 : decide ((j : Int) < 1 + (q : Int)) = true := decide_eq_true (by omega)
          obtain ⟨p1, p2⟩ := px_int f s j
          obtain ⟨m1, m2⟩ := modI3 j
          have wj : IntKind.u64.wrap (j : Int) = (j : Int) := u64_in _ (by omega) (by omega)
          have hz := HB.out.size
          have hl3 : j % 3 < 3 := Nat.mod_lt _ (by decide)
          have wl : IntKind.u8.wrap ((j % 3 : Nat) : Int) = ((j % 3 : Nat) : Int) := by simp [IntKind.wrap, IntKind.signed, IntKind.bits]; omega
          have hget := Lib.hid (tx_get_yes HT.out (fun i hi => by omega) (j % 3, H.px f s j) ((j % 3 : Nat) : Int) (H.px f s j : Int) (j : Int) rfl rfl j rfl (show j % 3 < 256 by omega) (H.kept_mem.2 ⟨j, hlt, rfl, rfl⟩) (by omega))
          have hno : ∀ x ∈ H.kept (q + 1) (fun _ => true) (fun i => ((i % 3, H.px f s i), i)), x.1 ≠ (9, H.px f s j) := by
            intro x hx e
            obtain ⟨i, hi, _, rfl⟩ := H.kept_mem.1 hx
            have h9 : i % 3 = 9 := (Prod.mk.inj e).1
            omega
          have hg9 := fun w0 n0 p0 (a : TX w0 (fun j => w1.heap.size ≤ j) P M seed n0 (H.kept (q + 1) (fun _ => true) (fun i => ((i % 3, H.px f s i), i))) p0 (cl + 1)) (hz0 : w1.heap.size ≤ w0.heap.size) => Lib.hid (tx_get_no a (fun i hi => by omega) (9, H.px f s j) 9 (H.px f s j : Int) rfl rfl (show 9 < 256 by decide) hno (by omega))
          clear hno
          generalize H.px f s j = px at *
          generalize j % 3 = lv at *
          go_wp2_with (first
            | (go_at_call 18; (with_reducible refine hget.out.mono ?_); rintro e w4 ⟨n4, p4, rfl, ht, hb, _, _⟩
               have T4 := Lib.hid ht
               have B4 := Lib.hid hb
               have hz4 := hb.size
               clear ht hb)
            | (go_at_call 18; (with_reducible refine (hg9 w4 n4 p4 T4.out (by omega)).out.mono ?_); rintro e w5 ⟨n5, p5, rfl, ht, hb, _, _⟩
               have T5 := Lib.hid ht
               have B5 := Lib.hid hb
               clear ht hb))
          go_roundw
          case rel => exact ⟨j + 1, n5, p5, cl + 1 + 1, by go_num, by omega, by omega, T5, Lib.hid ((HB.out.trans (B4.out.below hz (fun _ h => h))).trans (B5.out.below (by omega) (fun _ h => h)))⟩
          case measure => simp [intOf]; omega
        · obtain rfl : j = q + 1 := by omega
          have hT1 : decide (((q + 1 : Nat) : Int) < 1 + (q : Int)) = false := decide_eq_false (by omega)
          have hT2 : decide ((q : Int) + 1 < 1 + (q : Int)) = false := decide_eq_false (by omega)
          have hkl : (H.kept (q + 1) (fun _ => true) (fun i => ((i % 3, H.px f s i), i))).length = q + 1 := by
            unfold H.kept; rw [List.length_map, List.filter_eq_self.2 (fun _ _ => rfl), List.length_range]
          have hlen := Lib.hid (tx_len HT.out (1 + (q : Int)) (by rw [hkl]; omega))
          have hsi := Lib.hid (tx_size HT.out)
          obtain ⟨f8, f2, _, _⟩ := HT.out.facts
          rw [hkl] at f2
          have d1 : decide ((n : Int) < 2 * (1 + (q : Int))) = false := decide_eq_false (by omega)
          have wq : IntKind.i64.wrap (2 * (1 + (q : Int))) = 2 * (1 + (q : Int)) := IntWalk.i64_in _ (by omega)
          clear hkl
          go_wp2_with (first
            | (go_at_call 13; (with_reducible refine hlen.out.mono ?_); rintro e w' ⟨rfl, rfl⟩)
            | (go_at_call 12; (with_reducible refine hsi.out.mono ?_); rintro e w' ⟨rfl, rfl⟩))
          try rw [show ((q + 1 : Nat) : Int) = (q : Int) + 1 by omega]
          clear hlen hsi f8 f2 d1 wq hT1 hT2 hj
          go_loopw [102] (fun u wr => ∃ j n pr : Nat, u = .int .i64 (j : Int) ∧ j ≤ q + 1 ∧ Hid (TX wr (fun j => w1.heap.size ≤ j) P M seed n (H.kept (q + 1) (fun i => decide (j ≤ i)) (fun i => ((i % 3, H.px f s i), i))) pr cl) ∧ Hid (Below w1.heap.size w1 wr))
            (fun u _ => q + 1 - (intOf u).toNat)
          case atStart => exact ⟨0, n, pr, rfl, by omega, Lib.hid (by rw [H.kept_congr (q + 1) _ (fun _ => true) _ (fun i _ => by simp)]; exact HT.out), HB⟩
          case round =>
            clear HT HB
            obtain ⟨j, n, pr, rfl, hj, HT, HB⟩ := hrel
            by_cases hlt : j < q + 1
            · have hT1 : decide ((j : Int) < 1 + (q : Int)) = true := decide_eq_true (by omega)
              obtain ⟨p1, p2⟩ := px_int f s j
              obtain ⟨m1, m2⟩ := modI3 j
              have wj : IntKind.u64.wrap (j : Int) = (j : Int) := u64_in _ (by omega) (by omega)
              have hz := HB.out.size
              have hl3 : j % 3 < 3 := Nat.mod_lt _ (by decide)
              have wl : IntKind.u8.wrap ((j % 3 : Nat) : Int) = ((j % 3 : Nat) : Int) := by simp [IntKind.wrap, IntKind.signed, IntKind.bits]; omega
              have hdr := Lib.hid (tx_drop_yes HT.out (fun i hi => by omega) (j % 3, H.px f s j) ((j % 3 : Nat) : Int) (H.px f s j : Int) rfl rfl j (show j % 3 < 256 by omega) (H.kept (q + 1) (fun i => decide (j + 1 ≤ i)) (fun i => ((i % 3, H.px f s i), i)))
                (H.kept_drop (q + 1) (fun i => decide (j ≤ i)) (fun i => decide (j + 1 ≤ i)) (fun i => ((i % 3, H.px f s i), i)) j hlt (by simp) (by simp) (fun i hi => by simp; omega))
                (by have := H.kept_len (q + 1) (fun i => decide (j + 1 ≤ i)) (fun i => ((i % 3, H.px f s i), i)); omega))
              generalize H.px f s j = px at *
              generalize j % 3 = lv at *
              go_wp2_with (first
                | (go_at_call 19; (with_reducible refine hdr.out.mono ?_); rintro e w4 ⟨n4, p4, rfl, ht, hb, _, _⟩
                   have T4 := Lib.hid ht
                   have B4 := Lib.hid hb
                   clear ht hb))
              exact ⟨⟨j + 1, n4, p4, by go_num, by omega, T4, Lib.hid (HB.out.trans (B4.out.below hz (fun _ h => h)))⟩, by simp [intOf]; omega⟩
            · obtain rfl : j = q + 1 := by omega
              have hT1 : decide (((q + 1 : Nat) : Int) < 1 + (q : Int)) = false := decide_eq_false (by omega)
              have hT2 : decide ((q : Int) + 1 < 1 + (q : Int)) = false := decide_eq_false (by omega)
              have he : H.kept (q + 1) (fun i => decide (q + 1 ≤ i)) (fun i => ((i % 3, H.px f s i), i)) = [] := by
                unfold H.kept
                rw [List.filter_eq_nil_iff.2 (fun i hi => by have : i < q + 1 := by simpa using hi
                                                             simp; omega)]
                rfl
              have HT0 := HT.out
              rw [he] at HT0
              obtain ⟨f8, _, f3, _⟩ := HT0.facts
              have hn8 : n = 8 := by
                rcases Nat.lt_or_ge 8 n with h | h
                · have := f3 h; simp at this
                · omega
              subst hn8
              have hlen := Lib.hid (tx_len HT0 0 rfl)
              have hsi := Lib.hid (tx_size HT0)
              have hal := Lib.hid (tx_all HT0 List.Pairwise.nil (by simp) 9 9 rfl (by omega) (by omega))
              clear he HT0 HT f8 f3
              go_wp2_with (first
                | (go_at_call 13; (with_reducible refine hlen.out.mono ?_); rintro e w' ⟨rfl, rfl⟩)
                | (go_at_call 12; (with_reducible refine hsi.out.mono ?_); rintro e w' ⟨rfl, rfl⟩)
                | (go_at_call 15; (with_reducible refine hal.out.mono ?_); rintro e w6 ⟨v6, rfl, ho6, hb6⟩; obtain ⟨A6, c6, rfl⟩ := own_form ho6; have B6 := Lib.hid hb6; clear hb6 ho6))
              go_ret
              exact ⟨rfl, HB1.out.trans ((HB.out.mono HB1.out.size).trans (B6.out.mono (by have := HB1.out.size; have := HB.out.size; omega)))⟩
end Go.Proofs.Ytmlidbmpnhfffaa
