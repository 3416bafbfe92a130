/- The law functions of words: each returns true at every input, the text walked over the contracts. -/
import Derived.Test.YtcjbmcnnlggelaaDoorRefs2
import Derived.Handy
namespace Go.Proofs.YtcjbmcnnlggelaaDoor
open Go.RowKit

theorem wake1 : M.rNext (M.bz (M.mk [3, 9])) 4 = 9 := by decide +kernel
theorem wake2 : M.rPrev (M.bz (M.mk [3, 9])) 4 = 3 := by decide +kernel
theorem wake3 : M.rRank (M.bz (M.mk [3, 9])) 9 = 1 := by decide +kernel
theorem wake4 : M.rSel (M.bz (M.mk [3, 9])) 1 = 9 := by decide +kernel
theorem wake_rd (w : World) : Rd (w.alloc (.cells #[.int .i64 3, .int .i64 9] 3)) (w.heap.size + 1) (some ⟨w.heap.size, 0, none⟩) [3, 9] := fun _ =>
  ⟨w.heap.size, 0, rfl, by omega, fun k hk => by
    match k, hk with
    | 0, _ => simp
    | 1, _ => simp⟩

set_option maxHeartbeats 1000000 in
theorem awake_any (w : World) (hT : Tab w) : Calls Tryd.prog 10 #[] w fun e w' => e = .returned (.bool true) ∧ Below w.heap.size w w' := by
  have h1 := wake1
  have h2 := wake2
  have h3 := wake3
  have h4 := wake4
  have hm := M.mk_lt [3, 9]
  have hT2 : Tab (w.alloc (.cells #[.int .i64 3, .int .i64 9] 3)) := hT.below ((Below.refl _ w).alloc (Nat.le_refl _) _) hT.pos
  have hr := Lib.hid (wake_rd w)
  go_enter Tryd.func10, Tryd.ntmps10
  go_wp2_with (first
    | (go_at_call 36; refine (bit_make _ _ [3, 9] _ _ hr.out (by decide)).mono ?_; rintro e w' ⟨rfl, rfl⟩)
    | (go_at_call 14; refine (bit_next _ hm _ _ hT2).mono ?_; rintro e w' ⟨rfl, n1, rfl⟩)
    | (go_at_call 16; refine (bit_prev _ hm _ (by decide) _).mono ?_; rintro e w' ⟨rfl, n2, rfl⟩)
    | (go_at_call 18; refine (bit_rank _ hm _ _).mono ?_; rintro e w' ⟨rfl, n3, rfl⟩)
    | (go_at_call 20; refine (bit_select _ hm _ _ (hT2.drew _)).mono ?_; rintro e w' ⟨rfl, rfl⟩))
  go_ret
  exact ⟨rfl, below_drewN ((Below.refl _ w).alloc (Nat.le_refl _) _) _⟩

set_option maxHeartbeats 1000000 in
theorem law_inverse (x : Nat) (hx : x < 18446744073709551616) (k : Int) (w : World) (hT : Tab w) :
    Calls Tryd.prog 5 #[.int .u64 (x : Int), .int .i64 k] w fun e w' => e = .returned (.bool true) ∧ Below w.heap.size w w' := by
  by_cases hneg : M.rSel (M.bz x) k < 0
  · have hk := M.sel_neg hneg
    by_cases h0 : k < 0
    · have d0 : decide (k < 0) = true := by simp [h0]
      clear hk
      go_enter Tryd.func5, Tryd.ntmps5
      go_wp2_with (first
        | (go_at_call 10; refine (awake_any _ hT).mono ?_; rintro e w1 ⟨rfl, hb1⟩; have hT1 := hT.below hb1 hT.pos)
        | (go_at_call 20; refine (bit_select _ hx _ _ hT1).mono ?_; rintro e w' ⟨rfl, rfl⟩))
      go_ret
      exact ⟨rfl, hb1⟩
    · have h1 : ((M.bl x).length : Int) ≤ k := by omega
      have d0 : decide (k < 0) = false := by simp; omega
      have d1 : decide (((M.bl x).length : Int) ≤ k) = true := by simp [h1]
      clear hk
      go_enter Tryd.func5, Tryd.ntmps5
      go_wp2_with (first
        | (go_at_call 10; refine (awake_any _ hT).mono ?_; rintro e w1 ⟨rfl, hb1⟩; have hT1 := hT.below hb1 hT.pos)
        | (go_at_call 20; refine (bit_select _ hx _ _ hT1).mono ?_; rintro e w' ⟨rfl, rfl⟩)
        | (go_at_call 22; refine (bit_count _ hx _).mono ?_; rintro e w' ⟨rfl, rfl⟩))
      go_ret
      exact ⟨rfl, hb1⟩
  · obtain ⟨n, rfl, hn⟩ := M.sel_mem (l := M.bz x) (k := k) (by omega)
    obtain ⟨f1, f2, f3, f4⟩ := M.at_facts (M.bz_sorted x) hn
    have hlo : -9223372036854775808 ≤ M.rSel (M.bz x) n := by omega
    clear hn
    generalize hi : M.rSel (M.bz x) n = i at *
    have hge : 0 ≤ i := by omega
    clear hneg
    go_enter Tryd.func5, Tryd.ntmps5
    go_wp2_with (first
      | (go_at_call 10; refine (awake_any _ hT).mono ?_; rintro e w1 ⟨rfl, hb1⟩; have hT1 := hT.below hb1 hT.pos)
      | (go_at_call 20; refine (bit_select _ hx _ _ hT1).mono ?_; rintro e w' ⟨rfl, rfl⟩)
      | (go_at_call 12; refine (bit_get _ hx _ _).mono ?_; rintro e w' ⟨rfl, rfl⟩)
      | (go_at_call 18; refine (bit_rank _ hx _ _).mono ?_; rintro e w' ⟨rfl, n3, rfl⟩)
      | (go_at_call 14; refine (bit_next _ hx _ _ (hT1.drew _)).mono ?_; rintro e w' ⟨rfl, n1, rfl⟩)
      | (go_at_call 16; refine (bit_prev _ hx _ hlo _).mono ?_; rintro e w' ⟨rfl, n2, rfl⟩))
    go_ret
    exact ⟨rfl, below_drewN hb1 _⟩
end Go.Proofs.YtcjbmcnnlggelaaDoor
