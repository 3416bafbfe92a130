
/- The law HashNil: a nil table; the text walked. -/
import Derived.Test.YtmlidbmpnhfffaaHAll2
namespace Go.Proofs.Ytmlidbmpnhfffaa
open Go.RowKit
theorem rising_nil (W : World) : Calls Try.prog 31 #[.pointer none] W (RisP W []) := by
  go_enter Try.func31, Try.ntmps31
  go_wp2
  refine bodyPost_ret (results_tmp (t := 2) rfl _ _ _) rfl ?_
  exact ⟨none, 0, rfl, Below.refl _ _, .inl rfl⟩
theorem all_nil (w : World) (m : Int) (hm : m = 9) : Calls Try.prog 15 #[.pointer none, .int .i64 m] w fun e w' => ∃ A c, e = .returned (.slice A 0 c) ∧ Below w.heap.size w w' := by
  subst hm
  refine (all_law w none [] 9 (by omega) (by omega) (by simp) (fun W _ => rising_nil W)).mono ?_
  rintro e w' ⟨v, rfl, ho, hb⟩
  obtain ⟨A, c, rfl⟩ := own_form ho
  exact ⟨A, c, rfl, hb⟩
set_option maxHeartbeats 1000000 in
theorem law_nil (l p v : Int) (w : World) :
    Calls Try.prog 6 #[.int .u8 l, .int .u64 p, .int .u64 v] w fun e w' => e = .returned (.bool true) ∧ Below w.heap.size w w' := by
  go_enter Try.func6, Try.ntmps6
  go_wp2_with (first
    | (go_at_call 8; (with_reducible refine (awake_any _).mono ?_); rintro e w1 ⟨rfl, hb1⟩
       have hz1 := hb1.size
       have B1 := Lib.hid hb1
       have B2 := Lib.hid ((Below.refl w1.heap.size w1).alloc (Nat.le_refl _) (.cells #[.int .u8 l, .int .u64 p] 43))
       have kb : (w1.alloc (.cells #[.int .u8 l, .int .u64 p] 43)).heap[w1.heap.size]? = some (.cells #[.int .u8 l, .int .u64 p] 43 (0, 0)) := alloc_topI _ _
       have hk2 : w1.heap.size < (w1.alloc (.cells #[.int .u8 l, .int .u64 p] 43)).heap.size := (by simp)
       have KB0 := Lib.hid kb
       clear hb1 kb)
    | (go_at_call 18; (with_reducible refine (tab_get_nil _ _ _).mono ?_); rintro e w3 ⟨rfl, hb3⟩
       have hk3 := hb3.size
       have k3 := (hb3.block _ hk2).trans KB0.out
       have c30 := cell_of_row _ _ 0 _ _ (0, 0) k3
       have c31 := cell_of_row _ _ 1 _ _ (0, 0) k3
       have K3 := Lib.hid k3
       have B3 := Lib.hid hb3
       clear hb3 k3)
    | (go_at_call 20; (with_reducible refine (tab_clear_nil _).mono ?_); rintro e w' ⟨rfl, rfl⟩)
    | (go_at_call 17; (with_reducible refine (tab_put_nil _ _ _ _).mono ?_); rintro e w4 ⟨rfl, hb4⟩
       have hk4 := hb4.size
       have k4 := (hb4.block _ (by omega)).trans K3.out
       have c40 := cell_of_row _ _ 0 _ _ (0, 0) k4
       have c41 := cell_of_row _ _ 1 _ _ (0, 0) k4
       have B4 := Lib.hid hb4
       clear hb4 k4)
    | (go_at_call 19; (with_reducible refine (tab_drop_nil _ _ _).mono ?_); rintro e w5 ⟨rfl, hb5⟩; have B5 := Lib.hid hb5; clear hb5)
    | (go_at_call 13; (with_reducible refine (tab_len_nil _).mono ?_); rintro e w' ⟨rfl, rfl⟩)
    | (go_at_call 12; (with_reducible refine (tab_size_nil _).mono ?_); rintro e w' ⟨rfl, rfl⟩)
    | (go_at_call 21; (with_reducible refine (tab_probes_nil _).mono ?_); rintro e w' ⟨rfl, rfl⟩)
    | (go_at_call 15; (with_reducible refine (all_nil _ _ rfl).mono ?_); rintro e w6 ⟨A, c, rfl, hb6⟩; have B6 := Lib.hid hb6; clear hb6))
  go_ret
  exact ⟨rfl, B1.out.trans ((B2.out.mono hz1).trans ((B3.out.mono (by omega)).trans ((B4.out.mono (by omega)).trans ((B5.out.mono (by omega)).trans (B6.out.mono (by have := B5.out.size; omega))))))⟩
end Go.Proofs.Ytmlidbmpnhfffaa
