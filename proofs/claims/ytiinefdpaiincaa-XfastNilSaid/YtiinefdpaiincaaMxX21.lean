/- The law XfastNil; the text walked. -/
import Derived.Test.YtiinefdpaiincaaMxX20
namespace Go.Proofs.Ytiinefdpaiincaa
open Go.RowKit
set_option maxHeartbeats 2000000 in
theorem law_xfast_nil (w : World) (sd : Nat) (k lim : Int) :
    Calls Try.prog 5 #[.int .u64 (sd : Int), .int .u64 k, .int .i64 lim] w fun e w' => e = .returned (.bool true) ∧ Below w.heap.size w w' := by
  have haw := Lib.hid (law_awake xz_tc2 (by decide) (by decide) w)
  by_cases h0 : 0 ≤ lim
  · by_cases h1 : lim ≤ 1048576
    · obtain ⟨n, rfl⟩ : ∃ n : Nat, lim = (n : Int) := ⟨lim.toNat, by omega⟩
      have hnew := Lib.hid (fun W => xf_new_any W sd n (by omega))
      have d0 : decide (0 ≤ (n : Int)) = true := decide_eq_true h0
      have d1 : decide ((n : Int) ≤ 1048576) = true := decide_eq_true h1
      clear h0 h1
      go_enter Try.func5, Try.ntmps5
      go_wp2_with (first
        | (go_at_call 7; (with_reducible refine haw.out.mono ?_); rintro e w1 ⟨rfl, h1⟩; have H1 := Lib.hid h1; clear h1)
        | (go_at_call 8; (with_reducible refine (hnew.out w1).mono ?_); rintro e w2 ⟨P, rfl, h2⟩; have H2 := Lib.hid (H1.out.trans (h2.mono H1.out.size)); clear h2)
        | (go_at_call 27; (with_reducible refine (xf_next_nil w2 k).mono ?_); rintro e w' ⟨rfl, rfl⟩)
        | (go_at_call 28; (with_reducible refine (xf_prev_nil w2 k).mono ?_); rintro e w' ⟨rfl, rfl⟩)
        | (go_at_call 25; (with_reducible refine (xf_min_nil w2).mono ?_); rintro e w3 ⟨rfl, h3⟩; have H3 := Lib.hid (H2.out.trans (h3.mono H2.out.size)); clear h3)
        | (go_at_call 26; (with_reducible refine (xf_max_nil w3).mono ?_); rintro e w4 ⟨rfl, h4⟩; have H4 := Lib.hid (H3.out.trans (h4.mono H3.out.size)); clear h4)
        | (go_at_call 29; (with_reducible refine (xf_clear_nil w4).mono ?_); rintro e w5 ⟨rfl, hh⟩; have H5 := Lib.hid (H4.out.trans (hh.mono H4.out.size)); clear hh)
        | (go_at_call 21; (with_reducible refine (xf_insert_nil w5 k).mono ?_); rintro e w6 ⟨rfl, hh⟩; have H6 := Lib.hid (H5.out.trans (hh.mono H5.out.size)); clear hh)
        | (go_at_call 23; (with_reducible refine (xf_delete_nil w6 k).mono ?_); rintro e w7 ⟨rfl, hh⟩; have H7 := Lib.hid (H6.out.trans (hh.mono H6.out.size)); clear hh)
        | (go_at_call 24; (with_reducible refine (xf_has_nil w7 k).mono ?_); rintro e w8 ⟨rfl, hh⟩; have H8 := Lib.hid (H7.out.trans (hh.mono H7.out.size)); clear hh)
        | (go_at_call 30; (with_reducible refine (xf_len_nil w8).mono ?_); rintro e w9 ⟨rfl, hh⟩; have H9 := Lib.hid (H8.out.trans (hh.mono H8.out.size)); clear hh)
        | (go_at_call 12; (with_reducible refine (xf_used_nil w9).mono ?_); rintro e wa ⟨rfl, hh⟩; have Ha := Lib.hid (H9.out.trans (hh.mono H9.out.size)); clear hh)
        | (go_at_call 18; (with_reducible refine (xf_limit_nil wa).mono ?_); rintro e wb ⟨rfl, hh⟩; have Hb := Lib.hid (Ha.out.trans (hh.mono Ha.out.size)); clear hh)
        | (go_at_call 17; (with_reducible refine (law_all_nil wb).mono ?_); rintro e wc ⟨⟨A, c, rfl⟩, hh⟩; have Hc := Lib.hid (Hb.out.trans (hh.mono Hb.out.size)); clear hh))
      go_ret
      exact ⟨rfl, Hc.out⟩
    · have d0 : decide (0 ≤ lim) = true := decide_eq_true h0
      have d1 : decide (lim ≤ 1048576) = false := decide_eq_false h1
      have HN : Hid (¬ (0 ≤ lim ∧ lim ≤ 1048576)) := Lib.hid (fun h => h1 h.2)
      clear h0 h1
      go_enter Try.func5, Try.ntmps5
      go_wp2_with (first
        | (go_at_call 7; (with_reducible refine haw.out.mono ?_); rintro e w1 ⟨rfl, h1⟩; have H1 := Lib.hid h1; clear h1)
        | (go_at_call 8; (with_reducible refine (xf_new_no w1 (sd : Int) lim HN.out).mono ?_); rintro e w' ⟨rfl, rfl⟩)
        | (go_at_call 27; (with_reducible refine (xf_next_nil w1 k).mono ?_); rintro e w' ⟨rfl, rfl⟩)
        | (go_at_call 28; (with_reducible refine (xf_prev_nil w1 k).mono ?_); rintro e w' ⟨rfl, rfl⟩)
        | (go_at_call 25; (with_reducible refine (xf_min_nil w1).mono ?_); rintro e w3 ⟨rfl, h3⟩; have H3 := Lib.hid (H1.out.trans (h3.mono H1.out.size)); clear h3)
        | (go_at_call 26; (with_reducible refine (xf_max_nil w3).mono ?_); rintro e w4 ⟨rfl, h4⟩; have H4 := Lib.hid (H3.out.trans (h4.mono H3.out.size)); clear h4)
        | (go_at_call 29; (with_reducible refine (xf_clear_nil w4).mono ?_); rintro e w5 ⟨rfl, hh⟩; have H5 := Lib.hid (H4.out.trans (hh.mono H4.out.size)); clear hh)
        | (go_at_call 21; (with_reducible refine (xf_insert_nil w5 k).mono ?_); rintro e w6 ⟨rfl, hh⟩; have H6 := Lib.hid (H5.out.trans (hh.mono H5.out.size)); clear hh)
        | (go_at_call 23; (with_reducible refine (xf_delete_nil w6 k).mono ?_); rintro e w7 ⟨rfl, hh⟩; have H7 := Lib.hid (H6.out.trans (hh.mono H6.out.size)); clear hh)
        | (go_at_call 24; (with_reducible refine (xf_has_nil w7 k).mono ?_); rintro e w8 ⟨rfl, hh⟩; have H8 := Lib.hid (H7.out.trans (hh.mono H7.out.size)); clear hh)
        | (go_at_call 30; (with_reducible refine (xf_len_nil w8).mono ?_); rintro e w9 ⟨rfl, hh⟩; have H9 := Lib.hid (H8.out.trans (hh.mono H8.out.size)); clear hh)
        | (go_at_call 12; (with_reducible refine (xf_used_nil w9).mono ?_); rintro e wa ⟨rfl, hh⟩; have Ha := Lib.hid (H9.out.trans (hh.mono H9.out.size)); clear hh)
        | (go_at_call 18; (with_reducible refine (xf_limit_nil wa).mono ?_); rintro e wb ⟨rfl, hh⟩; have Hb := Lib.hid (Ha.out.trans (hh.mono Ha.out.size)); clear hh)
        | (go_at_call 17; (with_reducible refine (law_all_nil wb).mono ?_); rintro e wc ⟨⟨A, c, rfl⟩, hh⟩; have Hc := Lib.hid (Hb.out.trans (hh.mono Hb.out.size)); clear hh))
      go_ret
      exact ⟨rfl, Hc.out⟩
  · have d0 : decide (0 ≤ lim) = false := decide_eq_false h0
    have HN : Hid (¬ (0 ≤ lim ∧ lim ≤ 1048576)) := Lib.hid (fun h => h0 h.1)
    clear h0
    go_enter Try.func5, Try.ntmps5
    go_wp2_with (first
      | (go_at_call 7; (with_reducible refine haw.out.mono ?_); rintro e w1 ⟨rfl, h1⟩; have H1 := Lib.hid h1; clear h1)
      | (go_at_call 8; (with_reducible refine (xf_new_no w1 (sd : Int) lim HN.out).mono ?_); rintro e w' ⟨rfl, rfl⟩)
      | (go_at_call 27; (with_reducible refine (xf_next_nil w1 k).mono ?_); rintro e w' ⟨rfl, rfl⟩)
      | (go_at_call 28; (with_reducible refine (xf_prev_nil w1 k).mono ?_); rintro e w' ⟨rfl, rfl⟩)
      | (go_at_call 25; (with_reducible refine (xf_min_nil w1).mono ?_); rintro e w3 ⟨rfl, h3⟩; have H3 := Lib.hid (H1.out.trans (h3.mono H1.out.size)); clear h3)
      | (go_at_call 26; (with_reducible refine (xf_max_nil w3).mono ?_); rintro e w4 ⟨rfl, h4⟩; have H4 := Lib.hid (H3.out.trans (h4.mono H3.out.size)); clear h4)
      | (go_at_call 29; (with_reducible refine (xf_clear_nil w4).mono ?_); rintro e w5 ⟨rfl, hh⟩; have H5 := Lib.hid (H4.out.trans (hh.mono H4.out.size)); clear hh)
      | (go_at_call 21; (with_reducible refine (xf_insert_nil w5 k).mono ?_); rintro e w6 ⟨rfl, hh⟩; have H6 := Lib.hid (H5.out.trans (hh.mono H5.out.size)); clear hh)
      | (go_at_call 23; (with_reducible refine (xf_delete_nil w6 k).mono ?_); rintro e w7 ⟨rfl, hh⟩; have H7 := Lib.hid (H6.out.trans (hh.mono H6.out.size)); clear hh)
      | (go_at_call 24; (with_reducible refine (xf_has_nil w7 k).mono ?_); rintro e w8 ⟨rfl, hh⟩; have H8 := Lib.hid (H7.out.trans (hh.mono H7.out.size)); clear hh)
      | (go_at_call 30; (with_reducible refine (xf_len_nil w8).mono ?_); rintro e w9 ⟨rfl, hh⟩; have H9 := Lib.hid (H8.out.trans (hh.mono H8.out.size)); clear hh)
      | (go_at_call 12; (with_reducible refine (xf_used_nil w9).mono ?_); rintro e wa ⟨rfl, hh⟩; have Ha := Lib.hid (H9.out.trans (hh.mono H9.out.size)); clear hh)
      | (go_at_call 18; (with_reducible refine (xf_limit_nil wa).mono ?_); rintro e wb ⟨rfl, hh⟩; have Hb := Lib.hid (Ha.out.trans (hh.mono Ha.out.size)); clear hh)
      | (go_at_call 17; (with_reducible refine (law_all_nil wb).mono ?_); rintro e wc ⟨⟨A, c, rfl⟩, hh⟩; have Hc := Lib.hid (Hb.out.trans (hh.mono Hb.out.size)); clear hh))
    go_ret
    exact ⟨rfl, Hc.out⟩
end Go.Proofs.Ytiinefdpaiincaa
