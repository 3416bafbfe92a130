
/- The law TrieNil; the text walked. -/
import Derived.Test.YtndielncleohlaaDoorU17
namespace Go.Proofs.YtndielncleohlaaDoor
set_option maxRecDepth 40000
open Go.RowKit
theorem ta_new_below (w : World) (lim : Nat) (hl : lim ≤ 1048576) : Calls Tryd.prog 10 #[.int .i64 (lim : Int)] w fun e w' => ∃ P, e = .returned (.tuple #[.pointer (some ⟨P, 0, none⟩), .int .i64 0]) ∧ Below w.heap.size w w' :=
  (ta_new w lim hl).mono fun _ _ ⟨P, h1, h2⟩ => ⟨P, h1, h2.low⟩
set_option maxHeartbeats 2000000 in
theorem law_trie_nil (w : World) (hTab : Tab w) (k lim : Int) :
    Calls Tryd.prog 5 #[.int .u64 k, .int .i64 lim] w fun e w' => e = .returned (.bool true) ∧ Below w.heap.size w w' := by
  have haw := Lib.hid (awake_any w hTab)
  clear hTab
  by_cases h0 : 0 ≤ lim
  · by_cases h1 : lim ≤ 1048576
    · obtain ⟨n, rfl⟩ : ∃ n : Nat, lim = (n : Int) := ⟨lim.toNat, by omega⟩
      have hnew := Lib.hid (fun W => ta_new_below W n (by omega))
      have d0 : decide (0 ≤ (n : Int)) = true := decide_eq_true h0
      have d1 : decide ((n : Int) ≤ 1048576) = true := decide_eq_true h1
      clear h0 h1
      go_enter Tryd.func5, Tryd.ntmps5
      go_wp2_with (first
        | (go_at_call 9; (with_reducible refine haw.out.mono ?_); rintro e w1 ⟨rfl, h1⟩; have H1 := Lib.hid h1; clear h1)
        | (go_at_call 10; (with_reducible refine (hnew.out w1).mono ?_); rintro e w2 ⟨P, rfl, h2⟩; have H2 := Lib.hid (H1.out.trans (h2.mono H1.out.size)); clear h2)
        | (go_at_call 29; (with_reducible refine (t_next_nil w2 k).mono ?_); rintro e w' ⟨rfl, rfl⟩)
        | (go_at_call 30; (with_reducible refine (t_prev_nil w2 k).mono ?_); rintro e w' ⟨rfl, rfl⟩)
        | (go_at_call 27; (with_reducible refine (t_min_nil w2).mono ?_); rintro e w3 ⟨rfl, h3⟩; have H3 := Lib.hid (H2.out.trans (h3.mono H2.out.size)); clear h3)
        | (go_at_call 28; (with_reducible refine (t_max_nil w3).mono ?_); rintro e w4 ⟨rfl, h4⟩; have H4 := Lib.hid (H3.out.trans (h4.mono H3.out.size)); clear h4)
        | (go_at_call 31; (with_reducible refine (t_clear_nil w4).mono ?_); rintro e w' ⟨rfl, rfl⟩)
        | (go_at_call 23; (with_reducible refine (t_insert_nil w4 k).mono ?_); rintro e w' ⟨rfl, rfl⟩)
        | (go_at_call 25; (with_reducible refine (t_delete_nil w4 k).mono ?_); rintro e w' ⟨rfl, rfl⟩)
        | (go_at_call 26; (with_reducible refine (t_has_nil w4 k).mono ?_); rintro e w' ⟨rfl, rfl⟩)
        | (go_at_call 32; (with_reducible refine (t_len_nil w4).mono ?_); rintro e w' ⟨rfl, rfl⟩)
        | (go_at_call 14; (with_reducible refine (t_used_nil w4).mono ?_); rintro e w' ⟨rfl, rfl⟩)
        | (go_at_call 20; (with_reducible refine (t_limit_nil w4).mono ?_); rintro e w' ⟨rfl, rfl⟩)
        | (go_at_call 19; (with_reducible refine (law_all_nil w4 9).mono ?_); rintro e w5 ⟨rfl, h5⟩; have H5 := Lib.hid (H4.out.trans (h5.below H4.out.size (fun j h => h.elim))); clear h5))
      go_ret
      exact ⟨rfl, H5.out⟩
    · have d0 : decide (0 ≤ lim) = true := decide_eq_true h0
      have d1 : decide (lim ≤ 1048576) = false := decide_eq_false h1
      have HN : Hid (¬ (0 ≤ lim ∧ lim ≤ 1048576)) := Lib.hid (fun h => h1 h.2)
      clear h0 h1
      go_enter Tryd.func5, Tryd.ntmps5
      go_wp2_with (first
        | (go_at_call 9; (with_reducible refine haw.out.mono ?_); rintro e w1 ⟨rfl, h1⟩; have H1 := Lib.hid h1; clear h1)
        | (go_at_call 10; (with_reducible refine (t_new_no w1 lim HN.out).mono ?_); rintro e w' ⟨rfl, rfl⟩)
        | (go_at_call 29; (with_reducible refine (t_next_nil w1 k).mono ?_); rintro e w' ⟨rfl, rfl⟩)
        | (go_at_call 30; (with_reducible refine (t_prev_nil w1 k).mono ?_); rintro e w' ⟨rfl, rfl⟩)
        | (go_at_call 27; (with_reducible refine (t_min_nil w1).mono ?_); rintro e w3 ⟨rfl, h3⟩; have H3 := Lib.hid (H1.out.trans (h3.mono H1.out.size)); clear h3)
        | (go_at_call 28; (with_reducible refine (t_max_nil w3).mono ?_); rintro e w4 ⟨rfl, h4⟩; have H4 := Lib.hid (H3.out.trans (h4.mono H3.out.size)); clear h4)
        | (go_at_call 31; (with_reducible refine (t_clear_nil w4).mono ?_); rintro e w' ⟨rfl, rfl⟩)
        | (go_at_call 23; (with_reducible refine (t_insert_nil w4 k).mono ?_); rintro e w' ⟨rfl, rfl⟩)
        | (go_at_call 25; (with_reducible refine (t_delete_nil w4 k).mono ?_); rintro e w' ⟨rfl, rfl⟩)
        | (go_at_call 26; (with_reducible refine (t_has_nil w4 k).mono ?_); rintro e w' ⟨rfl, rfl⟩)
        | (go_at_call 32; (with_reducible refine (t_len_nil w4).mono ?_); rintro e w' ⟨rfl, rfl⟩)
        | (go_at_call 14; (with_reducible refine (t_used_nil w4).mono ?_); rintro e w' ⟨rfl, rfl⟩)
        | (go_at_call 20; (with_reducible refine (t_limit_nil w4).mono ?_); rintro e w' ⟨rfl, rfl⟩)
        | (go_at_call 19; (with_reducible refine (law_all_nil w4 9).mono ?_); rintro e w5 ⟨rfl, h5⟩; have H5 := Lib.hid (H4.out.trans (h5.below H4.out.size (fun j h => h.elim))); clear h5))
      go_ret
      exact ⟨rfl, H5.out⟩
  · have d0 : decide (0 ≤ lim) = false := decide_eq_false h0
    have HN : Hid (¬ (0 ≤ lim ∧ lim ≤ 1048576)) := Lib.hid (fun h => h0 h.1)
    clear h0
    go_enter Tryd.func5, Tryd.ntmps5
    go_wp2_with (first
      | (go_at_call 9; (with_reducible refine haw.out.mono ?_); rintro e w1 ⟨rfl, h1⟩; have H1 := Lib.hid h1; clear h1)
      | (go_at_call 10; (with_reducible refine (t_new_no w1 lim HN.out).mono ?_); rintro e w' ⟨rfl, rfl⟩)
      | (go_at_call 29; (with_reducible refine (t_next_nil w1 k).mono ?_); rintro e w' ⟨rfl, rfl⟩)
      | (go_at_call 30; (with_reducible refine (t_prev_nil w1 k).mono ?_); rintro e w' ⟨rfl, rfl⟩)
      | (go_at_call 27; (with_reducible refine (t_min_nil w1).mono ?_); rintro e w3 ⟨rfl, h3⟩; have H3 := Lib.hid (H1.out.trans (h3.mono H1.out.size)); clear h3)
      | (go_at_call 28; (with_reducible refine (t_max_nil w3).mono ?_); rintro e w4 ⟨rfl, h4⟩; have H4 := Lib.hid (H3.out.trans (h4.mono H3.out.size)); clear h4)
      | (go_at_call 31; (with_reducible refine (t_clear_nil w4).mono ?_); rintro e w' ⟨rfl, rfl⟩)
      | (go_at_call 23; (with_reducible refine (t_insert_nil w4 k).mono ?_); rintro e w' ⟨rfl, rfl⟩)
      | (go_at_call 25; (with_reducible refine (t_delete_nil w4 k).mono ?_); rintro e w' ⟨rfl, rfl⟩)
      | (go_at_call 26; (with_reducible refine (t_has_nil w4 k).mono ?_); rintro e w' ⟨rfl, rfl⟩)
      | (go_at_call 32; (with_reducible refine (t_len_nil w4).mono ?_); rintro e w' ⟨rfl, rfl⟩)
      | (go_at_call 14; (with_reducible refine (t_used_nil w4).mono ?_); rintro e w' ⟨rfl, rfl⟩)
      | (go_at_call 20; (with_reducible refine (t_limit_nil w4).mono ?_); rintro e w' ⟨rfl, rfl⟩)
      | (go_at_call 19; (with_reducible refine (law_all_nil w4 9).mono ?_); rintro e w5 ⟨rfl, h5⟩; have H5 := Lib.hid (H4.out.trans (h5.below H4.out.size (fun j h => h.elim))); clear h5))
    go_ret
    exact ⟨rfl, H5.out⟩
end Go.Proofs.YtndielncleohlaaDoor
