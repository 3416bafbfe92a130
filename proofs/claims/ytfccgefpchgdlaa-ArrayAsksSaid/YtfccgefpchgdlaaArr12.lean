
/- The law ArrayInverse; the text walked. -/
import Derived.Test.YtfccgefpchgdlaaArr11
namespace Go.Proofs.Ytfccgefpchgdlaa
open Go.RowKit
theorem rank_self {zs : List Int} (hs : zs.Pairwise (· < ·)) {i : Nat} (hi : i < zs.length) : M.rRank zs zs[i] = i :=
  rank_at (by omega) (fun k hk h => List.pairwise_iff_getElem.1 hs k i hk hi h) (fun k hk h => by
    rcases Nat.lt_or_eq_of_le h with e | e
    · exact Int.le_of_lt (List.pairwise_iff_getElem.1 hs i k hi hk e)
    · subst e; exact Int.le_refl _)
theorem sel_yes {zs : List Int} {i : Nat} (hi : i < zs.length) : selb zs (i : Int) = true ∧ selv zs (i : Int) = zs[i] := by
  refine ⟨by unfold selb; rw [decide_eq_true_eq]; omega, ?_⟩
  unfold selv; rw [if_pos (by omega)]; simp [hi]
section
variable (W : World) (B n c : Nat) (A : Option Addr) (zs : List Int) (hn : n = zs.length) (hr : Rh W B A zs) (few : n ≤ 1000000)
include hn hr few
theorem select_yes (i : Nat) (q : Int) (hq : q = (i : Int)) (hi : i < n) (y : Int) (hy : zs[i]? = some y) : Calls Try.prog 24 #[.slice A n c, .int .i64 q] W fun e w' => e = .returned (.tuple #[.int .u16 y, .bool true]) ∧ W = w' := by
  have h := a_select W B n c A zs q hn hr few
  obtain ⟨h1, h2⟩ := sel_yes (zs := zs) (i := i) (by omega)
  rw [hq] at h ⊢
  rw [h1, if_pos rfl, h2] at h
  have e : zs[i]'(by omega) = y := by rw [List.getElem?_eq_getElem (by omega)] at hy; exact Option.some.inj hy
  rw [e] at h
  exact h
theorem select_no (q : Int) (hq : q < 0 ∨ (n : Int) ≤ q) : Calls Try.prog 24 #[.slice A n c, .int .i64 q] W fun e w' => e = .returned (.tuple #[.int .u16 0, .bool false]) ∧ W = w' := by
  have h := a_select W B n c A zs q hn hr few
  have h1 : selb zs q = false := by unfold selb; rw [decide_eq_false_iff_not]; omega
  rw [h1] at h
  exact h
end
set_option maxHeartbeats 16000000 in
set_option maxRecDepth 100000 in
theorem law_inverse (A : Option Addr) (cp : Nat) (xs : List Int) (v : Nat) (hv : v < 65536) (w : World) (hr : Rh w w.heap.size A xs) (hl : xs.length ≤ 9223372036854775807) :
    Calls Try.prog 7 #[.slice A xs.length cp, .int .u16 (v : Int)] w fun e w' => e = .returned (.bool true) ∧ Below w.heap.size w w' := by
  have hrH := Lib.hid hr
  have hfew : ∀ W, Rh W W.heap.size A xs → Hid (Calls Try.prog 9 #[.slice A xs.length cp, .int .i64 300] W fun e w' => ∃ A' c', e = .returned (.slice A' (xs.take 300).length c') ∧ Rh w' w'.heap.size A' (xs.take 300) ∧ Young W.heap.size A' ∧ Below W.heap.size W w') := fun W h => f_few A cp xs 300 W h hl (by decide)
  clear hr
  obtain ⟨ys, hys⟩ : ∃ ys, xs.take 300 = ys := ⟨_, rfl⟩
  have hl3 : ys.length ≤ 300 := by rw [← hys, List.length_take]; omega
  rw [hys] at hfew
  clear hys
  obtain ⟨n, hn⟩ : ∃ n, n = ys.length := ⟨_, rfl⟩
  rw [← hn] at hfew hl3
  have HN := Lib.hid hn
  have HF := Lib.hid hfew
  clear hn hfew
  obtain ⟨V, hV⟩ : ∃ V : Int, V = (v : Int) := ⟨_, rfl⟩
  have hV0 : 0 ≤ V := by omega
  have hV1 : V ≤ 65535 := by omega
  rw [← hV]
  clear hV hv
  go_enter Try.func7, Try.ntmps7
  go_wp2_with (go_at_call 8; (with_reducible refine (awake_any w).mono ?_); rintro e w1 ⟨rfl, hb1⟩)
  have HB1 := Lib.hid hb1
  have R1 : Hid (Rh w1 w1.heap.size A xs) := Lib.hid ((hrH.out.below hb1 (Nat.le_refl _)).more hb1.size)
  clear hb1
  go_wp2_with (go_at_call 9; (with_reducible refine (HF.out w1 R1.out).out.mono ?_); rintro e w2 ⟨A2, c2, rfl, hr2, -, hb2⟩; replace hr2 := Lib.hid hr2; replace hb2 := Lib.hid hb2)
  have HB2 := Lib.hid (HB1.out.trans (hb2.out.mono HB1.out.size))
  clear HF R1 hb2
  go_wp2_with (go_at_call 10; (with_reducible refine (of_any w2 w2.heap.size n c2 A2 ys HN.out hr2.out (Nat.le_refl _) (by omega)).mono ?_); rintro e w4 ⟨v4, zs, rfl, z1, z2, z3, hb4, z4⟩; obtain ⟨A4, c4, hv4, hr4, _⟩ := own_reads z3; subst hv4; obtain ⟨N, hNz⟩ : ∃ N, N = zs.length := ⟨_, rfl⟩; rw [← hNz]; have hN : N ≤ 300 := (by rw [hNz]; exact Nat.le_trans z4 hl3); have HNz := Lib.hid hNz; have R4 := Lib.hid hr4; clear hNz hr4; replace z4 := Lib.hid z4; replace z1 := Lib.hid z1; replace z2 := Lib.hid z2; replace z3 := Lib.hid z3; replace hb4 := Lib.hid hb4)
  have HB4 := Lib.hid (HB2.out.trans (hb4.out.mono HB2.out.size))
  clear hb4 HB2 z3 z4 hr2
  go_loop [22] (fun vi => ∃ k : Nat, vi = .int .i64 k ∧ k ≤ N) (fun vi => N - (intOf vi).toNat)
  case atStart => exact ⟨0, rfl, Nat.zero_le _⟩
  case round =>
    obtain ⟨k, rfl, hk⟩ := hrel
    by_cases hlt : k < N
    · have hkz : k < zs.length := by rw [← HNz.out]; exact hlt
      obtain ⟨b, off, hA, _, hcell⟩ := R4.out.at hkz
      subst hA
      obtain ⟨y, hy⟩ : ∃ y, y = zs[k] := ⟨_, rfl⟩
      rw [← hy] at hcell
      have SEL : Hid (Calls Try.prog 24 #[.slice (some ⟨b, off, none⟩) N c4, .int .i64 (k : Int)] w4 fun e w' => e = .returned (.tuple #[.int .u16 y, .bool true]) ∧ w4 = w') := Lib.hid (select_yes w4 w4.heap.size N c4 _ zs HNz.out R4.out (by omega) k (k : Int) rfl hlt y (by rw [List.getElem?_eq_getElem hkz, hy]))
      have RNK : Hid (Calls Try.prog 22 #[.slice (some ⟨b, off, none⟩) N c4, .int .u16 y] w4 fun e w' => e = .returned (.int .i64 (k : Int)) ∧ w4 = w') := Lib.hid (by
        have h := a_rank w4 w4.heap.size N c4 _ zs y HNz.out R4.out z1.out (by omega)
        rw [hy, rank_self z1.out hkz] at h
        rw [hy]
        exact h)
      clear hy
      go_wp2_with (first
        | (go_at_call 24; (with_reducible refine SEL.out.mono ?_); rintro e w' ⟨rfl, rfl⟩)
        | (go_at_call 22; (with_reducible refine RNK.out.mono ?_); rintro e w' ⟨rfl, rfl⟩))
      go_round
      case rel => exact ⟨k + 1, by go_num, by omega⟩
      case measure => simp [intOf]; omega
    · obtain ⟨r, hr⟩ : ∃ r, r = M.rRank zs V := ⟨_, rfl⟩
      have hrN : r ≤ N := by rw [hr, HNz.out]; exact rank_le zs V
      have HHALF := Lib.hid (rank_half z1.out V)
      have HMEM : Hid (V ∈ zs ↔ ∃ h : r < zs.length, zs[r] = V) := Lib.hid (by rw [hr]; exact mem_at HHALF.out.1 HHALF.out.2 z1.out)
      have RNK : Hid (Calls Try.prog 22 #[.slice A4 N c4, .int .u16 V] w4 fun e w' => e = .returned (.int .i64 (r : Int)) ∧ w4 = w') := Lib.hid (by rw [hr]; exact a_rank w4 w4.heap.size N c4 A4 zs V HNz.out R4.out z1.out (by omega))
      have HR := Lib.hid hr
      have hkN := hlt
      clear hr hk hlt
      by_cases hr0 : 0 < r
      · have hr0' : 0 < (r : Int) := by omega
        have hrz1 : r - 1 < zs.length := by have := HNz.out; omega
        obtain ⟨lo, hlo⟩ : ∃ lo, lo = zs[r - 1] := ⟨_, rfl⟩
        have hlt : lo < V := by rw [hlo]; exact HHALF.out.1 (r - 1) hrz1 (by rw [← HR.out]; omega)
        have LOW : Hid (Calls Try.prog 24 #[.slice A4 N c4, .int .i64 ((r : Int) - 1)] w4 fun e w' => e = .returned (.tuple #[.int .u16 lo, .bool true]) ∧ w4 = w') := Lib.hid (select_yes w4 w4.heap.size N c4 A4 zs HNz.out R4.out (by omega) (r - 1) ((r : Int) - 1) (by omega) (by omega) lo (by rw [List.getElem?_eq_getElem hrz1, hlo]))
        clear hlo
        by_cases hrn : r < N
        · have hrz : r < zs.length := by rw [← HNz.out]; exact hrn
          obtain ⟨y2, hy2⟩ : ∃ y2, y2 = zs[r] := ⟨_, rfl⟩
          have hge : V ≤ y2 := by rw [hy2]; exact HHALF.out.2 r hrz (by rw [← HR.out]; exact Nat.le_refl _)
          have HIGH : Hid (Calls Try.prog 24 #[.slice A4 N c4, .int .i64 (r : Int)] w4 fun e w' => e = .returned (.tuple #[.int .u16 y2, .bool true]) ∧ w4 = w') := Lib.hid (select_yes w4 w4.heap.size N c4 A4 zs HNz.out R4.out (by omega) r (r : Int) rfl hrn y2 (by rw [List.getElem?_eq_getElem hrz, hy2]))
          have HY2 := Lib.hid hy2
          clear hy2
          by_cases hyv : y2 = V
          · have HM : V ∈ zs := HMEM.out.2 ⟨hrz, by rw [← HY2.out]; exact hyv⟩
            have HAS : Hid (Calls Try.prog 16 #[.slice A4 N c4, .int .u16 V] w4 fun e w' => e = .returned (.bool true) ∧ w4 = w') := Lib.hid (by
              have h := a_has w4 w4.heap.size N c4 A4 zs V HNz.out R4.out z1.out (by omega)
              rw [decide_eq_true HM] at h
              exact h)
            clear HM
            subst hyv
            go_wp2_with (first
              | (go_at_call 22; (with_reducible refine RNK.out.mono ?_); rintro e w' ⟨rfl, rfl⟩)
              | (go_at_call 24; (with_reducible refine LOW.out.mono ?_); rintro e w' ⟨rfl, rfl⟩)
              | (go_at_call 24; (with_reducible refine HIGH.out.mono ?_); rintro e w' ⟨rfl, rfl⟩)
              | (go_at_call 16; (with_reducible refine HAS.out.mono ?_); rintro e w' ⟨rfl, rfl⟩))
            go_ret
            exact ⟨rfl, HB4.out⟩
          · have HM : ¬ V ∈ zs := fun hm => by obtain ⟨_, h⟩ := HMEM.out.1 hm; rw [← HY2.out] at h; exact hyv h
            have hyb : (y2 == V) = false := by simpa using hyv
            have HAS : Hid (Calls Try.prog 16 #[.slice A4 N c4, .int .u16 V] w4 fun e w' => e = .returned (.bool false) ∧ w4 = w') := Lib.hid (by
              have h := a_has w4 w4.heap.size N c4 A4 zs V HNz.out R4.out z1.out (by omega)
              rw [decide_eq_false HM] at h
              exact h)
            clear HM
            go_wp2_with (first
              | (go_at_call 22; (with_reducible refine RNK.out.mono ?_); rintro e w' ⟨rfl, rfl⟩)
              | (go_at_call 24; (with_reducible refine LOW.out.mono ?_); rintro e w' ⟨rfl, rfl⟩)
              | (go_at_call 24; (with_reducible refine HIGH.out.mono ?_); rintro e w' ⟨rfl, rfl⟩)
              | (go_at_call 16; (with_reducible refine HAS.out.mono ?_); rintro e w' ⟨rfl, rfl⟩))
            go_ret
            exact ⟨rfl, HB4.out⟩
        · have hrn' : ¬ (r : Int) < (N : Int) := by omega
          have HIGH : Hid (Calls Try.prog 24 #[.slice A4 N c4, .int .i64 (r : Int)] w4 fun e w' => e = .returned (.tuple #[.int .u16 0, .bool false]) ∧ w4 = w') := Lib.hid (select_no w4 w4.heap.size N c4 A4 zs HNz.out R4.out (by omega) (r : Int) (.inr (by omega)))
          have HM : ¬ V ∈ zs := fun hm => by obtain ⟨h, _⟩ := HMEM.out.1 hm; rw [← HNz.out] at h; omega
          have HAS : Hid (Calls Try.prog 16 #[.slice A4 N c4, .int .u16 V] w4 fun e w' => e = .returned (.bool false) ∧ w4 = w') := Lib.hid (by
            have h := a_has w4 w4.heap.size N c4 A4 zs V HNz.out R4.out z1.out (by omega)
            rw [decide_eq_false HM] at h
            exact h)
          clear HM
          go_wp2_with (first
            | (go_at_call 22; (with_reducible refine RNK.out.mono ?_); rintro e w' ⟨rfl, rfl⟩)
            | (go_at_call 24; (with_reducible refine LOW.out.mono ?_); rintro e w' ⟨rfl, rfl⟩)
            | (go_at_call 24; (with_reducible refine HIGH.out.mono ?_); rintro e w' ⟨rfl, rfl⟩)
            | (go_at_call 16; (with_reducible refine HAS.out.mono ?_); rintro e w' ⟨rfl, rfl⟩))
          go_ret
          exact ⟨rfl, HB4.out⟩
      · have hr0' : ¬ 0 < (r : Int) := by omega
        have LOW : Hid (Calls Try.prog 24 #[.slice A4 N c4, .int .i64 ((r : Int) - 1)] w4 fun e w' => e = .returned (.tuple #[.int .u16 0, .bool false]) ∧ w4 = w') := Lib.hid (select_no w4 w4.heap.size N c4 A4 zs HNz.out R4.out (by omega) ((r : Int) - 1) (.inl (by omega)))
        by_cases hrn : r < N
        · have hrz : r < zs.length := by rw [← HNz.out]; exact hrn
          obtain ⟨y2, hy2⟩ : ∃ y2, y2 = zs[r] := ⟨_, rfl⟩
          have hge : V ≤ y2 := by rw [hy2]; exact HHALF.out.2 r hrz (by rw [← HR.out]; exact Nat.le_refl _)
          have HIGH : Hid (Calls Try.prog 24 #[.slice A4 N c4, .int .i64 (r : Int)] w4 fun e w' => e = .returned (.tuple #[.int .u16 y2, .bool true]) ∧ w4 = w') := Lib.hid (select_yes w4 w4.heap.size N c4 A4 zs HNz.out R4.out (by omega) r (r : Int) rfl hrn y2 (by rw [List.getElem?_eq_getElem hrz, hy2]))
          have HY2 := Lib.hid hy2
          clear hy2
          by_cases hyv : y2 = V
          · have HM : V ∈ zs := HMEM.out.2 ⟨hrz, by rw [← HY2.out]; exact hyv⟩
            have HAS : Hid (Calls Try.prog 16 #[.slice A4 N c4, .int .u16 V] w4 fun e w' => e = .returned (.bool true) ∧ w4 = w') := Lib.hid (by
              have h := a_has w4 w4.heap.size N c4 A4 zs V HNz.out R4.out z1.out (by omega)
              rw [decide_eq_true HM] at h
              exact h)
            clear HM
            subst hyv
            go_wp2_with (first
              | (go_at_call 22; (with_reducible refine RNK.out.mono ?_); rintro e w' ⟨rfl, rfl⟩)
              | (go_at_call 24; (with_reducible refine LOW.out.mono ?_); rintro e w' ⟨rfl, rfl⟩)
              | (go_at_call 24; (with_reducible refine HIGH.out.mono ?_); rintro e w' ⟨rfl, rfl⟩)
              | (go_at_call 16; (with_reducible refine HAS.out.mono ?_); rintro e w' ⟨rfl, rfl⟩))
            go_ret
            exact ⟨rfl, HB4.out⟩
          · have HM : ¬ V ∈ zs := fun hm => by obtain ⟨_, h⟩ := HMEM.out.1 hm; rw [← HY2.out] at h; exact hyv h
            have hyb : (y2 == V) = false := by simpa using hyv
            have HAS : Hid (Calls Try.prog 16 #[.slice A4 N c4, .int .u16 V] w4 fun e w' => e = .returned (.bool false) ∧ w4 = w') := Lib.hid (by
              have h := a_has w4 w4.heap.size N c4 A4 zs V HNz.out R4.out z1.out (by omega)
              rw [decide_eq_false HM] at h
              exact h)
            clear HM
            go_wp2_with (first
              | (go_at_call 22; (with_reducible refine RNK.out.mono ?_); rintro e w' ⟨rfl, rfl⟩)
              | (go_at_call 24; (with_reducible refine LOW.out.mono ?_); rintro e w' ⟨rfl, rfl⟩)
              | (go_at_call 24; (with_reducible refine HIGH.out.mono ?_); rintro e w' ⟨rfl, rfl⟩)
              | (go_at_call 16; (with_reducible refine HAS.out.mono ?_); rintro e w' ⟨rfl, rfl⟩))
            go_ret
            exact ⟨rfl, HB4.out⟩
        · have hrn' : ¬ (r : Int) < (N : Int) := by omega
          have HIGH : Hid (Calls Try.prog 24 #[.slice A4 N c4, .int .i64 (r : Int)] w4 fun e w' => e = .returned (.tuple #[.int .u16 0, .bool false]) ∧ w4 = w') := Lib.hid (select_no w4 w4.heap.size N c4 A4 zs HNz.out R4.out (by omega) (r : Int) (.inr (by omega)))
          have HM : ¬ V ∈ zs := fun hm => by obtain ⟨h, _⟩ := HMEM.out.1 hm; rw [← HNz.out] at h; omega
          have HAS : Hid (Calls Try.prog 16 #[.slice A4 N c4, .int .u16 V] w4 fun e w' => e = .returned (.bool false) ∧ w4 = w') := Lib.hid (by
            have h := a_has w4 w4.heap.size N c4 A4 zs V HNz.out R4.out z1.out (by omega)
            rw [decide_eq_false HM] at h
            exact h)
          clear HM
          go_wp2_with (first
            | (go_at_call 22; (with_reducible refine RNK.out.mono ?_); rintro e w' ⟨rfl, rfl⟩)
            | (go_at_call 24; (with_reducible refine LOW.out.mono ?_); rintro e w' ⟨rfl, rfl⟩)
            | (go_at_call 24; (with_reducible refine HIGH.out.mono ?_); rintro e w' ⟨rfl, rfl⟩)
            | (go_at_call 16; (with_reducible refine HAS.out.mono ?_); rintro e w' ⟨rfl, rfl⟩))
          go_ret
          exact ⟨rfl, HB4.out⟩
end Go.Proofs.Ytfccgefpchgdlaa
