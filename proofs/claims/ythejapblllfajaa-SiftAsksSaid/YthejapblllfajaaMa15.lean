/- The law SiftAsks, where the second list has the first one's keys too; the text walked. -/
import Derived.Test.YthejapblllfajaaMa14
namespace Go.Proofs.Ythejapblllfajaa
set_option maxRecDepth 20000
open Go.RowKit Go.Shelf
set_option maxRecDepth 100000 in
set_option maxHeartbeats 8000000 in
theorem siftAsks_twice (w : World) (A1 A2 : Option Addr) (c1 c2 : Nat) (xs1 xs2 : List Nat) (hr1 : Rw w w.heap.size A1 xs1) (hr2 : Rw w w.heap.size A2 xs2)
    (hl1 : xs1.length ≤ 9223372036854775807) (hl2 : xs2.length ≤ 9223372036854775807) :
    Calls Try.prog 4 #[.slice A1 xs1.length c1, .slice A2 xs2.length c2, .bool true] w fun e w' => e = .returned (.bool true) ∧ Below w.heap.size w w' := by
  obtain ⟨i0, hi, hz0, hz1, hz2⟩ := info_parts u64_info
  obtain ⟨la, hla⟩ : ∃ l, xs1.take 60 = l := ⟨_, rfl⟩
  obtain ⟨lb, hlb⟩ : ∃ l, xs2.take 60 = l := ⟨_, rfl⟩
  obtain ⟨n1, hn1⟩ : ∃ n, la.length = n := ⟨_, rfl⟩
  obtain ⟨n2, hn2⟩ : ∃ n, lb.length = n := ⟨_, rfl⟩
  have f1 : n1 ≤ 60 := by rw [← hn1, ← hla, List.length_take]; omega
  have f2 : n2 ≤ 60 := by rw [← hn2, ← hlb, List.length_take]; omega
  obtain ⟨bs, hbs⟩ : ∃ l, la ++ lb = l := ⟨_, rfl⟩
  have hnb : bs.length = n1 + n2 := by rw [← hbs, List.length_append, hn1, hn2]
  obtain ⟨X, hX⟩ : ∃ l, K.off la = l := ⟨_, rfl⟩
  obtain ⟨Y, hY⟩ : ∃ l, K.off bs = l := ⟨_, rfl⟩
  obtain ⟨mX, hmX⟩ : ∃ n, X.length = n := ⟨_, rfl⟩
  obtain ⟨mY, hmY⟩ : ∃ n, Y.length = n := ⟨_, rfl⟩
  have fX : mX ≤ 60 := by have := S.off_len la; rw [hX, hmX, hn1] at this; omega
  have fY : mY ≤ 120 := by have := S.off_len bs; rw [hY, hmY, hnb] at this; omega
  have uX : K.Up X := by rw [← hX]; exact S.off_up _
  have uY : K.Up Y := by rw [← hY]; exact S.off_up _
  have HX := Lib.hid hmX
  obtain ⟨bw, hbw⟩ : ∃ b, decide (∀ z ∈ X, z ∈ Y) = b := ⟨_, rfl⟩
  obtain ⟨br, hbr⟩ : ∃ b, S.rs la (n1 - 1) = b := ⟨_, rfl⟩
  have HWI : Hid (S.wi X Y mX = bw) := Lib.hid (by rw [← hmX, S.wi_all]; exact hbw)
  have HRS := Lib.hid hbr
  have HW1 : Hid (∀ V M, BK w V M → Calls Try.prog 8 #[.slice A1 xs1.length c1, .int .i64 60] V fun e w' => ∃ A' c', e = .returned (.slice A' n1 c') ∧ BK w w' ((.slice A' n1 c', la) :: M)) := Lib.hid fun V M h => bk_words h A1 c1 xs1 60 hr1 hl1 (by decide) hla hn1
  have HW2 : Hid (∀ V M, BK w V M → Calls Try.prog 8 #[.slice A2 xs2.length c2, .int .i64 60] V fun e w' => ∃ A' c', e = .returned (.slice A' n2 c') ∧ BK w w' ((.slice A' n2 c', lb) :: M)) := Lib.hid fun V M h => bk_words h A2 c2 xs2 60 hr2 hl2 (by decide) hlb hn2
  have HW3 : Hid (∀ V M A c, BK w V M → (Value.slice A n1 c, la) ∈ M → Calls Try.prog 8 #[.slice A n1 c, .int .i64 60] V fun e w' => ∃ A' c', e = .returned (.slice A' n1 c') ∧ w'.ownsRow V.heap.size 31 1 (.slice A' n1 c') n1 (wv la) ∧ Below V.heap.size V w') := Lib.hid fun V M A c h hm => bk_own h hm 60 f1 (by decide)
  have HR2 : Hid (∀ V M A c, BK w V M → (Value.slice A n2 c, lb) ∈ M → Reads V V.heap.size 1 A n2 (wv lb)) := Lib.hid fun V M A c h hm => rw_reads h hm
  obtain ⟨nb, hnb2⟩ : ∃ n, n1 + n2 = n := ⟨_, rfl⟩
  rw [hnb2] at hnb
  have E5 := Lib.hid (And.intro hbs hnb)
  have HNB := Lib.hid hnb2
  have HQ1 : Hid (n1 + n2 ≤ maxLen) := Lib.hid (by unfold maxLen; omega)
  have HQ2 : Hid ((n1 + n2) * 8 ≤ 140737488355328) := Lib.hid (by omega)
  have HF1 : Hid (∀ V M v, BK w V M → (v, la) ∈ M → Calls Try.prog 7 #[v] V fun e w' => ∃ A' c', e = .returned (.slice A' mX c') ∧ BK w w' ((.slice A' mX c', X) :: M)) := Lib.hid fun V M v h hm => bk_of h hm hX hmX (by omega)
  have HF2 : Hid (∀ V M v, BK w V M → (v, bs) ∈ M → Calls Try.prog 7 #[v] V fun e w' => ∃ A' c', e = .returned (.slice A' mY c') ∧ BK w w' ((.slice A' mY c', Y) :: M)) := Lib.hid fun V M v h hm => bk_of h hm hY hmY (by omega)
  have HH : Hid (∀ V M A c k (b : Bool), BK w V M → (Value.slice A mY c, Y) ∈ M → decide (k ∈ Y) = b → Calls Try.prog 10 #[.slice A mY c, .int .u64 ((k : Nat) : Int)] V fun e w' => e = .returned (.bool b) ∧ BK w w' M) := Lib.hid fun V M A c k b h hm hb => bk_has h hm uY (by omega) k hb
  have HXO := Lib.hid (And.intro hX hmX)
  have HYO := Lib.hid (And.intro hY hmY)
  have HLA : Hid (la.length ≤ 100000) := Lib.hid (by omega)
  have HBL : Hid (bs.length ≤ 100000) := Lib.hid (by omega)
  have HLX : Hid (X.length ≤ 100000) := Lib.hid (by omega)
  have HLY : Hid (Y.length ≤ 100000) := Lib.hid (by omega)
  obtain ⟨bxy, hbxy⟩ : ∃ b, decide (X = Y) = b := ⟨_, rfl⟩
  have HXY := Lib.hid hbxy
  have HBW := Lib.hid hbw
  obtain ⟨bz, hbz⟩ : ∃ b, decide ([] = X) = b := ⟨_, rfl⟩
  have HEZ := Lib.hid hbz
  have qz : ((mX : Int) == 0) = bz := by
    rw [← hbz, ← hmX, Bool.eq_iff_iff]
    cases X <;> simp
    omega
  clear hbxy hbz
  have HUX := Lib.hid uX
  have HUY := Lib.hid uY
  clear hr1 hr2 hl1 hl2 hla hlb hX hY uX uY hmX hmY hn1 hn2 hbw hbr hbs hnb
  generalize xs1.length = len1 at *
  generalize xs2.length = len2 at *
  go_enter Try.func4, Try.ntmps4
  go_wp2_with (first
    | (go_at_call 7; (with_reducible refine (HF2.out _ _ _ H6.out (by simp)).mono ?_); rintro e W7 ⟨A7, c7, rfl, h7⟩; have H7 := Lib.hid h7; clear h7)
    | (go_at_call 7; (with_reducible refine (HF1.out _ _ _ H5.out (by simp)).mono ?_); rintro e W6 ⟨A6, c6, rfl, h6⟩; have H6 := Lib.hid h6; clear h6)
    | (at_builtin; have hrd := HR2.out W4 [(.slice A2' n2 c2', lb), (.slice A1' n1 c1', la)] A2' c2' (H3.out.below HB4.out) (by simp); refine wpList_append_any _ rfl (.tmp 24) (.tmp 25) 22 rfl W3.heap.size 31 i0 (.int .u64 0) 1 8 Try.underlying22 hi hz0 hz1 hz2 rfl (by decide) _ n1 (wv la) rfl HO4.out W4.heap.size A2' n2 c2' (wv lb) rfl hrd (wv_one lb) HQ1.out HQ2.out HB4.out.size ?_; clear hrd; intro v5 w5 ho5 hg5 _; rw [HNB.out] at ho5; obtain ⟨A5', c5', rfl⟩ := K.own_form ho5; have H5 := Lib.hid (cat_bk H3.out HB4.out HO4.out ho5 hg5 E5.out); clear ho5 hg5)
    | (go_at_call 8; (with_reducible refine (HW3.out _ _ _ _ H3.out (by simp)).mono ?_); rintro e W4 ⟨A4', c4', rfl, ho4, hb4⟩; have HO4 := Lib.hid ho4; have HB4 := Lib.hid hb4; clear ho4 hb4)
    | (go_at_call 8; (with_reducible refine (HW2.out _ _ H2.out).mono ?_); rintro e W3 ⟨A2', c2', rfl, h3⟩; have H3 := Lib.hid h3; clear h3)
    | (go_at_call 8; (with_reducible refine (HW1.out _ _ H1.out).mono ?_); rintro e W2 ⟨A1', c1', rfl, h2⟩; have H2 := Lib.hid h2; clear h2)
    | (go_at_call 6; (with_reducible refine (awake_any _).mono ?_); rintro e W1 ⟨rfl, h1⟩; have H1 : Hid (BK w _ []) := Lib.hid ⟨h1, fun p hp => by cases hp⟩; clear h1))
  go_loopw [9, 33] (fun v i wr => ∃ k : Nat, k ≤ mX ∧ v = .bool (S.wi X Y k) ∧ i = .int .i64 k ∧ Hid (BK w wr [(.slice A7 mY c7, Y), (.slice A6 mX c6, X), (.slice A5' nb c5', bs), (.slice A2' n2 c2', lb), (.slice A1' n1 c1', la)])) (fun _ i _ => mX - (intOf i).toNat)
  case atStart => exact ⟨0, by omega, rfl, rfl, H7⟩
  case round =>
    obtain ⟨k, hk, rfl, rfl, HK⟩ := hrel
    by_cases hlt : k < mX
    · have hlt' : k < X.length := by rw [HX.out]; exact hlt
      obtain ⟨hr, _, _⟩ := HK.out.rw (A := A6) (n := mX) (c := c6) (xs := X) (by simp)
      have hs := Lib.hid (S.wi_succ X Y hlt')
      have d0 : (k : Int) < (mX : Int) := by omega
      obtain ⟨b, off, rfl, _, hc⟩ := hr.at hlt'
      clear hr
      generalize X[k] = z at *
      have wk : IntKind.i64.wrap ((k : Int) + 1) = (k : Int) + 1 := IntWalk.i64_in _ (by omega)
      generalize hb0 : S.wi X Y k = b0 at *
      cases b0
      · have hres : Hid (false = S.wi X Y (k + 1)) := Lib.hid (by rw [hs.out]; rfl)
        clear hs
        go_wp2
        go_roundw
        case rel => exact ⟨k + 1, by omega, by rw [← hres.out]; try rfl, by go_num, HK⟩
        case measure => simp [intOf]; omega
      · obtain ⟨bz, hbz⟩ : ∃ b, decide (z ∈ Y) = b := ⟨_, rfl⟩
        have hres : Hid (bz = S.wi X Y (k + 1)) := Lib.hid (by rw [hs.out, hbz]; simp)
        have HZ := Lib.hid hbz
        clear hs hbz
        go_wp2_with (go_at_call 10; (with_reducible refine (HH.out _ _ _ _ _ _ HK.out (by simp) HZ.out).mono ?_); rintro e W8 ⟨rfl, h8⟩; have H8 := Lib.hid h8; clear h8)
        go_roundw
        case rel => exact ⟨k + 1, by omega, by rw [← hres.out]; try rfl, by go_num, H8⟩
        case measure => simp [intOf]; omega
    · have hkm : k = mX := by omega
      rw [hkm]
      rw [HWI.out]
      clear hlt hk hkm
      go_wp2
      go_loopw [12, 13] (fun v i wr => ∃ j : Nat, (j = 0 ∨ j < n1) ∧ v = .bool (S.rs la j) ∧ i = .int .i64 ((j + 1 : Nat) : Int) ∧ Hid (BK w wr [(.slice A7 mY c7, Y), (.slice A6 mX c6, X), (.slice A5' nb c5', bs), (.slice A2' n2 c2', lb), (.slice A1' n1 c1', la)])) (fun _ i _ => n1 + 1 - (intOf i).toNat)
      case atStart => exact ⟨0, .inl rfl, rfl, rfl, HK⟩
      case round =>
        clear HK
        obtain ⟨j, hj, rfl, rfl, HK⟩ := hrel
        have wj : IntKind.i64.wrap (j : Int) = (j : Int) := IntWalk.i64_in _ (by omega)
        have wj1 : IntKind.i64.wrap ((j : Int) + 1) = (j : Int) + 1 := IntWalk.i64_in _ (by omega)
        have wj2 : IntKind.i64.wrap ((j : Int) + 1 + 1) = (j : Int) + 1 + 1 := IntWalk.i64_in _ (by omega)
        have wj0 : (j : Int) + 1 - 1 = (j : Int) := by omega
        by_cases hlt : j + 1 < n1
        · have d0 : (j : Int) + 1 < (n1 : Int) := by omega
          have d1 : (j : Int) < (n1 : Int) := by omega
          have d2 : decide ((j : Int) + 1 < (n1 : Int)) = true := decide_eq_true d0
          obtain ⟨hr, hrl, _⟩ := HK.out.rw (A := A1') (n := n1) (c := c1') (xs := la) (by simp)
          obtain ⟨b, off, rfl, _, hc⟩ := hr.at (k := j) (by rw [hrl]; omega)
          obtain ⟨b', off', e, _, hc'⟩ := hr.at (k := j + 1) (by rw [hrl]; omega)
          obtain ⟨rfl, rfl⟩ : b' = b ∧ off' = off := by simpa [eq_comm] using e
          have hx : la.getD j 0 = la[j]'(by rw [hrl]; omega) := by simp [List.getD, List.getElem?_eq_getElem (show j < la.length by rw [hrl]; omega)]
          have hy : la.getD (j + 1) 0 = la[j + 1]'(by rw [hrl]; omega) := by simp [List.getD, List.getElem?_eq_getElem (show j + 1 < la.length by rw [hrl]; omega)]
          have hs := Lib.hid (S.rs_succ la j)
          rw [hx, hy] at hs
          clear hx hy e hr
          generalize la[j]'(by rw [hrl]; omega) = x at *
          generalize la[j + 1]'(by rw [hrl]; omega) = y at *
          clear hrl
          generalize hb0 : S.rs la j = b0 at *
          cases b0
          · have hres : Hid (false = S.rs la (j + 1)) := Lib.hid (by rw [hs.out]; rfl)
            clear hs
            go_wp2
            go_quiet (fail)
            go_wp2
            go_roundw
            case rel => exact ⟨j + 1, by omega, by rw [← hres.out]; try rfl, by go_num, Lib.hid (HK.out.below (below_drewN (Below.refl _ _) _))⟩
            case measure => simp [intOf]; omega
          · obtain ⟨bl, hbl⟩ : ∃ b, decide (x < y) = b := ⟨_, rfl⟩
            have hbl2 : decide ((x : Int) < (y : Int)) = bl := by rw [← hbl]; exact decide_eq_decide.2 (by omega)
            have hres : Hid (bl = S.rs la (j + 1)) := Lib.hid (by rw [hs.out, hbl]; simp)
            clear hs
            go_wp2
            go_quiet (fail)
            go_wp2
            go_roundw
            case rel => exact ⟨j + 1, by omega, by rw [← hres.out]; try rfl, by go_num, Lib.hid (HK.out.below (below_drewN (Below.refl _ _) _))⟩
            case measure => simp [intOf]; omega
        · have hjn : j = n1 - 1 := by omega
          clear wj wj1 wj2 wj0 hlt hj
          subst hjn
          have d2 : decide (((n1 - 1 : Nat) : Int) + 1 < (n1 : Int)) = false := decide_eq_false (by omega)
          rw [HRS.out]
          obtain ⟨jj, hjj⟩ : ∃ jj, n1 - 1 = jj := ⟨_, rfl⟩
          rw [hjj] at d2 ⊢
          clear hjj
          have HB0 := Lib.hid (bk_bg HK.out)
          go_wp2_with (first
            | (go_at_call 21; (with_reducible refine (bt_count0 HB16.out (by simp)).mono ?_); rintro e U17 ⟨rfl, hb17⟩; have HB17 := Lib.hid hb17; clear hb17)
            | (go_at_call 15; (with_reducible refine (bt_less0 HB15.out (x2 := X) (by simp) (by simp)).mono ?_); rintro e U16 ⟨gg16, ll16, rfl, hb16⟩; have HB16 := Lib.hid hb16; clear hb16)
            | (go_at_call 17; (with_reducible refine (bt_equal HB14.out (x1 := []) (x2 := X) (by simp) (by simp) HEZ.out).mono ?_); rintro e U15 ⟨rfl, hb15⟩; have HB15 := Lib.hid hb15; clear hb15)
            | (go_at_call 19; (with_reducible refine (bt_within HB13.out (b := true) (x1 := []) (x2 := X) (by simp) (by simp) (by simp)).mono ?_); rintro e U14 ⟨rfl, hb14⟩; have HB14 := Lib.hid hb14; clear hb14)
            | (go_at_call 22; (with_reducible refine (bt_first0 HB12.out (by simp)).mono ?_); rintro e U13 ⟨A13, c13, rfl, hb13⟩; have HB13 := Lib.hid hb13; clear hb13)
            | (go_at_call 21; (with_reducible refine (bt_count0 HB11.out (by simp)).mono ?_); rintro e U12 ⟨rfl, hb12⟩; have HB12 := Lib.hid hb12; clear hb12)
            | (go_at_call 21; (with_reducible refine (bt_count0 HB10.out (by simp)).mono ?_); rintro e U11 ⟨rfl, hb11⟩; have HB11 := Lib.hid hb11; clear hb11)
            | (go_at_call 14; (with_reducible refine (bt_andnil HB9.out (x1 := X) (by simp) (by simp)).mono ?_); rintro e U10 ⟨gg10, ll10, rfl, hb10⟩; have HB10 := Lib.hid hb10; clear hb10)
            | (go_at_call 11; (with_reducible refine (bt_told HK.out HB8.out (xs := X) (by simp) (by simp) 2).mono ?_); rintro e U9 ⟨rfl, hb9⟩; have HB9 := Lib.hid hb9; clear hb9)
            | (go_at_call 12; (with_reducible refine (bt_ornil HB7.out (x1 := X) (by simp) (by simp)).mono ?_); rintro e U8 ⟨gg8, ll8, rfl, hb8⟩; have HB8 := Lib.hid hb8; clear hb8)
            | (go_at_call 11; (with_reducible refine (bt_told HK.out HB6.out (xs := X) (by simp) (by simp) 3).mono ?_); rintro e U7 ⟨rfl, hb7⟩; have HB7 := Lib.hid hb7; clear hb7)
            | (go_at_call 20; (with_reducible refine (bt_rises HK.out HB5.out (xs := la) (by simp) (by omega) HRS.out).mono ?_); rintro e U6 ⟨rfl, hb6⟩; have HB6 := Lib.hid hb6; clear hb6)
            | (go_at_call 19; (with_reducible refine (bt_within HB4.out (x1 := X) (x2 := Y) (by simp) (by simp) HBW.out).mono ?_); rintro e U5 ⟨rfl, hb5⟩; have HB5 := Lib.hid hb5; clear hb5)
            | (go_at_call 18; (with_reducible refine (bt_same HK.out HB3.out (x1 := X) (x2 := Y) (by simp) (by simp) HLX.out HLY.out HXY.out).mono ?_); rintro e U4 ⟨rfl, hb4⟩; have HB4 := Lib.hid hb4; clear hb4)
            | (go_at_call 17; (with_reducible refine (bt_equal HB2.out (x1 := X) (x2 := Y) (by simp) (by simp) HXY.out).mono ?_); rintro e U3 ⟨rfl, hb3⟩; have HB3 := Lib.hid hb3; clear hb3)
            | (go_at_call 9; (with_reducible refine (bt_of HK.out HB1.out (v := .slice A5' nb c5') (xs := bs) (by simp) HYO.out.1 HBL.out).mono ?_); rintro e U2 ⟨gg2, ll2, rfl, hb2⟩; have HB2 := Lib.hid hb2; clear hb2)
            | (go_at_call 9; (with_reducible refine (bt_of HK.out HB0.out (v := .slice A1' n1 c1') (xs := la) (by simp) HXO.out.1 HLA.out).mono ?_); rintro e U1 ⟨gg1, ll1, rfl, hb1⟩; have HB1 := Lib.hid hb1; clear hb1))
          all_goals
            go_ret
            exact ⟨by simp, HK.out.low.trans (HB17.out.low.mono HK.out.low.size)⟩
theorem siftAsks_any (w : World) (A1 A2 : Option Addr) (c1 c2 : Nat) (xs1 xs2 : List Nat) (t : Bool) (hr1 : Rw w w.heap.size A1 xs1) (hr2 : Rw w w.heap.size A2 xs2)
    (hl1 : xs1.length ≤ 9223372036854775807) (hl2 : xs2.length ≤ 9223372036854775807) :
    Calls Try.prog 4 #[.slice A1 xs1.length c1, .slice A2 xs2.length c2, .bool t] w fun e w' => e = .returned (.bool true) ∧ Below w.heap.size w w' := by
  cases t
  · exact siftAsks_once w A1 A2 c1 c2 xs1 xs2 hr1 hr2 hl1 hl2
  · exact siftAsks_twice w A1 A2 c1 c2 xs1 xs2 hr1 hr2 hl1 hl2
end Go.Proofs.Ythejapblllfajaa
