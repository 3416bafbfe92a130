
/- The law CodeCanonical: any bytes are refused, or are just the bytes of what they are read as; the text walked. -/
import Derived.Test.YtclaejaicjmohaaD20
import Derived.Test.YtclaejaicjmohaaD12
namespace Go.Proofs.Ytclaejaicjmohaa
set_option maxRecDepth 20000
open Go.RowKit
namespace E
theorem rs_all : ∀ (l : List (Nat × Nat)) (a : Nat), Rs a l → ∀ x ∈ l, a ≤ x.1 ∧ x.1 < 18446744073709551616 ∧ x.2 < 18446744073709551616
  | [], _, _, x, hx => by cases hx
  | y :: t, a, ⟨h1, h2, h3, h4⟩, x, hx => by
    rcases List.mem_cons.1 hx with rfl | hx
    · exact ⟨h1, h2, h3⟩
    · have := rs_all t (y.1 + 1) h4 x hx
      exact ⟨by omega, this.2⟩
theorem rs_up : ∀ (l : List (Nat × Nat)) (a : Nat), Rs a l → K.Up (l.map (·.1))
  | [], _, _ => List.Pairwise.nil
  | x :: t, _, ⟨_, _, _, h4⟩ => List.Pairwise.cons (fun y hy => by
      obtain ⟨p, hp, rfl⟩ := List.mem_map.1 hy
      have := (rs_all t _ h4 p hp).1
      show x.1 < p.1
      omega) (rs_up t _ h4)
theorem bts_gaps (l : List (Nat × Nat)) : bts false l = 0 :: (enc l.length ++ ebs (gp 0 (l.map (·.1)))) := by
  rw [bts, body_gaps]
  rfl
theorem bts_nums (l : List (Nat × Nat)) : bts true l = 1 :: (enc l.length ++ ebs (nums 0 l)) := by
  rw [bts, body_nums]
  rfl
set_option maxRecDepth 100000 in
set_option maxHeartbeats 8000000 in
theorem law_canonical (A1 : Option Addr) (c1 : Nat) (xs1 : List Nat) (w : World) (hr1 : Rb w w.heap.size A1 xs1) (hl1 : xs1.length ≤ 9223372036854775807) (hb1 : ∀ x ∈ xs1, x < 256) :
    Calls Try.prog 5 #[.slice A1 xs1.length c1] w fun e w' => e = .returned (.bool true) ∧ Below w.heap.size w w' := by
  obtain ⟨i0, hi, hz0, hz1, hz2⟩ := info_parts u64_info
  obtain ⟨rs, hrs⟩ : ∃ l, xs1.take 200 = l := ⟨_, rfl⟩
  obtain ⟨n1, hn1⟩ : ∃ n, rs.length = n := ⟨_, rfl⟩
  have f1 : n1 ≤ 200 := by rw [← hn1, ← hrs, List.length_take]; omega
  have hbs : ∀ x ∈ rs, x < 256 := fun x hx => hb1 x (List.mem_of_mem_take (by rw [hrs]; exact hx))
  have HY1 : Hid (∀ W M N, Bb w W M N → Calls Try.prog 9 #[.slice A1 xs1.length c1, .int .i64 200] W fun e w' => ∃ A' c', e = .returned (.slice A' n1 c') ∧ Bb w w' ((.slice A' n1 c', rs) :: M) N) := Lib.hid fun W M N h => bb_bytes h A1 c1 xs1 200 hr1 hl1 (by decide) hrs hn1
  have HY2 : Hid (∀ W M N A c, Bb w W M N → (Value.slice A n1 c, rs) ∈ M → Calls Try.prog 9 #[.slice A n1 c, .int .i64 200] W fun e w' => ∃ A' c', e = .returned (.slice A' n1 c') ∧ Bb w w' ((.slice A' n1 c', rs) :: M) N) := Lib.hid fun W M N A c h hM => (bb_copy h hM 200 f1 (by decide)).mono (by
    rintro e w' ⟨A', c', rfl, ho, hb⟩
    exact ⟨A', c', rfl, h.push hb (by rw [BX, hn1]; exact own_less ho (Nat.zero_le _))⟩)
  have HPA : Hid (∀ W M N A c, Bb w W M N → (Value.slice A n1 c, rs) ∈ M → Calls Try.prog 21 #[.slice A n1 c] W (PA W rs)) := Lib.hid fun W M N A c h hM => by
    obtain ⟨e1, e2, r⟩ := h.rb hM
    exact Parse_any W A n1 c rs e1 e2 (by omega) hbs r
  have HPR : Hid (∀ W M N A c, Bb w W M N → (Value.slice A n1 c, rs) ∈ M → Calls Try.prog 23 #[.slice A n1 c] W (PA W rs)) := Lib.hid fun W M N A c h hM => by
    obtain ⟨e1, e2, r⟩ := h.rb hM
    exact refparse_any W A n1 c rs e1 e2 (by omega) r
  have HS1 : Hid (∀ W M N A B c d, Bb w W M N → (Value.slice A n1 c, rs) ∈ M → (Value.slice B n1 d, rs) ∈ M → Calls Try.prog 13 #[.slice A n1 c, .slice B n1 d] W fun e w' => e = .returned (.bool true) ∧ ∃ q, w' = W.drewN q) := Lib.hid fun W M N A B c d h h1 h2 => by
    obtain ⟨e1, _, r1⟩ := h.rb h1
    obtain ⟨e2, _, r2⟩ := h.rb h2
    have := ref_samebytes A B c d rs rs W _ _ r1 r2 (by omega) (by omega)
    rw [hn1] at this
    refine this.mono ?_
    rintro e w' ⟨rfl, q, rfl⟩
    exact ⟨by simp, q, rfl⟩
  have HN1 := Lib.hid hn1
  clear hr1 hl1 hb1 hrs hn1
  generalize xs1.length = len1 at *
  go_enter Try.func5, Try.ntmps5
  go_wp2_with (first
    | (go_at_call 9; (with_reducible refine (HY2.out _ _ _ _ _ H2.out (by simp)).mono ?_); rintro e W3 ⟨B2, d2, rfl, h⟩; have H3 := Lib.hid h; clear h)
    | (go_at_call 9; (with_reducible refine (HY1.out _ _ _ H1.out).mono ?_); rintro e W2 ⟨B1, d1, rfl, h⟩; have H2 := Lib.hid h; clear h)
    | (go_at_call 8; (with_reducible refine (awake_any _).mono ?_); rintro e W1 ⟨rfl, h⟩; have H1 : Hid (Bb w _ [] []) := Lib.hid ((Bb.start w).below h); clear h))
  refine (HPA.out _ _ _ _ _ H3.out (by simp)).mono ?_
  rintro e w5 ⟨hb5, ⟨items, two, A5, c5, hps, rfl, ho5⟩ | ⟨hps, rfl⟩⟩
  · have H5 := Lib.hid (H3.out.below hb5)
    have HPS := Lib.hid hps
    obtain ⟨_, _, he5, hq5, _⟩ := Pq.of_own ho5
    injection he5 with q1 q2 q3
    subst q1
    have HQ5 := Lib.hid hq5
    clear hb5 hps ho5 hq5 q2 q3
    go_wp2_with (fail)
    refine (HPR.out _ _ _ _ _ H5.out (by simp)).mono ?_
    rintro e w6 ⟨hb6, ⟨items2, two2, A6, c6, hps2, rfl, ho6⟩ | ⟨hps2, _⟩⟩
    · obtain ⟨rfl, rfl⟩ : items2 = items ∧ two2 = two := by
        obtain ⟨g1, g2, g3, g4⟩ := HPS.out
        obtain ⟨k1, k2, k3, k4⟩ := hps2
        exact bts_one k2 g2 k4 g4 (k1.symm.trans g1)
      have H6 := Lib.hid (H5.out.below hb6)
      have HQ5b := Lib.hid ((HQ5.out.below hb6 (Nat.le_refl _)).more hb6.size)
      obtain ⟨_, _, he6, hq6, _⟩ := Pq.of_own ho6
      injection he6 with q1 q2 q3
      subst q1
      have HQ6 := Lib.hid hq6
      obtain ⟨l, hl⟩ : ∃ l, items2.length = l := ⟨_, rfl⟩
      have hlf : l ≤ 262144 := by rw [← hl]; exact HPS.out.2.2.1
      have HSM := Lib.hid (by have := refsame_any A5 A6 c5 c6 items2 items2 l w6 _ _ HQ5b.out HQ6.out hl (by omega) (by omega); rw [hl, decide_eq_true rfl] at this; exact this)
      have HL := Lib.hid hl
      clear hps2 hb6 ho6 hq6 q2 q3
      rw [hl]
      clear hl
      go_wp2_with (first
        | (go_at_call 13; (with_reducible refine (HS1.out _ _ _ _ _ _ _ H7.out (by simp) (by simp)).mono ?_); rintro e W8 ⟨rfl, q8, hW8⟩; have H8 : Hid (Bb w W8 [(.slice B2 n1 d2, rs), (.slice B1 n1 d1, rs)] []) := Lib.hid (by rw [hW8]; exact H7.out.below (bel2 _ q8)); have HQ8 : Hid (Pq W8 W8.heap.size A5 items2) := Lib.hid (by rw [hW8]; exact HQ7.out.drew q8); clear hW8)
        | (go_at_call 22; (with_reducible refine HSM.out.mono ?_); rintro e W7 ⟨rfl, q7, hW7⟩; have H7 : Hid (Bb w W7 [(.slice B2 n1 d2, rs), (.slice B1 n1 d1, rs)] []) := Lib.hid (by rw [hW7]; exact H6.out.below (bel2 _ q7)); have HQ7 : Hid (Pq W7 W7.heap.size A5 items2) := Lib.hid (by rw [hW7]; exact HQ5b.out.drew q7); clear hW7))
      have HUP := Lib.hid (rs_up items2 0 HPS.out.2.1)
      have HAL := Lib.hid (rs_all items2 0 HPS.out.2.1)
      clear HSM HQ5 HQ5b HQ6 HQ7 H7 H6 H5 H3 H2 H1
      go_loopw [10, 68] (fun v i wr => ∃ k : Nat, k ≤ l ∧ i = .int .i64 k ∧ Hid (wr.ownsRow W8.heap.size 22 1 v ((items2.map (·.1)).take k).length (wv ((items2.map (·.1)).take k))) ∧ Hid (Below W8.heap.size W8 wr)) (fun _ i _ => l - (intOf i).toNat)
      case atStart => exact ⟨0, by omega, rfl, Lib.hid (World.ownsRow_nil _ _ _ _), Lib.hid (Below.refl _ _)⟩
      case round =>
        obtain ⟨k, hk, rfl, HW, HBL⟩ := hrel
        by_cases hlt : k < l
        · have hlt' : k < items2.length := by rw [HL.out]; exact hlt
          obtain ⟨b, off, rfl, _, hc0, hc1⟩ := (HQ8.out.below HBL.out (Nat.le_refl _)).at hlt'
          have d0 : decide ((k : Int) < (l : Int)) = true := decide_eq_true (by omega)
          have wk : IntKind.i64.wrap ((k : Int) + 1) = (k : Int) + 1 := IntWalk.i64_in _ (by omega)
          have HN : Hid ((items2.map (·.1)).take (k + 1) = (items2.map (·.1)).take k ++ [items2[k].1]) := Lib.hid (by rw [take_snocN (by rw [List.length_map]; exact hlt'), List.getElem_map])
          have hlen : ((items2.map (·.1)).take k).length ≤ 400000 := by rw [List.length_take]; omega
          have hsz := HBL.out.size
          have HSZ0 : Hid (W8.heap.size ≤ wr.heap.size) := Lib.hid hsz
          generalize items2[k] = x at *
          obtain ⟨xa, xb⟩ := x
          dsimp only at hc0 hc1 HN
          generalize (items2.map (·.1)).take k = ds at *
          have HW0 := Lib.hid (HW.out.alloc (.cells #[.int .u64 (xa : Int), .int .u64 (xb : Int)] 39))
          have HB0 := Lib.hid (HBL.out.alloc hsz (.cells #[.int .u64 (xa : Int), .int .u64 (xb : Int)] 39))
          go_wp2_with (at_builtin; refine wpList_append_own _ rfl _ _ 24 rfl W8.heap.size 22 i0 (.int .u64 0) 1 8 Try.underlying24 hi hz0 hz1 hz2 rfl (by decide) _ _ _ rfl (HW0.out.alloc _) ⟨_, 0, none⟩ 1 1 [.int .u64 (xa : Int)] rfl rfl ?c1 ?c2 ?c3 ?c4 ?c5 ?_)
          case c1 => exact newsW _ _ (by simp) _ _
          case c2 => first | exact one_int _ _ | rfl
          case c3 => unfold maxLen; omega
          case c4 => omega
          case c5 => simp; omega
          intro v' w1 hown' hgrow _
          obtain ⟨hown2, hb2⟩ := own_putN (by simp; omega) HB0.out HW0.out hown' hgrow
          have HW2 := Lib.hid hown2
          have HB2 := Lib.hid hb2
          clear hown' hgrow hown2 hb2
          go_wp2
          go_roundw
          case rel => exact ⟨k + 1, by omega, by go_num, Lib.hid (by rw [HN.out]; exact HW2.out), HB2⟩
          case measure => simp [intOf]; omega
        · have hkl : k = l := by omega
          have e1 : (items2.map (·.1)).take k = items2.map (·.1) := List.take_of_length_le (by rw [List.length_map, HL.out]; omega)
          have hW := HW.out
          have hlm : (items2.map (·.1)).length = l := by rw [List.length_map, HL.out]
          rw [e1, hlm] at hW
          obtain ⟨A9, c9, hv⟩ := own_formW hW
          subst hv
          obtain ⟨_, hrw⟩ := own_rwB hW
          have HKY := Lib.hid (Keys_any wr A9 c9 (items2.map (·.1)) l hlm (by omega) (fun x hx => by
            obtain ⟨p, hp, rfl⟩ := List.mem_map.1 hx
            exact (HAL.out p hp).2.1) hrw)
          have d0 : decide ((k : Int) < (l : Int)) = false := decide_eq_false (by omega)
          have d0n : decide (k < l) = false := decide_eq_false hlt
          have H9 := Lib.hid (H8.out.below HBL.out)
          have HQ9 := Lib.hid ((HQ8.out.below HBL.out (Nat.le_refl _)).more HBL.out.size)
          clear hW hrw e1 hlt hkl hlm HW
          go_wp2_with (fail)
          refine HKY.out.mono ?_
          rintro e w10 ⟨hb10, ⟨_, _, A10, c10, rfl, ho10⟩ | ⟨_, hgt, _⟩ | ⟨hnu, _⟩⟩
          · have H10 := Lib.hid (H9.out.below hb10)
            have HQ10 := Lib.hid ((HQ9.out.below hb10 (Nat.le_refl _)).more hb10.size)
            cases htwo : two2 with
            | false =>
              have hbt : 0 :: (enc l ++ ebs (gp 0 (items2.map (·.1)))) = rs := by
                have := HPS.out.1
                rw [htwo, bts_gaps, HL.out] at this
                exact this.symm
              rw [hbt, HN1.out] at ho10
              have HRB := Lib.hid (rb_own ho10 HN1.out)
              have HSB : Hid (∀ c, (Value.slice B1 n1 c, rs) ∈ [(Value.slice B2 n1 d2, rs), (.slice B1 n1 d1, rs)] → Calls Try.prog 13 #[.slice A10 n1 c10, .slice B1 n1 c] w10 fun e w' => e = .returned (.bool true) ∧ ∃ q, w' = w10.drewN q) := Lib.hid fun c hM => by
                obtain ⟨_, _, r2⟩ := H10.out.rb hM
                have := ref_samebytes A10 B1 c10 c rs rs w10 _ _ HRB.out r2 (by rw [HN1.out]; omega) (by rw [HN1.out]; omega)
                rw [HN1.out, decide_eq_true rfl] at this
                exact this
              rw [hbt, HN1.out]
              clear hb10 ho10 hbt
              go_wp2_with (go_at_call 13; (with_reducible refine (HSB.out _ (by simp)).mono ?_); rintro e W11 ⟨rfl, q11, hW11⟩; have H11 : Hid (Below w.heap.size w W11) := Lib.hid (by rw [hW11]; exact below_drewN H10.out.low q11); clear hW11)
              go_ret
              exact ⟨rfl, H11.out⟩
            | true =>
              have HPP := Lib.hid (Pairs_any w10 A5 c5 items2 l HL.out (by omega) (fun x hx => (HAL.out x hx).2) HQ10.out)
              clear hb10 ho10
              go_wp2_with (fail)
              refine HPP.out.mono ?_
              rintro e w12 ⟨hb12, ⟨_, _, A12, c12, rfl, ho12⟩ | ⟨_, hgt, _⟩ | ⟨hnu, _⟩⟩
              · have H12 := Lib.hid (H10.out.below hb12)
                have hbt : 1 :: (enc l ++ ebs (nums 0 items2)) = rs := by
                  have := HPS.out.1
                  rw [htwo, bts_nums, HL.out] at this
                  exact this.symm
                rw [hbt, HN1.out] at ho12
                have HRB := Lib.hid (rb_own ho12 HN1.out)
                have HSB : Hid (∀ c, (Value.slice B1 n1 c, rs) ∈ [(Value.slice B2 n1 d2, rs), (.slice B1 n1 d1, rs)] → Calls Try.prog 13 #[.slice A12 n1 c12, .slice B1 n1 c] w12 fun e w' => e = .returned (.bool true) ∧ ∃ q, w' = w12.drewN q) := Lib.hid fun c hM => by
                  obtain ⟨_, _, r2⟩ := H12.out.rb hM
                  have := ref_samebytes A12 B1 c12 c rs rs w12 _ _ HRB.out r2 (by rw [HN1.out]; omega) (by rw [HN1.out]; omega)
                  rw [HN1.out, decide_eq_true rfl] at this
                  exact this
                rw [hbt, HN1.out]
                clear hb12 ho12 hbt
                go_wp2_with (go_at_call 13; (with_reducible refine (HSB.out _ (by simp)).mono ?_); rintro e W13 ⟨rfl, q13, hW13⟩; have H13 : Hid (Below w.heap.size w W13) := Lib.hid (by rw [hW13]; exact below_drewN H12.out.low q13); clear hW13)
                go_ret
                exact ⟨rfl, H13.out⟩
              · omega
              · exact absurd HUP.out hnu
          · omega
          · exact absurd HUP.out hnu
    · exact absurd HPS.out.1 (hps2 items two HPS.out.2.1 HPS.out.2.2.1 HPS.out.2.2.2)
  · have H5 := Lib.hid (H3.out.below hb5)
    have HPS := Lib.hid hps
    clear hb5 hps
    go_wp2_with (fail)
    refine (HPR.out _ _ _ _ _ H5.out (by simp)).mono ?_
    rintro e w6 ⟨hb6, ⟨items2, two2, A6, c6, hps2, _, _⟩ | ⟨_, rfl⟩⟩
    · exact absurd hps2.1 (HPS.out items2 two2 hps2.2.1 hps2.2.2.1 hps2.2.2.2)
    have H6 := Lib.hid (H5.out.below hb6)
    have HSM := Lib.hid (refsame_any none none 0 0 [] [] 0 w6 0 0 (Pq.nil _ _ _) (Pq.nil _ _ _) rfl (by omega) (by simp))
    clear hb6
    go_wp2_with (first
      | (go_at_call 13; (with_reducible refine (HS1.out _ _ _ _ _ _ _ H7.out (by simp) (by simp)).mono ?_); rintro e W8 ⟨rfl, q8, rfl⟩; have H8 := Lib.hid (H7.out.below (bel2 _ q8)))
      | (go_at_call 22; refine HSM.out.mono ?_; rintro e W7 ⟨rfl, q7, rfl⟩; have H7 := Lib.hid (H6.out.below (bel2 _ q7))))
    go_ret
    exact ⟨rfl, by have := H8.out.low; rw [World.drewN_drewN] at this; exact this⟩
end E
end Go.Proofs.Ytclaejaicjmohaa
