
/- What bytes are read as: Parse; the text walked. -/
import Derived.Test.YtclaejaicjmohaaD16
namespace Go.Proofs.Ytclaejaicjmohaa
set_option maxRecDepth 20000
open Go.RowKit
namespace E
theorem tag_enc (two : Bool) : [if two then 1 else 0] = enc (if two then 1 else 0) := by cases two <;> rfl
theorem bts_enc (two : Bool) (l : List (Nat × Nat)) : bts two l = enc (if two then 1 else 0) ++ (enc l.length ++ body two 0 l) := by
  rw [← tag_enc]
  rfl
/-- What the two numbers in front are. -/
theorem ps_head {bs : List Nat} {f k1 n k2 : Nat} (h1 : Rd bs f k1) (h2 : Rd (bs.drop k1) n k2) {l : List (Nat × Nat)} {two : Bool} (hl : l.length ≤ 262144) (h : bs = bts two l) :
    f = (if two then 1 else 0) ∧ 0 < k1 ∧ n = l.length ∧ 0 < k2 ∧ (bs.drop k1).drop k2 = body two 0 l := by
  rw [bts_enc] at h
  have e1 := Rd.enc (n := if two then 1 else 0) (by cases two <;> decide) (enc l.length ++ body two 0 l)
  rw [← h] at e1
  obtain ⟨rfl, rfl⟩ := h1.one e1
  have p1 := enc_pos (if two then 1 else 0)
  rw [h, List.drop_left] at h2
  have e2 := Rd.enc (n := l.length) (by omega) (body two 0 l)
  obtain ⟨rfl, rfl⟩ := h2.one e2
  have p2 := enc_pos l.length
  refine ⟨rfl, p1, rfl, p2, ?_⟩
  rw [h, List.drop_left, List.drop_left]
theorem ps_join {bs : List Nat} {f k1 n k2 : Nat} (h1 : Rd bs f k1) (h2 : Rd (bs.drop k1) n k2) (p1 : 0 < k1) (p2 : 0 < k2) {l : List (Nat × Nat)} {two : Bool} (hf : f = if two then 1 else 0) (hl : l.length = n) (h : (bs.drop k1).drop k2 = body two 0 l) : bs = bts two l := by
  have e1 := h1.rest p1
  have e2 := h2.rest p2
  rw [bts_enc, ← hf, hl, ← h, ← e2, ← e1]
set_option maxRecDepth 100000 in
set_option maxHeartbeats 4000000 in
theorem pairs_none (w : World) (R : Nat) (two : Bool) : Calls Try.prog 32 #[.pointer (some ⟨R, 0, none⟩), .int .i64 0, .bool two] w fun e w' => e = .returned (.slice none 0 0) ∧ w = w' := by
  go_enter Try.func32, Try.ntmps32
  go_wp2
  go_loopw [7, 8, 9] (fun v a j wr => v = .slice none 0 0 ∧ a = .int .u64 18446744073709551615 ∧ j = .int .i64 0 ∧ wr = w) (fun _ _ _ _ => 0)
  case atStart => exact ⟨rfl, rfl, rfl, rfl⟩
  case round =>
    obtain ⟨rfl, rfl, rfl, rfl⟩ := hrel
    go_wp2
    go_ret
    exact ⟨rfl, rfl⟩
/-- What Parse answers. -/
def PA (w : World) (bs : List Nat) (e : Ending) (w' : World) : Prop := Below w.heap.size w w' ∧
  ((∃ items two A c, Ps bs (some (items, two)) ∧ e = .returned (.tuple #[.slice A items.length c, .bool two, .int .i64 0]) ∧ w'.ownsRow w.heap.size 39 2 (.slice A items.length c) items.length (pv items)) ∨
   (Ps bs none ∧ e = .returned (.tuple #[.slice none 0 0, .bool false, .int .i64 2])))
theorem own_formP {w : World} {base n : Nat} {v : Value} {xs : List Value} (h : w.ownsRow base 39 2 v n xs) : ∃ A c, v = .slice A n c := by
  rcases h.2 with ⟨rfl, rfl⟩ | ⟨g, cap, cur, rfl, _⟩
  · exact ⟨none, 0, rfl⟩
  · exact ⟨_, _, rfl⟩
theorem Bb0 {w w' : World} {o : Obj} (h : ButS (w.alloc o) w' (· = w.heap.size)) : Below w.heap.size w w' := ((Below.refl w.heap.size w).alloc (Nat.le_refl _) o).trans (h.below (by simp) (fun j e => by have e2 : j = w.heap.size := e; omega))
set_option maxRecDepth 100000 in
set_option maxHeartbeats 8000000 in
theorem Parse_any (w : World) (A : Option Addr) (l c : Nat) (bs : List Nat) (hl : bs.length = l) (hlc : l ≤ c) (hl2 : l ≤ 100000000) (hb : ∀ x ∈ bs, x < 256) (hr : Rb w w.heap.size A bs) :
    Calls Try.prog 21 #[.slice A l c] w (PA w bs) := by
  obtain ⟨R, hR⟩ : ∃ R, w.heap.size = R := ⟨_, rfl⟩
  obtain ⟨W0, hW0⟩ : ∃ W, w.alloc (.cells #[.slice A l c, .bool false] 66) = W := ⟨_, rfl⟩
  have hRS : RS W0 R A l c false := by rw [← hW0, ← hR]; exact heap_alloc_new w _
  have hB0 : Below R w W0 := by rw [← hW0, ← hR]; exact (Below.refl _ w).alloc (Nat.le_refl _) _
  have hRB : Rb W0 R A bs := by rw [hR] at hr; exact hr.below hB0 (Nat.le_refl _)
  have hS0 : R < W0.heap.size := by rw [← hW0]; simp; omega
  have HFB : Hid (∀ w', ButS W0 w' (· = R) → Below w.heap.size w w') := Lib.hid fun w' h => by
    rw [hR]
    exact hB0.trans (h.below (by omega) (fun j e => by have e2 : j = R := e; omega))
  have HFO : Hid (W0.heap.size ≥ w.heap.size) := Lib.hid (by omega)
  have HN1 := Lib.hid (rnum_any W0 R R A l c false bs hRS (Nat.le_refl _) hRB hl hlc (by omega) hb)
  have HL := Lib.hid hl
  have HBY := Lib.hid hb
  clear hl hb hr hRS hRB hB0
  go_enter Try.func21, Try.ntmps21
  go_wp2_with (fail)
  refine HN1.out.mono ?_
  rintro e w1 ⟨f, k1, rfl, hrd1, hrs1, hrb1, hbut1⟩
  simp only [Bool.false_or] at hrs1
  have hk1 := hrd1.le
  rw [HL.out] at hk1
  have hl1 : (bs.drop k1).length = l - k1 := by rw [List.length_drop, HL.out]
  have HN2 := Lib.hid (rnum_any w1 R R (cutA A k1 c) (l - k1) (c - k1) (decide (k1 = 0)) (bs.drop k1) hrs1 (Nat.le_refl _) hrb1 hl1 (by omega) (by omega) (fun x hx => HBY.out x (List.mem_of_mem_drop hx)))
  have HRD1 := Lib.hid hrd1
  have HBU1 := Lib.hid hbut1
  have HL1 := Lib.hid hl1
  clear hrd1 hrs1 hrb1 hbut1 hl1
  go_wp2_with (fail)
  refine HN2.out.mono ?_
  rintro e w2 ⟨n, k2, rfl, hrd2, hrs2, hrb2, hbut2⟩
  have hk2 := hrd2.le
  rw [HL1.out] at hk2
  have hl2' : ((bs.drop k1).drop k2).length = l - k1 - k2 := by rw [List.length_drop, HL1.out]
  have HRD2 := Lib.hid hrd2
  have HBU2 := Lib.hid (HBU1.out.trans hbut2)
  have HL2 := Lib.hid hl2'
  have HHD : Hid (∀ (items : List (Nat × Nat)) (two : Bool), items.length ≤ 262144 → bs = bts two items → f = (if two then 1 else 0) ∧ 0 < k1 ∧ n = items.length ∧ 0 < k2 ∧ (bs.drop k1).drop k2 = body two 0 items) := Lib.hid fun items two h1 h2 => ps_head HRD1.out HRD2.out h1 h2
  obtain ⟨A2, hA2⟩ : ∃ A', cutA (cutA A k1 c) k2 (c - k1) = A' := ⟨_, rfl⟩
  obtain ⟨l2, hl2e⟩ : ∃ x, l - k1 - k2 = x := ⟨_, rfl⟩
  obtain ⟨c2, hc2e⟩ : ∃ x, c - k1 - k2 = x := ⟨_, rfl⟩
  rw [hA2, hl2e, hc2e] at hrs2
  rw [hA2] at hrb2
  obtain ⟨b2, hb2⟩ : ∃ b, (decide (k1 = 0) || decide (k2 = 0)) = b := ⟨_, rfl⟩
  rw [hb2] at hrs2
  have hnlt := hrd2.lt
  by_cases hf : 1 < f
  · have d1 : decide ((1 : Int) < (f : Int)) = true := decide_eq_true (by omega)
    have d2 : decide (1 < f) = true := decide_eq_true hf
    have HNO : Hid (Ps bs none) := Lib.hid fun items two _ h2 _ h => by
      obtain ⟨h3, _⟩ := HHD.out items two h2 h
      cases two <;> simp at h3 <;> omega
    clear hrd2 hrs2 hrb2 hbut2 hl2' hb2 hnlt
    go_wp2
    go_ret3
    exact ⟨HFB.out _ HBU2.out, .inr ⟨HNO.out, rfl⟩⟩
  · have d1 : decide ((1 : Int) < (f : Int)) = false := decide_eq_false (by omega)
    have d2 : decide (1 < f) = false := decide_eq_false hf
    by_cases hn : 262144 < n
    · have d3 : decide ((262144 : Int) < (n : Int)) = true := decide_eq_true (by omega)
      have d4 : decide (262144 < n) = true := decide_eq_true hn
      have HNO : Hid (Ps bs none) := Lib.hid fun items two _ h2 _ h => by
        obtain ⟨_, _, h3, _⟩ := HHD.out items two h2 h
        omega
      clear hrd2 hrs2 hrb2 hbut2 hl2' hb2 hnlt
      go_wp2
      go_ret3
      exact ⟨HFB.out _ HBU2.out, .inr ⟨HNO.out, rfl⟩⟩
    · have d3 : decide ((262144 : Int) < (n : Int)) = false := decide_eq_false (by omega)
      have d4 : decide (262144 < n) = false := decide_eq_false hn
      have x1 : IntKind.i64.wrap (n : Int) = (n : Int) := IntWalk.i64_in _ (by omega)
      cases hb2' : b2 with
      | true =>
        rw [hb2'] at hrs2 hb2
        have hn0 : n = 0 := by
          rw [Bool.or_eq_true, decide_eq_true_eq, decide_eq_true_eq] at hb2
          rcases hrd2 with ⟨h1, _⟩ | ⟨_, h1, _⟩
          · rcases hb2 with h2 | h2
            · exfalso
              subst h2
              rcases HRD1.out with ⟨h3, _⟩ | ⟨_, _, h3⟩
              · omega
              · rcases HRD2.out with ⟨_, h4, _, h5⟩ | ⟨h4, _⟩
                · exact h3 n h4 ⟨(bs.drop 0).drop k2, by rw [h5]; simp⟩
                · omega
            · omega
          · exact h1
        subst hn0
        have HNO : Hid (Ps bs none) := Lib.hid fun items two _ h2 _ h => by
          obtain ⟨_, h3, _, h4, _⟩ := HHD.out items two h2 h
          rw [Bool.or_eq_true, decide_eq_true_eq, decide_eq_true_eq] at hb2
          omega
        have g1 := cell_of_row w2 R 1 _ _ (0, 0) hrs2
        simp at g1
        have HP := Lib.hid (fun two => pairs_none w2 R two)
        clear hrd2 hrs2 hrb2 hbut2 hl2' hb2 hnlt
        by_cases hf1 : f = 1
        · subst hf1
          go_wp2_with (go_at_call 32; (with_reducible refine (HP.out _).mono ?_); rintro e w3 ⟨rfl, rfl⟩)
          go_ret3
          exact ⟨HFB.out _ HBU2.out, .inr ⟨HNO.out, rfl⟩⟩
        · have e1 : ((f : Int) == 1) = false := beq_eq_false_iff_ne.2 (by omega)
          go_wp2_with (go_at_call 32; (with_reducible refine (HP.out _).mono ?_); rintro e w3 ⟨rfl, rfl⟩)
          go_ret3
          exact ⟨HFB.out _ HBU2.out, .inr ⟨HNO.out, rfl⟩⟩
      | false =>
        rw [hb2'] at hrs2 hb2
        rw [Bool.or_eq_false_iff, decide_eq_false_iff_not, decide_eq_false_iff_not] at hb2
        have hcl : l2 ≤ c2 := by omega
        have hby2 : ∀ x ∈ (bs.drop k1).drop k2, x < 256 := fun x hx => HBY.out x (List.mem_of_mem_drop (List.mem_of_mem_drop hx))
        have HK := Lib.hid hb2
        by_cases hf1 : f = 1
        · have e1 : ((f : Int) == 1) = true := beq_iff_eq.2 (by omega)
          have HP := Lib.hid (pairs_vals w2 R R A2 l2 c2 ((bs.drop k1).drop k2) n hrs2 (Nat.le_refl _) hrb2 (by rw [hl2', hl2e]) hcl (by omega) hby2 (by omega))
          have HF : Hid (f = if true then 1 else 0) := Lib.hid (by rw [hf1]; rfl)
          have HSW : Hid (w.heap.size ≤ w2.heap.size) := Lib.hid (by have h1 := HBU2.out.size; have h2 := HFO.out; omega)
          have HNW : Hid (n ≤ 262144) := Lib.hid (by omega)
          clear hrd2 hrs2 hrb2 hbut2 hl2' hb2 hnlt hby2 hf hn
          go_wp2_with (fail)
          refine HP.out.mono ?_
          rintro e w3 ⟨v, rfl, hb3, hres⟩
          have HB3 := Lib.hid (HBU2.out.trans hb3)
          rcases hres with ⟨⟨A3, l3, c3, hrs3⟩, hno⟩ | ⟨items, rest, A3, l3, c3, hrs3, hlen, heq, hup, hvd, hcnt, hown⟩
          · have HNO : Hid (Ps bs none) := Lib.hid fun its two h1 h2 h3 h => by
              obtain ⟨h4, _, h5, _, h6⟩ := HHD.out its two h2 h
              have h7 : two = true := by have h8 := HF.out; rw [h4] at h8; cases two <;> simp at h8 <;> rfl
              subst h7
              exact hno its [] h1 h3 h5.symm (by rw [h6]; simp)
            have g1 := cell_of_row w3 R 1 _ _ (0, 0) hrs3
            simp at g1
            clear hrs3 hno hb3
            go_wp2
            go_ret3
            exact ⟨HFB.out _ HB3.out, .inr ⟨HNO.out, rfl⟩⟩
          · have g1 := cell_of_row w3 R 1 _ _ (0, 0) hrs3
            have g0 := cell_of_row w3 R 0 _ _ (0, 0) hrs3
            simp at g0 g1
            by_cases hr0 : rest = []
            · obtain rfl : l3 = 0 := by rw [← hlen, hr0]; rfl
              have HYE : Hid (Ps bs (some (items, true))) := Lib.hid ⟨ps_join HRD1.out HRD2.out (by have := HK.out; omega) (by have := HK.out; omega) HF.out hcnt (by rw [heq, hr0]; simp), hup, by rw [hcnt]; exact HNW.out, hvd⟩
              obtain ⟨A4, c4, rfl⟩ := own_formP hown
              have HO := Lib.hid (own_less hown HSW.out)
              have HC := Lib.hid hcnt
              clear hrs3 hlen heq hup hvd hcnt hown hr0 hb3
              go_wp2
              go_ret3
              exact ⟨HFB.out _ HB3.out, .inl ⟨items, true, A4, c4, HYE.out, by rw [HC.out]; rfl, by rw [HC.out]; exact HO.out⟩⟩
            · have hl3 : 0 < l3 := by rw [← hlen]; exact List.length_pos_iff.2 hr0
              have e2 : decide ((0 : Int) < (l3 : Int)) = true := decide_eq_true (by omega)
              have e3 : decide (0 < l3) = true := decide_eq_true hl3
              have HNO : Hid (Ps bs none) := Lib.hid fun its two h1 h2 h3 h => by
                obtain ⟨h4, _, h5, _, h6⟩ := HHD.out its two h2 h
                have h7 : two = true := by have h8 := HF.out; rw [h4] at h8; cases two <;> simp at h8 <;> rfl
                subst h7
                rw [h6] at heq
                have := (body_one _ its items 0 [] rest h1 hup h3 hvd (by rw [hcnt, h5]) (by rw [List.append_nil]; exact heq)).2
                exact hr0 this.symm
              clear hrs3 hlen heq hup hvd hcnt hown hr0 hb3
              go_wp2
              go_ret3
              exact ⟨HFB.out _ HB3.out, .inr ⟨HNO.out, rfl⟩⟩
        · have hf0 : f = 0 := by omega
          have e1 : ((f : Int) == 1) = false := beq_eq_false_iff_ne.2 (by omega)
          have HP := Lib.hid (pairs_keys w2 R R A2 l2 c2 ((bs.drop k1).drop k2) n hrs2 (Nat.le_refl _) hrb2 (by rw [hl2', hl2e]) hcl (by omega) hby2 (by omega))
          have HF : Hid (f = if false then 1 else 0) := Lib.hid (by rw [hf0]; rfl)
          have HSW : Hid (w.heap.size ≤ w2.heap.size) := Lib.hid (by have h1 := HBU2.out.size; have h2 := HFO.out; omega)
          have HNW : Hid (n ≤ 262144) := Lib.hid (by omega)
          clear hrd2 hrs2 hrb2 hbut2 hl2' hb2 hnlt hby2 hf hn
          go_wp2_with (fail)
          refine HP.out.mono ?_
          rintro e w3 ⟨v, rfl, hb3, hres⟩
          have HB3 := Lib.hid (HBU2.out.trans hb3)
          rcases hres with ⟨⟨A3, l3, c3, hrs3⟩, hno⟩ | ⟨items, rest, A3, l3, c3, hrs3, hlen, heq, hup, hvd, hcnt, hown⟩
          · have HNO : Hid (Ps bs none) := Lib.hid fun its two h1 h2 h3 h => by
              obtain ⟨h4, _, h5, _, h6⟩ := HHD.out its two h2 h
              have h7 : two = false := by have h8 := HF.out; rw [h4] at h8; cases two <;> simp at h8 <;> rfl
              subst h7
              exact hno its [] h1 h3 h5.symm (by rw [h6]; simp)
            have g1 := cell_of_row w3 R 1 _ _ (0, 0) hrs3
            simp at g1
            clear hrs3 hno hb3
            go_wp2
            go_ret3
            exact ⟨HFB.out _ HB3.out, .inr ⟨HNO.out, rfl⟩⟩
          · have g1 := cell_of_row w3 R 1 _ _ (0, 0) hrs3
            have g0 := cell_of_row w3 R 0 _ _ (0, 0) hrs3
            simp at g0 g1
            by_cases hr0 : rest = []
            · obtain rfl : l3 = 0 := by rw [← hlen, hr0]; rfl
              have HYE : Hid (Ps bs (some (items, false))) := Lib.hid ⟨ps_join HRD1.out HRD2.out (by have := HK.out; omega) (by have := HK.out; omega) HF.out hcnt (by rw [heq, hr0]; simp), hup, by rw [hcnt]; exact HNW.out, hvd⟩
              obtain ⟨A4, c4, rfl⟩ := own_formP hown
              have HO := Lib.hid (own_less hown HSW.out)
              have HC := Lib.hid hcnt
              clear hrs3 hlen heq hup hvd hcnt hown hr0 hb3
              go_wp2
              go_ret3
              exact ⟨HFB.out _ HB3.out, .inl ⟨items, false, A4, c4, HYE.out, by rw [HC.out]; rfl, by rw [HC.out]; exact HO.out⟩⟩
            · have hl3 : 0 < l3 := by rw [← hlen]; exact List.length_pos_iff.2 hr0
              have e2 : decide ((0 : Int) < (l3 : Int)) = true := decide_eq_true (by omega)
              have e3 : decide (0 < l3) = true := decide_eq_true hl3
              have HNO : Hid (Ps bs none) := Lib.hid fun its two h1 h2 h3 h => by
                obtain ⟨h4, _, h5, _, h6⟩ := HHD.out its two h2 h
                have h7 : two = false := by have h8 := HF.out; rw [h4] at h8; cases two <;> simp at h8 <;> rfl
                subst h7
                rw [h6] at heq
                have := (body_one _ its items 0 [] rest h1 hup h3 hvd (by rw [hcnt, h5]) (by rw [List.append_nil]; exact heq)).2
                exact hr0 this.symm
              clear hrs3 hlen heq hup hvd hcnt hown hr0 hb3
              go_wp2
              go_ret3
              exact ⟨HFB.out _ HB3.out, .inr ⟨HNO.out, rfl⟩⟩
end E
end Go.Proofs.Ytclaejaicjmohaa
