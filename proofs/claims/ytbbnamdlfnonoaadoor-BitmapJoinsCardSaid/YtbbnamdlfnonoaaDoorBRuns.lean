
/- How many runs a bitmap has, and the document's set; the text walked. -/
import Derived.Test.YtbbnamdlfnonoaaDoorBLay
namespace Go.Proofs.YtbbnamdlfnonoaaDoor
open Go.RowKit
namespace M
/-- Does a run begin at i? -/
def rb (f : Nat → Bool) (i : Nat) : Bool := f i && (i == 0 || !f (i - 1))
/-- How many runs begin below k. -/
def rnf (f : Nat → Bool) (k : Nat) : Nat := ((List.range k).filter (rb f)).length
theorem rnf_succ (f : Nat → Bool) (k : Nat) : rnf f (k + 1) = rnf f k + if rb f k then 1 else 0 := by
  unfold rnf
  rw [List.range_succ, List.filter_append, List.length_append]
  cases h : rb f k <;> simp [h]
theorem rnf_le (f : Nat → Bool) (k : Nat) : rnf f k ≤ k := by
  unfold rnf
  exact Nat.le_trans (List.length_filter_le _ _) (by simp)
theorem rnf_add (f : Nat → Bool) (k m : Nat) : rnf f (k + m) = rnf f k + ((List.range m).filter fun j => rb f (k + j)).length := by
  unfold rnf
  rw [List.range_add, List.filter_append, List.length_append, List.filter_map, List.length_map]
  rfl
theorem rnf_congr {f g : Nat → Bool} {k : Nat} (h : ∀ i, i < k → f i = g i) : rnf f k = rnf g k := by
  unfold rnf
  congr 1
  apply List.filter_congr
  intro i hi
  rw [List.mem_range] at hi
  unfold rb
  rw [h i hi]
  by_cases h0 : i = 0
  · subst h0; rfl
  · rw [h (i - 1) (by omega)]
theorem dbl_bit (y j : Nat) : (y * 2 % 18446744073709551616).testBit j = (decide (j < 64) && (decide (0 < j) && y.testBit (j - 1))) := by
  have e : (18446744073709551616 : Nat) = 2 ^ 64 := by decide
  rw [e, Nat.testBit_mod_two_pow]
  congr 1
  cases j with
  | zero => simp [Nat.testBit_zero]
  | succ j =>
    rw [Nat.testBit_succ]
    have : y * 2 / 2 = y := by omega
    simp [this]
theorem two_bit (x j : Nat) (h : x < 2) : x.testBit j = (decide (j = 0) && decide (x = 1)) := by
  rcases (by omega : x = 0 ∨ x = 1) with rfl | rfl
  · simp
  · cases j with
    | zero => rfl
    | succ j => rw [Nat.testBit_succ]; simp
/-- Where a run begins in a word: a bit that is set, the one below it not. -/
theorem run_len (y x : Nat) (hx : x < 2) : (bl (y &&& (18446744073709551615 - (y * 2 % 18446744073709551616 ||| x)))).length = ((List.range 64).filter fun j => y.testBit j && !(if j = 0 then decide (x = 1) else y.testBit (j - 1))).length := by
  unfold bl
  congr 1
  apply List.filter_congr
  intro j hj
  rw [List.mem_range] at hj
  have hlt : y * 2 % 18446744073709551616 ||| x < 2 ^ 64 := Nat.or_lt_two_pow (Nat.mod_lt _ (by decide)) (by omega)
  rw [Nat.testBit_and, not_bit _ _ hlt hj, Nat.testBit_or, dbl_bit, two_bit x j hx]
  congr 2
  by_cases h0 : j = 0
  · subst h0; simp
  · have hp : 0 < j := by omega
    simp [h0, hj, hp]
end M
theorem rn_step {ws : List Nat} {k x : Nat} (hk : k < ws.length) (hx : x = if sbit ws (64 * k - 1) && decide (0 < k) then 1 else 0) :
    M.rnf (sbit ws) (64 * (k + 1)) = M.rnf (sbit ws) (64 * k) + (M.bl (ws[k] &&& (18446744073709551615 - (ws[k] * 2 % 18446744073709551616 ||| x)))).length := by
  have hx2 : x < 2 := by rw [hx]; split <;> decide
  rw [M.run_len _ _ hx2, Nat.mul_succ, M.rnf_add]
  congr 2
  apply List.filter_congr
  intro j hj
  rw [List.mem_range] at hj
  have hb : ∀ j, j < 64 → sbit ws (64 * k + j) = ws[k].testBit j := fun j hj => by
    unfold sbit
    have e1 : (64 * k + j) / 64 = k := by omega
    have e2 : (64 * k + j) % 64 = j := by omega
    rw [e1, e2, List.getElem?_eq_getElem hk]; rfl
  unfold M.rb
  rw [hb j hj]
  congr 1
  by_cases h0 : j = 0
  · subst h0
    rw [if_pos rfl]
    by_cases hk0 : k = 0
    · subst hk0; simp [hx]
    · have e : (64 * k + 0 == 0) = false := by simp; omega
      rw [e, Bool.false_or, hx, Nat.add_zero]
      have : decide (0 < k) = true := by simp; omega
      rw [this, Bool.and_true]
      cases sbit ws (64 * k - 1) <;> rfl
  · rw [if_neg h0]
    have e : (64 * k + j == 0) = false := by simp; omega
    have e2 : 64 * k + j - 1 = 64 * k + (j - 1) := by omega
    rw [e, Bool.false_or, e2, hb (j - 1) (by omega)]
theorem last_step {ws : List Nat} {k : Nat} (hk : k < ws.length) (hw : ws[k] < 18446744073709551616) : ws[k] / 9223372036854775808 = if sbit ws (64 * (k + 1) - 1) && decide (0 < k + 1) then 1 else 0 := by
  have e1 : (64 * (k + 1) - 1) / 64 = k := by omega
  have e2 : (64 * (k + 1) - 1) % 64 = 63 := by omega
  have e3 : sbit ws (64 * (k + 1) - 1) = ws[k].testBit 63 := by
    unfold sbit
    rw [e1, e2, List.getElem?_eq_getElem hk]; rfl
  rw [e3, Nat.testBit_eq_decide_div_mod_eq]
  have e4 : (2 : Nat) ^ 63 = 9223372036854775808 := by decide
  rw [e4]
  generalize hq : ws[k] / 9223372036854775808 = q
  have : q < 2 := by omega
  rcases (by omega : q = 0 ∨ q = 1) with rfl | rfl <;> simp
set_option maxHeartbeats 1000000 in
theorem b_runs0 (w : World) (p s h : Nat) (ws : List Nat) (a : Bm w p s h ws) :
    Calls Tryd.prog 14 #[.pointer (some ⟨p, 0, none⟩)] w fun e w' => e = .returned (.int .i64 (M.rnf (sbit ws) 65536 : Nat)) ∧ Below w.heap.size w w' := by
  have hk := Lib.hid (kept_any w p s h ws a)
  have hw := Lib.hid (s_words w s h ws a.st)
  have hlen := a.len
  have hL := Lib.hid hlen
  have hwd : Hid (∀ k (h : k < ws.length), ws[k] < 18446744073709551616) := fun k h => a.st.word k h
  clear a
  obtain ⟨n, hn⟩ : ∃ n, ws.length = n := ⟨_, rfl⟩
  rw [hn] at hw hlen
  have hn9 : n ≤ 1024 := by omega
  have hnH := Lib.hid hn
  clear hn hlen
  go_enter Tryd.func14, Tryd.ntmps14
  go_wp2_with (first
    | (go_at_call 43; (with_reducible refine hk.out.mono ?_); rintro e w' ⟨rfl, rfl⟩)
    | (go_at_call 45; (with_reducible refine hw.out.mono ?_); rintro e w1 ⟨h', rfl, hh', hrow, hb⟩; have HR := Lib.hid hrow; have HB := Lib.hid hb; clear hrow hb))
  go_loop [3, 4, 11] (fun c l i => ∃ k x : Nat, k ≤ n ∧ i = .int .i64 (k : Int) ∧ l = .int .u64 (x : Int) ∧ x < 2 ∧ Hid (x = if sbit ws (64 * k - 1) && decide (0 < k) then 1 else 0) ∧ c = .int .i64 (M.rnf (sbit ws) (64 * k) : Nat)) (fun _ _ i => n - (intOf i).toNat)
  case atStart => exact ⟨0, 0, by omega, rfl, rfl, by omega, by simp [Hid], rfl⟩
  case round =>
    obtain ⟨k, x, hkn, rfl, rfl, hx2, hX, rfl⟩ := hrel
    by_cases hlt : k < n
    · have hT2 : decide (k < n) = true := decide_eq_true hlt
      have hT3 : decide ((k : Int) < (n : Int)) = true := decide_eq_true (by omega)
      have hkl : k < ws.length := by rw [hnH.out]; exact hlt
      have hc : w1.cell? ⟨h', k, none⟩ = some (.int .u64 (ws[k] : Nat)) := by
        rw [cell_of_row w1 h' k _ _ (0, 0) HR.out]
        simp [hkl]
      have hwk := hwd.out k hkl
      have hstep := rn_step hkl hX.out
      have hlast := last_step hkl hwk
      have hle := M.rnf_le (sbit ws) (64 * k)
      generalize ws[k] = y at *
      have hsh : Hid (IntKind.u64.wrap ((y : Int) * 2) = ((y * 2 % 18446744073709551616 : Nat) : Int)) := by
        show _ = _
        rw [IntKind.wrap_u64]; omega
      have hshl : y * 2 % 18446744073709551616 < 18446744073709551616 := Nat.mod_lt _ (by decide)
      generalize y * 2 % 18446744073709551616 = sh at *
      have hor : Hid (bits .or .u64 (sh : Int) (x : Int) = ((sh ||| x : Nat) : Int)) := u64_or_nat sh x hshl (by omega)
      have horl : sh ||| x < 18446744073709551616 := M.or_lt hshl (by omega)
      generalize sh ||| x = o at *
      have han : Hid (bits .andNot .u64 (y : Int) (o : Int) = ((y &&& (18446744073709551615 - o) : Nat) : Int)) := u64_andNot_nat y o hwk horl
      have hanl : y &&& (18446744073709551615 - o) < 18446744073709551616 := Nat.lt_of_le_of_lt Nat.and_le_left hwk
      generalize y &&& (18446744073709551615 - o) = z at *
      have hcnt := Lib.hid (bit_count z hanl w1)
      have hzl : (M.bl z).length ≤ 64 := by rw [← M.bz_len]; exact M.bz_le z
      generalize (M.bl z).length = c at *
      have hSTEP := Lib.hid hstep
      have hLAST := Lib.hid hlast
      clear hstep hlast
      generalize M.rnf (sbit ws) (64 * k) = r at *
      go_wp2_with fail
      rw [hsh.out, hor.out, han.out]
      go_wp2_with (go_at_call 46; (with_reducible refine hcnt.out.mono ?_); rintro e w' ⟨rfl, rfl⟩)
      go_round
      case rel => exact ⟨k + 1, y / 9223372036854775808, by omega, by go_num, by first | rfl | go_num, by omega, hLAST.out, by rw [hSTEP.out]; go_num⟩
      case measure => simp [intOf]; omega
    · obtain rfl : k = n := by omega
      have hT2 : decide (k < k) = false := decide_eq_false hlt
      have hT3 : decide ((k : Int) < (k : Int)) = false := decide_eq_false (by omega)
      have hfin : Hid (64 * k = 65536) := by show _ = _; have := hL.out; have := hnH.out; omega
      go_wp2
      go_ret
      exact ⟨rInt (by rw [hfin.out]), HB.out⟩
/-- The document's runs. -/
def fb (bs : List Bool) (i : Nat) : Bool := bs[i]?.getD false
theorem alike_runs {w : World} {p s h g n : Nat} {ws : List Nat} {bs : List Bool} (a : BB w p s h g n ws bs) : M.rnf (sbit ws) 65536 = M.rnf (fb bs) 65536 := by
  apply M.rnf_congr
  intro i hi
  have h1 : (i : Int) ∈ sl ws ↔ (i : Int) ∈ M.L bs := by rw [a.same]
  rw [sl_in, M.L_in] at h1
  have hb := a.bm.bits
  have h2 : sbit ws i = true ↔ bs[i]? = some true := by
    constructor
    · intro h
      have := (h1.1 ⟨by omega, by omega, by simpa using h⟩).2
      simpa using this
    · intro h
      have := (h1.2 ⟨by omega, by simpa using h⟩).2.2
      simpa using this
  unfold fb
  rw [Bool.eq_iff_iff, h2]
  cases hq : bs[i]? with
  | none => simp
  | some b => simp
set_option maxHeartbeats 1000000 in
theorem f_runs (w : World) (g n : Nat) (bs : List Bool) (a : Bs w g n bs) :
    Calls Tryd.prog 15 #[.slice (some ⟨g, 0, none⟩) n n] w fun e w' => e = .returned (.int .i64 (M.rnf (fb bs) n : Nat)) ∧ w = w' := by
  have hn := a.top_le
  have hLen := Lib.hid a.len
  have ha := Lib.hid a
  clear a
  go_enter Tryd.func15, Tryd.ntmps15
  go_wp2
  go_loop [3, 7] (fun c i => ∃ k : Nat, k ≤ n ∧ i = .int .i64 (k : Int) ∧ c = .int .i64 (M.rnf (fb bs) k : Nat)) (fun _ i => n - (intOf i).toNat)
  case atStart => exact ⟨0, by omega, rfl, rfl⟩
  case round =>
    obtain ⟨k, hk, rfl, rfl⟩ := hrel
    by_cases hlt : k < n
    · have hT2 : decide (k < n) = true := decide_eq_true hlt
      have hT3 : decide ((k : Int) < (n : Int)) = true := decide_eq_true (by omega)
      have hkl : k < bs.length := by rw [hLen.out]; exact hlt
      have hc := ha.out.cell k hlt
      have hf : fb bs k = bs[k] := by unfold fb; rw [List.getElem?_eq_getElem hkl]; rfl
      have hst := M.rnf_succ (fb bs) k
      have hle := M.rnf_le (fb bs) k
      have hrb : M.rb (fb bs) k = (fb bs k && (k == 0 || !fb bs (k - 1))) := rfl
      rw [hf] at hrb
      cases hbk : bs[k]
      · rw [hbk] at hc hrb
        rw [hrb] at hst
        have hS : Hid (M.rnf (fb bs) (k + 1) = M.rnf (fb bs) k) := by simpa [Hid] using hst
        clear hst hrb hbk hf
        go_wp2
        go_round
        case rel => exact ⟨k + 1, by omega, by go_num, by rw [hS.out]⟩
        case measure => simp [intOf]; omega
      · rw [hbk] at hc hrb
        by_cases h0 : k = 0
        · have hT4 : ((k : Int) == 0) = true := by simp [h0]
          have hT5 : (k == 0) = true := by simp [h0]
          rw [hT5] at hrb
          rw [hrb] at hst
          have hS : Hid (M.rnf (fb bs) (k + 1) = M.rnf (fb bs) k + 1) := by simpa [Hid] using hst
          clear hst hrb hbk hf h0
          go_wp2
          go_round
          case rel => exact ⟨k + 1, by omega, by go_num, by rw [hS.out]; go_num⟩
          case measure => simp [intOf]; omega
        · have hT4 : ((k : Int) == 0) = false := by simp; omega
          have hT5 : (k == 0) = false := by simp; omega
          have hk1 : 1 ≤ k := by omega
          have hw1 : IntKind.i64.wrap ((k : Int) - 1) = (k : Int) - 1 := IntWalk.i64_in _ (by omega)
          have hn1 : ((k : Int) - 1).toNat = k - 1 := by omega
          have hkl1 : k - 1 < bs.length := by omega
          have hc1 := ha.out.cell (k - 1) (by omega)
          have hf1 : fb bs (k - 1) = bs[k - 1] := by unfold fb; rw [List.getElem?_eq_getElem hkl1]; rfl
          rw [hT5, hf1] at hrb
          cases hb1 : bs[k - 1]
          · rw [hb1] at hc1 hrb
            rw [hrb] at hst
            have hS : Hid (M.rnf (fb bs) (k + 1) = M.rnf (fb bs) k + 1) := by simpa [Hid] using hst
            clear hst hrb hbk hf h0 hf1 hb1
            go_wp2
            go_round
            case rel => exact ⟨k + 1, by omega, by go_num, by rw [hS.out]; go_num⟩
            case measure => simp [intOf]; omega
          · rw [hb1] at hc1 hrb
            rw [hrb] at hst
            have hS : Hid (M.rnf (fb bs) (k + 1) = M.rnf (fb bs) k) := by simpa [Hid] using hst
            clear hst hrb hbk hf h0 hf1 hb1
            go_wp2
            go_round
            case rel => exact ⟨k + 1, by omega, by go_num, by rw [hS.out]⟩
            case measure => simp [intOf]; omega
    · obtain rfl : k = n := by omega
      have hT2 : decide (k < k) = false := decide_eq_false hlt
      have hT3 : decide ((k : Int) < (k : Int)) = false := decide_eq_false (by omega)
      go_wp2
      go_ret
      exact ⟨rfl, rfl⟩
end Go.Proofs.YtbbnamdlfnonoaaDoor
