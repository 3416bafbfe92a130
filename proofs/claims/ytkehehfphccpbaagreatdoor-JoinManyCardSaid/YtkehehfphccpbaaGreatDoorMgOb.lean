/- Rank, the text walked. Next, the text walked. Prev, the text walked. Select, the text walked. The closures of Fill and Wipe. How many bits are set after some words were changed; a range filled or wiped, as a list. Fill and Wipe, the text walked. Whether two slices of words are alike. Words, Of, Copy and Equal of a strip, the text walked. Equal, and whether strips are alike, the text walked. One bit set, one bit cleared: the list of a strip's bits. A bitmap in memory: a struct that points to a strip of 1024 words; its methods, the text walked. Rows of zeros have no number. -/
import Derived.LoopTactic
import Derived.Deep.RegionHeld3
import Derived.Deep.QuietTactic
import Derived.BigQuiet
import Derived.Laws.CopyOwn
import Derived.Test.YtkehehfphccpbaaGreatDoorMgOa
import Derived.Test.YtkehehfphccpbaaGreatDoorMgWo
import Derived.Test.YtkehehfphccpbaaGreatDoorMgMa
section
namespace Go.Proofs.YtkehehfphccpbaaGreatDoor
set_option maxRecDepth 40000
open Go.RowKit
set_option maxHeartbeats 1000000 in
theorem s_rank (w : World) (s h : Nat) (ws : List Nat) (a : St w s h ws) (i : Int) :
    Calls Tryz.prog 164 #[.pointer (some ⟨s, 0, none⟩), .int .i64 i] w fun e w' => e = .returned (.int .i64 (M.rRank (sl ws) i : Nat)) ∧ ∃ n, w' = w.drewN n := by
  have hb := Lib.hid (s_bits w s h ws a)
  have hc := a.head
  have hle := a.2.2.2
  have ha := Lib.hid a
  have hmin : Hid (M.rRank (sl ws) (min i ((64 * ws.length : Nat) : Int)) = M.rRank (sl ws) i) := by
    show _ = _
    unfold M.rRank
    congr 1
    apply List.filter_congr
    intro y hy
    have := (sl_in.1 hy).2.1
    rw [decide_eq_decide]
    omega
  clear a
  have hBd : ((64 * ws.length : Nat) : Int) ≤ 64 * (ws.length : Int) := by omega
  generalize ((64 * ws.length : Nat) : Int) = B at *
  have hm1 : min i B ≤ 64 * (ws.length : Int) := by omega
  go_enter Tryz.func164, Tryz.ntmps164
  go_wp2_with (go_at_call 100; refine hb.out.mono ?_; rintro e w' ⟨rfl, rfl⟩)
  have hm2 : min i B = i ∨ min i B = B := by omega
  generalize min i B = m at *
  go_loopw [5, 6] (fun v a wr => ∃ k r N : Nat, k ≤ ws.length ∧ r ≤ 64 * k ∧ a = .int .i64 k ∧ v = .int .i64 r ∧ wr = w.drewN N ∧ Hid (M.rRank (sl (ws.take k)) m = r)) (fun _ a _ => ws.length - (intOf a).toNat)
  case atStart => exact ⟨0, 0, 0, by omega, by omega, rfl, rfl, rfl, by simp [Hid, sl, M.rRank]⟩
  case round =>
    obtain ⟨k, r, N, hk, hr, rfl, rfl, rfl, hH⟩ := hrel
    by_cases hlt : (k : Int) * 64 < m
    · have hkn : k < ws.length := by omega
      have hw := ha.out.cell k hkn
      have hx := ha.out.word k hkn
      have ht := List.take_succ_eq_append_getElem hkn
      have hl : (ws.take k).length = k := by rw [List.length_take]; omega
      have hrk := rank_le (ws.take (k + 1)) m
      have hres : Hid (M.rRank (sl (ws.take (k + 1))) m = r + M.rRank (M.bz ws[k]) (m - (k : Int) * 64)) := by
        show _ = _
        rw [ht, rank_snoc, hH.out, hl]
        congr 2
        omega
      rw [hres.out] at hrk
      have hl2 : (ws.take (k + 1)).length = k + 1 := by rw [List.length_take]; omega
      rw [hl2] at hrk
      generalize ws[k] = x at *
      have hbr := fun w0 => Lib.hid (bit_rank x hx (m - (k : Int) * 64) w0)
      have hT : decide ((k : Int) * 64 < m) = true := decide_eq_true hlt
      have wk : IntKind.i64.wrap (k : Int) = (k : Int) := IntWalk.i64_in _ (by omega)
      have wk2 : IntKind.i64.wrap ((k : Int) * 64) = (k : Int) * 64 := IntWalk.i64_in _ (by omega)
      have wk3 : IntKind.i64.wrap (m - (k : Int) * 64) = m - (k : Int) * 64 := IntWalk.i64_in _ (by omega)
      clear ht hl hl2 hH
      generalize M.rRank (M.bz x) (m - (k : Int) * 64) = z at *
      go_wp2_with (go_at_call 165; (with_reducible refine (hbr _).out.mono ?_); rintro e w' ⟨rfl, N2, rfl⟩)
      refine ⟨⟨k + 1, r + z, N + N2, by omega, by omega, by go_num, by go_num, rfl, hres⟩, by simp [intOf]; omega⟩
    · have hT : decide ((k : Int) * 64 < m) = false := decide_eq_false hlt
      have wk2 : IntKind.i64.wrap ((k : Int) * 64) = (k : Int) * 64 := IntWalk.i64_in _ (by omega)
      have hfin : Hid (M.rRank (sl ws) i = r) := by
        show _ = _
        rw [← hmin.out, ← rank_take ws k m (by omega) hk]
        exact hH.out
      go_wp2
      refine bodyPost_ret (results_tmp (t := 4) rfl _ _ _) rfl ?_
      exact ⟨ret_int (by rw [hfin.out]), N, rfl⟩
theorem s_count (w : World) (s h : Nat) (ws : List Nat) (a : St w s h ws) :
    Calls Tryz.prog 163 #[.pointer (some ⟨s, 0, none⟩)] w fun e w' => e = .returned (.int .i64 ((sl ws).length : Nat)) ∧ ∃ n, w' = w.drewN n := by
  have hb := Lib.hid (s_bits w s h ws a)
  have hle := a.2.2.2
  have hr := Lib.hid (s_rank w s h ws a ((64 * ws.length : Nat) : Int))
  have e : M.rRank (sl ws) ((64 * ws.length : Nat) : Int) = (sl ws).length := by
    unfold M.rRank
    rw [List.filter_eq_self.2]
    intro y hy
    have := (sl_in.1 hy).2.1
    simpa using this
  rw [e] at hr
  clear a e
  generalize ((64 * ws.length : Nat) : Int) = B at *
  go_enter Tryz.func163, Tryz.ntmps163
  go_wp2_with (first
    | (go_at_call 100; refine hb.out.mono ?_; rintro e w' ⟨rfl, rfl⟩)
    | (go_at_call 164; refine hr.out.mono ?_; rintro e w' ⟨rfl, N, rfl⟩))
  go_ret
  exact ⟨rfl, N, rfl⟩
end Go.Proofs.YtkehehfphccpbaaGreatDoor
end
section
namespace Go.Proofs.YtkehehfphccpbaaGreatDoor
set_option maxRecDepth 40000
open Go.RowKit
end Go.Proofs.YtkehehfphccpbaaGreatDoor
end
section
namespace Go.Proofs.YtkehehfphccpbaaGreatDoor
set_option maxRecDepth 40000
open Go.RowKit
end Go.Proofs.YtkehehfphccpbaaGreatDoor
end
section
namespace Go.Proofs.YtkehehfphccpbaaGreatDoor
set_option maxRecDepth 40000
open Go.RowKit
theorem sl_grows (ws us : List Nat) : sl ws <+: sl (ws ++ us) := by
  induction us generalizing ws with
  | nil => rw [List.append_nil]; exact List.prefix_refl _
  | cons u us ih =>
    rw [show ws ++ u :: us = (ws ++ [u]) ++ us by simp]
    refine List.IsPrefix.trans ?_ (ih (ws ++ [u]))
    rw [sl_snoc]
    exact List.prefix_append _ _
theorem sl_prefix (ws : List Nat) (j : Nat) : sl (ws.take j) <+: sl ws := by
  have := sl_grows (ws.take j) (ws.drop j)
  rwa [List.take_append_drop] at this
theorem bz_len (x : Nat) : (M.bz x).length = (M.bl x).length := by simp [M.bz]
theorem sel_hit {ws : List Nat} {j : Nat} (hj : j < ws.length) (k : Nat) (hk : k < (M.bl ws[j]).length) : M.rSel (sl ws) (((sl (ws.take j)).length + k : Nat) : Int) = (j : Int) * 64 + M.rSel (M.bz ws[j]) (k : Int) := by
  have hl : (ws.take j).length = j := by rw [List.length_take]; omega
  have hp := sl_prefix ws (j + 1)
  rw [List.take_succ_eq_append_getElem hj, sl_snoc, hl] at hp
  obtain ⟨t, ht⟩ := hp
  have hk2 : k < (M.bz ws[j]).length := by rw [bz_len]; exact hk
  unfold M.rSel
  rw [if_neg (by omega), if_neg (by omega), ← ht, Int.toNat_natCast, Int.toNat_natCast, List.append_assoc, List.getElem?_append_right (by omega), List.getElem?_append_left (by rw [List.length_map]; omega), List.getElem?_map, show (sl (ws.take j)).length + k - (sl (ws.take j)).length = k by omega, List.getElem?_eq_getElem hk2]
  simp
  omega
theorem sel_past (ws : List Nat) (k : Nat) : M.rSel (sl ws) (((sl ws).length + k : Nat) : Int) = -1 := by
  unfold M.rSel
  rw [if_neg (by omega), Int.toNat_natCast, List.getElem?_eq_none (by omega)]
  rfl
theorem sel_in {x k : Nat} (hk : k < (M.bl x).length) : 0 ≤ M.rSel (M.bz x) (k : Int) ∧ M.rSel (M.bz x) (k : Int) < 64 := by
  have hk2 : k < (M.bz x).length := by rw [bz_len]; exact hk
  have e : M.rSel (M.bz x) (k : Int) = (M.bz x)[k] := by
    unfold M.rSel
    rw [if_neg (by omega), Int.toNat_natCast, List.getElem?_eq_getElem hk2]
    rfl
  rw [e]
  have := M.mem_bz.1 (List.getElem_mem hk2)
  exact ⟨this.1, this.2.1⟩
theorem sl_len_snoc {ws : List Nat} {j : Nat} (hj : j < ws.length) : (sl (ws.take (j + 1))).length = (sl (ws.take j)).length + (M.bl ws[j]).length := by
  rw [List.take_succ_eq_append_getElem hj, sl_snoc, List.length_append, List.length_map, bz_len]
end Go.Proofs.YtkehehfphccpbaaGreatDoor
end
section
namespace Go.Proofs.YtkehehfphccpbaaGreatDoor
set_option maxRecDepth 40000
open Go.RowKit
theorem c_fill (w : World) (x m : Nat) (hx : x < 18446744073709551616) (hm : m < 18446744073709551616) :
    Calls Tryz.prog 89 #[.int .u64 (x : Int), .int .u64 (m : Int)] w fun e w' => e = .returned (.int .u64 ((x ||| m : Nat) : Int)) ∧ w = w' := by
  go_enter Tryz.func89, Tryz.ntmps89
  go_wp2
  go_ret
  exact ⟨ret_int (u64_or_nat x _ hx hm), rfl⟩
theorem c_wipe (w : World) (x m : Nat) (hx : x < 18446744073709551616) (hm : m < 18446744073709551616) :
    Calls Tryz.prog 90 #[.int .u64 (x : Int), .int .u64 (m : Int)] w fun e w' => e = .returned (.int .u64 ((x &&& (18446744073709551615 - m) : Nat) : Int)) ∧ w = w' := by
  go_enter Tryz.func90, Tryz.ntmps90
  go_wp2
  go_ret
  exact ⟨ret_int (u64_andNot_nat x _ hx hm), rfl⟩
end Go.Proofs.YtkehehfphccpbaaGreatDoor
end
section
namespace Go.Proofs.YtkehehfphccpbaaGreatDoor
set_option maxRecDepth 40000
theorem sbit_set {ws : List Nat} {k : Nat} (y : Nat) (hk : k < ws.length) (b : Nat) : sbit (ws.set k y) b = if b / 64 = k then y.testBit (b % 64) else sbit ws b := by
  unfold sbit
  rw [List.getElem?_set]
  by_cases h : b / 64 = k
  · subst h; simp [hk]
  · rw [if_neg h, if_neg (fun e => h e.symm)]
theorem sl_len_sum (ws : List Nat) : (sl ws).length = (ws.map fun x => (M.bl x).length).sum := by
  have : ∀ k, k ≤ ws.length → (sl (ws.take k)).length = ((ws.take k).map fun x => (M.bl x).length).sum := by
    intro k
    induction k with
    | zero => intro _; simp [sl]
    | succ k ih =>
      intro hk
      have hlt : k < ws.length := by omega
      rw [List.take_succ_eq_append_getElem hlt, sl_snoc, List.length_append, ih (by omega), List.map_append, List.sum_append]
      simp [M.bz]
  have := this ws.length (Nat.le_refl _)
  rwa [List.take_length] at this
theorem sum_at (f : Nat → Nat) (ws : List Nat) (k : Nat) (hk : k < ws.length) : (ws.map f).sum = ((ws.take k).map f).sum + (f ws[k] + ((ws.drop (k + 1)).map f).sum) := by
  have : (ws.map f).sum = ((ws.take k ++ ws[k] :: ws.drop (k + 1)).map f).sum := by rw [List.getElem_cons_drop, List.take_append_drop]
  rw [this, List.map_append, List.sum_append, List.map_cons, List.sum_cons]
theorem sl_len_set {ws : List Nat} {k : Nat} (y : Nat) (hk : k < ws.length) : (sl (ws.set k y)).length + (M.bl ws[k]).length = (sl ws).length + (M.bl y).length := by
  rw [sl_len_sum, sl_len_sum, sum_at _ ws k hk, List.set_eq_take_append_cons_drop, if_pos hk, List.map_append, List.sum_append, List.map_cons, List.sum_cons]
  omega
theorem cnt_split (l : List Nat) (p q r : Nat → Bool) (h : ∀ i ∈ l, r i = (p i ^^ q i)) (hpq : ∀ i ∈ l, p i = true → q i = true) : (l.filter r).length + (l.filter p).length = (l.filter q).length := by
  induction l with
  | nil => rfl
  | cons a l ih =>
    have ih := ih (fun i hi => h i (List.mem_cons_of_mem _ hi)) (fun i hi => hpq i (List.mem_cons_of_mem _ hi))
    have ha := h a (List.mem_cons_self ..)
    have hb := hpq a (List.mem_cons_self ..)
    cases hp : p a <;> cases hq : q a <;> simp_all <;> omega
theorem cnt_or (x m : Nat) : (M.bl (x ^^^ (x ||| m))).length + (M.bl x).length = (M.bl (x ||| m)).length := by
  unfold M.bl
  apply cnt_split
  · intro i _; rw [Nat.testBit_xor]
  · intro i _ h; rw [Nat.testBit_or, h]; rfl
theorem cnt_and (x m : Nat) : (M.bl (x ^^^ (x &&& m))).length + (M.bl (x &&& m)).length = (M.bl x).length := by
  unfold M.bl
  apply cnt_split
  · intro i _; rw [Nat.testBit_xor]; exact Bool.xor_comm _ _
  · intro i _ h; rw [Nat.testBit_and] at h; simp at h; exact h.1
/-- Are the first k words done: their bits from f on below t set (o), or not? -/
def Done (o : Bool) (ws us : List Nat) (f t : Int) (k : Nat) : Prop :=
  us.length = ws.length ∧ ∀ b, b < 64 * ws.length → sbit us b = if f ≤ (b : Int) ∧ (b : Int) < t ∧ b < 64 * k then o else sbit ws b
theorem Done.start (o : Bool) (ws : List Nat) (f t : Int) (k : Nat) (h : (64 * k : Nat) ≤ f) : Done o ws ws f t k :=
  ⟨rfl, fun b _ => by rw [if_neg (by omega)]⟩
theorem Done.or_step {ws us : List Nat} {f t : Int} {k : Nat} (h : Done true ws us f t k) (hk : k < us.length) :
    Done true ws (us.set k (us[k] ||| M.mask (f - (k : Int) * 64) (t - (k : Int) * 64))) f t (k + 1) := by
  refine ⟨by rw [List.length_set]; exact h.1, fun b hb => ?_⟩
  have hm : b % 64 < 64 := Nat.mod_lt _ (by decide)
  rw [sbit_set _ hk]
  by_cases hq : b / 64 = k
  · rw [if_pos hq, Nat.testBit_or, M.mask_bit]
    have e : us[k].testBit (b % 64) = sbit us b := by unfold sbit; rw [hq, List.getElem?_eq_getElem hk]; rfl
    rw [e, h.2 b hb, if_neg (by omega)]
    by_cases hr : f ≤ (b : Int) ∧ (b : Int) < t
    · rw [if_pos (by omega)]
      have : decide (b % 64 < 64 ∧ f - (k : Int) * 64 ≤ ((b % 64 : Nat) : Int) ∧ ((b % 64 : Nat) : Int) < t - (k : Int) * 64) = true := by rw [decide_eq_true_eq]; omega
      rw [this]; simp
    · rw [if_neg (by omega)]
      have : decide (b % 64 < 64 ∧ f - (k : Int) * 64 ≤ ((b % 64 : Nat) : Int) ∧ ((b % 64 : Nat) : Int) < t - (k : Int) * 64) = false := by rw [decide_eq_false_iff_not]; omega
      rw [this]; simp
  · rw [if_neg hq, h.2 b hb]
    congr 1
    apply propext
    omega
theorem Done.and_step {ws us : List Nat} {f t : Int} {k : Nat} (h : Done false ws us f t k) (hk : k < us.length) :
    Done false ws (us.set k (us[k] &&& (18446744073709551615 - M.mask (f - (k : Int) * 64) (t - (k : Int) * 64)))) f t (k + 1) := by
  refine ⟨by rw [List.length_set]; exact h.1, fun b hb => ?_⟩
  have hm : b % 64 < 64 := Nat.mod_lt _ (by decide)
  rw [sbit_set _ hk]
  by_cases hq : b / 64 = k
  · rw [if_pos hq, Nat.testBit_and, M.not_bit _ _ (M.mask_lt _ _) hm, M.mask_bit]
    have e : us[k].testBit (b % 64) = sbit us b := by unfold sbit; rw [hq, List.getElem?_eq_getElem hk]; rfl
    rw [e, h.2 b hb, if_neg (by omega)]
    by_cases hr : f ≤ (b : Int) ∧ (b : Int) < t
    · rw [if_pos (by omega)]
      have : decide (b % 64 < 64 ∧ f - (k : Int) * 64 ≤ ((b % 64 : Nat) : Int) ∧ ((b % 64 : Nat) : Int) < t - (k : Int) * 64) = true := by rw [decide_eq_true_eq]; omega
      rw [this]; simp
    · rw [if_neg (by omega)]
      have : decide (b % 64 < 64 ∧ f - (k : Int) * 64 ≤ ((b % 64 : Nat) : Int) ∧ ((b % 64 : Nat) : Int) < t - (k : Int) * 64) = false := by rw [decide_eq_false_iff_not]; omega
      rw [this]; simp
  · rw [if_neg hq, h.2 b hb]
    congr 1
    apply propext
    omega
/-- All from f on below t are set (o), or aren't; no other one is changed. -/
def Laid (o : Bool) (ws us : List Nat) (f t : Int) : Prop :=
  us.length = ws.length ∧ ∀ b, b < 64 * ws.length → sbit us b = if f ≤ (b : Int) ∧ (b : Int) < t then o else sbit ws b
theorem Done.laid {o : Bool} {ws us : List Nat} {i j : Int} {k : Nat} (h : Done o ws us (max i 0) (min j ((64 * ws.length : Nat) : Int)) k) (hk : min j ((64 * ws.length : Nat) : Int) ≤ (k : Int) * 64) : Laid o ws us i j := by
  refine ⟨h.1, fun b hb => ?_⟩
  rw [h.2 b hb]
  congr 1
  apply propext
  omega
theorem Laid.mem_true {ws us : List Nat} {f t : Int} (h : Laid true ws us f t) {y : Int} : y ∈ sl us ↔ y ∈ sl ws ∨ (max f 0 ≤ y ∧ y < min t ((64 * ws.length : Nat) : Int)) := by
  rw [sl_in, sl_in, h.1]
  constructor
  · rintro ⟨h0, h1, h2⟩
    rw [h.2 _ (by omega)] at h2
    by_cases hc : f ≤ ((y.toNat : Nat) : Int) ∧ ((y.toNat : Nat) : Int) < t
    · right; omega
    · rw [if_neg hc] at h2; left; exact ⟨h0, h1, h2⟩
  · rintro (⟨h0, h1, h2⟩ | h2)
    · refine ⟨h0, h1, ?_⟩
      rw [h.2 _ (by omega), h2]
      split <;> rfl
    · refine ⟨by omega, by omega, ?_⟩
      rw [h.2 _ (by omega), if_pos (by omega)]
theorem Laid.mem_false {ws us : List Nat} {f t : Int} (h : Laid false ws us f t) {y : Int} : y ∈ sl us ↔ y ∈ sl ws ∧ ¬ (max f 0 ≤ y ∧ y < min t ((64 * ws.length : Nat) : Int)) := by
  rw [sl_in, sl_in, h.1]
  constructor
  · rintro ⟨h0, h1, h2⟩
    rw [h.2 _ (by omega)] at h2
    by_cases hc : f ≤ ((y.toNat : Nat) : Int) ∧ ((y.toNat : Nat) : Int) < t
    · rw [if_pos hc] at h2; cases h2
    · rw [if_neg hc] at h2; exact ⟨⟨h0, h1, h2⟩, by omega⟩
  · rintro ⟨⟨h0, h1, h2⟩, h3⟩
    refine ⟨h0, h1, ?_⟩
    rw [h.2 _ (by omega), if_neg (by omega), h2]
end Go.Proofs.YtkehehfphccpbaaGreatDoor
end
section
namespace Go.Proofs.YtkehehfphccpbaaGreatDoor
set_option maxRecDepth 40000
open Go.RowKit
theorem xor64 (x y : Nat) (hx : x < 18446744073709551616) (hy : y < 18446744073709551616) : x ^^^ y < 18446744073709551616 := Nat.xor_lt_two_pow (n := 64) hx hy
/-- What Fill and Wipe leave: the words are laid, as many were changed. -/
def Filled (o : Bool) (w : World) (s h : Nat) (ws : List Nat) (i j : Int) (e : Ending) (w' : World) : Prop :=
  ∃ (us : List Nat) (n : Nat), e = .returned (.int .i64 (n : Int)) ∧ Laid o ws us i j ∧ (if o then n + (sl ws).length = (sl us).length else n + (sl us).length = (sl ws).length) ∧ St w' s h us ∧ w.grownBy w' (some h)
set_option maxHeartbeats 1000000 in
theorem s_change_fill (w : World) (s h : Nat) (ws : List Nat) (a : St w s h ws) (i j : Int) (hi : i ≤ 9223372036854775807) :
    Calls Tryz.prog 88 #[.pointer (some ⟨s, 0, none⟩), .int .i64 i, .int .i64 j, .func (.func 89) #[] #[]] w fun e w' =>
      Filled true w s h ws i j e w' := by
  have hb := Lib.hid (s_bits w s h ws a)
  have hle := a.2.2.2
  have ha := Lib.hid a
  have hne := a.ne
  clear a
  have q1 : 0 ≤ max i 0 / 64 := by omega
  have q3 : IntKind.i64.wrap ((max i 0).tdiv 64) = max i 0 / 64 := IntWalk.i64_quo _ _ (by omega)
  have q4 : IntKind.i64.wrap (max i 0 / 64) = max i 0 / 64 := IntWalk.i64_in _ (by omega)
  have q7 : max i 0 / 64 * 64 ≤ max i 0 := by omega
  have q8 : max i 0 ≤ 9223372036854775807 := by omega
  have q9 : 0 ≤ max i 0 := by omega
  generalize max i 0 / 64 = q at *
  obtain ⟨q, rfl⟩ : ∃ k : Nat, q = (k : Int) := ⟨q.toNat, by omega⟩
  have hfin0 : ∀ (us : List Nat) (k : Nat), Done true ws us (max i 0) (min j ((64 * ws.length : Nat) : Int)) k → min j ((64 * ws.length : Nat) : Int) ≤ (k : Int) * 64 → Laid true ws us i j := fun us k h hk => h.laid hk
  have hB1 : ((64 * ws.length : Nat) : Int) ≤ 64 * (ws.length : Int) := by omega
  have hB2 : 64 * (ws.length : Int) ≤ ((64 * ws.length : Nat) : Int) := by omega
  generalize ((64 * ws.length : Nat) : Int) = B at *
  have hJ : min j B ≤ B := by omega
  have hfin := Lib.hid hfin0
  clear hfin0
  go_enter Tryz.func88, Tryz.ntmps88
  go_wp2_with (go_at_call 100; (with_reducible refine hb.out.mono ?_); rintro e w' ⟨rfl, rfl⟩)
  generalize max i 0 = m at *
  generalize min j B = t at *
  go_loopw [9, 10] (fun v a wr => ∃ (k c : Nat) (us : List Nat), (k ≤ ws.length ∨ k = q) ∧ c ≤ 64 * k ∧ a = .int .i64 k ∧ v = .int .i64 c ∧ us.length = ws.length ∧ Hid (Done true ws us m t k) ∧ Hid (c + (sl ws).length = (sl us).length) ∧ Hid (St wr s h us) ∧ Hid (w.grownBy wr (some h))) (fun _ a _ => ws.length - (intOf a).toNat)
  case atStart => exact ⟨q, 0, ws, by omega, by omega, rfl, rfl, rfl, Done.start true ws m t q (by omega), Nat.zero_add _, ha, ⟨rfl, rfl, rfl, Nat.le_refl _, fun _ _ _ => rfl⟩⟩
  case round =>
    obtain ⟨k, c, us, hk, hck, rfl, rfl, hul, hD, hC, hS, hG⟩ := hrel
    have wk2 : IntKind.i64.wrap ((k : Int) * 64) = (k : Int) * 64 := IntWalk.i64_in _ (by omega)
    by_cases hlt : (k : Int) * 64 < t
    · have hkn : k < us.length := by omega
      have hc := hS.out.head
      have hw := hS.out.cell k hkn
      have hx := hS.out.word k hkn
      have hf := hS.out.frozen k
      have hT : decide ((k : Int) * 64 < t) = true := decide_eq_true hlt
      have wk : IntKind.i64.wrap (k : Int) = (k : Int) := IntWalk.i64_in _ (by omega)
      have wk3 : IntKind.i64.wrap (m - (k : Int) * 64) = m - (k : Int) * 64 := IntWalk.i64_in _ (by omega)
      have wk4 : IntKind.i64.wrap (t - (k : Int) * 64) = t - (k : Int) * 64 := IntWalk.i64_in _ (by omega)
      have k0 : 0 ≤ (k : Int) := by omega
      have k1 : (k : Int) < (us.length : Int) := by omega
      have k2 : (k : Int).toNat = k := by omega
      have hD2 := Lib.hid (hD.out.or_step hkn)
      have hC2 : Hid (c + (M.bl (us[k] ^^^ (us[k] ||| M.mask (m - (k : Int) * 64) (t - (k : Int) * 64)))).length + (sl ws).length = (sl (us.set k (us[k] ||| M.mask (m - (k : Int) * 64) (t - (k : Int) * 64)))).length) := by
        show _ = _
        have e1 := sl_len_set (us[k] ||| M.mask (m - (k : Int) * 64) (t - (k : Int) * 64)) hkn
        have e2 := cnt_or us[k] (M.mask (m - (k : Int) * 64) (t - (k : Int) * 64))
        have e3 := hC.out
        omega
      clear hD hC
      have hm := M.mask_lt (m - (k : Int) * 64) (t - (k : Int) * 64)
      have hbm := fun w0 => Lib.hid (bit_mask (m - (k : Int) * 64) (t - (k : Int) * 64) w0)
      generalize M.mask (m - (k : Int) * 64) (t - (k : Int) * 64) = mk at *
      generalize us[k] = x at *
      have hcf := fun w0 => Lib.hid (c_fill w0 x mk hx hm)
      have hy : x ||| mk < 18446744073709551616 := M.or_lt hx hm
      have hS2 : Hid (∀ N, St ((wr.drewN N).setCell ⟨h, k, none⟩ (.int .u64 ((x ||| mk : Nat) : Int))) s h (us.set k (x ||| mk))) := fun N => (hS.out.drew N).store k _ hy
      have hG2 : Hid (∀ N M, w.grownBy (((wr.drewN N).setCell ⟨h, k, none⟩ (.int .u64 ((x ||| mk : Nat) : Int))).drewN M) (some h)) := fun N M => by
        have g1 := hG.out
        have g2 := g1.trans (set_grown wr h k (.int .u64 ((x ||| mk : Nat) : Int)))
        exact ⟨g2.os, g2.tape, g2.output, g2.size, g2.block⟩
      have hcs : ∀ N, ((wr.drewN N).setCell ⟨h, k, none⟩ (.int .u64 ((x ||| mk : Nat) : Int))).cell? ⟨s, 0, none⟩ = some (.slice (some ⟨h, 0, none⟩) ws.length ws.length) := fun N => by
        have := (hS2.out N).head
        rwa [List.length_set, hul] at this
      have hws : ∀ N, ((wr.drewN N).setCell ⟨h, k, none⟩ (.int .u64 ((x ||| mk : Nat) : Int))).cell? ⟨h, k, none⟩ = some (.int .u64 ((x ||| mk : Nat) : Int)) := fun N => by
        have := (hS2.out N).cell k (by rw [List.length_set]; exact hkn)
        rwa [List.getElem_set_self] at this
      have hfs : ∀ N, ((wr.drewN N).setCell ⟨h, k, none⟩ (.int .u64 ((x ||| mk : Nat) : Int))).frozen? ⟨h, k, none⟩ = false := fun N => (hS2.out N).frozen k
      have hxor : bits .xor .u64 (x : Int) ((x ||| mk : Nat) : Int) = ((x ^^^ (x ||| mk) : Nat) : Int) := u64_xor_nat _ _ hx hy
      have hcn : Hid (∀ w0, Calls Tryz.prog 107 #[.int .u64 ((x ^^^ (x ||| mk) : Nat) : Int)] w0 fun e w' => e = .returned (.int .i64 ((M.bl (x ^^^ (x ||| mk))).length : Nat)) ∧ w0 = w') := fun w0 => bit_count _ (xor64 _ _ hx hy) w0
      have hbl : (M.bl (x ^^^ (x ||| mk))).length ≤ 64 := by
        unfold M.bl
        exact Nat.le_trans (List.length_filter_le _ _) (by rw [List.length_range]; exact Nat.le_refl _)
      rw [hul] at hc k1
      go_wp2_with (first
        | (go_at_call 106; (with_reducible refine (hbm _).out.mono ?_); rintro e w' ⟨rfl, N2, rfl⟩)
        | (go_at_call 89; (with_reducible refine (hcf _).out.mono ?_); rintro e w' ⟨rfl, rfl⟩))
      go_region_held3 (fun w' => w'.cell? ⟨s, 0, none⟩ = some (.slice (some ⟨h, 0, none⟩) ws.length ws.length) ∧ w'.frozen? ⟨h, k, none⟩ = false) (first | exact ⟨hcs _, hfs _⟩ | go_keep)
        (first
        | (go_at_call 106; refine (hbm _).out.mono ?_; rintro e w' ⟨rfl, N2, rfl⟩)
        | (go_at_call 89; refine (hcf _).out.mono ?_; rintro e w' ⟨rfl, rfl⟩))
      go_wp2_with (go_at_call 107; (with_reducible refine (hcn.out _).mono ?_); rintro e w' ⟨rfl, rfl⟩)
      exact ⟨⟨k + 1, c + (M.bl (x ^^^ (x ||| mk))).length, us.set k (x ||| mk), by omega, by omega, by go_num, by go_num, by rw [List.length_set]; exact hul, hD2, hC2, hS2.out _, hG2.out _ 0⟩, by simp [intOf]; omega⟩
    · have hT : decide ((k : Int) * 64 < t) = false := decide_eq_false hlt
      go_wp2
      refine bodyPost_ret (results_tmp (t := 8) rfl _ _ _) rfl ?_
      exact ⟨us, c, rfl, hfin.out us k hD.out (by omega), hC.out, hS.out, hG.out⟩

set_option maxHeartbeats 1000000 in
theorem s_change_wipe (w : World) (s h : Nat) (ws : List Nat) (a : St w s h ws) (i j : Int) (hi : i ≤ 9223372036854775807) :
    Calls Tryz.prog 88 #[.pointer (some ⟨s, 0, none⟩), .int .i64 i, .int .i64 j, .func (.func 90) #[] #[]] w fun e w' =>
      Filled false w s h ws i j e w' := by
  have hb := Lib.hid (s_bits w s h ws a)
  have hle := a.2.2.2
  have ha := Lib.hid a
  have hne := a.ne
  clear a
  have q1 : 0 ≤ max i 0 / 64 := by omega
  have q3 : IntKind.i64.wrap ((max i 0).tdiv 64) = max i 0 / 64 := IntWalk.i64_quo _ _ (by omega)
  have q4 : IntKind.i64.wrap (max i 0 / 64) = max i 0 / 64 := IntWalk.i64_in _ (by omega)
  have q7 : max i 0 / 64 * 64 ≤ max i 0 := by omega
  have q8 : max i 0 ≤ 9223372036854775807 := by omega
  have q9 : 0 ≤ max i 0 := by omega
  generalize max i 0 / 64 = q at *
  obtain ⟨q, rfl⟩ : ∃ k : Nat, q = (k : Int) := ⟨q.toNat, by omega⟩
  have hfin0 : ∀ (us : List Nat) (k : Nat), Done false ws us (max i 0) (min j ((64 * ws.length : Nat) : Int)) k → min j ((64 * ws.length : Nat) : Int) ≤ (k : Int) * 64 → Laid false ws us i j := fun us k h hk => h.laid hk
  have hB1 : ((64 * ws.length : Nat) : Int) ≤ 64 * (ws.length : Int) := by omega
  have hB2 : 64 * (ws.length : Int) ≤ ((64 * ws.length : Nat) : Int) := by omega
  generalize ((64 * ws.length : Nat) : Int) = B at *
  have hJ : min j B ≤ B := by omega
  have hfin := Lib.hid hfin0
  clear hfin0
  go_enter Tryz.func88, Tryz.ntmps88
  go_wp2_with (go_at_call 100; (with_reducible refine hb.out.mono ?_); rintro e w' ⟨rfl, rfl⟩)
  generalize max i 0 = m at *
  generalize min j B = t at *
  go_loopw [9, 10] (fun v a wr => ∃ (k c : Nat) (us : List Nat), (k ≤ ws.length ∨ k = q) ∧ c ≤ 64 * k ∧ a = .int .i64 k ∧ v = .int .i64 c ∧ us.length = ws.length ∧ Hid (Done false ws us m t k) ∧ Hid (c + (sl us).length = (sl ws).length) ∧ Hid (St wr s h us) ∧ Hid (w.grownBy wr (some h))) (fun _ a _ => ws.length - (intOf a).toNat)
  case atStart => exact ⟨q, 0, ws, by omega, by omega, rfl, rfl, rfl, Done.start false ws m t q (by omega), Nat.zero_add _, ha, ⟨rfl, rfl, rfl, Nat.le_refl _, fun _ _ _ => rfl⟩⟩
  case round =>
    obtain ⟨k, c, us, hk, hck, rfl, rfl, hul, hD, hC, hS, hG⟩ := hrel
    have wk2 : IntKind.i64.wrap ((k : Int) * 64) = (k : Int) * 64 := IntWalk.i64_in _ (by omega)
    by_cases hlt : (k : Int) * 64 < t
    · have hkn : k < us.length := by omega
      have hc := hS.out.head
      have hw := hS.out.cell k hkn
      have hx := hS.out.word k hkn
      have hf := hS.out.frozen k
      have hT : decide ((k : Int) * 64 < t) = true := decide_eq_true hlt
      have wk : IntKind.i64.wrap (k : Int) = (k : Int) := IntWalk.i64_in _ (by omega)
      have wk3 : IntKind.i64.wrap (m - (k : Int) * 64) = m - (k : Int) * 64 := IntWalk.i64_in _ (by omega)
      have wk4 : IntKind.i64.wrap (t - (k : Int) * 64) = t - (k : Int) * 64 := IntWalk.i64_in _ (by omega)
      have k0 : 0 ≤ (k : Int) := by omega
      have k1 : (k : Int) < (us.length : Int) := by omega
      have k2 : (k : Int).toNat = k := by omega
      have hD2 := Lib.hid (hD.out.and_step hkn)
      have hC2 : Hid (c + (M.bl (us[k] ^^^ (us[k] &&& (18446744073709551615 - M.mask (m - (k : Int) * 64) (t - (k : Int) * 64))))).length + (sl (us.set k (us[k] &&& (18446744073709551615 - M.mask (m - (k : Int) * 64) (t - (k : Int) * 64))))).length = (sl ws).length) := by
        show _ = _
        have e1 := sl_len_set (us[k] &&& (18446744073709551615 - M.mask (m - (k : Int) * 64) (t - (k : Int) * 64))) hkn
        have e2 := cnt_and us[k] (18446744073709551615 - M.mask (m - (k : Int) * 64) (t - (k : Int) * 64))
        have e3 := hC.out
        omega
      clear hD hC
      have hm := M.mask_lt (m - (k : Int) * 64) (t - (k : Int) * 64)
      have hbm := fun w0 => Lib.hid (bit_mask (m - (k : Int) * 64) (t - (k : Int) * 64) w0)
      generalize M.mask (m - (k : Int) * 64) (t - (k : Int) * 64) = mk at *
      generalize us[k] = x at *
      have hcf := fun w0 => Lib.hid (c_wipe w0 x mk hx hm)
      have hy : x &&& (18446744073709551615 - mk) < 18446744073709551616 := Nat.lt_of_le_of_lt Nat.and_le_left hx
      have hS2 : Hid (∀ N, St ((wr.drewN N).setCell ⟨h, k, none⟩ (.int .u64 ((x &&& (18446744073709551615 - mk) : Nat) : Int))) s h (us.set k (x &&& (18446744073709551615 - mk)))) := fun N => (hS.out.drew N).store k _ hy
      have hG2 : Hid (∀ N M, w.grownBy (((wr.drewN N).setCell ⟨h, k, none⟩ (.int .u64 ((x &&& (18446744073709551615 - mk) : Nat) : Int))).drewN M) (some h)) := fun N M => by
        have g1 := hG.out
        have g2 := g1.trans (set_grown wr h k (.int .u64 ((x &&& (18446744073709551615 - mk) : Nat) : Int)))
        exact ⟨g2.os, g2.tape, g2.output, g2.size, g2.block⟩
      have hcs : ∀ N, ((wr.drewN N).setCell ⟨h, k, none⟩ (.int .u64 ((x &&& (18446744073709551615 - mk) : Nat) : Int))).cell? ⟨s, 0, none⟩ = some (.slice (some ⟨h, 0, none⟩) ws.length ws.length) := fun N => by
        have := (hS2.out N).head
        rwa [List.length_set, hul] at this
      have hws : ∀ N, ((wr.drewN N).setCell ⟨h, k, none⟩ (.int .u64 ((x &&& (18446744073709551615 - mk) : Nat) : Int))).cell? ⟨h, k, none⟩ = some (.int .u64 ((x &&& (18446744073709551615 - mk) : Nat) : Int)) := fun N => by
        have := (hS2.out N).cell k (by rw [List.length_set]; exact hkn)
        rwa [List.getElem_set_self] at this
      have hfs : ∀ N, ((wr.drewN N).setCell ⟨h, k, none⟩ (.int .u64 ((x &&& (18446744073709551615 - mk) : Nat) : Int))).frozen? ⟨h, k, none⟩ = false := fun N => (hS2.out N).frozen k
      have hxor : bits .xor .u64 (x : Int) ((x &&& (18446744073709551615 - mk) : Nat) : Int) = ((x ^^^ (x &&& (18446744073709551615 - mk)) : Nat) : Int) := u64_xor_nat _ _ hx hy
      have hcn : Hid (∀ w0, Calls Tryz.prog 107 #[.int .u64 ((x ^^^ (x &&& (18446744073709551615 - mk)) : Nat) : Int)] w0 fun e w' => e = .returned (.int .i64 ((M.bl (x ^^^ (x &&& (18446744073709551615 - mk)))).length : Nat)) ∧ w0 = w') := fun w0 => bit_count _ (xor64 _ _ hx hy) w0
      have hbl : (M.bl (x ^^^ (x &&& (18446744073709551615 - mk)))).length ≤ 64 := by
        unfold M.bl
        exact Nat.le_trans (List.length_filter_le _ _) (by rw [List.length_range]; exact Nat.le_refl _)
      rw [hul] at hc k1
      go_wp2_with (first
        | (go_at_call 106; (with_reducible refine (hbm _).out.mono ?_); rintro e w' ⟨rfl, N2, rfl⟩)
        | (go_at_call 90; (with_reducible refine (hcf _).out.mono ?_); rintro e w' ⟨rfl, rfl⟩))
      go_region_held3 (fun w' => w'.cell? ⟨s, 0, none⟩ = some (.slice (some ⟨h, 0, none⟩) ws.length ws.length) ∧ w'.frozen? ⟨h, k, none⟩ = false) (first | exact ⟨hcs _, hfs _⟩ | go_keep)
        (first
        | (go_at_call 106; refine (hbm _).out.mono ?_; rintro e w' ⟨rfl, N2, rfl⟩)
        | (go_at_call 90; refine (hcf _).out.mono ?_; rintro e w' ⟨rfl, rfl⟩))
      go_wp2_with (go_at_call 107; (with_reducible refine (hcn.out _).mono ?_); rintro e w' ⟨rfl, rfl⟩)
      exact ⟨⟨k + 1, c + (M.bl (x ^^^ (x &&& (18446744073709551615 - mk)))).length, us.set k (x &&& (18446744073709551615 - mk)), by omega, by omega, by go_num, by go_num, by rw [List.length_set]; exact hul, hD2, hC2, hS2.out _, hG2.out _ 0⟩, by simp [intOf]; omega⟩
    · have hT : decide ((k : Int) * 64 < t) = false := decide_eq_false hlt
      go_wp2
      refine bodyPost_ret (results_tmp (t := 8) rfl _ _ _) rfl ?_
      exact ⟨us, c, rfl, hfin.out us k hD.out (by omega), hC.out, hS.out, hG.out⟩


theorem s_fill (w : World) (s h : Nat) (ws : List Nat) (a : St w s h ws) (i j : Int) (hi : i ≤ 9223372036854775807) :
    Calls Tryz.prog 72 #[.pointer (some ⟨s, 0, none⟩), .int .i64 i, .int .i64 j] w (Filled true w s h ws i j) := by
  have hc := Lib.hid (s_change_fill w s h ws a i j hi)
  clear a
  go_enter Tryz.func72, Tryz.ntmps72
  go_wp2_with (go_at_call 88; refine hc.out.mono ?_; rintro e w' ⟨us, n, rfl, h1, h2, h3, h4⟩)
  go_ret
  exact ⟨us, n, rfl, h1, h2, h3, h4⟩
theorem s_wipe (w : World) (s h : Nat) (ws : List Nat) (a : St w s h ws) (i j : Int) (hi : i ≤ 9223372036854775807) :
    Calls Tryz.prog 73 #[.pointer (some ⟨s, 0, none⟩), .int .i64 i, .int .i64 j] w (Filled false w s h ws i j) := by
  have hc := Lib.hid (s_change_wipe w s h ws a i j hi)
  clear a
  go_enter Tryz.func73, Tryz.ntmps73
  go_wp2_with (go_at_call 88; refine hc.out.mono ?_; rintro e w' ⟨us, n, rfl, h1, h2, h3, h4⟩)
  go_ret
  exact ⟨us, n, rfl, h1, h2, h3, h4⟩
end Go.Proofs.YtkehehfphccpbaaGreatDoor
end
section
namespace Go.Proofs.YtkehehfphccpbaaGreatDoor
open Go.RowKit
theorem same_noN {xs ys : List Nat} {k : Nat} (h : ∃ a b, xs[k]? = some a ∧ ys[k]? = some b ∧ a ≠ b) : decide (xs = ys) = false := by
  rw [decide_eq_false_iff_not]
  rintro rfl
  obtain ⟨a, b, h1, h2, h3⟩ := h
  rw [h1] at h2
  exact h3 (by simpa using h2)

end Go.Proofs.YtkehehfphccpbaaGreatDoor
end
section
namespace Go.Proofs.YtkehehfphccpbaaGreatDoor
set_option maxRecDepth 40000
open Go.RowKit
theorem below_grown {w w' : World} (g : w.grownBy w' none) : Below w.heap.size w w' := ⟨g.os, g.tape, g.output, g.size, fun k hk => g.block k hk (by simp)⟩
theorem wv_one (ws : List Nat) : ∀ v ∈ wv ws, v.oneCell' = true := by
  intro v hv
  obtain ⟨a, _, rfl⟩ := List.mem_map.1 hv
  rfl
theorem splice_all {α : Type} (L cs : List α) (h : L.length = cs.length) : splice L 0 cs = cs := by
  unfold splice
  rw [List.take_zero, List.nil_append, Nat.zero_add, List.drop_of_length_le (by omega), List.append_nil]
theorem St.from_ {w : World} {s h : Nat} {ws : List Nat} (a : St w s h ws) : ∀ j v, (wv ws)[j]? = some v → w.cell? ((⟨h, 0, none⟩ : Addr).add j) = some v := by
  intro j v hv
  rw [add_off]
  by_cases hj : j < ws.length
  · rw [a.cell j hj]
    simpa [wv, hj] using hv
  · rw [List.getElem?_eq_none (by simp [wv]; omega)] at hv; cases hv
/-- copy into a row of one's own, the world behind it written out. -/
theorem wpList_copy_at {P : Program} {w : World} {ops : Array Oper} {rest : List Oper} {o : Oper} {a : Act} {Q : Exit → Act → World → Prop} (hgd : o.guard = none) (d s : Operand) (dT sT : TypeId)
    (ho : o.op = .call { callee := .builtin .copy, args := #[d, s], argTypes := #[dT, sT] }) (elem : TypeId) (hu : P.underlying dT = some (.slice elem)) (hsz : (P.info? elem).map (·.size) = some 1)
    (dp sp : Option Addr) (dLen dCap sLen sCap : Nat) (hd : a.eval d = .slice dp dLen dCap) (hs : a.eval s = .slice sp sLen sCap)
    (g off : Nat) (cur : List Value) (t : TypeId) (hg : w.heap[g]? = some (.cells cur.toArray t (0, 0))) (cs : List Value) (hn : cs.length = Nat.min sLen dLen)
    (hpos : 0 < cs.length → dp = some ⟨g, off, none⟩ ∧ ∃ ad, sp = some ad ∧ ∀ j v, cs[j]? = some v → w.cell? (ad.add j) = some v)
    (hfit : off + cs.length ≤ cur.length) (h1 : ∀ v ∈ cs, v.oneCell' = true)
    (h : wpList P ops Q rest (a.put o.dst (goInt cs.length)) (w.setRow g (splice cur off cs).toArray)) :
    wpList P ops Q (o :: rest) a w := by
  by_cases h0 : cs.length = 0
  · obtain rfl : cs = [] := List.eq_nil_of_length_eq_zero h0
    refine wpList_copy_nothing hgd d s dT sT ho elem hu hsz dp sp dLen dCap sLen sCap hd hs (by simpa using hn.symm) ?_
    have e : splice cur off [] = cur := by simp [splice]
    rw [e, setRow_self w g cur.toArray t (0, 0) hg] at h
    exact h
  · obtain ⟨rfl, ad, rfl, hsrc⟩ := hpos (by omega)
    refine wpList_copy_own hgd d s dT sT ho elem hu hsz g off dLen dCap ad sLen sCap hd hs cur.toArray t hg cs hn hsrc (by simpa using hfit) h1 ?_
    simpa [splice] using h
end Go.Proofs.YtkehehfphccpbaaGreatDoor
end
section
namespace Go.Proofs.YtkehehfphccpbaaGreatDoor
set_option maxRecDepth 40000
open Go.RowKit
theorem St.rw_ {w : World} {s h : Nat} {ws : List Nat} (a : St w s h ws) : Rw w w.heap.size (some ⟨h, 0, none⟩) ws := fun _ =>
  ⟨h, 0, rfl, a.lt.2, fun k hk => by rw [Nat.zero_add]; exact a.cell k hk⟩
end Go.Proofs.YtkehehfphccpbaaGreatDoor
end
section
namespace Go.Proofs.YtkehehfphccpbaaGreatDoor
set_option maxRecDepth 40000
open Go.RowKit
theorem grown_refl (w : World) (r : Option Nat) : w.grownBy w r := ⟨rfl, rfl, rfl, Nat.le_refl _, fun _ _ _ => rfl⟩
theorem add_len {zs : List Int} {q : Int} (hs : zs.Pairwise (· < ·)) (h : M.rHas zs q = false) : (M.add zs q).length = zs.length + 1 := by
  have hne : ∀ x ∈ zs, x ≠ q := by
    intro x hx e; subst e
    have : M.rHas zs x = true := by simp [M.rHas]; exact hx
    rw [this] at h; cases h
  clear h
  unfold M.add
  rw [List.length_append, List.length_cons]
  induction zs with
  | nil => rfl
  | cons a l ih =>
    have ih := ih (List.pairwise_cons.1 hs).2 (fun x hx => hne x (List.mem_cons_of_mem _ hx))
    have ha := hne a (List.mem_cons_self ..)
    rw [List.filter_cons, List.filter_cons, List.length_cons]
    by_cases h1 : a < q
    · have h2 : ¬ q < a := by omega
      simp only [h1, h2, decide_true, decide_false, if_true, Bool.false_eq_true, if_false, List.length_cons]; omega
    · have h2 : q < a := by omega
      simp only [h1, h2, decide_true, decide_false, if_true, Bool.false_eq_true, if_false, List.length_cons]; omega
theorem drop_len1 {zs : List Int} {q : Int} (hs : zs.Pairwise (· < ·)) (h : M.rHas zs q = true) : (M.drop zs q).length + 1 = zs.length := by
  have hm : q ∈ zs := by simpa [M.rHas] using h
  clear h
  induction zs with
  | nil => cases hm
  | cons a l ih =>
    rw [List.pairwise_cons] at hs
    by_cases ha : a = q
    · subst ha
      have e : M.drop (a :: l) a = l := by
        unfold M.drop
        rw [List.filter_cons_of_neg (by simp)]
        rw [List.filter_eq_self]
        intro x hx
        have := hs.1 x hx
        simp; omega
      rw [e]; rfl
    · have hm2 : q ∈ l := by rcases List.mem_cons.1 hm with h | h; exact absurd h.symm ha; exact h
      have := ih hs.2 hm2
      unfold M.drop at *
      rw [List.filter_cons_of_pos (by simpa using ha), List.length_cons, List.length_cons]
      omega
theorem sset_len (ws : List Nat) (k : Nat) : (sset ws k).length = ws.length := by unfold sset; rw [List.length_set]
theorem sclr_len (ws : List Nat) (k : Nat) : (sclr ws k).length = ws.length := by unfold sclr; rw [List.length_set]
theorem one_bit (k j : Nat) (hk : k < 64) : (M.one (k : Int)).testBit j = decide (k = j) := by
  unfold M.one
  rw [if_pos (by omega)]
  simp only [Int.toNat_natCast]
  rw [Nat.testBit_two_pow]
theorem laid_set {ws : List Nat} {k : Nat} (hk : k < 64 * ws.length) : Laid true ws (sset ws k) (k : Int) ((k : Int) + 1) := by
  refine ⟨sset_len ws k, fun b hb => ?_⟩
  have hq : k / 64 < ws.length := by omega
  have hm : k % 64 < 64 := Nat.mod_lt _ (by decide)
  unfold sset
  rw [sbit_set _ hq]
  by_cases hb64 : b / 64 = k / 64
  · rw [if_pos hb64, Nat.testBit_or, one_bit _ _ hm]
    by_cases e : b = k
    · subst e; rw [if_pos (by omega)]; simp
    · rw [if_neg (by omega)]
      have : decide (k % 64 = b % 64) = false := decide_eq_false (by omega)
      rw [this, Bool.or_false]
      unfold sbit; rw [hb64]
  · rw [if_neg hb64, if_neg (by intro h; exact hb64 (by congr 1; omega))]
theorem laid_clr {ws : List Nat} {k : Nat} (hk : k < 64 * ws.length) : Laid false ws (sclr ws k) (k : Int) ((k : Int) + 1) := by
  refine ⟨sclr_len ws k, fun b hb => ?_⟩
  have hq : k / 64 < ws.length := by omega
  have hm : k % 64 < 64 := Nat.mod_lt _ (by decide)
  have hm2 : b % 64 < 64 := Nat.mod_lt _ (by decide)
  unfold sclr
  rw [sbit_set _ hq]
  by_cases hb64 : b / 64 = k / 64
  · rw [if_pos hb64, Nat.testBit_and, M.not_bit _ _ (M.one_lt _) hm2, one_bit _ _ hm]
    by_cases e : b = k
    · subst e; rw [if_pos (by omega)]; simp
    · rw [if_neg (by omega)]
      have : decide (k % 64 = b % 64) = false := decide_eq_false (by omega)
      rw [this, Bool.not_false, Bool.and_true]
      unfold sbit; rw [hb64]
  · rw [if_neg hb64, if_neg (by intro h; exact hb64 (by congr 1; omega))]
theorem sset_more {ws : List Nat} {k : Nat} (hk : k < 64 * ws.length) (hb : sbit ws k = false) : (sl (sset ws k)).length = (sl ws).length + 1 := by
  have e : sl (sset ws k) = M.add (sl ws) k := by
    refine M.sorted_ext (sl_up _) (M.add_sorted (sl_up _) _) fun y => ?_
    rw [(laid_set hk).mem_true, M.mem_add]
    constructor
    · rintro (h | h)
      · exact .inr h
      · left; omega
    · rintro (rfl | h)
      · right; omega
      · exact .inl h
  rw [e]
  refine add_len (sl_up _) ?_
  unfold M.rHas
  rw [List.any_eq_false]
  intro y hy he
  have := (sl_in.1 hy).2.2
  have e2 : y.toNat = k := by simp at he; omega
  rw [e2, hb] at this
  cases this
theorem sclr_less {ws : List Nat} {k : Nat} (hk : k < 64 * ws.length) (hb : sbit ws k = true) : (sl (sclr ws k)).length + 1 = (sl ws).length := by
  have e : sl (sclr ws k) = M.drop (sl ws) k := by
    refine M.sorted_ext (sl_up _) (M.drop_sorted (sl_up _) _) fun y => ?_
    rw [(laid_clr hk).mem_false, M.mem_drop]
    constructor
    · rintro ⟨h, h2⟩
      exact ⟨h, fun e => h2 (by omega)⟩
    · rintro ⟨h, h2⟩
      exact ⟨h, fun h3 => h2 (by omega)⟩
  rw [e]
  refine drop_len1 (sl_up _) ?_
  unfold M.rHas
  rw [List.any_eq_true]
  exact ⟨k, sl_in.2 ⟨by omega, by omega, by simpa using hb⟩, by simp⟩
end Go.Proofs.YtkehehfphccpbaaGreatDoor
end
section
namespace Go.Proofs.YtkehehfphccpbaaGreatDoor
set_option maxRecDepth 40000
open Go.RowKit
/-- Block p is a bitmap over the strip s, h. -/
structure Bm (w : World) (p s h : Nat) (ws : List Nat) : Prop where
  row : w.heap[p]? = some (.cells #[.pointer (some ⟨s, 0, none⟩)] 89 (0, 0))
  st : St w s h ws
  len : ws.length = 1024
section
variable {w w' : World} {p s h : Nat} {ws us : List Nat}
theorem Bm.c0 (a : Bm w p s h ws) : w.cell? ⟨p, 0, none⟩ = some (.pointer (some ⟨s, 0, none⟩)) := cell_of_row w p 0 _ _ (0, 0) a.row
theorem Bm.lt (a : Bm w p s h ws) : p < w.heap.size ∧ s < w.heap.size ∧ h < w.heap.size := ⟨(Array.getElem?_eq_some_iff.1 a.row).1, a.st.lt.1, a.st.lt.2⟩
theorem Bm.ne (a : Bm w p s h ws) : p ≠ h := by
  intro e
  have h1 := a.row
  have h2 := a.st.2.1
  rw [e, h2] at h1
  simp at h1
theorem Bm.below {B : Nat} (a : Bm w p s h ws) (hb : Below B w w') (hp : p < B) (hs : s < B) (hh : h < B) : Bm w' p s h ws := ⟨(hb.block p hp).trans a.row, a.st.below hb hs hh, a.len⟩
theorem Bm.all_below (a : Bm w p s h ws) (hb : Below w.heap.size w w') : Bm w' p s h ws := a.below hb a.lt.1 a.lt.2.1 a.lt.2.2
theorem Bm.drew (a : Bm w p s h ws) (n : Nat) : Bm (w.drewN n) p s h ws := ⟨a.row, a.st.drew n, a.len⟩
theorem Bm.next (a : Bm w p s h ws) (b : St w' s h us) (hl : us.length = ws.length) (g : w.grownBy w' (some h)) : Bm w' p s h us :=
  ⟨(g.block p a.lt.1 (by intro e; cases e; exact a.ne rfl)).trans a.row, b, hl.trans a.len⟩
theorem Bm.bits (a : Bm w p s h ws) : 64 * ws.length = 65536 := by rw [a.len]
theorem Bm.range (a : Bm w p s h ws) {y : Int} (hy : y ∈ sl ws) : 0 ≤ y ∧ y ≤ 65535 := by
  have := sl_in.1 hy
  have := a.bits
  omega
end
theorem s_get_list (w : World) (s h : Nat) (ws : List Nat) (a : St w s h ws) (i : Int) :
    Calls Tryz.prog 81 #[.pointer (some ⟨s, 0, none⟩), .int .i64 i] w fun e w' => e = .returned (.bool (M.rHas (sl ws) i)) ∧ w = w' := by
  by_cases hi : 0 ≤ i ∧ i < ((64 * ws.length : Nat) : Int)
  · obtain ⟨k, rfl⟩ : ∃ k : Nat, i = (k : Int) := ⟨i.toNat, by omega⟩
    have e : M.rHas (sl ws) (k : Int) = sbit ws k := by
      rw [Bool.eq_iff_iff]
      unfold M.rHas
      rw [List.any_eq_true]
      constructor
      · rintro ⟨y, hy, he⟩
        have h1 := (sl_in.1 hy).2.2
        have h2 : y.toNat = k := by simp at he; omega
        rwa [h2] at h1
      · intro hb
        exact ⟨(k : Int), sl_in.2 ⟨by omega, by omega, by simpa using hb⟩, by simp⟩
    rw [e]
    exact s_get_in w s h ws a k (by omega)
  · have e : M.rHas (sl ws) i = false := by
      unfold M.rHas
      rw [List.any_eq_false]
      intro y hy he
      have := sl_in.1 hy
      simp at he
      omega
    rw [e]
    exact s_get_out w s h ws a i hi
theorem kept_any (w : World) (p s h : Nat) (ws : List Nat) (a : Bm w p s h ws) :
    Calls Tryz.prog 57 #[.pointer (some ⟨p, 0, none⟩)] w fun e w' => e = .returned (.pointer (some ⟨s, 0, none⟩)) ∧ w = w' := by
  have hc := a.c0
  go_enter Tryz.func57, Tryz.ntmps57
  go_wp2
  go_ret
  exact ⟨rfl, rfl⟩
theorem kept_nil (w : World) :
    Calls Tryz.prog 57 #[.pointer none] w fun e w' => e = .returned (.pointer none) ∧ w = w' := by
  go_enter Tryz.func57, Tryz.ntmps57
  go_wp2
  go_ret
  exact ⟨rfl, rfl⟩
/-- What 'number' answers. -/
def numV (i : Int) : Value := if i < 0 then .tuple #[.int .u16 0, .bool false] else .tuple #[.int .u16 i, .bool true]
theorem wrap16 {i : Int} (h0 : 0 ≤ i) (h : i ≤ 65535) : IntKind.u16.wrap i = i := by
  simp [IntKind.wrap, IntKind.signed, IntKind.bits]; omega
theorem b_new (w : World) : Calls Tryz.prog 35 #[] w fun e w' => ∃ p s h, e = .returned (.pointer (some ⟨p, 0, none⟩)) ∧ Bm w' p s h (List.replicate 1024 0) ∧ Below w.heap.size w w' ∧ w.heap.size ≤ p ∧ w.heap.size ≤ s ∧ w.heap.size ≤ h := by
  obtain ⟨n, hn⟩ : ∃ n, n = 1024 := ⟨_, rfl⟩
  have hnew : ∀ w0, Hid (Calls Tryz.prog 56 #[.int .i64 1024] w0 fun e w' => ∃ s h, e = .returned (.tuple #[.pointer (some ⟨s, 0, none⟩), .int .i64 0]) ∧ St w' s h (List.replicate n 0) ∧ w0.grownBy w' none ∧ w0.heap.size ≤ s ∧ w0.heap.size ≤ h) := fun w0 => by
    have := s_new w0 n (by omega)
    rw [hn] at this ⊢
    exact this
  rw [← hn]
  have hnH := Lib.hid hn
  clear hn
  go_enter Tryz.func35, Tryz.ntmps35
  go_wp2_with (go_at_call 56; (with_reducible refine (hnew _).out.mono ?_); rintro e w1 ⟨s, h, rfl, hst, hg, hs1, hh1⟩; have hstH := Lib.hid hst; clear hst; have hb1 := Lib.hid (below_grown hg); clear hg)
  go_ret
  have hl := hstH.out.lt
  have hbA : Below w1.heap.size w1 (w1.alloc (.cells #[.pointer (some ⟨s, 0, none⟩)] 89)) := (Below.refl _ _).alloc (Nat.le_refl _) _
  exact ⟨_, s, h, rfl, ⟨alloc_top _ _ rfl, hstH.out.below hbA hl.1 hl.2, by rw [List.length_replicate]; exact hnH.out⟩, hb1.out.trans (hbA.mono hb1.out.size), hb1.out.size, hs1, hh1⟩
theorem chg_of {w : World} {p s h : Nat} {ws us : List Nat} (a : Bm w p s h ws) {o : Bool} {f t : Int} {n : Nat} (hL : Laid o ws us f (t + 1)) (hf : 0 ≤ f) (ht : t ≤ 65535)
    (hn : if o then n + (sl ws).length = (sl us).length else n + (sl us).length = (sl ws).length) : M.Chg o (sl ws) (sl us) f t n := by
  have hb : ((64 * ws.length : Nat) : Int) = 65536 := by have := a.bits; omega
  refine ⟨sl_up us, fun y => ?_, hn⟩
  cases o
  · rw [hL.mem_false, hb]
    by_cases hr : f ≤ y ∧ y ≤ t
    · rw [if_pos hr]
      constructor
      · rintro ⟨_, h⟩; exact absurd ⟨by omega, by omega⟩ h
      · intro h; cases h
    · rw [if_neg hr]
      constructor
      · exact fun h => h.1
      · intro h; exact ⟨h, fun h2 => hr ⟨by omega, by omega⟩⟩
  · rw [hL.mem_true, hb]
    by_cases hr : f ≤ y ∧ y ≤ t
    · rw [if_pos hr]
      constructor
      · intro _; rfl
      · intro _; right; exact ⟨by omega, by omega⟩
    · rw [if_neg hr]
      constructor
      · rintro (h | h)
        · exact h
        · exact absurd ⟨by omega, by omega⟩ hr
      · intro h; exact .inl h
theorem laid_same_b {o : Bool} {ws : List Nat} {k : Nat} (hb : sbit ws k = o) : Laid o ws ws (k : Int) ((k : Int) + 1) :=
  ⟨rfl, fun b _ => by
    by_cases e : b = k
    · subst e; rw [if_pos (by omega)]; exact hb
    · rw [if_neg (by omega)]⟩
/-- What a change of a bitmap leaves. -/
def BStep (o : Bool) (w : World) (p s h : Nat) (ws : List Nat) (f t : Int) (n : Nat) (w' : World) : Prop :=
  ∃ us, M.Chg o (sl ws) (sl us) f t n ∧ Bm w' p s h us ∧ w.grownBy w' (some h)
theorem bstep_same {w : World} {p s h : Nat} {ws : List Nat} (a : Bm w p s h ws) {o : Bool} {k : Nat} (hb : sbit ws k = o) (hk : k ≤ 65535) : BStep o w p s h ws (k : Int) (k : Int) 0 w :=
  ⟨ws, chg_of a (laid_same_b hb) (by omega) (by omega) (by cases o <;> simp), a, grown_refl _ _⟩
section
variable {w : World} {p s h : Nat} {ws : List Nat}
theorem i64_small (v : Nat) (hv : v ≤ 65535) : IntKind.i64.wrap (v : Int) = (v : Int) := IntWalk.i64_in _ (by omega)
theorem b_has (a : Bm w p s h ws) (v : Nat) (hv : v ≤ 65535) :
    Calls Tryz.prog 157 #[.pointer (some ⟨p, 0, none⟩), .int .u16 (v : Int)] w fun e w' => e = .returned (.bool (M.rHas (sl ws) (v : Int))) ∧ w = w' := by
  have w1 := i64_small v hv
  have hk := Lib.hid (kept_any w p s h ws a)
  have hg := Lib.hid (s_get_list w s h ws a.st (v : Int))
  generalize M.rHas (sl ws) (v : Int) = r at *
  go_enter Tryz.func157, Tryz.ntmps157
  go_wp2_with (first
    | (go_at_call 57; (with_reducible refine hk.out.mono ?_); rintro e w' ⟨rfl, rfl⟩)
    | (go_at_call 81; (with_reducible refine hg.out.mono ?_); rintro e w' ⟨rfl, rfl⟩))
  go_ret
  exact ⟨rfl, rfl⟩
/-- An answer of Add or Drop. -/
def BBool (o : Bool) (w : World) (p s h : Nat) (ws : List Nat) (v : Nat) (e : Ending) (w' : World) : Prop :=
  ∃ n, e = .returned (.bool (decide (0 < n))) ∧ BStep o w p s h ws (v : Int) (v : Int) n w'
theorem b_add (a : Bm w p s h ws) (v : Nat) (hv : v ≤ 65535) :
    Calls Tryz.prog 36 #[.pointer (some ⟨p, 0, none⟩), .int .u16 (v : Int)] w (BBool true w p s h ws v) := by
  have w1 := i64_small v hv
  have hk := Lib.hid (kept_any w p s h ws a)
  have hlt : v < 64 * ws.length := by have := a.bits; omega
  have aH := Lib.hid a
  clear a
  cases hb : sbit ws v
  · have hs := Lib.hid (s_set_new w s h ws aH.out.st v hlt hb)
    have hmore := Lib.hid (sset_more hlt hb)
    have hbH := Lib.hid hb
    clear hb
    go_enter Tryz.func36, Tryz.ntmps36
    go_wp2_with (first
      | (go_at_call 57; (with_reducible refine hk.out.mono ?_); rintro e w' ⟨rfl, rfl⟩)
      | (go_at_call 58; (with_reducible refine hs.out.mono ?_); rintro e w2 ⟨rfl, h1, h2⟩))
    go_ret
    exact ⟨1, rfl, sset ws v, chg_of aH.out (laid_set hlt) (by omega) (by omega) (by rw [if_pos rfl, hmore.out]; omega), aH.out.next h1 (sset_len ws v) h2, h2⟩
  · have hs := Lib.hid (s_set_old w s h ws aH.out.st v hlt hb)
    have hbH := Lib.hid hb
    clear hb
    go_enter Tryz.func36, Tryz.ntmps36
    go_wp2_with (first
      | (go_at_call 57; (with_reducible refine hk.out.mono ?_); rintro e w' ⟨rfl, rfl⟩)
      | (go_at_call 58; (with_reducible refine hs.out.mono ?_); rintro e w2 ⟨rfl, rfl⟩))
    go_ret
    exact ⟨0, rfl, bstep_same aH.out hbH.out hv⟩
/-- An answer of Fill or Wipe. -/
def BInt (o : Bool) (w : World) (p s h : Nat) (ws : List Nat) (f t : Nat) (e : Ending) (w' : World) : Prop :=
  ∃ n : Nat, e = .returned (.int .i64 (n : Int)) ∧ BStep o w p s h ws (f : Int) (t : Int) n w'
theorem bint_of (a : Bm w p s h ws) {o : Bool} {f t : Nat} (hf : f ≤ 65535) (ht : t ≤ 65535) {e : Ending} {w' : World} (hF : Filled o w s h ws (f : Int) ((t : Int) + 1) e w') : BInt o w p s h ws f t e w' := by
  obtain ⟨us, n, rfl, hL, hn, hS, hg⟩ := hF
  exact ⟨n, rfl, us, chg_of a hL (by omega) (by omega) hn, a.next hS hL.1 hg, hg⟩
theorem b_fill (a : Bm w p s h ws) (f t : Nat) (hf : f ≤ 65535) (ht : t ≤ 65535) :
    Calls Tryz.prog 44 #[.pointer (some ⟨p, 0, none⟩), .int .u16 (f : Int), .int .u16 (t : Int)] w (BInt true w p s h ws f t) := by
  have w1 := i64_small f hf
  have w2 := i64_small t ht
  have w3 : IntKind.i64.wrap ((t : Int) + 1) = (t : Int) + 1 := IntWalk.i64_in _ (by omega)
  have hk := Lib.hid (kept_any w p s h ws a)
  have hs := Lib.hid (s_fill w s h ws a.st (f : Int) ((t : Int) + 1) (by omega))
  have aH := Lib.hid a
  clear a
  go_enter Tryz.func44, Tryz.ntmps44
  go_wp2_with (first
    | (go_at_call 57; (with_reducible refine hk.out.mono ?_); rintro e w' ⟨rfl, rfl⟩)
    | (go_at_call 72; (with_reducible refine hs.out.mono ?_); intro e w2 hF; have hB := bint_of aH.out hf ht hF; obtain ⟨us, n, rfl, _⟩ := hF))
  go_ret
  exact hB
theorem b_wipe (a : Bm w p s h ws) (f t : Nat) (hf : f ≤ 65535) (ht : t ≤ 65535) :
    Calls Tryz.prog 46 #[.pointer (some ⟨p, 0, none⟩), .int .u16 (f : Int), .int .u16 (t : Int)] w (BInt false w p s h ws f t) := by
  have w1 := i64_small f hf
  have w2 := i64_small t ht
  have w3 : IntKind.i64.wrap ((t : Int) + 1) = (t : Int) + 1 := IntWalk.i64_in _ (by omega)
  have hk := Lib.hid (kept_any w p s h ws a)
  have hs := Lib.hid (s_wipe w s h ws a.st (f : Int) ((t : Int) + 1) (by omega))
  have aH := Lib.hid a
  clear a
  go_enter Tryz.func46, Tryz.ntmps46
  go_wp2_with (first
    | (go_at_call 57; (with_reducible refine hk.out.mono ?_); rintro e w' ⟨rfl, rfl⟩)
    | (go_at_call 73; (with_reducible refine hs.out.mono ?_); intro e w2 hF; have hB := bint_of aH.out hf ht hF; obtain ⟨us, n, rfl, _⟩ := hF))
  go_ret
  exact hB
theorem b_len (a : Bm w p s h ws) :
    Calls Tryz.prog 158 #[.pointer (some ⟨p, 0, none⟩)] w fun e w' => e = .returned (.int .i64 ((sl ws).length : Nat)) ∧ ∃ n, w' = w.drewN n := by
  have hk := Lib.hid (kept_any w p s h ws a)
  have hs := Lib.hid (s_count w s h ws a.st)
  generalize (sl ws).length = r at *
  go_enter Tryz.func158, Tryz.ntmps158
  go_wp2_with (first
    | (go_at_call 57; (with_reducible refine hk.out.mono ?_); rintro e w' ⟨rfl, rfl⟩)
    | (go_at_call 163; (with_reducible refine hs.out.mono ?_); rintro e w2 ⟨rfl, N, rfl⟩))
  go_ret
  exact ⟨rfl, N, rfl⟩
theorem numV_two (i : Int) : ∃ x b, numV i = .tuple #[.int .u16 x, .bool b] := by
  unfold numV
  split
  · exact ⟨_, _, rfl⟩
  · exact ⟨_, _, rfl⟩
theorem next_range (a : Bm w p s h ws) (n : Int) : M.rNext (sl ws) n ≤ 65535 := by
  rcases M.nextCases (sl_up ws) n with ⟨h1, _⟩ | ⟨h1, _⟩
  · omega
  · exact (a.range h1).2
theorem prev_range (a : Bm w p s h ws) (n : Int) : M.rPrev (sl ws) n ≤ 65535 := by
  rcases M.prevCases (sl_up ws) n with ⟨h1, _⟩ | ⟨h1, _⟩
  · omega
  · exact (a.range h1).2
theorem sel_range (a : Bm w p s h ws) (k : Int) : M.rSel (sl ws) k ≤ 65535 := by
  by_cases h1 : M.rSel (sl ws) k = -1
  · omega
  · obtain ⟨n, _, h2⟩ := M.sel_mem h1
    exact (a.range (List.mem_of_getElem? h2)).2
end
end Go.Proofs.YtkehehfphccpbaaGreatDoor
end
section
namespace Go.Proofs.YtkehehfphccpbaaGreatDoor
open Go.RowKit
theorem sl_zeroB (n : Nat) : sl (List.replicate n 0) = [] := by
  unfold sl
  rw [List.map_eq_nil_iff, List.filter_eq_nil_iff]
  intro b _
  unfold sbit
  by_cases h : b / 64 < n
  · simp [h]
  · simp [h]
theorem bstep_below {o : Bool} {w w' : World} {p s h : Nat} {ws : List Nat} {f t : Int} {n B : Nat} (hs : BStep o w p s h ws f t n w') (hB : B ≤ w.heap.size) (hh : B ≤ h) : Below B w w' := by
  obtain ⟨us, _, _, g⟩ := hs
  exact ⟨g.os, g.tape, g.output, g.size, fun k hk => g.block k (by omega) (by intro e; cases e; omega)⟩
end Go.Proofs.YtkehehfphccpbaaGreatDoor
end
