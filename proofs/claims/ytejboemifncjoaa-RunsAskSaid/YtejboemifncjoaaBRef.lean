
/- The document's own sets of 16-bit numbers (stepstoneref06): a row of Bools; the text walked. -/
import Derived.Test.YtejboemifncjoaaBMath
import Derived.Test.YtejboemifncjoaaProg
import Derived.WalkKit
import Derived.OwnWalk
import Derived.Laws.OwnMore
import Derived.Laws.Rows
import Derived.Below
import Derived.LoopTactic
import Derived.Outline
import Derived.Lib.Hide
import Derived.IntWalk
import Derived.Deep.QuietTactic
import Derived.BigQuiet
import Derived.Lib.Strings
import Derived.Lib.Slices
import Derived.Lib.Small
import Derived.Lib.Walk
namespace Go.Proofs.Ytejboemifncjoaa
open Go.RowKit
abbrev bv (bs : List Bool) : List Value := bs.map Value.bool
/-- Block g is the row bs, of n = 65536 Bools. -/
structure Bs (w : World) (g n : Nat) (bs : List Bool) : Prop where
  row : w.heap[g]? = some (.cells (bv bs).toArray 4 (0, 0))
  len : bs.length = n
  top : n = 65536
section
variable {w w' : World} {g n : Nat} {bs cs : List Bool}
theorem Bs.cell (a : Bs w g n bs) (k : Nat) (hk : k < n) : w.cell? ⟨g, k, none⟩ = some (.bool (bs[k]'(by rw [a.len]; exact hk))) := by
  have hk2 : k < bs.length := by rw [a.len]; exact hk
  rw [cell_of_row w g k _ _ (0, 0) a.row]
  simp [hk2]
theorem Bs.frozen (a : Bs w g n bs) (k : Nat) : w.frozen? ⟨g, k, none⟩ = false := by
  have := a.row
  simp [World.frozen?, this]
theorem Bs.lt (a : Bs w g n bs) : g < w.heap.size := (Array.getElem?_eq_some_iff.1 a.row).1
theorem Bs.below {B : Nat} (a : Bs w g n bs) (hb : Below B w w') (hg : g < B) : Bs w' g n bs := ⟨(hb.block g hg).trans a.row, a.len, a.top⟩
theorem Bs.all_below (a : Bs w g n bs) (hb : Below w.heap.size w w') : Bs w' g n bs := a.below hb a.lt
theorem Bs.drew (a : Bs w g n bs) (k : Nat) : Bs (w.drewN k) g n bs := ⟨a.row, a.len, a.top⟩
theorem Bs.grown (a : Bs w g n bs) {r : Option Nat} (h : w.grownBy w' r) (hr : r ≠ some g) : Bs w' g n bs := ⟨(h.block g a.lt (fun e => hr e.symm)).trans a.row, a.len, a.top⟩
theorem Bs.store (a : Bs w g n bs) (k : Nat) (o : Bool) : Bs (w.setCell ⟨g, k, none⟩ (.bool o)) g n (bs.set k o) := by
  refine ⟨?_, by rw [List.length_set]; exact a.len, a.top⟩
  have := a.row
  simp [World.setCell, Array.getElem?_modify, this, bv, List.map_set]
theorem Bs.top_le (a : Bs w g n bs) : n ≤ 65536 := Nat.le_of_eq a.top
theorem Bs.top_ge (a : Bs w g n bs) : 65536 ≤ n := Nat.le_of_eq a.top.symm
theorem Bs.range (a : Bs w g n bs) {y : Int} (hy : y ∈ M.L bs) : 0 ≤ y ∧ y ≤ 65535 := by
  have h1 := M.L_lt hy
  have h2 := a.len
  have h3 := a.top
  omega
end
theorem set_grownB (w : World) (h k : Nat) (u : Value) : w.grownBy (w.setCell ⟨h, k, none⟩ u) (some h) :=
  ⟨rfl, rfl, rfl, by simp [World.setCell], fun j _ hj => by
    unfold World.setCell
    rw [Array.getElem?_modify]
    rw [if_neg (by intro e; exact hj (by rw [← e]))]⟩
theorem grownB_refl (w : World) (r : Option Nat) : w.grownBy w r := ⟨rfl, rfl, rfl, Nat.le_refl _, fun _ _ _ => rfl⟩
theorem grownB_trans {w w1 w2 : World} {r : Option Nat} (h : w.grownBy w1 r) (k : w1.grownBy w2 r) : w.grownBy w2 r :=
  ⟨k.os.trans h.os, k.tape.trans h.tape, k.output.trans h.output, Nat.le_trans h.size k.size, fun j hj hr => (k.block j (Nat.lt_of_lt_of_le hj h.size) hr).trans (h.block j hj hr)⟩
theorem rInt {k : IntKind} {a b : Int} (h : a = b) : Ending.returned (.int k a) = .returned (.int k b) := by rw [h]
theorem rk_le (bs : List Bool) (k : Nat) (h : k ≤ 65536) : (M.L (bs.take k)).length ≤ 65536 := Nat.le_trans (M.L_len_take bs k) h
set_option maxHeartbeats 1000000 in
theorem f_rank (w : World) (g n : Nat) (bs : List Bool) (a : Bs w g n bs) (v : Int) :
    Calls Try.prog 18 #[.slice (some ⟨g, 0, none⟩) n n, .int .i64 v] w fun e w' => e = .returned (.int .i64 (M.rRank (M.L bs) v : Nat)) ∧ w = w' := by
  have hn := a.top_le
  have hlen := a.len
  have hLen := Lib.hid hlen
  have ha := Lib.hid a
  have hres := M.L_rank bs v
  have hresH := Lib.hid hres
  clear hlen hres a
  go_enter Try.func18, Try.ntmps18
  go_wp2
  go_loop [5, 6] (fun c i => ∃ k : Nat, k ≤ n ∧ (k : Int) ≤ max v 0 ∧ i = .int .i64 (k : Int) ∧ c = .int .i64 ((M.L (bs.take k)).length : Nat)) (fun _ i => n - (intOf i).toNat)
  case atStart => exact ⟨0, by omega, by omega, rfl, rfl⟩
  case round =>
    obtain ⟨k, hk, hkv, rfl, rfl⟩ := hrel
    have hcl := M.L_len_take bs k
    by_cases hlt : (k : Int) < v ∧ k < n
    · obtain ⟨h1, h2⟩ := hlt
      have hT1 : decide ((k : Int) < v) = true := decide_eq_true h1
      have hT2 : decide (k < n) = true := decide_eq_true h2
      have hT3 : decide ((k : Int) < (n : Int)) = true := decide_eq_true (by omega)
      have hkl : k < bs.length := by rw [hLen.out]; exact h2
      have hc := ha.out.cell k h2
      have hst := M.L_len_step hkl
      generalize hbk : bs[k] = b at *
      cases b
      · have hS : Hid ((M.L (bs.take (k + 1))).length = (M.L (bs.take k)).length) := by simpa [Hid] using hst
        clear hst hbk
        go_wp2
        go_round
        case rel => exact ⟨k + 1, by omega, by omega, by go_num, by rw [hS.out]⟩
        case measure => simp [intOf]; omega
      · have hS : Hid ((M.L (bs.take (k + 1))).length = (M.L (bs.take k)).length + 1) := by simpa [Hid] using hst
        clear hst hbk
        go_wp2
        go_round
        case rel => exact ⟨k + 1, by omega, by omega, by go_num, by rw [hS.out]; go_num⟩
        case measure => simp [intOf]; omega
    · have hfin : Hid ((M.L (bs.take k)).length = M.rRank (M.L bs) v) := by
        show _ = _
        rw [hresH.out]
        rcases Nat.lt_or_ge k n with h2 | h2
        · have : v.toNat = k := by omega
          rw [this]
        · rw [M.L_all (by rw [hLen.out]; exact h2), M.L_all (k := v.toNat) (by rw [hLen.out]; omega)]
      by_cases h1 : (k : Int) < v
      · have hT1 : decide ((k : Int) < v) = true := decide_eq_true h1
        have hT2 : decide (k < n) = false := decide_eq_false (by omega)
        have hT3 : decide ((k : Int) < (n : Int)) = false := decide_eq_false (by omega)
        go_wp2
        go_ret
        exact ⟨rInt (by rw [hfin.out]), rfl⟩
      · have hT1 : decide ((k : Int) < v) = false := decide_eq_false h1
        go_wp2
        go_ret
        exact ⟨rInt (by rw [hfin.out]), rfl⟩
set_option maxHeartbeats 1000000 in
theorem f_next (w : World) (g n : Nat) (bs : List Bool) (a : Bs w g n bs) (v : Int) (hv2 : v ≤ 9223372036854775807) :
    Calls Try.prog 14 #[.slice (some ⟨g, 0, none⟩) n n, .int .i64 v] w fun e w' => e = .returned (.int .i64 (M.rNext (M.L bs) v)) ∧ w = w' := by
  have hn := a.top_le
  have hlen := a.len
  have hLen := Lib.hid hlen
  have ha := Lib.hid a
  have hup := M.L_up bs
  have hm9 : max v 0 ≤ 9223372036854775807 := by omega
  have hm0 : 0 ≤ max v 0 := by omega
  clear hlen a
  go_enter Try.func14, Try.ntmps14
  go_wp2
  go_loop [5] (fun i => ∃ k : Nat, max v 0 ≤ (k : Int) ∧ (k : Int) ≤ 9223372036854775807 ∧ i = .int .i64 (k : Int) ∧ Hid (∀ y ∈ M.L bs, max v 0 ≤ y → (k : Int) ≤ y)) (fun i => n - (intOf i).toNat)
  case atStart => exact ⟨(max v 0).toNat, by omega, by omega, by first | (congr 1; omega) | (simp; omega), fun y _ hy => by omega⟩
  case round =>
    obtain ⟨k, hkv, hk9, rfl, hH⟩ := hrel
    by_cases hlt : k < n
    · have hT2 : decide (k < n) = true := decide_eq_true hlt
      have hT3 : decide ((k : Int) < (n : Int)) = true := decide_eq_true (by omega)
      have hkl : k < bs.length := by rw [hLen.out]; exact hlt
      have hc := ha.out.cell k hlt
      cases hbk : bs[k]
      · rw [hbk] at hc
        have hH2 : Hid (∀ y ∈ M.L bs, max v 0 ≤ y → ((k + 1 : Nat) : Int) ≤ y) := fun y hy hv => by
          have h1 := hH.out y hy hv
          rcases Int.lt_or_eq_of_le h1 with h2 | h2
          · omega
          · exfalso
            have h3 := (M.L_in.1 hy).2
            have : y.toNat = k := by omega
            rw [this, List.getElem?_eq_getElem hkl, hbk] at h3
            cases h3
        clear hbk
        go_wp2
        go_round
        case rel => exact ⟨k + 1, by omega, by omega, by go_num, hH2⟩
        case measure => simp [intOf]; omega
      · rw [hbk] at hc
        have hres : Hid (M.rNext (M.L bs) v = (k : Int)) := M.next_of hup (M.L_in.2 ⟨by omega, by rw [Int.toNat_natCast, List.getElem?_eq_getElem hkl, hbk]⟩) (by omega) (fun z hz hv => hH.out z hz (by have := (M.L_lt hz).1; omega))
        clear hbk
        go_wp2
        go_ret
        exact ⟨rInt (by rw [hres.out]), rfl⟩
    · have hT2 : decide (k < n) = false := decide_eq_false hlt
      have hT3 : decide ((k : Int) < (n : Int)) = false := decide_eq_false (by omega)
      have hres : Hid (M.rNext (M.L bs) v = -1) := M.next_none hup (fun z hz => by
        have h1 := M.L_lt hz
        rw [hLen.out] at h1
        by_cases h2 : v ≤ z
        · have := hH.out z hz (by omega); omega
        · omega)
      go_wp2
      go_ret
      exact ⟨rInt (by rw [hres.out]), rfl⟩
set_option maxHeartbeats 1000000 in
theorem f_prev (w : World) (g n : Nat) (bs : List Bool) (a : Bs w g n bs) (v : Int) (hv0 : -9223372036854775808 ≤ v) :
    Calls Try.prog 16 #[.slice (some ⟨g, 0, none⟩) n n, .int .i64 v] w fun e w' => e = .returned (.int .i64 (M.rPrev (M.L bs) v)) ∧ w = w' := by
  have hn := a.top_le
  have hn0 := a.top_ge
  have hlen := a.len
  have hLen := Lib.hid hlen
  have ha := Lib.hid a
  have hup := M.L_up bs
  have hw1 : IntKind.i64.wrap ((n : Int) - 1) = (n : Int) - 1 := IntWalk.i64_in _ (by omega)
  clear hlen a
  go_enter Try.func16, Try.ntmps16
  go_wp2
  go_loop [5] (fun i => ∃ k : Int, -9223372036854775808 ≤ k ∧ k ≤ v ∧ k < (n : Int) ∧ i = .int .i64 k ∧ Hid (∀ y ∈ M.L bs, y ≤ v → y ≤ k)) (fun i => (intOf i + 1).toNat)
  case atStart => exact ⟨min v ((n : Int) - 1), by omega, by omega, by omega, rfl, fun y hy h => by have := (M.L_lt hy).2; rw [hLen.out] at this; omega⟩
  case round =>
    obtain ⟨k, hk0, hkv, hkn, rfl, hH⟩ := hrel
    by_cases hlt : 0 ≤ k
    · obtain ⟨j, rfl⟩ : ∃ j : Nat, k = (j : Int) := ⟨k.toNat, by omega⟩
      have hjn : j < n := by omega
      have hkl : j < bs.length := by rw [hLen.out]; exact hjn
      have hc := ha.out.cell j hjn
      cases hbk : bs[j]
      · rw [hbk] at hc
        have hH2 : Hid (∀ y ∈ M.L bs, y ≤ v → y ≤ (j : Int) - 1) := fun y hy hv => by
          have h1 := hH.out y hy hv
          have h0 := (M.L_lt hy).1
          rcases Int.lt_or_eq_of_le h1 with h2 | h2
          · omega
          · exfalso
            have h3 := (M.L_in.1 hy).2
            have : y.toNat = j := by omega
            rw [this, List.getElem?_eq_getElem hkl, hbk] at h3
            cases h3
        clear hbk
        go_wp2
        go_round
        case rel => exact ⟨(j : Int) - 1, by omega, by omega, by omega, by first | rfl | go_num, hH2⟩
        case measure => first | (simp [intOf]; done) | (simp [intOf]; omega)
      · rw [hbk] at hc
        have hres : Hid (M.rPrev (M.L bs) v = (j : Int)) := M.prev_of hup (M.L_in.2 ⟨by omega, by rw [Int.toNat_natCast, List.getElem?_eq_getElem hkl, hbk]⟩) (by omega) (fun z hz hv => hH.out z hz hv)
        clear hbk
        go_wp2
        go_ret
        exact ⟨rInt (by rw [hres.out]), rfl⟩
    · have hT2 : decide (0 ≤ k) = false := decide_eq_false hlt
      have hres : Hid (M.rPrev (M.L bs) v = -1) := M.prev_none hup (fun z hz => by
        have h1 := (M.L_lt hz).1
        by_cases h2 : z ≤ v
        · have := hH.out z hz h2; omega
        · omega)
      go_wp2
      go_ret
      exact ⟨rInt (by rw [hres.out]), rfl⟩
set_option maxHeartbeats 1000000 in
theorem f_select (w : World) (g n : Nat) (bs : List Bool) (a : Bs w g n bs) (K : Nat) (hK : K ≤ 9223372036854775807) :
    Calls Try.prog 10 #[.slice (some ⟨g, 0, none⟩) n n, .int .i64 (K : Int)] w fun e w' => e = .returned (.int .i64 (M.rSel (M.L bs) (K : Int))) ∧ w = w' := by
  have hn := a.top_le
  have hlen := a.len
  have hLen := Lib.hid hlen
  have ha := Lib.hid a
  clear hlen a
  go_enter Try.func10, Try.ntmps10
  go_wp2
  go_loop [1, 8] (fun r i => ∃ k m : Nat, k ≤ n ∧ m ≤ K ∧ i = .int .i64 (k : Int) ∧ r = .int .i64 (m : Int) ∧ Hid ((M.L (bs.take k)).length + m = K)) (fun _ i => n - (intOf i).toNat)
  case atStart => exact ⟨0, K, by omega, by omega, rfl, rfl, by simp [Hid, M.L_nil]⟩
  case round =>
    obtain ⟨k, m, hk, hm, rfl, rfl, hH⟩ := hrel
    by_cases hlt : k < n
    · have hT2 : decide (k < n) = true := decide_eq_true hlt
      have hT3 : decide ((k : Int) < (n : Int)) = true := decide_eq_true (by omega)
      have hkl : k < bs.length := by rw [hLen.out]; exact hlt
      have hc := ha.out.cell k hlt
      have hst := M.L_len_step hkl
      cases hbk : bs[k]
      · rw [hbk] at hc hst
        have hH2 : Hid ((M.L (bs.take (k + 1))).length + m = K) := by show _ = _; rw [hst]; exact hH.out
        clear hbk hst
        go_wp2
        go_round
        case rel => exact ⟨k + 1, m, by omega, by omega, by go_num, rfl, hH2⟩
        case measure => simp [intOf]; omega
      · rw [hbk] at hc
        by_cases hm0 : m = 0
        · have hh := hH.out
          rw [hm0, Nat.add_zero] at hh
          have hres : Hid (M.rSel (M.L bs) (K : Int) = (k : Int)) := by
            show _ = _
            rw [← hh]
            exact M.L_sel_hit hkl hbk
          have hT4 : ((m : Int) == 0) = true := by simp [hm0]
          have hT5 : (m == 0) = true := by simp [hm0]
          clear hbk hst hm0 hh
          go_wp2
          go_ret
          exact ⟨rInt (by rw [hres.out]), rfl⟩
        · rw [hbk] at hst
          have hH2 : Hid ((M.L (bs.take (k + 1))).length + (m - 1) = K) := by show _ = _; rw [hst]; have := hH.out; simp; omega
          have hT4 : ((m : Int) == 0) = false := by simp; omega
          have hT5 : (m == 0) = false := by simp; omega
          have hm1 : 1 ≤ m := by omega
          clear hbk hst hm0
          go_wp2
          go_round
          case rel => exact ⟨k + 1, m - 1, by omega, by omega, by go_num, by first | go_num | (congr 1; omega) | (simp; omega), hH2⟩
          case measure => simp [intOf]; omega
    · have hT2 : decide (k < n) = false := decide_eq_false hlt
      have hT3 : decide ((k : Int) < (n : Int)) = false := decide_eq_false (by omega)
      have hres : Hid (M.rSel (M.L bs) (K : Int) = -1) := by
        refine M.L_sel_none (by omega) ?_
        have h1 := hH.out
        rw [M.L_all (by rw [hLen.out]; omega)] at h1
        omega
      go_wp2
      go_ret
      exact ⟨rInt (by rw [hres.out]), rfl⟩
/-- What a change of the row leaves. -/
def FStep (o : Bool) (w : World) (g n : Nat) (bs : List Bool) (f t : Int) (m : Nat) (w' : World) : Prop :=
  ∃ cs, M.Chg o (M.L bs) (M.L cs) f t m ∧ Bs w' g n cs ∧ w.grownBy w' (some g)
/-- All from f on below i are there (o), or not; as many were changed. -/
def FPart (o : Bool) (bs cs : List Bool) (f i c : Nat) : Prop :=
  cs.length = bs.length ∧ (∀ j, cs[j]? = if f ≤ j ∧ j < i ∧ j < bs.length then some o else bs[j]?) ∧ (if o then c + (M.L bs).length = (M.L cs).length else c + (M.L cs).length = (M.L bs).length)
theorem FPart.start (o : Bool) (bs : List Bool) (f : Nat) : FPart o bs bs f f 0 := ⟨rfl, fun j => by rw [if_neg (by omega)], by cases o <;> simp⟩
theorem FPart.old {o : Bool} {bs cs : List Bool} {f i c : Nat} (h : FPart o bs cs f i c) (hi : i < bs.length) : cs[i]? = some bs[i] := by
  rw [h.2.1 i, if_neg (by omega), List.getElem?_eq_getElem hi]
theorem FPart.step {o : Bool} {bs cs : List Bool} {f i c : Nat} (h : FPart o bs cs f i c) (hf : f ≤ i) (hi : i < bs.length) : FPart o bs (cs.set i o) f (i + 1) (c + if bs[i] != o then 1 else 0) := by
  have hic : i < cs.length := by rw [h.1]; exact hi
  refine ⟨by rw [List.length_set]; exact h.1, fun j => ?_, ?_⟩
  · rw [List.getElem?_set]
    by_cases e : i = j
    · subst e
      rw [if_pos rfl, if_pos hic, if_pos (by omega)]
    · rw [if_neg e, h.2.1 j]
      by_cases hq : f ≤ j ∧ j < i ∧ j < bs.length
      · rw [if_pos hq, if_pos (by omega)]
      · rw [if_neg hq, if_neg (by omega)]
  · have hl := M.L_len_set hic o
    have ho := h.old hi
    rw [List.getElem?_eq_getElem hic] at ho
    have ho : cs[i] = bs[i] := Option.some.inj ho
    rw [ho] at hl
    have h3 := h.2.2
    generalize bs[i] = b at *
    cases o <;> cases b <;> simp at hl h3 ⊢ <;> omega
theorem FPart.chg {o : Bool} {w : World} {g n : Nat} {bs cs : List Bool} (a : Bs w g n bs) {f t c : Nat} (ht : t ≤ 65535) {i : Nat} (h : FPart o bs cs f i c) (hi : i = t + 1 ∨ (t < f ∧ i = f)) : M.Chg o (M.L bs) (M.L cs) (f : Int) (t : Int) c := by
  refine ⟨M.L_up cs, fun y => ?_, h.2.2⟩
  have hl := a.len
  have ht9 := a.top
  rw [M.L_in, M.L_in, h.2.1]
  by_cases hr : (f : Int) ≤ y ∧ y ≤ (t : Int)
  · rw [if_pos hr, if_pos (by omega)]
    constructor
    · rintro ⟨_, h⟩; exact Option.some.inj h
    · intro e; exact ⟨by omega, by rw [e]⟩
  · rw [if_neg hr]
    by_cases h0 : 0 ≤ y
    · rw [if_neg (by omega)]
    · constructor
      · intro h; exact absurd h.1 h0
      · intro h; exact absurd h.1 h0
theorem b_ne (a b : Bool) : (a != b) = !(a == b) := rfl
set_option maxHeartbeats 1000000 in
theorem f_fill (w : World) (g n : Nat) (bs : List Bool) (a : Bs w g n bs) (f t : Nat) (hf : f ≤ 65535) (ht : t ≤ 65535) (o : Bool) :
    Calls Try.prog 52 #[.slice (some ⟨g, 0, none⟩) n n, .int .u16 (f : Int), .int .u16 (t : Int), .bool o] w fun e w' => ∃ m : Nat, e = .returned (.int .i64 (m : Int)) ∧ FStep o w g n bs (f : Int) (t : Int) m w' := by
  have hn := a.top_le
  have hn0 := a.top_ge
  have hLen := Lib.hid a.len
  have ha := Lib.hid a
  have w1 : IntKind.i64.wrap (f : Int) = (f : Int) := IntWalk.i64_in _ (by omega)
  have w2 : IntKind.i64.wrap (t : Int) = (t : Int) := IntWalk.i64_in _ (by omega)
  clear a
  go_enter Try.func52, Try.ntmps52
  go_wp2
  go_loopw [9, 10] (fun c i wr => ∃ (k m : Nat) (cs : List Bool), f ≤ k ∧ (k ≤ t + 1 ∨ k = f) ∧ m ≤ k ∧ i = .int .i64 (k : Int) ∧ c = .int .i64 (m : Int) ∧ Hid (FPart o bs cs f k m) ∧ Hid (Bs wr g n cs) ∧ Hid (w.grownBy wr (some g))) (fun _ i _ => t + 1 - (intOf i).toNat)
  case atStart => exact ⟨f, 0, bs, by omega, by omega, by omega, rfl, rfl, FPart.start o bs f, ha.out, grownB_refl _ _⟩
  case round =>
    obtain ⟨k, m, cs, hfk, hkt, hmk, rfl, rfl, hP, hB, hG⟩ := hrel
    by_cases hlt : k ≤ t
    · have hT1 : decide ((k : Int) ≤ (t : Int)) = true := decide_eq_true (by omega)
      have hT2 : decide (k ≤ t) = true := decide_eq_true hlt
      have hkn : k < n := by omega
      have hkl : k < bs.length := by rw [hLen.out]; exact hkn
      have hc := hB.out.cell k hkn
      have hold := hP.out.old hkl
      have hkc : k < cs.length := by rw [hB.out.len]; exact hkn
      rw [List.getElem?_eq_getElem hkc] at hold
      have hold : cs[k] = bs[k] := Option.some.inj hold
      have hstep := hP.out.step hfk hkl
      rw [hold] at hc
      have hfr := hB.out.frozen k
      have hB2 := Lib.hid (hB.out.store k o)
      have hG2 : Hid (w.grownBy (wr.setCell ⟨g, k, none⟩ (.bool o)) (some g)) := grownB_trans hG.out (set_grownB wr g k _)
      generalize bs[k] = b at *
      have hS := Lib.hid hstep
      clear hold hstep hP
      cases b <;> cases o
      all_goals
        go_wp2
        go_roundw
        case rel => first
          | exact ⟨k + 1, m, _, by omega, by omega, by omega, by go_num, rfl, hS.out, hB2.out, hG2.out⟩
          | exact ⟨k + 1, m + 1, _, by omega, by omega, by omega, by go_num, by go_num, hS.out, hB2.out, hG2.out⟩
        case measure => simp [intOf]; omega
    · have hT1 : decide ((k : Int) ≤ (t : Int)) = false := decide_eq_false (by omega)
      have hT2 : decide (k ≤ t) = false := decide_eq_false hlt
      have hC := Lib.hid (hP.out.chg ha.out ht (by omega))
      go_wp2
      go_ret
      exact ⟨m, rfl, cs, hC.out, hB.out, hG.out⟩
theorem made_false (n : Nat) : madeCells #[Value.bool false] n = (bv (List.replicate n false)).toArray := by
  apply Array.toList_inj.1
  rw [toList_madeCells_one]
  simp [bv]
end Go.Proofs.Ytejboemifncjoaa
