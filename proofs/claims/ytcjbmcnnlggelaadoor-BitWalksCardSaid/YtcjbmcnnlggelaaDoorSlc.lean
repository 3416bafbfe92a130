/- slices.Clone and slices.Reverse at lists of ints: the library's own text walked. -/
import Derived.Test.YtcjbmcnnlggelaaDoorRefs3
import Derived.RegionTactic
import Derived.Outline
import Derived.WalkSpells
import Derived.Test.YtcjbmcnnlggelaaDoorLaws4
namespace Go.Proofs.YtcjbmcnnlggelaaDoor
open Go.RowKit

theorem Rd.reads {w : World} {B : Nat} {A : Option Addr} {xs : List Int} (h : Rd w B A xs) : Reads w B 1 A xs.length (iv xs) := by
  refine ⟨by simp, fun hn => ?_⟩
  obtain ⟨b, off, rfl, hb, hc⟩ := h (by intro e; subst e; simp at hn)
  refine ⟨_, rfl, hb, fun j u hu => ?_⟩
  simp only [List.getElem?_map, Option.map_eq_some_iff] at hu
  obtain ⟨a, ha, rfl⟩ := hu
  obtain ⟨hj, rfl⟩ := List.getElem?_eq_some_iff.1 ha
  have e : (⟨b, off, none⟩ : Addr).add j = ⟨b, off + j, none⟩ := by
    by_cases h : j = 0
    · subst h; rfl
    · simp [Addr.add, h]
  rw [e]
  exact hc j hj
theorem iv_one (xs : List Int) : ∀ u ∈ iv xs, u.oneCell' = true := by
  intro u hu
  obtain ⟨a, _, rfl⟩ := List.mem_map.1 hu
  rfl

set_option maxHeartbeats 1000000 in
theorem clone_any (A : Option Addr) (c : Nat) (xs : List Int) (w : World) (hr : Rd w w.heap.size A xs) (hl : xs.length ≤ 1000) :
    Calls Tryd.prog 31 #[.slice A xs.length c] w fun e w' => ∃ v, e = .returned v ∧ w'.ownsRow w.heap.size 3 1 v xs.length (iv xs) ∧ Below w.heap.size w w' := by
  obtain ⟨i0, hi, hz0, hz1, hz2⟩ := info_parts int_info
  have own0 : (w.alloc (.cells #[] 3)).ownsRow w.heap.size 3 1 (.slice (some ⟨w.heap.size, 0, none⟩) 0 0) 0 [] := World.ownsRow_lit w #[] 0 (Nat.le_refl _) (by decide) rfl
  have hb1 : Below w.heap.size w (w.alloc (.cells #[] 3)) := (Below.refl _ w).alloc (Nat.le_refl _) _
  have hr1 := (hr.below hb1 (Nat.le_refl _)).reads
  cases A with
  | none =>
    have hn : xs = [] := by
      refine Decidable.byContradiction fun hne => ?_
      obtain ⟨b, off, e, _⟩ := hr hne
      cases e
    subst hn
    have hq : ∀ W : World, (binOp .eql 24 (.slice none 0 c) (.slice none 0 0)).run Tryd.prog W = .ok (.bool true) W := fun W => Lib.run_eql_slice_nil (h := Tryd.underlying24) ..
    clear hr hr1 own0
    go_enter Tryd.func31, Tryd.ntmps31
    go_wp2
    go_ret
    exact ⟨_, rfl, World.ownsRow_nil _ _ _ _, Below.refl _ _⟩
  | some a =>
    have hq : ∀ W : World, (binOp .eql 24 (.slice (some a) xs.length c) (.slice none 0 0)).run Tryd.prog W = .ok (.bool false) W := fun W => Lib.run_eql_slice_nil (h := Tryd.underlying24) ..
    go_enter Tryd.func31, Tryd.ntmps31
    go_wp2_with (at_builtin; refine wpList_append_any _ rfl (.tmp 5) (.tmp 6) 24 rfl w.heap.size 3 i0 (.int .i64 0) 1 8 Tryd.underlying24 hi hz0 hz1 hz2 rfl (by decide) _ _ _ rfl own0 w.heap.size (some a) xs.length c (iv xs) rfl hr1 (iv_one xs) ?h1 ?h2 ?h3 ?_)
    case h1 => unfold maxLen; omega
    case h2 => omega
    case h3 => simp
    intro v' w1 hown' hgrow _
    have hb2 := hb1.grown hgrow (by simp) (fun g hg => (own0.lt g hg).1)
    clear own0 hgrow hr1 hb1
    go_wp2
    go_ret
    exact ⟨_, rfl, hown', hb2⟩

theorem grown_trans2 {a b c : World} {g : Nat} (h : a.grownBy b (some g)) (k : b.grownBy c (some g)) : a.grownBy c (some g) :=
  ⟨k.os.trans h.os, k.tape.trans h.tape, k.output.trans h.output, Nat.le_trans h.size k.size, fun j hj hne => (k.block j (Nat.lt_of_lt_of_le hj h.size) hne).trans (h.block j hj hne)⟩

/-- The first k places and the last k have changed sides. -/
def sw (xs : List Int) : Nat → List Int
  | 0 => xs
  | k + 1 => ((sw xs k).set k ((sw xs k)[xs.length - 1 - k]?.getD 0)).set (xs.length - 1 - k) ((sw xs k)[k]?.getD 0)
theorem sw_len (xs : List Int) (k : Nat) : (sw xs k).length = xs.length := by
  induction k with
  | zero => rfl
  | succ k ih => rw [sw, List.length_set, List.length_set, ih]
theorem sw_get (xs : List Int) (k : Nat) (hk : 2 * k ≤ xs.length + 1) (i : Nat) (hi : i < xs.length) :
    (sw xs k)[i]? = if i < k ∨ xs.length - k ≤ i then xs[xs.length - 1 - i]? else xs[i]? := by
  induction k generalizing i with
  | zero => rw [sw, if_neg (by omega)]
  | succ k ih =>
    have ih := fun i hi => ih (by omega) i hi
    have hl := sw_len xs k
    have l1 : (sw xs k)[k]? = some (xs[k]'(by omega)) := by rw [ih k (by omega), if_neg (by omega)]; exact List.getElem?_eq_getElem _
    have l2 : (sw xs k)[xs.length - 1 - k]? = some (xs[xs.length - 1 - k]'(by omega)) := by rw [ih _ (by omega), if_neg (by omega)]; exact List.getElem?_eq_getElem _
    rw [sw, l1, l2]
    simp only [Option.getD_some]
    by_cases h1 : i = xs.length - 1 - k
    · subst h1
      have e : xs.length - 1 - (xs.length - 1 - k) = k := by omega
      rw [List.getElem?_set_self (by rw [List.length_set]; omega), if_pos (by omega), e]
      exact (List.getElem?_eq_getElem _).symm
    · rw [List.getElem?_set_ne (by omega)]
      by_cases h2 : i = k
      · subst h2
        rw [List.getElem?_set_self (by omega), if_pos (by omega)]
        exact (List.getElem?_eq_getElem _).symm
      · rw [List.getElem?_set_ne (by omega), ih i hi]
        by_cases h3 : i < k ∨ xs.length - k ≤ i
        · rw [if_pos h3, if_pos (by omega)]
        · rw [if_neg h3, if_neg (by omega)]
theorem sw_rev (xs : List Int) (k : Nat) (h1 : xs.length ≤ 2 * k + 1) (h2 : 2 * k ≤ xs.length + 1) : sw xs k = xs.reverse := by
  apply List.ext_getElem?
  intro i
  by_cases hi : i < xs.length
  · rw [sw_get xs k h2 i hi, List.getElem?_reverse hi]
    by_cases h : i < k ∨ xs.length - k ≤ i
    · rw [if_pos h]
    · have e : xs.length - 1 - i = i := by omega
      rw [if_neg h, e]
  · rw [List.getElem?_eq_none (by rw [sw_len]; omega), List.getElem?_eq_none (by rw [List.length_reverse]; omega)]

theorem alike_own {w w' : World} {base : Nat} {v : Value} {n : Nat} {xs : List Value} (h : w.ownsRow base 3 1 v n xs) (ha : w'.heap = w.heap) : w'.ownsRow base 3 1 v n xs := by
  unfold World.ownsRow at *
  rw [ha]; exact h

set_option maxRecDepth 100000 in
set_option maxHeartbeats 2000000 in
theorem reverse_some (g cap : Nat) (xs : List Int) (w : World) (base : Nat) (hown : w.ownsRow base 3 1 (.slice (some ⟨g, 0, none⟩) xs.length cap) xs.length (iv xs)) (hl : xs.length ≤ 1000) (hne : 0 < xs.length) :
    Calls Tryd.prog 32 #[.slice (some ⟨g, 0, none⟩) xs.length cap] w fun e w' => e = .returned (.tuple #[]) ∧ w'.ownsRow base 3 1 (.slice (some ⟨g, 0, none⟩) xs.length cap) xs.length (iv xs.reverse) ∧ w.grownBy w' (some g) := by
  go_enter Tryd.func32, Tryd.ntmps32
  go_wp2
  go_loopw [2, 3] (fun i j wr => ∃ k J : Nat, k + J + 1 = xs.length ∧ k ≤ J + 1 ∧ i = .int .i64 k ∧ j = .int .i64 J ∧ Hid (wr.ownsRow base 3 1 (.slice (some ⟨g, 0, none⟩) xs.length cap) xs.length (iv (sw xs k))) ∧ w.grownBy wr (some g))
    (fun _ j _ => (intOf j).toNat)
  case atStart => exact ⟨0, xs.length - 1, by omega, by omega, rfl, by congr 1; omega, hown, World.grownBy.refl _ _⟩
  case round =>
    obtain ⟨k, J, hkJ, hk, rfl, rfl, ho, hg⟩ := hrel
    by_cases hlt : k < J
    · have hl1 := sw_len xs k
      have hka : (sw xs k)[k]? = some ((sw xs k)[k]?.getD 0) := by rw [List.getElem?_eq_getElem (by omega)]; rfl
      have hJb : (sw xs k)[J]? = some ((sw xs k)[J]?.getD 0) := by rw [List.getElem?_eq_getElem (by omega)]; rfl
      have hs : Hid (sw xs (k + 1) = ((sw xs k).set k ((sw xs k)[J]?.getD 0)).set J ((sw xs k)[k]?.getD 0)) := by
        have e : xs.length - 1 - k = J := by omega
        show sw xs (k + 1) = _
        rw [sw, e]
      have hx : wr.cell? ⟨g, k, none⟩ = some (.int .i64 ((sw xs k)[k]?.getD 0)) := by
        rw [ho.out.cellAt k (by omega), List.getElem?_map, hka]; rfl
      have hy : wr.cell? ⟨g, J, none⟩ = some (.int .i64 ((sw xs k)[J]?.getD 0)) := by
        rw [ho.out.cellAt J (by omega), List.getElem?_map, hJb]; rfl
      have fx := ho.out.frozenAt k
      have fy := ho.out.frozenAt J
      clear hka hJb hl1
      generalize (sw xs k)[k]?.getD 0 = a at *
      generalize (sw xs k)[J]?.getD 0 = b at *
      have hy2 : (wr.setCell ⟨g, k, none⟩ (.int .i64 b)).cell? ⟨g, J, none⟩ = some (.int .i64 b) := by
        rw [World.cell?_setCell_other _ _ _ _ (by intro h; simp only [Addr.mk.injEq] at h; omega)]; exact hy
      have o1 := ho.out.stored k (.int .i64 b)
      have o2 := o1.1.stored J (.int .i64 a)
      have g2 := grown_trans2 hg (grown_trans2 o1.2 o2.2)
      have ho2 : Hid (((wr.setCell ⟨g, k, none⟩ (.int .i64 b)).setCell ⟨g, J, none⟩ (.int .i64 a)).ownsRow base 3 1 (.slice (some ⟨g, 0, none⟩) xs.length cap) xs.length (iv (sw xs (k + 1)))) := by
        have := o2.1
        rw [← List.map_set, ← List.map_set, ← hs.out] at this
        exact this
      clear o1 o2 ho hg
      go_wp2
      go_region
      go_wp2
      go_roundw
      case rel => exact ⟨k + 1, J - 1, by omega, by omega, by go_num, by congr 1; omega, ho2, ⟨g2.os, g2.tape, g2.output, g2.size, g2.block⟩⟩
      case measure => simp [intOf]; omega
    · have e := sw_rev xs k (by omega) (by omega)
      rw [e] at ho
      go_wp2
      go_end0
      exact ⟨rfl, ho.out, hg⟩

theorem reverse_empty (A : Option Addr) (cap : Nat) (w : World) :
    Calls Tryd.prog 32 #[.slice A 0 cap] w fun e w' => e = .returned (.tuple #[]) ∧ w = w' := by
  go_enter Tryd.func32, Tryd.ntmps32
  go_wp2
  go_loop [2, 3] (fun i j => i = .int .i64 0 ∧ j = .int .i64 (-1)) (fun i _ => (intOf i).toNat)
  case atStart => exact ⟨rfl, rfl⟩
  case round =>
    obtain ⟨rfl, rfl⟩ := hrel
    go_wp2
    go_end0
    exact ⟨rfl, rfl⟩
/-- Reverse, at a list of the call's own: the same slice reads reversed. -/
theorem reverse_any (v : Value) (xs : List Int) (w : World) (base : Nat) (hown : w.ownsRow base 3 1 v xs.length (iv xs)) (hl : xs.length ≤ 1000) :
    Calls Tryd.prog 32 #[v] w fun e w' => e = .returned (.tuple #[]) ∧ w'.ownsRow base 3 1 v xs.length (iv xs.reverse) ∧ Below base w w' := by
  rcases Nat.eq_zero_or_pos xs.length with h0 | h0
  · have hx : xs = [] := List.eq_nil_of_length_eq_zero h0
    subst hx
    rcases hown.2 with ⟨rfl, _⟩ | ⟨g, cap, cur, rfl, _⟩
    · refine (reverse_empty _ _ w).mono ?_
      rintro e w' ⟨rfl, rfl⟩
      exact ⟨rfl, hown, Below.refl _ _⟩
    · refine (reverse_empty _ _ w).mono ?_
      rintro e w' ⟨rfl, rfl⟩
      exact ⟨rfl, hown, Below.refl _ _⟩
  · rcases hown.2 with ⟨_, hn⟩ | ⟨g, cap, cur, rfl, hb, _⟩
    · omega
    · refine (reverse_some g cap xs w base hown hl h0).mono ?_
      rintro e w' ⟨rfl, ho, hg⟩
      exact ⟨rfl, ho, ⟨hg.os, hg.tape, hg.output, hg.size, fun k hk => by
        rcases Nat.lt_or_ge k w.heap.size with h | h
        · exact hg.block k h (by intro e; injection e with e; omega)
        · have := (hown.lt g rfl).2
          omega⟩⟩
end Go.Proofs.YtcjbmcnnlggelaaDoor
