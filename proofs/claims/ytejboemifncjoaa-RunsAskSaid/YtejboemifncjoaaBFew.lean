
/- The document's Few, Same and Of on lists of 16-bit numbers; the text walked. -/
import Derived.Test.YtejboemifncjoaaBList
namespace Go.Proofs.Ytejboemifncjoaa
open Go.RowKit
theorem retB {a b : Bool} (h : a = b) : Ending.returned (.bool a) = .returned (.bool b) := by rw [h]
theorem take_snocH {xs : List Int} {k : Nat} (h : k < xs.length) : xs.take (k + 1) = xs.take k ++ [xs[k]] := by
  rw [List.take_succ_eq_append_getElem h]
theorem take_allH {xs : List Int} {k : Nat} (h : ¬ k < xs.length) : xs.take k = xs := List.take_of_length_le (by omega)
theorem same_noH {xs ys : List Int} {k : Nat} (h : ∃ a b, xs[k]? = some a ∧ ys[k]? = some b ∧ a ≠ b) : decide (xs = ys) = false := by
  rw [decide_eq_false_iff_not]
  rintro rfl
  obtain ⟨a, b, h1, h2, h3⟩ := h
  rw [h1] at h2
  exact h3 (by simpa using h2)

set_option maxHeartbeats 1000000 in
theorem f_same (A A' : Option Addr) (c c' : Nat) (xs ys : List Int) (w : World) (B B' : Nat) (hr : Rh w B A xs) (hr' : Rh w B' A' ys) (hl : xs.length ≤ 4611686018427387904) (_hl' : ys.length ≤ 4611686018427387904) :
    Calls Try.prog 23 #[.slice A xs.length c, .slice A' ys.length c'] w fun e w' => e = .returned (.bool (decide (xs = ys))) ∧ ∃ n, w' = w.drewN n := by
  by_cases hlen : xs.length = ys.length
  · generalize hL : ys.length = L at *
    have hLh := Lib.hid hL
    clear hL
    subst hlen
    go_enter Try.func23, Try.ntmps23
    go_wp2
    go_loopw [13] (fun i wr => ∃ k n : Nat, k ≤ xs.length ∧ i = .int .i64 k ∧ wr = w.drewN n ∧ Hid (xs.take k = ys.take k)) (fun i _ => xs.length - (intOf i).toNat)
    case atStart => exact ⟨0, 0, by omega, rfl, rfl, rfl⟩
    case round =>
      obtain ⟨k, n, hk, rfl, rfl, hH⟩ := hrel
      by_cases hlt : k < xs.length
      · have hlt' : k < ys.length := by rw [hLh.out]; exact hlt
        obtain ⟨b, off, rfl, _, hc⟩ := hr.at hlt
        obtain ⟨b', off', rfl, _, hc'⟩ := hr'.at hlt'
        have hx : xs[k]? = some xs[k] := List.getElem?_eq_getElem hlt
        have hy : ys[k]? = some ys[k] := List.getElem?_eq_getElem hlt'
        have hxH := Lib.hid hx
        have hyH := Lib.hid hy
        have hs := Lib.hid (take_snocH hlt)
        have hs' := Lib.hid (take_snocH hlt')
        clear hx hy
        generalize xs[k] = x at *
        generalize ys[k] = y at *
        by_cases he : x = y
        · have heb : (x == y) = true := by simp [he]
          have hres : Hid (xs.take (k + 1) = ys.take (k + 1)) := by
            show xs.take (k + 1) = ys.take (k + 1)
            rw [hs.out, hs'.out, hH.out, he]
          clear hs hs' hxH hyH hH he
          go_wp2
          go_quiet (fail)
          go_wp2
          go_roundw
          case rel => exact ⟨k + 1, _, by omega, by go_num, rfl, hres⟩
          case measure => simp [intOf]; omega
        · have heb : (x == y) = false := by simp [he]
          have hres := Lib.hid (same_noH (k := k) ⟨x, y, hxH.out, hyH.out, he⟩)
          clear hs hs' hxH hyH hH he
          go_wp2
          go_quiet (fail)
          go_wp2
          go_ret
          exact ⟨retB hres.out.symm, _, World.drewN_drewN _ _ _⟩
      · have hres : Hid (decide (xs = ys) = true) := by
          have h1 := hH.out
          rw [take_allH hlt, take_allH (by rw [hLh.out]; exact hlt)] at h1
          show decide (xs = ys) = true
          simp [h1]
        go_wp2
        go_ret
        exact ⟨retB hres.out.symm, _, rfl⟩
  · have hres := Lib.hid (show decide (xs = ys) = false by rw [decide_eq_false_iff_not]; rintro rfl; exact hlen rfl)
    have hne : ((xs.length : Int) == (ys.length : Int)) = false := by simp; omega
    go_enter Try.func23, Try.ntmps23
    go_wp2
    go_ret
    exact ⟨retB hres.out.symm, 0, rfl⟩

set_option maxHeartbeats 1000000 in
theorem f_few (A : Option Addr) (cp : Nat) (xs : List Int) (n : Nat) (w : World) (hr : Rh w w.heap.size A xs) (hl : xs.length ≤ 9223372036854775807) (hn : n ≤ 1000000) :
    Calls Try.prog 20 #[.slice A xs.length cp, .int .i64 (n : Int)] w fun e w' => ∃ A' c', e = .returned (.slice A' (xs.take n).length c') ∧ Rh w' w'.heap.size A' (xs.take n) ∧ Young w.heap.size A' ∧ Below w.heap.size w w' := by
  obtain ⟨i0, hi, hz0, hz1, hz2⟩ := info_parts u16_info
  go_enter Try.func20, Try.ntmps20
  go_wp2
  go_loopw [5, 10] (fun v i wr => ∃ k : Nat, k ≤ xs.length ∧ i = .int .i64 k ∧ wr.ownsRow w.heap.size 31 1 v (xs.take (min k n)).length (hv (xs.take (min k n))) ∧ Below w.heap.size w wr)
    (fun _ i _ => xs.length - (intOf i).toNat)
  case atStart => exact ⟨0, by omega, rfl, by simp [World.ownsRow_nil], Below.refl _ _⟩
  case round =>
    obtain ⟨k, hk, rfl, hown, hb⟩ := hrel
    by_cases hlt : k < xs.length
    · obtain ⟨b, off, rfl, _, hc⟩ := (hr.below hb (Nat.le_refl _)).at hlt
      by_cases hkn : k < n
      · have e1 : min k n = k := by omega
        have e2 : min (k + 1) n = k + 1 := by omega
        rw [e1] at hown
        have hs := Lib.hid (show xs.take (min (k + 1) n) = xs.take k ++ [xs[k]] by rw [e2, take_snocH hlt])
        have hlen : (xs.take k).length ≤ 1000000 := by rw [List.length_take]; omega
        clear e1 e2
        generalize xs.take k = ds at *
        generalize xs[k] = y at *
        go_wp2_with (at_builtin; refine wpList_append_own _ rfl _ _ 40 rfl w.heap.size 31 i0 (.int .u16 0) 1 2 Try.underlying40 hi hz0 hz1 hz2 rfl (by decide) _ _ _ rfl (hown.alloc _) ⟨wr.heap.size, 0, none⟩ 1 1 [.int .u16 y] rfl rfl ?c1 ?c2 ?c3 ?c4 ?c5 ?_)
        case c1 => exact cell_oneB _ _ _
        case c2 => first | exact one_intB _ _ | rfl
        case c3 => unfold maxLen; omega
        case c4 => omega
        case c5 => have := hb.size; simp; omega
        intro v' w1 hown' hgrow _
        obtain ⟨hown2, hb2⟩ := own_snocH hb hown hown' hgrow
        rw [← hs.out] at hown2
        clear hown' hgrow hown hb
        go_wp2
        go_roundw
        case rel => exact ⟨k + 1, by omega, by go_num, hown2, hb2⟩
        case measure => simp [intOf]; omega
      · have e1 : min k n = min (k + 1) n := by omega
        rw [e1] at hown
        clear e1
        go_wp2
        go_roundw
        case rel => exact ⟨k + 1, by omega, by go_num, hown, hb⟩
        case measure => simp [intOf]; omega
    · obtain rfl : k = xs.length := by omega
      have e1 : xs.take (min xs.length n) = xs.take n := by
        by_cases h : xs.length ≤ n
        · rw [Nat.min_eq_left h, List.take_of_length_le (Nat.le_refl _), List.take_of_length_le h]
        · rw [Nat.min_eq_right (by omega)]
      rw [e1] at hown
      clear e1
      obtain ⟨A', c', rfl, hr', hF⟩ := Rh.of_own hown
      go_wp2
      go_ret
      exact ⟨A', c', rfl, hr', hF, hb⟩

/-- Those of xs, and no others. -/
def OfL (l xs : List Int) : Prop := l.Pairwise (· < ·) ∧ ∀ y, y ∈ l ↔ y ∈ xs
theorem OfL.same {a b xs : List Int} (h : OfL a xs) (k : OfL b xs) : a = b := M.sorted_ext h.1 k.1 fun y => (h.2 y).trans (k.2 y).symm
set_option maxHeartbeats 1000000 in
theorem f_of (A : Option Addr) (cp : Nat) (xs : List Int) (w : World) (hr : Rh w w.heap.size A xs) (hl : xs.length ≤ 9223372036854775807) (hx : ∀ y ∈ xs, 0 ≤ y ∧ y ≤ 65535) :
    Calls Try.prog 22 #[.slice A xs.length cp] w fun e w' => ∃ g n bs, e = .returned (.slice (some ⟨g, 0, none⟩) n n) ∧ Bs w' g n bs ∧ OfL (M.L bs) xs ∧ w.heap.size ≤ g ∧ Below w.heap.size w w' := by
  have hnew := fun W => Lib.hid (f_new W)
  have hrH := Lib.hid hr
  have hxH := Lib.hid hx
  clear hr hx
  go_enter Try.func22, Try.ntmps22
  go_wp2_with (go_at_call 32; (with_reducible refine (hnew _).out.mono ?_); rintro e w2 ⟨g, n, rfl, hbs, hg2, hg⟩; have HS := Lib.hid hbs; have HG2 := Lib.hid hg2; clear hbs hg2)
  have hB2 : Hid (Below w.heap.size w w2) := ⟨HG2.out.os, HG2.out.tape, HG2.out.output, HG2.out.size, fun k hk => HG2.out.block k hk (by simp)⟩
  go_loopw [9] (fun i wr => ∃ (k : Nat) (bs : List Bool), k ≤ xs.length ∧ i = .int .i64 (k : Int) ∧ Hid (Bs wr g n bs) ∧ Hid (OfL (M.L bs) (xs.take k)) ∧ Hid (Below w.heap.size w wr)) (fun i _ => xs.length - (intOf i).toNat)
  case atStart => exact ⟨0, List.replicate n false, by omega, rfl, HS.out, ⟨M.L_up _, by rw [M.L_false]; simp⟩, hB2.out⟩
  case round =>
    obtain ⟨k, bs, hk, rfl, hB, hO, hW⟩ := hrel
    by_cases hlt : k < xs.length
    · have hT2 : decide (k < xs.length) = true := decide_eq_true hlt
      have hT3 : decide ((k : Int) < (xs.length : Int)) = true := decide_eq_true (by omega)
      obtain ⟨b, off, rfl, hbl, hc⟩ := (hrH.out.below hW.out (Nat.le_refl _)).at hlt
      have hv := hxH.out xs[k] (List.getElem_mem hlt)
      have hs := Lib.hid (take_snocH hlt)
      generalize xs[k] = y at *
      obtain ⟨v, rfl⟩ : ∃ v : Nat, y = (v : Int) := ⟨y.toNat, by omega⟩
      have hn9 := hB.out.top_ge
      have hvn : v < n := by omega
      have hvi : (v : Int) < (n : Int) := by omega
      have hcell := hB.out.cell v hvn
      have hfr := hB.out.frozen v
      have hB3 := Lib.hid (hB.out.store v true)
      have hlen := hB.out.len
      have hO3 : Hid (OfL (M.L (bs.set v true)) (xs.take (k + 1))) := ⟨M.L_up _, fun y => by
        rw [M.L_set_true (by omega), hs.out, hO.out.2 y]; simp [or_comm]⟩
      have hW3 : Hid (Below w.heap.size w (wr.setCell ⟨g, v, none⟩ (.bool true))) := hW.out.setCell (p := ⟨g, v, none⟩) hg _
      generalize bs[v] = b0 at *
      clear hlen
      go_wp2
      go_roundw
      case rel => exact ⟨k + 1, _, by omega, by go_num, hB3.out, hO3.out, hW3.out⟩
      case measure => simp [intOf]; omega
    · have hT2 : decide (k < xs.length) = false := decide_eq_false hlt
      have hT3 : decide ((k : Int) < (xs.length : Int)) = false := decide_eq_false (by omega)
      have hO3 : Hid (OfL (M.L bs) xs) := by have := hO.out; rw [take_allH hlt] at this; exact this
      go_wp2
      go_ret
      exact ⟨g, n, bs, rfl, hB.out, hO3.out, hg, hW.out⟩
end Go.Proofs.Ytejboemifncjoaa
