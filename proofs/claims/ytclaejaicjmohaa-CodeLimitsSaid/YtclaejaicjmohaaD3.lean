
/- Rows of bytes: how they read; the document's Bytes and SameBytes; the texts walked. -/
import Derived.Test.YtclaejaicjmohaaD2
import Derived.Test.YtclaejaicjmohaaRefsK
import Derived.OwnWalk
import Derived.Laws.OwnMore
import Derived.Lib.Small
namespace Go.Proofs.Ytclaejaicjmohaa
set_option maxRecDepth 20000
open Go.RowKit
namespace E
/-- The slice at A reads as these bytes, in cells below block B. -/
def Rb (w : World) (B : Nat) (A : Option Addr) (xs : List Nat) : Prop :=
  xs ≠ [] → ∃ b off, A = some ⟨b, off, none⟩ ∧ b < B ∧ ∀ (k : Nat) (h : k < xs.length), w.cell? ⟨b, off + k, none⟩ = some (.int .u8 (xs[k] : Nat))
theorem Rb.below {w w' : World} {B B' : Nat} {A : Option Addr} {xs : List Nat} (h : Rb w B A xs) (hb : Below B' w w') (hB : B ≤ B') : Rb w' B A xs := fun hne => by
  obtain ⟨b, off, rfl, hlt, hc⟩ := h hne
  exact ⟨b, off, rfl, hlt, fun k hk => (hb.cell (p := ⟨b, off + k, none⟩) (by show b < B'; omega)).trans (hc k hk)⟩
theorem Rb.more {w : World} {B B' : Nat} {A : Option Addr} {xs : List Nat} (h : Rb w B A xs) (hB : B ≤ B') : Rb w B' A xs := fun hne => by
  obtain ⟨b, off, rfl, hlt, hc⟩ := h hne
  exact ⟨b, off, rfl, by omega, hc⟩
theorem Rb.at {w : World} {B : Nat} {A : Option Addr} {xs : List Nat} (h : Rb w B A xs) {k : Nat} (hk : k < xs.length) : ∃ b off, A = some ⟨b, off, none⟩ ∧ b < B ∧ w.cell? ⟨b, off + k, none⟩ = some (.int .u8 (xs[k] : Nat)) := by
  obtain ⟨b, off, rfl, hb, hc⟩ := h (by intro e; subst e; simp at hk)
  exact ⟨b, off, rfl, hb, hc k hk⟩
theorem Rb.take {w : World} {B : Nat} {A : Option Addr} {xs : List Nat} (h : Rb w B A xs) (n : Nat) : Rb w B A (xs.take n) := fun hne => by
  obtain ⟨b, off, rfl, hb, hc⟩ := h (by rintro rfl; simp at hne)
  refine ⟨b, off, rfl, hb, fun k hk => ?_⟩
  rw [List.length_take] at hk
  rw [hc k (by omega)]; simp
theorem Rb.of_own {w : World} {base : Nat} {v : Value} {xs : List Nat} (h : w.ownsRow base 5 1 v xs.length (xs.map fun a : Nat => Value.int .u8 (a : Int))) : ∃ A c, v = .slice A xs.length c ∧ Rb w w.heap.size A xs := by
  rcases h.2 with ⟨rfl, hn⟩ | ⟨g, cap, cur, rfl, hb, hh, _⟩
  · have : xs = [] := by simpa using hn
    subst this
    exact ⟨none, 0, rfl, fun h => absurd rfl h⟩
  · refine ⟨_, _, rfl, fun hne => ⟨g, 0, rfl, ?_, fun k hk => ?_⟩⟩
    · exact (h.lt g rfl).2
    · have := h.cells (g := g) rfl k (.int .u8 (xs[k] : Nat)) (by simp [hk])
      rw [add_off] at this
      rw [Nat.zero_add]
      exact this
theorem byte_info : (Try.prog.info? 5).map (fun i => (i.zero, i.size, i.bytes)) = some (some (.int .u8 0), 1, 1) := by kernel_rfl
abbrev bv (xs : List Nat) : List Value := xs.map fun a : Nat => Value.int .u8 (a : Int)
theorem own_snoc {w w0 w1 : World} {xs : List Nat} {y : Nat} {v v' : Value} {t : TypeId} (hb : Below w.heap.size w w0) (hown : w0.ownsRow w.heap.size 5 1 v xs.length (bv xs))
    (hown' : w1.ownsRow w.heap.size 5 1 v' (xs.length + 1) (bv xs ++ [.int .u8 (y : Int)])) (hgrow : (w0.alloc (.cells #[.int .u8 (y : Int)] t)).grownBy w1 v.ownBlock) :
    w1.ownsRow w.heap.size 5 1 v' (xs ++ [y]).length (bv (xs ++ [y])) ∧ Below w.heap.size w w1 :=
  ⟨by rw [bv, List.map_append, List.length_append]; exact hown', (hb.alloc hb.size _).grown hgrow (by have := hb.size; simp; omega) (fun g hg => (hown.lt g hg).1)⟩

set_option maxHeartbeats 1000000 in
theorem ref_bytes (A : Option Addr) (cp : Nat) (xs : List Nat) (n : Nat) (w : World) (hr : Rb w w.heap.size A xs) (hl : xs.length ≤ 9223372036854775807) (hn : n ≤ 1000000) :
    Calls Try.prog 9 #[.slice A xs.length cp, .int .i64 (n : Int)] w fun e w' => ∃ v, e = .returned v ∧ w'.ownsRow w.heap.size 5 1 v (xs.take n).length (bv (xs.take n)) ∧ Below w.heap.size w w' := by
  obtain ⟨i0, hi, hz0, hz1, hz2⟩ := info_parts byte_info
  go_enter Try.func9, Try.ntmps9
  go_wp2
  go_loopw [5, 10] (fun v i wr => ∃ k : Nat, k ≤ xs.length ∧ i = .int .i64 k ∧ wr.ownsRow w.heap.size 5 1 v (xs.take (min k n)).length (bv (xs.take (min k n))) ∧ Below w.heap.size w wr)
    (fun _ i _ => xs.length - (intOf i).toNat)
  case atStart => exact ⟨0, by omega, rfl, by simp [World.ownsRow_nil], Below.refl _ _⟩
  case round =>
    obtain ⟨k, hk, rfl, hown, hb⟩ := hrel
    by_cases hlt : k < xs.length
    · obtain ⟨b, off, rfl, _, hc⟩ := (hr.below hb (Nat.le_refl _)).at hlt
      by_cases hkn : k < n
      · have e1 : min k n = k := by omega
        have e2 : min (k + 1) n = k + 1 := by omega
        rw [e1] at hown
        have hs := Lib.hid (show xs.take (min (k + 1) n) = xs.take k ++ [xs[k]] by rw [e2, take_snocN hlt])
        have hlen : (xs.take k).length ≤ 1000000 := by rw [List.length_take]; omega
        clear e1 e2
        generalize xs.take k = ds at *
        generalize xs[k] = y at *
        go_wp2_with (at_builtin; refine wpList_append_own _ rfl _ _ 23 rfl w.heap.size 5 i0 (.int .u8 0) 1 1 Try.underlying23 hi hz0 hz1 hz2 rfl (by decide) _ _ _ rfl (hown.alloc _) ⟨wr.heap.size, 0, none⟩ 1 1 [.int .u8 (y : Int)] rfl rfl ?c1 ?c2 ?c3 ?c4 ?c5 ?_)
        case c1 => exact cell_one _ _ _
        case c2 => first | exact one_int _ _ | rfl
        case c3 => unfold maxLen; omega
        case c4 => omega
        case c5 => have := hb.size; simp; omega
        intro v' w1 hown' hgrow _
        obtain ⟨hown2, hb2⟩ := own_snoc hb hown hown' hgrow
        rw [← hs.out] at hown2
        clear hown' hgrow hown hb
        go_wp2
        go_roundw
        case rel => exact ⟨k + 1, by omega, by go_num, hown2, hb2⟩
        case measure => simp [intOf]; omega
      · have e1 : min k n = min (k + 1) n := by omega
        rw [e1] at hown
        clear e1
        go_wp2
        go_roundw
        case rel => exact ⟨k + 1, by omega, by go_num, hown, hb⟩
        case measure => simp [intOf]; omega
    · obtain rfl : k = xs.length := by omega
      have e1 : xs.take (min xs.length n) = xs.take n := by
        by_cases h : xs.length ≤ n
        · rw [Nat.min_eq_left h, List.take_of_length_le (Nat.le_refl _), List.take_of_length_le h]
        · rw [Nat.min_eq_right (by omega)]
      rw [e1] at hown
      clear e1
      go_wp2
      go_ret
      exact ⟨_, rfl, hown, hb⟩

theorem own_rb {w : World} {base : Nat} {v : Value} {xs : List Nat} (h : w.ownsRow base 5 1 v xs.length (bv xs)) : ∃ A c, v = .slice A xs.length c ∧ xs.length ≤ c ∧ Rb w w.heap.size A xs := by
  obtain ⟨A, c, hv, hr⟩ := Rb.of_own h
  refine ⟨A, c, hv, ?_, hr⟩
  rcases h.2 with ⟨rfl, hn⟩ | ⟨g, cap, cur, rfl, _, _, hnc, _⟩
  · have : xs = [] := by simpa using hn
    subst this
    simp
  · injection hv with _ _ hc
    omega
set_option maxHeartbeats 1000000 in
theorem ref_samebytes (A A' : Option Addr) (c c' : Nat) (xs ys : List Nat) (w : World) (B B' : Nat) (hr : Rb w B A xs) (hr' : Rb w B' A' ys) (hl : xs.length ≤ 4611686018427387904) (_hl' : ys.length ≤ 4611686018427387904) :
    Calls Try.prog 13 #[.slice A xs.length c, .slice A' ys.length c'] w fun e w' => e = .returned (.bool (decide (xs = ys))) ∧ ∃ n, w' = w.drewN n := by
  by_cases hlen : xs.length = ys.length
  · generalize hL : ys.length = L at *
    have hLh := Lib.hid hL
    clear hL
    subst hlen
    go_enter Try.func13, Try.ntmps13
    go_wp2
    go_loopw [13] (fun i wr => ∃ k n : Nat, k ≤ xs.length ∧ i = .int .i64 k ∧ wr = w.drewN n ∧ Hid (xs.take k = ys.take k)) (fun i _ => xs.length - (intOf i).toNat)
    case atStart => exact ⟨0, 0, by omega, rfl, rfl, rfl⟩
    case round =>
      obtain ⟨k, n, hk, rfl, rfl, hH⟩ := hrel
      by_cases hlt : k < xs.length
      · have hlt' : k < ys.length := by rw [hLh.out]; exact hlt
        obtain ⟨b, off, rfl, _, hc⟩ := hr.at hlt
        obtain ⟨b', off', rfl, _, hc'⟩ := hr'.at hlt'
        have hx : xs[k]? = some xs[k] := List.getElem?_eq_getElem hlt
        have hy : ys[k]? = some ys[k] := List.getElem?_eq_getElem hlt'
        have hxH := Lib.hid hx
        have hyH := Lib.hid hy
        have hs := Lib.hid (take_snocN hlt)
        have hs' := Lib.hid (take_snocN hlt')
        clear hx hy
        generalize xs[k] = x at *
        generalize ys[k] = y at *
        by_cases he : x = y
        · have heb : ((x : Int) == (y : Int)) = true := by simp [he]
          have heb2 : ((x : Int) != (y : Int)) = false := by simp [he]
          have hres : Hid (xs.take (k + 1) = ys.take (k + 1)) := by
            show xs.take (k + 1) = ys.take (k + 1)
            rw [hs.out, hs'.out, hH.out, he]
          clear hs hs' hxH hyH hH he
          go_wp2
          go_quiet (fail)
          go_wp2
          go_roundw
          case rel => exact ⟨k + 1, _, by omega, by go_num, rfl, hres⟩
          case measure => simp [intOf]; omega
        · have heb : ((x : Int) == (y : Int)) = false := by simp; omega
          have heb2 : ((x : Int) != (y : Int)) = true := by simp; omega
          have hres := Lib.hid (same_noN (k := k) ⟨x, y, hxH.out, hyH.out, he⟩)
          clear hs hs' hxH hyH hH he
          go_wp2
          go_quiet (fail)
          go_wp2
          go_ret
          exact ⟨ret_bool hres.out.symm, _, World.drewN_drewN _ _ _⟩
      · have hres : Hid (decide (xs = ys) = true) := by
          have h1 := hH.out
          rw [take_allN hlt, take_allN (by rw [hLh.out]; exact hlt)] at h1
          show decide (xs = ys) = true
          simp [h1]
        go_wp2
        go_ret
        exact ⟨ret_bool hres.out.symm, _, rfl⟩
  · have hres := Lib.hid (show decide (xs = ys) = false by rw [decide_eq_false_iff_not]; rintro rfl; exact hlen rfl)
    have hne : ((xs.length : Int) == (ys.length : Int)) = false := by simp; omega
    go_enter Try.func13, Try.ntmps13
    go_wp2
    go_ret
    exact ⟨ret_bool hres.out.symm, 0, rfl⟩
end E
end Go.Proofs.Ytclaejaicjmohaa
