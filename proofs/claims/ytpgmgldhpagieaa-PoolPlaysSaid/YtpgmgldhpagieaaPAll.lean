
/- All of a pool: the iterator over the places taken; the text walked. -/
import Derived.Test.YtpgmgldhpagieaaPLaws4
import Derived.Test.YtpgmgldhpagieaaRangeP
namespace Go.Proofs.Ytpgmgldhpagieaa
open Go.RowKit Go.Shelf
attribute [local go_sem] Oper.semAt_some
/-- The places taken, each with its number. -/
def tks : Nat → List (Nat × Bool) → List (Nat × Nat)
  | _, [] => []
  | i, x :: xs => if x.2 then (i, x.1) :: tks (i + 1) xs else tks (i + 1) xs
theorem tks_cons (i : Nat) (x : Nat × Bool) (xs : List (Nat × Bool)) : tks i (x :: xs) = if x.2 then (i, x.1) :: tks (i + 1) xs else tks (i + 1) xs := rfl
theorem tks_append : ∀ (i : Nat) (a b : List (Nat × Bool)), tks i (a ++ b) = tks i a ++ tks (i + a.length) b
  | i, [], b => by simp [tks]
  | i, x :: a, b => by
    have e : i + (x :: a).length = i + 1 + a.length := by rw [List.length_cons]; omega
    rw [List.cons_append, e, tks_cons, tks_cons]
    by_cases h : x.2 = true
    · rw [if_pos h, if_pos h, List.cons_append, tks_append (i + 1) a b]
    · rw [if_neg h, if_neg h, tks_append (i + 1) a b]
theorem tks_one (i v : Nat) (t : Bool) : tks i [(v, t)] = if t then [(i, v)] else [] := by
  cases t <;> simp [tks]
theorem tks_len : ∀ (i : Nat) (a : List (Nat × Bool)), (tks i a).length = (a.filter (·.2)).length
  | _, [] => rfl
  | i, x :: a => by
    unfold tks
    by_cases h : x.2 = true
    · rw [if_pos h, List.length_cons, tks_len (i + 1) a, List.filter_cons_of_pos h, List.length_cons]
    · rw [if_neg h, tks_len (i + 1) a, List.filter_cons_of_neg h]
theorem tks_len_le (i : Nat) (a : List (Nat × Bool)) : (tks i a).length ≤ a.length := by rw [tks_len]; exact List.length_filter_le _ _
theorem tks_take (a : List (Nat × Bool)) (k : Nat) : tks 0 (a.take k) <+: tks 0 a := by
  conv => rhs; rw [← List.take_append_drop k a]
  rw [tks_append]
  exact List.prefix_append _ _
def encP (x : Nat × Nat) : Array Value := #[.int .i64 (x.1 : Int), .int .u64 (x.2 : Int)]
theorem all_anyP (w : World) (p : Option Addr) :
    Calls Try.prog 24 #[.pointer p] w fun e w' => e = .returned (.func (.func 28) #[] #[.pointer (some ⟨w.heap.size, 0, none⟩)]) ∧ w' = w.alloc (.cells #[.pointer p] 27) := by
  go_enter Try.func24, Try.ntmps24
  go_wp2
  go_ret
  exact ⟨rfl, rfl⟩
set_option maxRecDepth 100000 in
set_option maxHeartbeats 2000000 in
theorem all_stopsP {B P M lim cn cf : Nat} {An Af : Option Addr} {ns : List (Nat × Bool)} {fs : List Nat} (n : Nat) (hn : 1 ≤ n) (Bn n₀ : Nat) (w : World) (a : Po w B P M lim An cn Af cf ns fs) (hA : ∀ g, An = some g → g.block < n₀) (hBn : Bn < w.heap.size) (hc : w.cell? ⟨Bn, 0, none⟩ = some (.pointer (some ⟨P, 0, none⟩))) (hn₀ : n₀ ≤ w.heap.size) :
    SeqP Fence.wide n Try.prog 28 #[.pointer (some ⟨Bn, 0, none⟩)] encP n₀ (fun xs => xs = tks 0 ns) (fun pre => pre <+: tks 0 ns) (fun pre => pre <+: tks 0 ns) w := by
  intro L J Jx W hW hJ hJx hY h0
  have hbc : W.cell? ⟨Bn, 0, none⟩ = some (.pointer (some ⟨P, 0, none⟩)) := (hW.cell (p := ⟨Bn, 0, none⟩) hBn).trans hc
  have hc2 : W.cell? ⟨P, 2, none⟩ = some (.slice An ns.length cn) := (hW.cell (p := ⟨P, 2, none⟩) a.lt).trans a.c2
  have hat := fun k (hk : k < ns.length) => a.at hk
  have hns := a.ns_le
  have HAT := Lib.hid hat
  have HA := Lib.hid hA
  have HJ0 := Lib.hid h0
  have HW := Lib.hid hW
  clear hat a hc hBn hA h0 hW
  refine callsIn_of_wp Try.func28 rfl trivial ?_ rfl
  simp only [Try.ntmps28, List.size_toArray, List.length_cons, List.length_nil, Nat.reduceAdd, Nat.reduceSub, Array.replicate_succ, Array.replicate_zero, List.push_toArray, List.append_toArray, List.nil_append, List.cons_append]
  obtain ⟨m, hL⟩ : ∃ m, ns.length = m := ⟨_, rfl⟩
  rw [hL] at hc2 hns
  have HL := Lib.hid hL
  clear hL
  gi_wp2
  gi_loopw [12] (fun u wr => ∃ k : Nat, k ≤ m ∧ u = .int .i64 (k : Int) ∧ Hid (J (tks 0 (ns.take k)) (fun _ => False) wr) ∧ Hid (Below n₀ W wr)) (fun u _ => m - (intOf u).toNat)
  case atStart => exact ⟨0, by omega, rfl, HJ0, Below.refl _ _⟩
  case round =>
    obtain ⟨k, hk, rfl, hJr, hBr⟩ := hrel
    clear HJ0
    by_cases hlt : k < m
    · have hkl : k < ns.length := by rw [HL.out]; exact hlt
      have hT1 : decide ((k : Int) < (m : Int)) = true := decide_eq_true (by omega)
      have hT2 : decide (k < m) = true := decide_eq_true hlt
      obtain ⟨g, rfl, _, y0, y1, _⟩ := HAT.out k hkl
      have hg : g < n₀ := HA.out _ rfl
      have hgw : g < w.heap.size := by omega
      have x0 := (hBr.out.cell (p := ⟨g, k * 2, none⟩) hg).trans ((HW.out.cell (p := ⟨g, k * 2, none⟩) hgw).trans y0)
      have x1 := (hBr.out.cell (p := ⟨g, k * 2 + 1, none⟩) hg).trans ((HW.out.cell (p := ⟨g, k * 2 + 1, none⟩) hgw).trans y1)
      have htk := Lib.hid (show tks 0 (ns.take (k + 1)) = tks 0 (ns.take k) ++ if ns[k].2 then [(k, ns[k].1)] else [] by
        rw [List.take_succ_eq_append_getElem hkl, tks_append, List.length_take, Nat.min_eq_left (by omega), Nat.zero_add, tks_one])
      have hlen := Lib.hid (show (tks 0 (ns.take k)).length < m by have := tks_len_le 0 (ns.take k); rw [List.length_take] at this; omega)
      have hz := HW.out.size
      have hz2 := hBr.out.size
      clear y0 y1
      generalize ns[k].1 = v at *
      generalize ns[k].2 = t at *
      have hJ2 : Hid (J (tks 0 (ns.take k)) (fun _ => False) (wr.alloc (.cells #[.int .u64 (v : Int), .bool t] 62))) :=
        hJ _ _ _ _ _ hJr.out (but_alloc' _ _ _) (fun j h => h.elim)
      have hB2 : Hid (Below n₀ W (wr.alloc (.cells #[.int .u64 (v : Int), .bool t] 62))) := hBr.out.alloc (by omega) _
      cases t with
      | false =>
        rw [if_neg (by simp), List.append_nil] at htk
        gi_wp2
        refine ⟨fun f e => (by cases e), ?_⟩
        gi_wp2
        go_roundw
        case rel => exact ⟨k + 1, by omega, by go_num, by rw [htk.out]; exact hJ2, hB2⟩
        case measure => simp [intOf]; omega
      | true =>
        rw [if_pos rfl] at htk
        obtain ⟨fn, tmps, assign, body, hy, hR⟩ := hY _ (k, v) _ _ hJ2.out (by rw [← htk.out]; exact tks_take _ _)
        dsimp only [encP] at hy
        gi_wp2
        refine hR.mono ?_
        rintro ee W3 (⟨rfl, hJ3, hk3, _⟩ | ⟨rfl, hJx3⟩)
        · have hJ4 : Hid (J (tks 0 (ns.take (k + 1))) (fun _ => False) W3) := by rw [htk.out]; exact hJ3
          have hB4 : Hid (Below n₀ W W3) := hB2.out.trans hk3
          clear hJ3 hk3 hJ2 hB2
          gi_wp2
          go_roundw
          case rel => exact ⟨k + 1, by omega, by go_num, hJ4, hB4⟩
          case measure => simp [intOf]; omega
        · have hJ4 : Hid (Jx (tks 0 (ns.take (k + 1))) (fun _ => False) W3) := by rw [htk.out]; exact hJx3
          gi_wp2
          refine bodyPost_ret (results_none rfl _ _ _) rfl ?_
          exact ⟨⟨_, rfl⟩, .inr ⟨_, _, tks_take _ _, hJ4.out⟩⟩
    · obtain rfl : k = m := by omega
      have hT1 : decide ((k : Int) < (k : Int)) = false := decide_eq_false (by omega)
      have hT2 : decide (k < k) = false := decide_eq_false (by omega)
      have hJ4 : Hid (J (tks 0 ns) (fun _ => False) wr) := by
        have := hJr.out
        rw [List.take_of_length_le (Nat.le_of_eq HL.out)] at this
        exact this
      gi_wp2
      go_end0
      exact ⟨⟨_, rfl⟩, .inl ⟨_, _, rfl, hJ4.out⟩⟩
end Go.Proofs.Ytpgmgldhpagieaa
