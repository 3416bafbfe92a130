/- The iterators of package bit over a word's bits, rising: for every loop body that keeps what lay below a block. The bits of a word, one by one, over any body that leaves what is named as it is. -/
import Derived.RangeFuncNested
import Derived.RangeFuncBound
import Derived.RangeFuncCalls
import Derived.RangeFuncBox
import Derived.RangeFuncLeaves
import Derived.Shelf.Abstract
import Derived.Shelf.RegionOpen
import Derived.OwnWalkIn
import Derived.TacticsInMore
import Derived.LoopNIn
import Derived.LoopIn
import Derived.Maps.AppendAt
import Derived.Test.YtbiingpdchoppaaDoorMgB
import Derived.Test.YtbiingpdchoppaaDoorMgP
section
namespace Go.Proofs.YtbiingpdchoppaaDoor
open Go.RowKit Go.Shelf
attribute [local go_sem] Oper.semAt_some

theorem low_at {x j : Nat} (hx : x < 18446744073709551616) (hj : j < (M.bz x).length) : M.low (M.less j x) = (M.bz x)[j] := by
  rw [M.select_eq x j hx, M.rSel, if_neg (by omega), Int.toNat_natCast, List.getElem?_eq_getElem hj]
  rfl
theorem less_ne {x j : Nat} (hx : x < 18446744073709551616) (hj : j < (M.bz x).length) : M.less j x ≠ 0 := by
  intro h0
  have := M.bl_less j x hx
  rw [h0, M.bl_zero] at this
  rw [M.bz_len] at hj
  have h2 := congrArg List.length this
  rw [List.length_drop] at h2
  simp at h2
  omega
theorem less_end {x j : Nat} (hx : x < 18446744073709551616) (hj : ¬ j < (M.bz x).length) : M.less j x = 0 := by
  have := M.bl_less j x hx
  rw [M.bz_len] at hj
  rw [List.drop_of_length_le (by omega)] at this
  exact M.bl_nil (M.less_lt j x hx) this
theorem pred_lt {r : Nat} (h : r ≠ 0) : r &&& (r - 1) < r := Nat.lt_of_le_of_lt Nat.and_le_right (by omega)

set_option maxRecDepth 100000 in
set_option maxHeartbeats 1000000 in
theorem rising1 (n : Nat) (hn : 1 ≤ n) (l Bn n₀ : Nat) (h0n : 0 < n₀) (x : Nat) (hx : x < 18446744073709551616) (J Jx : List Int → World → Prop)
    (hY : ∀ pre y W, J pre W → pre.length < (M.bz x).length → YieldAt Fence.wide (n - 1) Tryd.prog l #[.int .i64 y] W fun e W' =>
      (e = .returned (.bool true) ∧ J (pre ++ [y]) W' ∧ Below n₀ W W') ∨ (e = .returned (.bool false) ∧ Jx (pre ++ [y]) W'))
    (W : World) (hT : Tab W) (hBn : W.cell? ⟨Bn, 0, none⟩ = some (.int .u64 (x : Int))) (h0 : J [] W) :
    CallsIn Fence.wide n Tryd.prog 97 #[.func (.yield l) #[] #[], .pointer (some ⟨Bn, 0, none⟩)] W fun e W' => (∃ v, e = .returned v) ∧
      ((∃ ys, ys = M.bz x ∧ J ys W') ∨ (∃ pre, pre <+: M.bz x ∧ Jx pre W')) := by
  refine callsIn_of_wp Tryd.func97 rfl trivial ?_ rfl
  simp only [Tryd.ntmps97, List.size_toArray, List.length_cons, List.length_nil, Nat.reduceAdd, Nat.reduceSub, Array.replicate_succ, Array.replicate_zero, List.push_toArray, List.append_toArray, List.nil_append, List.cons_append]
  gi_wp2
  gi_loopw [3] (fun q wr => ∃ j : Nat, j ≤ (M.bz x).length ∧ q = .int .u64 (M.less j x : Nat) ∧ Hid (J ((M.bz x).take j) wr) ∧ Tab wr) (fun q _ => (intOf q).toNat)
  case atStart => exact ⟨0, by omega, rfl, h0, hT⟩
  case round =>
    obtain ⟨j, hj, rfl, hJ, hTr⟩ := hrel
    have hlt := M.less_lt j x hx
    by_cases hjl : j < (M.bz x).length
    · have hlow := low_at hx hjl
      have hne := less_ne hx hjl
      have hs := Lib.hid (M.less_succ j x)
      have hpl := pred_lt hne
      have htk := Lib.hid (show (M.bz x).take (j + 1) = (M.bz x).take j ++ [(M.bz x)[j]] by rw [List.take_succ_eq_append_getElem hjl])
      obtain ⟨fn, tmps, assign, body, hy, hR⟩ := hY _ (M.bz x)[j] wr hJ.out (by rw [List.length_take]; omega)
      generalize (M.bz x)[j] = y at *
      generalize M.less j x = r at *
      have hr0 : ((r : Int) == 0) = false := by simp; omega
      have hr1 : ((r : Int) != 0) = true := by simp; omega
      gi_wp2_with (refine ⟨trivial, ?_⟩; gi_at_call 82; refine (callsIn_wide.2 (bit_low r hlt _ hTr)).mono ?_; rintro e w' ⟨rfl, rfl⟩)
      refine hR.mono ?_
      rintro e W3 (⟨rfl, hJ3, hk3⟩ | ⟨rfl, hJx3⟩)
      · have hT3 := hTr.below hk3 h0n
        have hJ4 : Hid (J ((M.bz x).take (j + 1)) W3) := by rw [htk.out]; exact hJ3
        gi_wp2_with (refine ⟨trivial, ?_⟩; gi_at_call 81; refine (callsIn_wide.2 (bit_less r hlt _)).mono ?_; rintro e w' ⟨rfl, rfl⟩)
        go_roundw
        case rel => exact ⟨j + 1, by omega, by rw [hs.out], hJ4, hT3⟩
        case measure => simp [intOf]; omega
      · have hJ4 : Hid (Jx ((M.bz x).take (j + 1)) W3) := by rw [htk.out]; exact hJx3
        gi_wp2
        refine bodyPost_ret (results_none rfl _ _ _) rfl ?_
        exact ⟨⟨_, rfl⟩, .inr ⟨_, List.take_prefix _ _, hJ4.out⟩⟩
    · have he := less_end hx hjl
      rw [he] at hlt
      rw [he]
      have hJ4 : Hid (J (M.bz x) wr) := by
        have := hJ.out
        rw [List.take_of_length_le (by omega)] at this
        exact this
      gi_wp2
      go_end0
      exact ⟨⟨_, rfl⟩, .inl ⟨_, rfl, hJ4.out⟩⟩

/-- The iterator that Rising hands back. -/
theorem rising_stops (n : Nat) (hn : 1 ≤ n) (Bn n₀ : Nat) (h0n : 0 < n₀) (x : Nat) (hx : x < 18446744073709551616) (w : World) (hBn : Bn < w.heap.size) (hT : Tab w)
    (hc : w.cell? ⟨Bn, 0, none⟩ = some (.int .u64 (x : Int))) :
    SeqStopsK Fence.wide n Tryd.prog 97 #[.pointer (some ⟨Bn, 0, none⟩)] (fun y : Int => #[Value.int .i64 y]) (Below n₀) (fun ys => ys = M.bz x) (fun pre => pre <+: M.bz x) (M.bz x).length w := fun l J Jx W hW _ _ hY h0 =>
  rising1 n hn l Bn n₀ h0n x hx J Jx hY W (hT.below hW hT.pos) ((hW.cell (p := ⟨Bn, 0, none⟩) hBn).trans hc) h0
theorem rising_any (x : Nat) (w : World) :
    Calls Tryd.prog 85 #[.int .u64 (x : Int)] w fun e w' => e = .returned (.func (.func 97) #[] #[.pointer (some ⟨w.heap.size, 0, none⟩)]) ∧ w' = w.alloc (.cells #[.int .u64 (x : Int)] 30) := by
  go_enter Tryd.func85, Tryd.ntmps85
  go_wp2
  go_ret
  exact ⟨rfl, rfl⟩

/-- Without the highest bit, j times. -/
def hless : Nat → Nat → Nat
  | 0, x => x
  | j + 1, x => hless j x &&& (18446744073709551615 - M.one (M.high (hless j x)))
theorem hless_lt {x : Nat} (hx : x < 18446744073709551616) (j : Nat) : hless j x < 18446744073709551616 := by
  induction j with
  | zero => exact hx
  | succ j ih => exact Nat.lt_of_le_of_lt Nat.and_le_left ih
theorem bz_hless {x : Nat} (j : Nat) (hj : j ≤ (M.bz x).length) : M.bz (hless j x) = (M.bz x).take ((M.bz x).length - j) := by
  induction j with
  | zero => rw [hless, Nat.sub_zero, List.take_length]
  | succ j ih =>
    have ih := ih (by omega)
    obtain ⟨m, hm⟩ : ∃ m, (M.bz x).length - j = m + 1 := ⟨(M.bz x).length - j - 1, by omega⟩
    have hml : m < (M.bz x).length := by omega
    have e1 : (M.bz x).length - (j + 1) = m := by omega
    rw [hm, List.take_succ_eq_append_getElem hml] at ih
    have hh : M.high (hless j x) = (M.bz x)[m] := by
      unfold M.high
      rw [ih, List.getLast?_concat]; rfl
    have hmem := M.mem_bz.1 (List.getElem_mem hml)
    rw [hless, hh, M.bz_clear _ _ hmem.1 hmem.2.1, ih, e1]
    unfold M.drop
    rw [List.filter_append]
    have hs := M.bz_sorted x
    have hsp : M.bz x = (M.bz x).take m ++ (M.bz x)[m] :: (M.bz x).drop (m + 1) := by
      rw [← List.drop_eq_getElem_cons hml, List.take_append_drop]
    rw [hsp] at hs
    have h1 := (M.sorted_split hs).1
    rw [List.filter_eq_self.2 (fun y hy => by have := h1 y hy; simp; omega)]
    simp
theorem high_at {x j : Nat} (hj : j < (M.bz x).length) : M.high (hless j x) = (M.bz x).reverse[j]'(by simpa using hj) := by
  obtain ⟨m, hm⟩ : ∃ m, (M.bz x).length - j = m + 1 := ⟨(M.bz x).length - j - 1, by omega⟩
  have hml : m < (M.bz x).length := by omega
  unfold M.high
  rw [bz_hless j (by omega), hm, List.take_succ_eq_append_getElem hml, List.getElem_reverse]
  have e : (M.bz x).length - 1 - j = m := by omega
  rw [List.getLast?_concat]
  simp [e]
theorem hless_ne {x j : Nat} (hj : j < (M.bz x).length) : hless j x ≠ 0 := by
  intro h0
  have := bz_hless (x := x) j (by omega)
  rw [h0] at this
  have h2 := congrArg List.length this
  rw [List.length_take] at h2
  simp [M.bz, M.bl_zero] at h2
  rw [M.bz_len] at hj
  omega
theorem hless_end {x j : Nat} (hx : x < 18446744073709551616) (hj : j ≤ (M.bz x).length) (hjl : ¬ j < (M.bz x).length) : hless j x = 0 := by
  have := bz_hless (x := x) j hj
  have e : (M.bz x).length - j = 0 := by omega
  rw [e, List.take_zero] at this
  have h2 : M.bl (hless j x) = [] := by
    unfold M.bz at this
    simpa using this
  exact M.bl_nil (hless_lt hx j) h2
theorem hless_dec {x j : Nat} (hj : j < (M.bz x).length) : hless (j + 1) x < hless j x := by
  have hle : hless (j + 1) x ≤ hless j x := Nat.and_le_left
  refine Nat.lt_of_le_of_ne hle fun h => ?_
  have h1 := bz_hless (x := x) j (by omega)
  have h2 := bz_hless (x := x) (j + 1) (by omega)
  rw [h, h1] at h2
  have := congrArg List.length h2
  rw [List.length_take, List.length_take] at this
  omega
end Go.Proofs.YtbiingpdchoppaaDoor
end
section
namespace Go.Proofs.YtbiingpdchoppaaDoor
open Go.RowKit Go.Shelf
attribute [local go_sem] Oper.semAt_some
theorem prefix_snoc {α : Type} {pre l : List α} {x : α} (h : pre ++ [x] <+: l) : x ∈ l := by
  obtain ⟨r, rfl⟩ := h
  simp
theorem SeqW.inRound {α : Type} {F : Fence} {n : Nat} {P : Program} {g : Nat} {lb : Array Value} {encs : α → Array Value} {Z : Nat → Prop} {S Sp T : List α → Prop} {w : World} (l : Nat)
    (h : SeqW F n P g lb encs Z S Sp T w) : SeqW (F.inRound l) n P g lb encs Z S Sp T w := h
theorem Tab.but {W W' : World} {S : Nat → Prop} (hT : Tab W) (h : ButS W W' S) (h0 : ¬ S 0) : Tab W' := fun j hj => (h.cell hT.pos h0 j).trans (hT j hj)
set_option maxRecDepth 100000 in
set_option maxHeartbeats 1000000 in
theorem risingT (n : Nat) (hn : 1 ≤ n) (l Bn : Nat) (x : Nat) (hx : x < 18446744073709551616) (J Jx : List Int → World → Prop)
    (hY : ∀ pre y W, J pre W → Tab W → (pre ++ [y]) <+: M.bz x → YieldAt Fence.wide (n - 1) Tryd.prog l #[.int .i64 y] W fun e W' =>
      (e = .returned (.bool true) ∧ J (pre ++ [y]) W' ∧ Tab W') ∨ (e = .returned (.bool false) ∧ Jx (pre ++ [y]) W'))
    (W : World) (hT : Tab W) (hBn : W.cell? ⟨Bn, 0, none⟩ = some (.int .u64 (x : Int))) (h0 : J [] W) :
    CallsIn Fence.wide n Tryd.prog 97 #[.func (.yield l) #[] #[], .pointer (some ⟨Bn, 0, none⟩)] W fun e W' => (∃ v, e = .returned v) ∧
      ((∃ ys, ys = M.bz x ∧ J ys W') ∨ (∃ pre, pre <+: M.bz x ∧ Jx pre W')) := by
  refine callsIn_of_wp Tryd.func97 rfl trivial ?_ rfl
  simp only [Tryd.ntmps97, List.size_toArray, List.length_cons, List.length_nil, Nat.reduceAdd, Nat.reduceSub, Array.replicate_succ, Array.replicate_zero, List.push_toArray, List.append_toArray, List.nil_append, List.cons_append]
  gi_wp2
  gi_loopw [3] (fun q wr => ∃ j : Nat, j ≤ (M.bz x).length ∧ q = .int .u64 (M.less j x : Nat) ∧ Hid (J ((M.bz x).take j) wr) ∧ Tab wr) (fun q _ => (intOf q).toNat)
  case atStart => exact ⟨0, by omega, rfl, h0, hT⟩
  case round =>
    obtain ⟨j, hj, rfl, hJ, hTr⟩ := hrel
    have hlt := M.less_lt j x hx
    by_cases hjl : j < (M.bz x).length
    · have hlow := low_at hx hjl
      have hne := less_ne hx hjl
      have hs := Lib.hid (M.less_succ j x)
      have hpl := pred_lt hne
      have htk := Lib.hid (show (M.bz x).take (j + 1) = (M.bz x).take j ++ [(M.bz x)[j]] by rw [List.take_succ_eq_append_getElem hjl])
      obtain ⟨fn, tmps, assign, body, hy, hR⟩ := hY _ (M.bz x)[j] wr hJ.out hTr (by rw [← htk.out]; exact List.take_prefix _ _)
      generalize (M.bz x)[j] = y at *
      generalize M.less j x = r at *
      have hr0 : ((r : Int) == 0) = false := by simp; omega
      have hr1 : ((r : Int) != 0) = true := by simp; omega
      gi_wp2_with (refine ⟨trivial, ?_⟩; gi_at_call 82; refine (callsIn_wide.2 (bit_low r hlt _ hTr)).mono ?_; rintro e w' ⟨rfl, rfl⟩)
      refine hR.mono ?_
      rintro e W3 (⟨rfl, hJ3, hT3⟩ | ⟨rfl, hJx3⟩)
      · have hJ4 : Hid (J ((M.bz x).take (j + 1)) W3) := by rw [htk.out]; exact hJ3
        gi_wp2_with (refine ⟨trivial, ?_⟩; gi_at_call 81; refine (callsIn_wide.2 (bit_less r hlt _)).mono ?_; rintro e w' ⟨rfl, rfl⟩)
        go_roundw
        case rel => exact ⟨j + 1, by omega, by rw [hs.out], hJ4, hT3⟩
        case measure => simp [intOf]; omega
      · have hJ4 : Hid (Jx ((M.bz x).take (j + 1)) W3) := by rw [htk.out]; exact hJx3
        gi_wp2
        refine bodyPost_ret (results_none rfl _ _ _) rfl ?_
        exact ⟨⟨_, rfl⟩, .inr ⟨_, List.take_prefix _ _, hJ4.out⟩⟩
    · have he := less_end hx hjl
      rw [he] at hlt
      rw [he]
      have hJ4 : Hid (J (M.bz x) wr) := by
        have := hJ.out
        rw [List.take_of_length_le (by omega)] at this
        exact this
      gi_wp2
      go_end0
      exact ⟨⟨_, rfl⟩, .inl ⟨_, rfl, hJ4.out⟩⟩

theorem rising_w (n : Nat) (hn : 1 ≤ n) (Bn : Nat) (Z : Nat → Prop) (hZ0 : Z 0) (x : Nat) (hx : x < 18446744073709551616) (w : World) (hBn : Bn < w.heap.size) (hT : Tab w)
    (hc : w.cell? ⟨Bn, 0, none⟩ = some (.int .u64 (x : Int))) :
    SeqW Fence.wide n Tryd.prog 97 #[.pointer (some ⟨Bn, 0, none⟩)] (fun y : Int => #[Value.int .i64 y]) Z (fun ys => ys = M.bz x) (fun pre => pre <+: M.bz x) (fun pre => pre <+: M.bz x) w := by
  intro l J Jx W hW hJ hJx hY h0
  refine (risingT n hn l Bn x hx (fun pre W => J pre (fun _ => False) W) (fun pre W => Jx pre (fun _ => False) W) (fun pre y W1 hj hT1 hp => ?_) W (hT.below hW hT.pos) ((hW.cell (p := ⟨Bn, 0, none⟩) hBn).trans hc) h0).mono ?_
  · refine (hY pre y (fun _ => False) W1 hj hp).mono ?_
    rintro e W' ⟨⟨h1, h2⟩ | ⟨h1, h2⟩, hb⟩
    · exact .inl ⟨h1, h2, hT1.but hb (fun h => h (.inl hZ0))⟩
    · exact .inr ⟨h1, h2⟩
  · rintro e W' ⟨h1, ⟨ys, h2, h3⟩ | ⟨pre, h2, h3⟩⟩
    · exact ⟨h1, .inl ⟨ys, _, h2, h3⟩⟩
    · exact ⟨h1, .inr ⟨pre, _, h2, h3⟩⟩
end Go.Proofs.YtbiingpdchoppaaDoor
end
