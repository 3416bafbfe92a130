/- runs.gaps: the runs of all other numbers; the text walked. Runs handed over: a copy, two or three lists behind one another; the texts walked. runs.Fill; the text walked. runs.Wipe; the text walked. runs.Add and runs.Drop; the texts walked. runs.List; the text walked. How many runs the document's set has; are runs and a set the same; the texts walked. -/
import Derived.Test.YtkehehfphccpbaaGreatDoorMgRb
section
namespace Go.Proofs.YtkehehfphccpbaaGreatDoor.R
set_option maxRecDepth 40000
open Go.RowKit
theorem u16_in {x : Int} (h0 : 0 ≤ x) (h : x ≤ 65535) : IntKind.u16.wrap x = x := by
  simp [IntKind.wrap, IntKind.signed, IntKind.bits]
  omega
theorem own_more {w : World} {base n : Nat} {v : Value} {gs : List (Int × Int)} {a b : Int} (hn : n = gs.length) (h : w.ownsRow base 112 2 v (n + 1) (rv gs ++ [.int .u16 a, .int .u16 b])) : w.ownsRow base 112 2 v (gs ++ [(a, b)]).length (rv (gs ++ [(a, b)])) := by
  subst hn
  rw [rv_append, List.length_append]
  exact h
theorem own_slice {w : World} {base n : Nat} {v : Value} {xs : List Value} (h : w.ownsRow base 112 2 v n xs) : ∃ A c, v = .slice A n c := by
  rcases h.2 with ⟨h1, h0⟩ | ⟨g, cap, cur, h1, _⟩
  · exact ⟨none, 0, by rw [h1, h0]⟩
  · exact ⟨_, cap, h1⟩
theorem box_kept {wr wn : World} {base n : Nat} {e T : TypeId} {v f t : Value} {xs : List Value} {o' : Obj} (h : wr.ownsRow base e 2 v n xs) (hg : ((wr.alloc (.cells #[f, t] T)).alloc o').grownBy wn v.ownBlock) : wn.cell? ⟨wr.heap.size, 0, none⟩ = some f ∧ wn.cell? ⟨wr.heap.size, 1, none⟩ = some t := by
  have h1 : ((wr.alloc (.cells #[f, t] T)).alloc o').heap[wr.heap.size]? = some (.cells #[f, t] T (0, 0)) := by
    have a := alloc_topI wr (.cells #[f, t] T)
    have b := (Below.refl (wr.alloc (.cells #[f, t] T)).heap.size (wr.alloc (.cells #[f, t] T))).alloc (Nat.le_refl _) o'
    exact (b.block wr.heap.size (by simp)).trans a
  have h2 : wn.heap[wr.heap.size]? = some (.cells #[f, t] T (0, 0)) := (hg.block wr.heap.size (by simp; omega) (fun he => by
    have := (h.lt _ he.symm).2
    omega)).trans h1
  exact ⟨by rw [cell_of_row _ _ 0 _ _ (0, 0) h2]; rfl, by rw [cell_of_row _ _ 1 _ _ (0, 0) h2]; rfl⟩
end Go.Proofs.YtkehehfphccpbaaGreatDoor.R
end
section
namespace Go.Proofs.YtkehehfphccpbaaGreatDoor.R
set_option maxRecDepth 40000
open Go.RowKit
theorem ok_flat {rs : List (Int × Int)} (h : Rn.Ok rs) : (Rn.flat rs).length ≤ 65536 := by
  have h1 := M.up_len (xs := (List.range 65536).map fun k : Nat => (k : Int)) (Rn.flat_up h) (fun y hy => by
    have := Rn.V_range h (Rn.mem_flat.1 hy)
    exact List.mem_map.2 ⟨y.toNat, List.mem_range.2 (by omega), by omega⟩)
  rw [List.length_map, List.length_range] at h1
  exact h1
theorem ok_len {rs : List (Int × Int)} (h : Rn.Ok rs) : rs.length ≤ 65536 := by
  have h1 := M.up_len (xs := (List.range 65536).map fun k : Nat => (k : Int)) (Rn.firsts_up h) (fun y hy => by
    have := Rn.V_range h ((Rn.first_in h y).1 hy).1
    exact List.mem_map.2 ⟨y.toNat, List.mem_range.2 (by omega), by omega⟩)
  rw [List.length_map, List.length_map, List.length_range] at h1
  exact h1
theorem split3 {rs : List (Int × Int)} {i j : Nat} (h : i ≤ j) : rs.take i ++ (rs.take j).drop i ++ rs.drop j = rs := by
  have e : rs.take i = (rs.take j).take i := by rw [List.take_take, Nat.min_eq_left h]
  rw [e, List.take_append_drop, List.take_append_drop]
/-- What a call answers: a new row of runs. -/
def ResP (w : World) (S : Int → Prop) (e : Ending) (w' : World) : Prop := ∃ (val : Value) (qs : List (Int × Int)), e = .returned val ∧ Rn.Ok qs ∧ (∀ x, Rn.V qs x ↔ S x) ∧ w'.ownsRow w.heap.size 112 2 val qs.length (rv qs) ∧ Below w.heap.size w w'
theorem own_low {w : World} {base b n : Nat} {v : Value} {xs : List Value} (h : w.ownsRow base 112 2 v n xs) (hb : b ≤ base) : w.ownsRow b 112 2 v n xs := by
  refine ⟨h.1, ?_⟩
  rcases h.2 with h1 | ⟨g, cap, cur, h1, h2, h3⟩
  · exact .inl h1
  · exact .inr ⟨g, cap, cur, h1, Nat.le_trans hb h2, h3⟩
end Go.Proofs.YtkehehfphccpbaaGreatDoor.R
end
section
namespace Go.Proofs.YtkehehfphccpbaaGreatDoor.R
set_option maxRecDepth 40000
open Go.RowKit
theorem rq_one (w : World) (a b : Int) : Rq (w.alloc (.cells #[.int .u16 a, .int .u16 b] 112)) (w.heap.size + 1) (some ⟨w.heap.size, 0, none⟩) [(a, b)] := fun _ => by
  have h := alloc_topI w (.cells #[.int .u16 a, .int .u16 b] 112)
  refine ⟨w.heap.size, 0, rfl, by omega, fun k hk => ?_⟩
  have hk0 : k = 0 := by simp at hk; exact hk
  subst hk0
  exact ⟨by rw [cell_of_row _ _ _ _ _ (0, 0) h]; rfl, by rw [cell_of_row _ _ _ _ _ (0, 0) h]; rfl⟩
theorem take_mem {ws : List (Int × Int)} {k : Nat} (hk : k < ws.length) (r : Int × Int) : r ∈ ws.take (k + 1) ↔ r ∈ ws.take k ∨ r = ws[k] := by
  rw [List.take_succ_eq_append_getElem hk, List.mem_append, List.mem_singleton]
end Go.Proofs.YtkehehfphccpbaaGreatDoor.R
end
section
namespace Go.Proofs.YtkehehfphccpbaaGreatDoor.R
set_option maxRecDepth 40000
open Go.RowKit
theorem cuts_take {f t : Int} {ws : List (Int × Int)} {k : Nat} (h : k < ws.length) : Rn.cuts f t (ws.take (k + 1)) = Rn.cuts f t (ws.take k) ++ Rn.cut f t ws[k] := by
  rw [List.take_succ_eq_append_getElem h]
  unfold Rn.cuts
  rw [List.flatMap_append]
  simp
theorem cuts_len (f t : Int) (ws : List (Int × Int)) : (Rn.cuts f t ws).length ≤ 2 * ws.length := by
  induction ws with
  | nil => exact Nat.le_refl _
  | cons r ws ih =>
    show (Rn.cut f t r ++ Rn.cuts f t ws).length ≤ _
    have : (Rn.cut f t r).length ≤ 2 := by unfold Rn.cut; split <;> split <;> simp
    rw [List.length_append, List.length_cons]
    omega
end Go.Proofs.YtkehehfphccpbaaGreatDoor.R
end
section
namespace Go.Proofs.YtkehehfphccpbaaGreatDoor.R
set_option maxRecDepth 40000
open Go.RowKit
end Go.Proofs.YtkehehfphccpbaaGreatDoor.R
end
section
namespace Go.Proofs.YtkehehfphccpbaaGreatDoor.R
set_option maxRecDepth 40000
open Go.RowKit
theorem nums_at {f t : Int} {j : Nat} (h : j < (Rn.nums (f, t)).length) : (Rn.nums (f, t))[j] = f + (j : Int) := by
  have h1 : j < (t - f + 1).toNat := by rw [Rn.nums_len] at h; exact h
  have h2 : (Rn.nums (f, t))[j]? = some (f + (j : Int)) := by
    unfold Rn.nums
    rw [List.getElem?_map, List.getElem?_range h1]
    rfl
  rw [List.getElem?_eq_getElem h] at h2
  exact Option.some.inj h2
theorem own16_ne {w : World} {base n g : Nat} {v : Value} {xs : List Value} {cs : Array Value} (h : w.ownsRow base 35 1 v n xs) (hb : w.heap[g]? = some (.cells cs 112 (0, 0))) : some g ≠ v.ownBlock := fun e => by
  rcases h.2 with ⟨rfl, _⟩ | ⟨g', cap, cur, rfl, _, h3, _⟩
  · cases e
  · cases e
    rw [hb] at h3
    cases h3
theorem own16_slice {w : World} {base n : Nat} {v : Value} {xs : List Value} (h : w.ownsRow base 35 1 v n xs) : ∃ A c, v = .slice A n c := by
  rcases h.2 with ⟨h1, h0⟩ | ⟨g, cap, cur, h1, _⟩
  · exact ⟨none, 0, by rw [h1, h0]⟩
  · exact ⟨_, cap, h1⟩
set_option maxHeartbeats 16000000 in
set_option maxRecDepth 100000 in
theorem r_list (w : World) (B n c : Nat) (A : Option Addr) (rs : List (Int × Int)) (hn : n = rs.length) (hr : Rq w B A rs) (hB : B ≤ w.heap.size) (hg : Rn.Ok rs) :
    Calls Tryz.prog 187 #[.slice A n c] w fun e w' => ∃ v, e = .returned v ∧ w'.ownsRow w.heap.size 35 1 v (Rn.flat rs).length (hv (Rn.flat rs)) ∧ Below w.heap.size w w' := by
  obtain ⟨i0, hi, hz0, hz1, hz2⟩ := info_parts u16_info
  have few : n ≤ 65536 := by rw [hn]; exact ok_len hg
  have HFL := Lib.hid (ok_flat hg)
  have HR := Lib.hid hr
  have HN := Lib.hid hn
  have HG := Lib.hid hg
  clear hr hn hg
  go_enter Tryz.func187, Tryz.ntmps187
  go_wp2
  go_loopw [3, 9] (fun va vi wr => ∃ k : Nat, k ≤ n ∧ vi = .int .i64 k ∧ Hid (wr.ownsRow w.heap.size 35 1 va (Rn.flat (rs.take k)).length (hv (Rn.flat (rs.take k)))) ∧ Hid (Below w.heap.size w wr)) (fun _ vi _ => n - (intOf vi).toNat)
  case atStart => exact ⟨0, Nat.zero_le _, rfl, Lib.hid ⟨rfl, .inl ⟨rfl, rfl⟩⟩, Lib.hid (Below.refl _ _)⟩
  case round =>
    obtain ⟨k, hk, rfl, HO, HW⟩ := hrel
    obtain ⟨va, hva⟩ : ∃ v, v = u3 := ⟨_, rfl⟩
    subst hva
    by_cases hlt : k < n
    · have hkx : k < rs.length := by rw [← HN.out]; exact hlt
      obtain ⟨b, off, hA, _, c1, c2⟩ := (HR.out.below HW.out hB).at hkx
      subst hA
      have hgd := HG.out.1 _ (List.getElem_mem hkx)
      unfold Rn.Good at hgd
      have HT := Lib.hid (Rn.flat_take hkx)
      have hle := flat_le (rs := rs) (k := k + 1)
      rw [HT.out] at hle
      obtain ⟨x, hx⟩ : ∃ x, x = rs[k] := ⟨_, rfl⟩
      rw [← hx] at c1 c2 hgd HT hle
      clear hx
      obtain ⟨f, t⟩ := x
      simp only at c1 c2 hgd
      obtain ⟨m, hm⟩ : ∃ m, m = (t - f + 1).toNat := ⟨_, rfl⟩
      have hml : (Rn.nums (f, t)).length = m := by rw [Rn.nums_len, hm]
      have hmi : t = f + (m : Int) - 1 := by omega
      have HML := Lib.hid hml
      have HMI := Lib.hid hmi
      have hle2 : (Rn.flat (rs.take k)).length + m ≤ 65536 := by rw [List.length_append, hml] at hle; exact Nat.le_trans hle HFL.out
      have HLE := Lib.hid hle2
      obtain ⟨ds, hds⟩ : ∃ ds, Rn.flat (rs.take k) = ds := ⟨_, rfl⟩
      rw [hds] at HO HT HLE
      have HBX : Hid ((wr.alloc (.cells #[.int .u16 f, .int .u16 t] 112)).heap[wr.heap.size]? = some (.cells #[.int .u16 f, .int .u16 t] 112 (0, 0))) := Lib.hid (alloc_topI wr _)
      have HO1 := Lib.hid (HO.out.alloc (.cells #[.int .u16 f, .int .u16 t] 112))
      have HW1 := Lib.hid (HW.out.alloc HW.out.size (.cells #[.int .u16 f, .int .u16 t] 112))
      have wf : IntKind.i64.wrap f = f := IntWalk.i64_in _ (by omega)
      have wt : IntKind.i64.wrap t = t := IntWalk.i64_in _ (by omega)
      clear hml hm hle hle2 hds HO HW hmi
      go_wp2
      clear c1 c2
      generalize wr.alloc (.cells #[.int .u16 f, .int .u16 t] 112) = wb at *
      obtain ⟨g5, hg5⟩ : ∃ g5, wr.heap.size = g5 := ⟨_, rfl⟩
      rw [hg5] at HBX
      rw [hg5]
      clear hg5
      go_loopw [3, 6] (fun vx vv wi => ∃ j : Nat, j ≤ m ∧ vv = .int .i64 (f + (j : Int)) ∧ Hid (wi.ownsRow w.heap.size 35 1 vx (ds ++ (Rn.nums (f, t)).take j).length (hv (ds ++ (Rn.nums (f, t)).take j))) ∧ Hid (Below w.heap.size w wi) ∧ Hid (wi.heap[g5]? = some (.cells #[.int .u16 f, .int .u16 t] 112 (0, 0)))) (fun _ vv _ => (t + 1 - intOf vv).toNat)
      case atStart => exact ⟨0, Nat.zero_le _, by simp, Lib.hid (by simpa using HO1.out), HW1, HBX⟩
      case round =>
        obtain ⟨j, hj, rfl, HO, HW, HX⟩ := hrel
        obtain ⟨wi, hwi⟩ : ∃ x, x = wr := ⟨_, rfl⟩
        subst hwi
        obtain ⟨vx, hvx⟩ : ∃ v, v = u3 := ⟨_, rfl⟩
        subst hvx
        have d0 : wi.cell? ⟨g5, 0, none⟩ = some (.int .u16 f) := by rw [cell_of_row _ _ 0 _ _ (0, 0) HX.out]; rfl
        have d1 : wi.cell? ⟨g5, 1, none⟩ = some (.int .u16 t) := by rw [cell_of_row _ _ 1 _ _ (0, 0) HX.out]; rfl
        by_cases hjm : j < m
        · have hjt : f + (j : Int) ≤ t := by have := HMI.out; omega
          have w4 : IntKind.u16.wrap (f + (j : Int)) = f + (j : Int) := u16_in (by omega) (by omega)
          have w5 : IntKind.i64.wrap (f + (j : Int) + 1) = f + (j : Int) + 1 := IntWalk.i64_in _ (by omega)
          have hjn : j < (Rn.nums (f, t)).length := by rw [HML.out]; exact hjm
          have hts : ds ++ (Rn.nums (f, t)).take (j + 1) = ds ++ (Rn.nums (f, t)).take j ++ [f + (j : Int)] := by rw [List.take_succ_eq_append_getElem hjn, nums_at, List.append_assoc]
          have HTS := Lib.hid hts
          have hlen : (ds ++ (Rn.nums (f, t)).take j).length ≤ 65536 := by rw [List.length_append, List.length_take]; have := HLE.out; omega
          clear hts
          generalize ds ++ (Rn.nums (f, t)).take j = es at *
          obtain ⟨y, hy⟩ : ∃ y, y = f + (j : Int) := ⟨_, rfl⟩
          rw [← hy] at w4 w5 hjt HTS
          rw [← hy]
          have HY := Lib.hid hy
          clear hy
          go_wp2_with (at_builtin; refine wpList_append_own _ rfl _ _ 37 rfl w.heap.size 35 i0 (.int .u16 0) 1 2 Tryz.underlying37 hi hz0 hz1 hz2 rfl (by decide) _ _ _ rfl (HO.out.alloc _) ⟨wi.heap.size, 0, none⟩ 1 1 [.int .u16 y] rfl rfl ?c1 ?c2 ?c3 ?c4 ?c5 ?_)
          case c1 => exact cell_oneB _ _ _
          case c2 => first | exact one_intB _ _ | rfl
          case c3 => unfold maxLen; omega
          case c4 => omega
          case c5 => have := HW.out.size; simp; omega
          intro v' wn hown' hgrow _
          have HXN : Hid (wn.heap[g5]? = some (.cells #[.int .u16 f, .int .u16 t] 112 (0, 0))) := Lib.hid (by
            have hlt5 : g5 < wi.heap.size := (Array.getElem?_eq_some_iff.1 HX.out).1
            have h1 := ((Below.refl wi.heap.size wi).alloc (Nat.le_refl _) (.cells #[.int .u16 y] 35)).block g5 hlt5
            exact (hgrow.block g5 (by simp; omega) (own16_ne HO.out HX.out)).trans (h1.trans HX.out))
          obtain ⟨hown2, hb2⟩ := own_snocH HW.out HO.out hown' hgrow
          rw [← HTS.out] at hown2
          have HO2 := Lib.hid hown2
          have HW2 := Lib.hid hb2
          have e0 : wn.cell? ⟨g5, 0, none⟩ = some (.int .u16 f) := by rw [cell_of_row _ _ 0 _ _ (0, 0) HXN.out]; rfl
          have e1 : wn.cell? ⟨g5, 1, none⟩ = some (.int .u16 t) := by rw [cell_of_row _ _ 1 _ _ (0, 0) HXN.out]; rfl
          clear hown' hgrow hown2 hb2 d0 d1
          go_wp2
          go_roundw
          case rel => exact ⟨j + 1, by omega, by rw [HY.out]; congr 1; omega, HO2, HW2, HXN⟩
          case measure => simp [intOf]; omega
        · have hjt : ¬ f + (j : Int) ≤ t := by have := HMI.out; omega
          have hfin : Hid (ds ++ (Rn.nums (f, t)).take j = Rn.flat (rs.take (k + 1))) := Lib.hid (by rw [HT.out, List.take_of_length_le (by rw [HML.out]; omega)])
          go_wp2
          go_roundw
          case rel => exact ⟨k + 1, by omega, by go_num, Lib.hid (by rw [← hfin.out]; exact HO.out), HW⟩
          case measure => simp [intOf]; omega
    · have hkn : rs.take k = rs := List.take_of_length_le (by rw [← HN.out]; omega)
      rw [hkn] at HO
      obtain ⟨A', c', rfl⟩ := own16_slice HO.out
      go_wp2
      go_ret
      exact ⟨_, rfl, HO.out, HW.out⟩
end Go.Proofs.YtkehehfphccpbaaGreatDoor.R
end
section
namespace Go.Proofs.YtkehehfphccpbaaGreatDoor.R
set_option maxRecDepth 40000
open Go.RowKit
def cst (S : List Int) (l : List Int) : Nat := (l.filter fun x => !decide ((x - 1) ∈ S)).length
theorem cst_step {bs : List Bool} {k : Nat} (hk : k < bs.length) (S : List Int) : cst S (M.L (bs.take (k + 1))) = cst S (M.L (bs.take k)) + if bs[k] && !decide (((k : Int) - 1) ∈ S) then 1 else 0 := by
  unfold cst
  rw [M.L_take hk, List.filter_append, List.length_append]
  cases bs[k]
  · simp
  · by_cases h : ((k : Int) - 1) ∈ S <;> simp [h]
theorem cst_le (S : List Int) (l : List Int) : cst S l ≤ l.length := List.length_filter_le _ _
theorem prev_in {bs : List Bool} {k : Nat} (hk : k + 1 < bs.length) : decide ((((k + 1 : Nat) : Int) - 1) ∈ M.L bs) = bs[k]'(by omega) := by
  rw [Bool.eq_iff_iff, decide_eq_true_eq, M.L_in]
  have e : (((k + 1 : Nat) : Int) - 1).toNat = k := by omega
  rw [e, List.getElem?_eq_getElem (by omega)]
  constructor
  · rintro ⟨_, h⟩; exact Option.some.inj h
  · intro h; exact ⟨by omega, by rw [h]⟩
theorem f_len (w : World) (g n : Nat) (bs : List Bool) (a : Bs w g n bs) :
    Calls Tryz.prog 34 #[.slice (some ⟨g, 0, none⟩) n n] w fun e w' => e = .returned (.int .i64 ((M.L bs).length : Nat)) ∧ w = w' := by
  have H := f_rank w g n bs a 65536
  have e : M.rRank (M.L bs) 65536 = (M.L bs).length := by
    unfold M.rRank
    rw [List.filter_eq_self.2 fun y hy => decide_eq_true (by have := a.range hy; omega)]
  rw [e] at H
  have HH := Lib.hid H
  clear H a
  go_enter Tryz.func34, Tryz.ntmps34
  go_wp2_with (go_at_call 55; (with_reducible refine HH.out.mono ?_); rintro e w' ⟨rfl, rfl⟩)
  go_ret
  exact ⟨rfl, rfl⟩
end Go.Proofs.YtkehehfphccpbaaGreatDoor.R
end
