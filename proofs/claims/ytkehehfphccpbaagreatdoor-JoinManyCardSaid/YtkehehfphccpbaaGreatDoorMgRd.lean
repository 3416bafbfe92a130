/- runs.Has, Next, Prev; the texts walked. runs.Rank and Select; the texts walked. -/
import Derived.Test.YtkehehfphccpbaaGreatDoorMgRc
section
namespace Go.Proofs.YtkehehfphccpbaaGreatDoor.R
set_option maxRecDepth 40000
open Go.RowKit
/-- What stands where, seen from v. -/
theorem parts_in {w w' : World} {B n c i j c2 c3 : Nat} {A A2 A3 : Option Addr} {rs : List (Int × Int)} {v : Int} (h : PartsP w B n c A rs v v i j A2 c2 A3 c3 w') : Rn.V rs v ↔ (rs.take j).drop i ≠ [] := by
  constructor
  · rintro ⟨r, hr, h1, h2⟩ he
    rw [← split3 (rs := rs) h.ij, he, List.append_nil] at hr
    rcases List.mem_append.1 hr with e | e
    · have := h.p1 r e; omega
    · have := h.p3 r e; omega
  · intro he
    obtain ⟨r, hr⟩ := List.exists_mem_of_ne_nil _ he
    have h1 := h.p2 r hr
    exact ⟨r, List.mem_of_mem_take (List.mem_of_mem_drop hr), h1.2, h1.1⟩
theorem in_parts {rs : List (Int × Int)} {i j : Nat} (hij : i ≤ j) {x : Int} : Rn.V rs x ↔ Rn.V (rs.take i) x ∨ Rn.V ((rs.take j).drop i) x ∨ Rn.V (rs.drop j) x := by
  conv => lhs; rw [← split3 (rs := rs) hij]
  rw [Rn.V_append, Rn.V_append, or_assoc]
theorem next_flat {rs : List (Int × Int)} (hg : Rn.Ok rs) {v y : Int} (hy : Rn.V rs y) (hvy : v ≤ y) (hm : ∀ z, Rn.V rs z → v ≤ z → y ≤ z) : M.rNext (Rn.flat rs) v = y :=
  M.next_of (Rn.flat_up hg) (Rn.mem_flat.2 hy) hvy fun z hz h => hm z (Rn.mem_flat.1 hz) h
theorem prev_flat {rs : List (Int × Int)} (hg : Rn.Ok rs) {v y : Int} (hy : Rn.V rs y) (hvy : y ≤ v) (hm : ∀ z, Rn.V rs z → z ≤ v → z ≤ y) : M.rPrev (Rn.flat rs) v = y :=
  M.prev_of (Rn.flat_up hg) (Rn.mem_flat.2 hy) hvy fun z hz h => hm z (Rn.mem_flat.1 hz) h
section
variable (w : World) (B n c : Nat) (A : Option Addr) (rs : List (Int × Int)) (v : Int) (hn : n = rs.length) (hr : Rq w B A rs) (hB : B ≤ w.heap.size) (hg : Rn.Ok rs) (hc : n ≤ c) (hv : 0 ≤ v ∧ v ≤ 65535)
include hn hr hB hg hc hv
set_option maxHeartbeats 4000000 in
set_option maxRecDepth 100000 in
theorem r_has (b : Bool) (hb : b = true ↔ Rn.V rs v) : Calls Tryz.prog 185 #[.slice A n c, .int .u16 v] w fun e w' => e = .returned (.bool b) ∧ Below w.heap.size w w' := by
  have HP := Lib.hid (r_parts w B n c A rs v v hn hr hB hg hc (by rw [hn]; exact Nat.le_trans (ok_len hg) (by omega)))
  have wv : IntKind.i64.wrap v = v := IntWalk.i64_in _ (by omega)
  have HN := Lib.hid hn
  have HBB := Lib.hid hb
  clear hn hr hB hg hc hb
  go_enter Tryz.func185, Tryz.ntmps185
  go_wp2_with (go_at_call 188; (with_reducible refine HP.out.mono ?_); rintro e w2 ⟨i, j, A2, c2, A3, c3, rfl, hPP⟩
               have hin := parts_in hPP
               have hlen : ((rs.take j).drop i).length = j - i := by rw [List.length_drop, List.length_take]; have := hPP.jn; have := HN.out; omega
               have hb2 : decide (0 < ((j - i : Nat) : Int)) = b := by
                 rw [Bool.eq_iff_iff, HBB.out, hin, decide_eq_true_eq, ← hlen]
                 exact ⟨fun h e => by rw [e] at h; simp at h, fun h => by have := Nat.pos_of_ne_zero (fun e => h (List.eq_nil_of_length_eq_zero e)); omega⟩
               have hb3 : decide (0 < j - i) = b := by rw [← hb2, decide_eq_decide]; omega
               have HLO := Lib.hid hPP.low
               obtain ⟨q, hq⟩ : ∃ q, j - i = q := ⟨_, rfl⟩
               rw [hq] at hb2 hb3
               rw [hq]
               clear hPP hin hlen hq)
  go_ret
  exact ⟨by first | rfl | rw [hb2] | rw [hb3] | simp [hb3], HLO.out⟩
end
end Go.Proofs.YtkehehfphccpbaaGreatDoor.R
end
section
namespace Go.Proofs.YtkehehfphccpbaaGreatDoor.R
set_option maxRecDepth 40000
open Go.RowKit
theorem rank_at {xs : List Int} {v : Int} {i : Nat} (hi : i ≤ xs.length) (h1 : ∀ k (h : k < xs.length), k < i → xs[k] < v) (h2 : ∀ k (h : k < xs.length), i ≤ k → v ≤ xs[k]) : M.rRank xs v = i := by
  unfold M.rRank
  have e1 : (xs.take i).filter (fun x => decide (x < v)) = xs.take i := List.filter_eq_self.2 fun x hx => by
    rw [List.mem_take_iff_getElem] at hx
    obtain ⟨k, hk, rfl⟩ := hx
    simpa using h1 k (by omega) (by omega)
  have e2 : (xs.drop i).filter (fun x => decide (x < v)) = [] := List.filter_eq_nil_iff.2 fun x hx => by
    rw [List.mem_drop_iff_getElem] at hx
    obtain ⟨k, hk, rfl⟩ := hx
    have := h2 (i + k) (by omega) (by omega)
    simp; omega
  conv => lhs; rw [← List.take_append_drop i xs]
  rw [List.filter_append, e1, e2]
  simp; omega
theorem rank_app (xs ys : List Int) (v : Int) : M.rRank (xs ++ ys) v = M.rRank xs v + M.rRank ys v := by
  unfold M.rRank
  rw [List.filter_append, List.length_append]
theorem rank_low {xs : List Int} {v : Int} (h : ∀ x ∈ xs, x < v) : M.rRank xs v = xs.length := by
  unfold M.rRank
  rw [List.filter_eq_self.2 fun x hx => decide_eq_true (h x hx)]
theorem rank_high {xs : List Int} {v : Int} (h : ∀ x ∈ xs, v ≤ x) : M.rRank xs v = 0 := by
  unfold M.rRank
  rw [List.filter_eq_nil_iff.2 fun x hx => by have := h x hx; simp; omega]
  rfl
theorem rank_nums {f t v : Int} (h1 : f ≤ v) (h2 : v ≤ t) : M.rRank (Rn.nums (f, t)) v = (v - f).toNat := by
  have hl : (Rn.nums (f, t)).length = (t - f + 1).toNat := Rn.nums_len (f, t)
  refine rank_at (by rw [hl]; omega) (fun k hk h => ?_) (fun k hk h => ?_)
  · rw [nums_at]; omega
  · rw [nums_at]; omega
theorem flat_app (rs qs : List (Int × Int)) : Rn.flat (rs ++ qs) = Rn.flat rs ++ Rn.flat qs := List.flatMap_append
section
variable (w : World) (B n c : Nat) (A : Option Addr) (rs : List (Int × Int)) (hn : n = rs.length) (hr : Rq w B A rs) (hB : B ≤ w.heap.size) (hg : Rn.Ok rs)
include hn hr hB hg
end
end Go.Proofs.YtkehehfphccpbaaGreatDoor.R
end
