/- The document's own sets of 16-bit numbers (stepstoneref06): a row of Bools; the text walked. Lists of 16-bit numbers in memory; the document's New, List, Steps, At, Same; the text walked. The document's Few, Same and Of on lists of 16-bit numbers; the text walked. The document's acts on a set of 16-bit numbers (stepstoneref06.Do, Steps); the text walked. -/
import Derived.Test.YtkehehfphccpbaaGreatDoorProg
import Derived.WalkKit
import Derived.OwnWalk
import Derived.Laws.OwnMore
import Derived.Laws.Rows
import Derived.Below
import Derived.LoopTactic
import Derived.Outline
import Derived.Lib.Hide
import Derived.IntWalk
import Derived.Deep.QuietTactic
import Derived.BigQuiet
import Derived.Lib.Strings
import Derived.Lib.Slices
import Derived.Lib.Small
import Derived.Lib.Walk
import Derived.Maps.AppendAt
import Derived.Deep.AppendLies
import Derived.RegionTactic
import Derived.Test.YtkehehfphccpbaaGreatDoorMgMa
section
namespace Go.Proofs.YtkehehfphccpbaaGreatDoor
set_option maxRecDepth 40000
open Go.RowKit
abbrev bv (bs : List Bool) : List Value := bs.map Value.bool
/-- Block g is the row bs, of n = 65536 Bools. -/
structure Bs (w : World) (g n : Nat) (bs : List Bool) : Prop where
  row : w.heap[g]? = some (.cells (bv bs).toArray 4 (0, 0))
  len : bs.length = n
  top : n = 65536
section
variable {w w' : World} {g n : Nat} {bs cs : List Bool}
theorem Bs.cell (a : Bs w g n bs) (k : Nat) (hk : k < n) : w.cell? ⟨g, k, none⟩ = some (.bool (bs[k]'(by rw [a.len]; exact hk))) := by
  have hk2 : k < bs.length := by rw [a.len]; exact hk
  rw [cell_of_row w g k _ _ (0, 0) a.row]
  simp [hk2]
theorem Bs.frozen (a : Bs w g n bs) (k : Nat) : w.frozen? ⟨g, k, none⟩ = false := by
  have := a.row
  simp [World.frozen?, this]
theorem Bs.lt (a : Bs w g n bs) : g < w.heap.size := (Array.getElem?_eq_some_iff.1 a.row).1
theorem Bs.below {B : Nat} (a : Bs w g n bs) (hb : Below B w w') (hg : g < B) : Bs w' g n bs := ⟨(hb.block g hg).trans a.row, a.len, a.top⟩
theorem Bs.all_below (a : Bs w g n bs) (hb : Below w.heap.size w w') : Bs w' g n bs := a.below hb a.lt
theorem Bs.drew (a : Bs w g n bs) (k : Nat) : Bs (w.drewN k) g n bs := ⟨a.row, a.len, a.top⟩
theorem Bs.grown (a : Bs w g n bs) {r : Option Nat} (h : w.grownBy w' r) (hr : r ≠ some g) : Bs w' g n bs := ⟨(h.block g a.lt (fun e => hr e.symm)).trans a.row, a.len, a.top⟩
theorem Bs.store (a : Bs w g n bs) (k : Nat) (o : Bool) : Bs (w.setCell ⟨g, k, none⟩ (.bool o)) g n (bs.set k o) := by
  refine ⟨?_, by rw [List.length_set]; exact a.len, a.top⟩
  have := a.row
  simp [World.setCell, Array.getElem?_modify, this, bv, List.map_set]
theorem Bs.top_le (a : Bs w g n bs) : n ≤ 65536 := Nat.le_of_eq a.top
theorem Bs.top_ge (a : Bs w g n bs) : 65536 ≤ n := Nat.le_of_eq a.top.symm
theorem Bs.range (a : Bs w g n bs) {y : Int} (hy : y ∈ M.L bs) : 0 ≤ y ∧ y ≤ 65535 := by
  have h1 := M.L_lt hy
  have h2 := a.len
  have h3 := a.top
  omega
end
theorem set_grownB (w : World) (h k : Nat) (u : Value) : w.grownBy (w.setCell ⟨h, k, none⟩ u) (some h) :=
  ⟨rfl, rfl, rfl, by simp [World.setCell], fun j _ hj => by
    unfold World.setCell
    rw [Array.getElem?_modify]
    rw [if_neg (by intro e; exact hj (by rw [← e]))]⟩
theorem grownB_refl (w : World) (r : Option Nat) : w.grownBy w r := ⟨rfl, rfl, rfl, Nat.le_refl _, fun _ _ _ => rfl⟩
theorem grownB_trans {w w1 w2 : World} {r : Option Nat} (h : w.grownBy w1 r) (k : w1.grownBy w2 r) : w.grownBy w2 r :=
  ⟨k.os.trans h.os, k.tape.trans h.tape, k.output.trans h.output, Nat.le_trans h.size k.size, fun j hj hr => (k.block j (Nat.lt_of_lt_of_le hj h.size) hr).trans (h.block j hj hr)⟩
theorem rInt {k : IntKind} {a b : Int} (h : a = b) : Ending.returned (.int k a) = .returned (.int k b) := by rw [h]
theorem rk_le (bs : List Bool) (k : Nat) (h : k ≤ 65536) : (M.L (bs.take k)).length ≤ 65536 := Nat.le_trans (M.L_len_take bs k) h
set_option maxHeartbeats 1000000 in
theorem f_rank (w : World) (g n : Nat) (bs : List Bool) (a : Bs w g n bs) (v : Int) :
    Calls Tryz.prog 55 #[.slice (some ⟨g, 0, none⟩) n n, .int .i64 v] w fun e w' => e = .returned (.int .i64 (M.rRank (M.L bs) v : Nat)) ∧ w = w' := by
  have hn := a.top_le
  have hlen := a.len
  have hLen := Lib.hid hlen
  have ha := Lib.hid a
  have hres := M.L_rank bs v
  have hresH := Lib.hid hres
  clear hlen hres a
  go_enter Tryz.func55, Tryz.ntmps55
  go_wp2
  go_loop [5, 6] (fun c i => ∃ k : Nat, k ≤ n ∧ (k : Int) ≤ max v 0 ∧ i = .int .i64 (k : Int) ∧ c = .int .i64 ((M.L (bs.take k)).length : Nat)) (fun _ i => n - (intOf i).toNat)
  case atStart => exact ⟨0, by omega, by omega, rfl, rfl⟩
  case round =>
    obtain ⟨k, hk, hkv, rfl, rfl⟩ := hrel
    have hcl := M.L_len_take bs k
    by_cases hlt : (k : Int) < v ∧ k < n
    · obtain ⟨h1, h2⟩ := hlt
      have hT1 : decide ((k : Int) < v) = true := decide_eq_true h1
      have hT2 : decide (k < n) = true := decide_eq_true h2
      have hT3 : decide ((k : Int) < (n : Int)) = true := decide_eq_true (by omega)
      have hkl : k < bs.length := by rw [hLen.out]; exact h2
      have hc := ha.out.cell k h2
      have hst := M.L_len_step hkl
      generalize hbk : bs[k] = b at *
      cases b
      · have hS : Hid ((M.L (bs.take (k + 1))).length = (M.L (bs.take k)).length) := by simpa [Hid] using hst
        clear hst hbk
        go_wp2
        go_round
        case rel => exact ⟨k + 1, by omega, by omega, by go_num, by rw [hS.out]⟩
        case measure => simp [intOf]; omega
      · have hS : Hid ((M.L (bs.take (k + 1))).length = (M.L (bs.take k)).length + 1) := by simpa [Hid] using hst
        clear hst hbk
        go_wp2
        go_round
        case rel => exact ⟨k + 1, by omega, by omega, by go_num, by rw [hS.out]; go_num⟩
        case measure => simp [intOf]; omega
    · have hfin : Hid ((M.L (bs.take k)).length = M.rRank (M.L bs) v) := by
        show _ = _
        rw [hresH.out]
        rcases Nat.lt_or_ge k n with h2 | h2
        · have : v.toNat = k := by omega
          rw [this]
        · rw [M.L_all (by rw [hLen.out]; exact h2), M.L_all (k := v.toNat) (by rw [hLen.out]; omega)]
      by_cases h1 : (k : Int) < v
      · have hT1 : decide ((k : Int) < v) = true := decide_eq_true h1
        have hT2 : decide (k < n) = false := decide_eq_false (by omega)
        have hT3 : decide ((k : Int) < (n : Int)) = false := decide_eq_false (by omega)
        go_wp2
        go_ret
        exact ⟨rInt (by rw [hfin.out]), rfl⟩
      · have hT1 : decide ((k : Int) < v) = false := decide_eq_false h1
        go_wp2
        go_ret
        exact ⟨rInt (by rw [hfin.out]), rfl⟩
/-- What a change of the row leaves. -/
def FStep (o : Bool) (w : World) (g n : Nat) (bs : List Bool) (f t : Int) (m : Nat) (w' : World) : Prop :=
  ∃ cs, M.Chg o (M.L bs) (M.L cs) f t m ∧ Bs w' g n cs ∧ w.grownBy w' (some g)
/-- All from f on below i are there (o), or not; as many were changed. -/
def FPart (o : Bool) (bs cs : List Bool) (f i c : Nat) : Prop :=
  cs.length = bs.length ∧ (∀ j, cs[j]? = if f ≤ j ∧ j < i ∧ j < bs.length then some o else bs[j]?) ∧ (if o then c + (M.L bs).length = (M.L cs).length else c + (M.L cs).length = (M.L bs).length)
theorem FPart.start (o : Bool) (bs : List Bool) (f : Nat) : FPart o bs bs f f 0 := ⟨rfl, fun j => by rw [if_neg (by omega)], by cases o <;> simp⟩
theorem FPart.old {o : Bool} {bs cs : List Bool} {f i c : Nat} (h : FPart o bs cs f i c) (hi : i < bs.length) : cs[i]? = some bs[i] := by
  rw [h.2.1 i, if_neg (by omega), List.getElem?_eq_getElem hi]
theorem FPart.step {o : Bool} {bs cs : List Bool} {f i c : Nat} (h : FPart o bs cs f i c) (hf : f ≤ i) (hi : i < bs.length) : FPart o bs (cs.set i o) f (i + 1) (c + if bs[i] != o then 1 else 0) := by
  have hic : i < cs.length := by rw [h.1]; exact hi
  refine ⟨by rw [List.length_set]; exact h.1, fun j => ?_, ?_⟩
  · rw [List.getElem?_set]
    by_cases e : i = j
    · subst e
      rw [if_pos rfl, if_pos hic, if_pos (by omega)]
    · rw [if_neg e, h.2.1 j]
      by_cases hq : f ≤ j ∧ j < i ∧ j < bs.length
      · rw [if_pos hq, if_pos (by omega)]
      · rw [if_neg hq, if_neg (by omega)]
  · have hl := M.L_len_set hic o
    have ho := h.old hi
    rw [List.getElem?_eq_getElem hic] at ho
    have ho : cs[i] = bs[i] := Option.some.inj ho
    rw [ho] at hl
    have h3 := h.2.2
    generalize bs[i] = b at *
    cases o <;> cases b <;> simp at hl h3 ⊢ <;> omega
theorem FPart.chg {o : Bool} {w : World} {g n : Nat} {bs cs : List Bool} (a : Bs w g n bs) {f t c : Nat} (ht : t ≤ 65535) {i : Nat} (h : FPart o bs cs f i c) (hi : i = t + 1 ∨ (t < f ∧ i = f)) : M.Chg o (M.L bs) (M.L cs) (f : Int) (t : Int) c := by
  refine ⟨M.L_up cs, fun y => ?_, h.2.2⟩
  have hl := a.len
  have ht9 := a.top
  rw [M.L_in, M.L_in, h.2.1]
  by_cases hr : (f : Int) ≤ y ∧ y ≤ (t : Int)
  · rw [if_pos hr, if_pos (by omega)]
    constructor
    · rintro ⟨_, h⟩; exact Option.some.inj h
    · intro e; exact ⟨by omega, by rw [e]⟩
  · rw [if_neg hr]
    by_cases h0 : 0 ≤ y
    · rw [if_neg (by omega)]
    · constructor
      · intro h; exact absurd h.1 h0
      · intro h; exact absurd h.1 h0
theorem b_ne (a b : Bool) : (a != b) = !(a == b) := rfl
set_option maxHeartbeats 1000000 in
theorem f_fill (w : World) (g n : Nat) (bs : List Bool) (a : Bs w g n bs) (f t : Nat) (hf : f ≤ 65535) (ht : t ≤ 65535) (o : Bool) :
    Calls Tryz.prog 30 #[.slice (some ⟨g, 0, none⟩) n n, .int .u16 (f : Int), .int .u16 (t : Int), .bool o] w fun e w' => ∃ m : Nat, e = .returned (.int .i64 (m : Int)) ∧ FStep o w g n bs (f : Int) (t : Int) m w' := by
  have hn := a.top_le
  have hn0 := a.top_ge
  have hLen := Lib.hid a.len
  have ha := Lib.hid a
  have w1 : IntKind.i64.wrap (f : Int) = (f : Int) := IntWalk.i64_in _ (by omega)
  have w2 : IntKind.i64.wrap (t : Int) = (t : Int) := IntWalk.i64_in _ (by omega)
  clear a
  go_enter Tryz.func30, Tryz.ntmps30
  go_wp2
  go_loopw [9, 10] (fun c i wr => ∃ (k m : Nat) (cs : List Bool), f ≤ k ∧ (k ≤ t + 1 ∨ k = f) ∧ m ≤ k ∧ i = .int .i64 (k : Int) ∧ c = .int .i64 (m : Int) ∧ Hid (FPart o bs cs f k m) ∧ Hid (Bs wr g n cs) ∧ Hid (w.grownBy wr (some g))) (fun _ i _ => t + 1 - (intOf i).toNat)
  case atStart => exact ⟨f, 0, bs, by omega, by omega, by omega, rfl, rfl, FPart.start o bs f, ha.out, grownB_refl _ _⟩
  case round =>
    obtain ⟨k, m, cs, hfk, hkt, hmk, rfl, rfl, hP, hB, hG⟩ := hrel
    by_cases hlt : k ≤ t
    · have hT1 : decide ((k : Int) ≤ (t : Int)) = true := decide_eq_true (by omega)
      have hT2 : decide (k ≤ t) = true := decide_eq_true hlt
      have hkn : k < n := by omega
      have hkl : k < bs.length := by rw [hLen.out]; exact hkn
      have hc := hB.out.cell k hkn
      have hold := hP.out.old hkl
      have hkc : k < cs.length := by rw [hB.out.len]; exact hkn
      rw [List.getElem?_eq_getElem hkc] at hold
      have hold : cs[k] = bs[k] := Option.some.inj hold
      have hstep := hP.out.step hfk hkl
      rw [hold] at hc
      have hfr := hB.out.frozen k
      have hB2 := Lib.hid (hB.out.store k o)
      have hG2 : Hid (w.grownBy (wr.setCell ⟨g, k, none⟩ (.bool o)) (some g)) := grownB_trans hG.out (set_grownB wr g k _)
      generalize bs[k] = b at *
      have hS := Lib.hid hstep
      clear hold hstep hP
      cases b <;> cases o
      all_goals
        go_wp2
        go_roundw
        case rel => first
          | exact ⟨k + 1, m, _, by omega, by omega, by omega, by go_num, rfl, hS.out, hB2.out, hG2.out⟩
          | exact ⟨k + 1, m + 1, _, by omega, by omega, by omega, by go_num, by go_num, hS.out, hB2.out, hG2.out⟩
        case measure => simp [intOf]; omega
    · have hT1 : decide ((k : Int) ≤ (t : Int)) = false := decide_eq_false (by omega)
      have hT2 : decide (k ≤ t) = false := decide_eq_false hlt
      have hC := Lib.hid (hP.out.chg ha.out ht (by omega))
      go_wp2
      go_ret
      exact ⟨m, rfl, cs, hC.out, hB.out, hG.out⟩
theorem made_false (n : Nat) : madeCells #[Value.bool false] n = (bv (List.replicate n false)).toArray := by
  apply Array.toList_inj.1
  rw [toList_madeCells_one]
  simp [bv]
end Go.Proofs.YtkehehfphccpbaaGreatDoor
end
section
namespace Go.Proofs.YtkehehfphccpbaaGreatDoor
set_option maxRecDepth 40000
open Go.RowKit
abbrev hv (xs : List Int) : List Value := xs.map (Value.int .u16)
/-- The slice at A reads as the list xs of 16-bit numbers, in cells below block B. -/
def Rh (w : World) (B : Nat) (A : Option Addr) (xs : List Int) : Prop :=
  xs ≠ [] → ∃ b off, A = some ⟨b, off, none⟩ ∧ b < B ∧ ∀ (k : Nat) (h : k < xs.length), w.cell? ⟨b, off + k, none⟩ = some (.int .u16 xs[k])
theorem Rh.nil (w : World) (B : Nat) (A : Option Addr) : Rh w B A [] := fun h => absurd rfl h
theorem Rh.below {w w' : World} {B B' : Nat} {A : Option Addr} {xs : List Int} (h : Rh w B A xs) (hb : Below B' w w') (hB : B ≤ B') : Rh w' B A xs := fun hne => by
  obtain ⟨b, off, rfl, hlt, hc⟩ := h hne
  exact ⟨b, off, rfl, hlt, fun k hk => (hb.cell (p := ⟨b, off + k, none⟩) (by show b < B'; omega)).trans (hc k hk)⟩
theorem Rh.more {w : World} {B B' : Nat} {A : Option Addr} {xs : List Int} (h : Rh w B A xs) (hB : B ≤ B') : Rh w B' A xs := fun hne => by
  obtain ⟨b, off, rfl, hlt, hc⟩ := h hne
  exact ⟨b, off, rfl, by omega, hc⟩
theorem Rh.drew {w : World} {B : Nat} {A : Option Addr} {xs : List Int} (h : Rh w B A xs) (n : Nat) : Rh (w.drewN n) B A xs := h
theorem Rh.at {w : World} {B : Nat} {A : Option Addr} {xs : List Int} (h : Rh w B A xs) {k : Nat} (hk : k < xs.length) : ∃ b off, A = some ⟨b, off, none⟩ ∧ b < B ∧ w.cell? ⟨b, off + k, none⟩ = some (.int .u16 xs[k]) := by
  obtain ⟨b, off, rfl, hlt, hc⟩ := h (by intro e; subst e; simp at hk)
  exact ⟨b, off, rfl, hlt, hc k hk⟩
theorem Rh.grown {w w' : World} {B g : Nat} {A : Option Addr} {xs : List Int} (h : Rh w B A xs) (hg : w.grownBy w' (some g)) (hB : B ≤ w.heap.size) (hne : ∀ ad, A = some ad → ad.block ≠ g) : Rh w' B A xs := fun he => by
  obtain ⟨b, off, rfl, hlt, hc⟩ := h he
  refine ⟨b, off, rfl, hlt, fun k hk => ?_⟩
  have hb := hg.block b (by omega) (by intro e; cases e; exact hne _ rfl rfl)
  have := hc k hk
  simp only [World.cell?, hb] at this ⊢
  exact this
theorem add_offB (g k : Nat) : (⟨g, 0, none⟩ : Addr).add k = ⟨g, k, none⟩ := by
  by_cases h : k = 0
  · subst h; rfl
  · simp [Addr.add, h]
theorem cell_oneB (w : World) (v : Value) (t : TypeId) (j : Nat) (u : Value) (h : [v][j]? = some u) : (w.alloc (.cells #[v] t)).cell? ((⟨w.heap.size, 0, none⟩ : Addr).add j) = some u := by
  match j, h with
  | 0, h =>
    rw [add_offB]
    simp at h
    subst h
    simp
theorem one_intB (k : IntKind) (n : Int) (u : Value) (h : u ∈ [Value.int k n]) : u.oneCell' = true := by
  simp at h; subst h; rfl
/-- No older block than n. -/
def Young (n : Nat) (A : Option Addr) : Prop := ∀ ad, A = some ad → n ≤ ad.block
theorem Rh.of_own {w : World} {base : Nat} {v : Value} {xs : List Int} (h : w.ownsRow base 35 1 v xs.length (hv xs)) : ∃ A c, v = .slice A xs.length c ∧ Rh w w.heap.size A xs ∧ Young base A := by
  rcases h.2 with ⟨rfl, hn⟩ | ⟨g, cap, cur, rfl, hb, hh, _⟩
  · have : xs = [] := by simpa using hn
    subst this
    exact ⟨none, 0, rfl, fun h => absurd rfl h, fun _ h => by cases h⟩
  · refine ⟨_, _, rfl, fun hne => ⟨g, 0, rfl, ?_, fun k hk => ?_⟩, fun _ e => by cases e; exact hb⟩
    · exact (h.lt g rfl).2
    · have := h.cells (g := g) rfl k (.int .u16 xs[k]) (by simp [hk])
      rw [add_offB] at this
      rw [Nat.zero_add]
      exact this
theorem own_cap {w : World} {base : Nat} {e : TypeId} {size n : Nat} {v : Value} {xs : List Value} (h : w.ownsRow base e size v n xs) : ∀ A c, v = .slice A n c → n ≤ c := by
  intro A c hv
  rcases h.2 with ⟨h1, h2⟩ | ⟨g, cap, cur, h1, _, _, hnc, _⟩
  · rw [h1] at hv; simp at hv; omega
  · rw [h1] at hv; simp at hv; omega
theorem u16_info : (Tryz.prog.info? 35).map (fun i => (i.zero, i.size, i.bytes)) = some (some (.int .u16 0), 1, 2) := by kernel_rfl
theorem own_snocH {w w0 w1 : World} {xs : List Int} {y : Int} {v v' : Value} {t : TypeId} (hb : Below w.heap.size w w0) (hown : w0.ownsRow w.heap.size 35 1 v xs.length (hv xs))
    (hown' : w1.ownsRow w.heap.size 35 1 v' (xs.length + 1) (hv xs ++ [.int .u16 y])) (hgrow : (w0.alloc (.cells #[.int .u16 y] t)).grownBy w1 v.ownBlock) :
    w1.ownsRow w.heap.size 35 1 v' (xs ++ [y]).length (hv (xs ++ [y])) ∧ Below w.heap.size w w1 :=
  ⟨by rw [hv, List.map_append, List.length_append]; exact hown', (hb.alloc hb.size _).grown hgrow (by have := hb.size; simp; omega) (fun g hg => (hown.lt g hg).1)⟩
set_option maxHeartbeats 1000000 in
theorem f_new (w : World) : Calls Tryz.prog 20 #[] w fun e w' => ∃ g n, e = .returned (.slice (some ⟨g, 0, none⟩) n n) ∧ Bs w' g n (List.replicate n false) ∧ w.grownBy w' none ∧ w.heap.size ≤ g := by
  obtain ⟨N, hN⟩ : ∃ N, N = 65536 := ⟨_, rfl⟩
  have hNi : (65536 : Int) = (N : Int) := by omega
  have hN1 : N ≤ 65536 := by omega
  have hNH := Lib.hid hN
  have hNiH := Lib.hid hNi
  clear hN hNi
  obtain ⟨ti, hi, hb, hz, hsz⟩ : ∃ ti, Tryz.prog.info? 4 = some ti ∧ ti.bytes = 1 ∧ ti.zero = some (.bool false) ∧ ti.size = 1 := ⟨_, rfl, rfl, rfl, rfl⟩
  have hbH := Lib.hid hb
  have hiH := Lib.hid hi
  have hzH := Lib.hid hz
  have hszH := Lib.hid hsz
  clear hb hi hz hsz
  go_enter Tryz.func20, Tryz.ntmps20
  go_wp2_with (refine wpList_make_full _ rfl _ _ 26 rfl w.heap.size 4 ti (.bool false) 1 (by kernel_rfl) hiH.out hzH.out hszH.out .i64 .i64 65536 65536 N rfl rfl hNiH.out hNiH.out (by rw [hbH.out]; omega) (by unfold maxLen; omega) (Nat.le_refl _) ?_; intro w1 hown hg)
  go_ret
  refine ⟨w.heap.size, N, rfl, ⟨?_, List.length_replicate, hNH.out⟩, hg, Nat.le_refl _⟩
  obtain ⟨cur, hh, hc⟩ : ∃ (cur : Array Value), w1.heap[w.heap.size]? = some (.cells cur 4 (0, 0)) ∧ cur = (bv (List.replicate N false)).toArray := by
    rcases hown.2 with ⟨hv, _⟩ | ⟨g, cap, cur, hv, hb, hh, hnc, hcm, hcs, ht⟩
    · simp at hv
    · simp only [Value.slice.injEq, Option.some.injEq, Addr.mk.injEq, true_and, and_true] at hv
      obtain ⟨rfl, rfl⟩ := hv
      refine ⟨cur, hh, ?_⟩
      have h1 : cur.toList.take (N * 1) = (madeCells (Value.bool false).cells (N * 1)).toList := ht
      have h2 : cur.size = N * 1 := hcs
      rw [List.take_of_length_le (by simp [h2])] at h1
      apply Array.toList_inj.1
      rw [h1, Nat.mul_one]
      exact congrArg Array.toList (made_false N)
  rw [hh, hc]
set_option maxHeartbeats 1000000 in
theorem f_listc (w : World) (g n : Nat) (bs : List Bool) (a : Bs w g n bs) :
    Calls Tryz.prog 19 #[.slice (some ⟨g, 0, none⟩) n n] w fun e w' => ∃ A c, e = .returned (.slice A (M.L bs).length c) ∧ Rh w' w'.heap.size A (M.L bs) ∧ Young w.heap.size A ∧ Below w.heap.size w w' ∧ (M.L bs).length ≤ c := by
  obtain ⟨i0, hi, hz0, hz1, hz2⟩ := info_parts u16_info
  have hn := a.top_le
  have hLen := Lib.hid a.len
  have ha := Lib.hid a
  clear a
  go_enter Tryz.func19, Tryz.ntmps19
  go_wp2
  go_loopw [3, 8] (fun v i wr => ∃ k : Nat, k ≤ n ∧ i = .int .i64 (k : Int) ∧ wr.ownsRow w.heap.size 35 1 v (M.L (bs.take k)).length (hv (M.L (bs.take k))) ∧ Below w.heap.size w wr)
    (fun _ i _ => n - (intOf i).toNat)
  case atStart => exact ⟨0, by omega, rfl, by simp [World.ownsRow_nil, M.L_nil], Below.refl _ _⟩
  case round =>
    obtain ⟨k, hk, rfl, hown, hb⟩ := hrel
    by_cases hlt : k < n
    · have hT2 : decide (k < n) = true := decide_eq_true hlt
      have hT3 : decide ((k : Int) < (n : Int)) = true := decide_eq_true (by omega)
      have hkl : k < bs.length := by rw [hLen.out]; exact hlt
      have hc := (ha.out.all_below hb).cell k hlt
      have hst := M.L_take hkl
      have hw16 : IntKind.u16.wrap (k : Int) = (k : Int) := by simp [IntKind.wrap, IntKind.signed, IntKind.bits]; omega
      have hlen := M.L_len_take bs k
      cases hbk : bs[k]
      · rw [hbk] at hc hst
        have hs : Hid (M.L (bs.take (k + 1)) = M.L (bs.take k)) := by simpa [Hid] using hst
        rw [← hs.out] at hown
        clear hbk hst hlen
        go_wp2
        go_roundw
        case rel => exact ⟨k + 1, by omega, by go_num, hown, hb⟩
        case measure => simp [intOf]; omega
      · rw [hbk] at hc hst
        have hs : Hid (M.L (bs.take (k + 1)) = M.L (bs.take k) ++ [(k : Int)]) := by simpa [Hid] using hst
        clear hbk hst
        generalize M.L (bs.take k) = ds at *
        go_wp2_with (at_builtin; refine wpList_append_own _ rfl _ _ 37 rfl w.heap.size 35 i0 (.int .u16 0) 1 2 Tryz.underlying37 hi hz0 hz1 hz2 rfl (by decide) _ _ _ rfl (hown.alloc _) ⟨wr.heap.size, 0, none⟩ 1 1 [.int .u16 (k : Int)] rfl rfl ?c1 ?c2 ?c3 ?c4 ?c5 ?_)
        case c1 => exact cell_oneB _ _ _
        case c2 => first | exact one_intB _ _ | rfl
        case c3 => unfold maxLen; omega
        case c4 => omega
        case c5 => have := hb.size; simp; omega
        intro v' w1 hown' hgrow _
        obtain ⟨hown2, hb2⟩ := own_snocH hb hown hown' hgrow
        rw [← hs.out] at hown2
        clear hown' hgrow hown hb
        go_wp2
        go_roundw
        case rel => exact ⟨k + 1, by omega, by go_num, hown2, hb2⟩
        case measure => simp [intOf]; omega
    · have hT2 : decide (k < n) = false := decide_eq_false hlt
      have hT3 : decide ((k : Int) < (n : Int)) = false := decide_eq_false (by omega)
      rw [M.L_all (by rw [hLen.out]; omega)] at hown
      have hcap := own_cap hown
      obtain ⟨A', c', rfl, hr', hF⟩ := Rh.of_own hown
      have HC := Lib.hid (hcap A' c' rfl)
      clear hcap
      go_wp2
      go_ret
      exact ⟨A', c', rfl, hr', hF, hb, HC.out⟩
theorem f_list (w : World) (g n : Nat) (bs : List Bool) (a : Bs w g n bs) :
    Calls Tryz.prog 19 #[.slice (some ⟨g, 0, none⟩) n n] w fun e w' => ∃ A c, e = .returned (.slice A (M.L bs).length c) ∧ Rh w' w'.heap.size A (M.L bs) ∧ Young w.heap.size A ∧ Below w.heap.size w w' :=
  (f_listc w g n bs a).mono fun _ _ ⟨A, c, h1, h2, h3, h4, _⟩ => ⟨A, c, h1, h2, h3, h4⟩
end Go.Proofs.YtkehehfphccpbaaGreatDoor
end
section
namespace Go.Proofs.YtkehehfphccpbaaGreatDoor
set_option maxRecDepth 40000
open Go.RowKit
theorem retB {a b : Bool} (h : a = b) : Ending.returned (.bool a) = .returned (.bool b) := by rw [h]
theorem take_snocH {xs : List Int} {k : Nat} (h : k < xs.length) : xs.take (k + 1) = xs.take k ++ [xs[k]] := by
  rw [List.take_succ_eq_append_getElem h]
theorem take_allH {xs : List Int} {k : Nat} (h : ¬ k < xs.length) : xs.take k = xs := List.take_of_length_le (by omega)
theorem same_noH {xs ys : List Int} {k : Nat} (h : ∃ a b, xs[k]? = some a ∧ ys[k]? = some b ∧ a ≠ b) : decide (xs = ys) = false := by
  rw [decide_eq_false_iff_not]
  rintro rfl
  obtain ⟨a, b, h1, h2, h3⟩ := h
  rw [h1] at h2
  exact h3 (by simpa using h2)

set_option maxHeartbeats 1000000 in
theorem f_same (A A' : Option Addr) (c c' : Nat) (xs ys : List Int) (w : World) (B B' : Nat) (hr : Rh w B A xs) (hr' : Rh w B' A' ys) (hl : xs.length ≤ 4611686018427387904) (_hl' : ys.length ≤ 4611686018427387904) :
    Calls Tryz.prog 17 #[.slice A xs.length c, .slice A' ys.length c'] w fun e w' => e = .returned (.bool (decide (xs = ys))) ∧ ∃ n, w' = w.drewN n := by
  by_cases hlen : xs.length = ys.length
  · generalize hL : ys.length = L at *
    have hLh := Lib.hid hL
    clear hL
    subst hlen
    go_enter Tryz.func17, Tryz.ntmps17
    go_wp2
    go_loopw [13] (fun i wr => ∃ k n : Nat, k ≤ xs.length ∧ i = .int .i64 k ∧ wr = w.drewN n ∧ Hid (xs.take k = ys.take k)) (fun i _ => xs.length - (intOf i).toNat)
    case atStart => exact ⟨0, 0, by omega, rfl, rfl, rfl⟩
    case round =>
      obtain ⟨k, n, hk, rfl, rfl, hH⟩ := hrel
      by_cases hlt : k < xs.length
      · have hlt' : k < ys.length := by rw [hLh.out]; exact hlt
        obtain ⟨b, off, rfl, _, hc⟩ := hr.at hlt
        obtain ⟨b', off', rfl, _, hc'⟩ := hr'.at hlt'
        have hx : xs[k]? = some xs[k] := List.getElem?_eq_getElem hlt
        have hy : ys[k]? = some ys[k] := List.getElem?_eq_getElem hlt'
        have hxH := Lib.hid hx
        have hyH := Lib.hid hy
        have hs := Lib.hid (take_snocH hlt)
        have hs' := Lib.hid (take_snocH hlt')
        clear hx hy
        generalize xs[k] = x at *
        generalize ys[k] = y at *
        by_cases he : x = y
        · have heb : (x == y) = true := by simp [he]
          have hres : Hid (xs.take (k + 1) = ys.take (k + 1)) := by
            show xs.take (k + 1) = ys.take (k + 1)
            rw [hs.out, hs'.out, hH.out, he]
          clear hs hs' hxH hyH hH he
          go_wp2
          go_quiet (fail)
          go_wp2
          go_roundw
          case rel => exact ⟨k + 1, _, by omega, by go_num, rfl, hres⟩
          case measure => simp [intOf]; omega
        · have heb : (x == y) = false := by simp [he]
          have hres := Lib.hid (same_noH (k := k) ⟨x, y, hxH.out, hyH.out, he⟩)
          clear hs hs' hxH hyH hH he
          go_wp2
          go_quiet (fail)
          go_wp2
          go_ret
          exact ⟨retB hres.out.symm, _, World.drewN_drewN _ _ _⟩
      · have hres : Hid (decide (xs = ys) = true) := by
          have h1 := hH.out
          rw [take_allH hlt, take_allH (by rw [hLh.out]; exact hlt)] at h1
          show decide (xs = ys) = true
          simp [h1]
        go_wp2
        go_ret
        exact ⟨retB hres.out.symm, _, rfl⟩
  · have hres := Lib.hid (show decide (xs = ys) = false by rw [decide_eq_false_iff_not]; rintro rfl; exact hlen rfl)
    have hne : ((xs.length : Int) == (ys.length : Int)) = false := by simp; omega
    go_enter Tryz.func17, Tryz.ntmps17
    go_wp2
    go_ret
    exact ⟨retB hres.out.symm, 0, rfl⟩

/-- Those of xs, and no others. -/
def OfL (l xs : List Int) : Prop := l.Pairwise (· < ·) ∧ ∀ y, y ∈ l ↔ y ∈ xs
theorem OfL.same {a b xs : List Int} (h : OfL a xs) (k : OfL b xs) : a = b := M.sorted_ext h.1 k.1 fun y => (h.2 y).trans (k.2 y).symm
end Go.Proofs.YtkehehfphccpbaaGreatDoor
end
section
namespace Go.Proofs.YtkehehfphccpbaaGreatDoor
set_option maxRecDepth 40000
open Go.RowKit
namespace M
/-- k numbers from A on, each s further. -/
def ar (A s k : Nat) : List Int := (List.range k).map fun j => ((A + s * j : Nat) : Int)
theorem ar_succ (A s k : Nat) : ar A s (k + 1) = ar A s k ++ [((A + s * k : Nat) : Int)] := by simp [ar, List.range_succ]
theorem ar_zero (A s : Nat) : ar A s 0 = [] := rfl
theorem ar_len (A s k : Nat) : (ar A s k).length = k := by simp [ar]
/-- All of xs are there besides; n are new. -/
def AddAll (l l' xs : List Int) (n : Nat) : Prop := l'.Pairwise (· < ·) ∧ (∀ y, y ∈ l' ↔ y ∈ l ∨ y ∈ xs) ∧ n + l.length = l'.length
theorem AddAll.start {l : List Int} (h : l.Pairwise (· < ·)) : AddAll l l [] 0 := ⟨h, fun y => by simp, by omega⟩
theorem AddAll.step {l a b xs : List Int} {v : Int} {n m : Nat} (h : AddAll l a xs n) (k : Chg true a b v v m) : AddAll l b (xs ++ [v]) (n + m) := by
  refine ⟨k.1, fun y => ?_, ?_⟩
  · rw [k.2.1 y]
    by_cases e : y = v
    · subst e; rw [if_pos ⟨Int.le_refl _, Int.le_refl _⟩]; simp
    · rw [if_neg (by omega), h.2.1 y]; simp [e]
  · have h1 := h.2.2
    have h2 := k.2.2
    rw [if_pos rfl] at h2
    omega
theorem AddAll.same {l a b xs : List Int} {n m : Nat} (h : AddAll l a xs n) (k : AddAll l b xs m) : a = b ∧ n = m := by
  have e : a = b := sorted_ext h.1 k.1 fun y => (h.2.1 y).trans (k.2.1 y).symm
  subst e
  exact ⟨rfl, by have h1 := h.2.2; have h2 := k.2.2; omega⟩
/-- As many steps as there are up to B. -/
def Stops (A B s k : Nat) : Prop := (0 < k → A + s * (k - 1) ≤ B) ∧ B < A + s * k
theorem Stops.same {A B s k j : Nat} (h : Stops A B s k) (h' : Stops A B s j) : k = j := by
  have key : ∀ {k j : Nat}, Stops A B s k → Stops A B s j → ¬ k < j := fun {k j} h h' hlt => by
    have h1 := h'.1 (by omega)
    have h2 : s * k ≤ s * (j - 1) := Nat.mul_le_mul_left s (by omega)
    have := h.2
    omega
  have h1 := key h h'
  have h2 := key h' h
  omega
/-- What an act does. -/
def Acted (d A B s : Nat) (l l' : List Int) (m : Nat) : Prop :=
  if d % 5 = 0 then Chg true l l' (A : Int) (A : Int) m else if d % 5 = 1 then Chg false l l' (A : Int) (A : Int) m else if d % 5 = 2 then Chg true l l' (A : Int) (B : Int) m
  else if d % 5 = 3 then Chg false l l' (A : Int) (B : Int) m else ∃ k, Stops A B (2 + s % 9) k ∧ AddAll l l' (ar A (2 + s % 9) k) m
theorem Acted.same {d A B s : Nat} {l a b : List Int} {m k : Nat} (h : Acted d A B s l a m) (h' : Acted d A B s l b k) : a = b ∧ m = k := by
  unfold Acted at h h'
  by_cases h0 : d % 5 = 0
  · rw [if_pos h0] at h h'; exact h.same h'
  · rw [if_neg h0] at h h'
    by_cases h1 : d % 5 = 1
    · rw [if_pos h1] at h h'; exact h.same h'
    · rw [if_neg h1] at h h'
      by_cases h2 : d % 5 = 2
      · rw [if_pos h2] at h h'; exact h.same h'
      · rw [if_neg h2] at h h'
        by_cases h3 : d % 5 = 3
        · rw [if_pos h3] at h h'; exact h.same h'
        · rw [if_neg h3] at h h'
          obtain ⟨i, hi, ha⟩ := h
          obtain ⟨j, hj, hb⟩ := h'
          obtain rfl := hi.same hj
          exact ha.same hb
end M
abbrev actB (d A B S : Nat) : Value := .agg #[.int .u8 (d : Int), .int .u16 (A : Int), .int .u16 (B : Int), .int .u16 (S : Int)]
abbrev actoB (d A B S : Nat) : Obj := .cells #[.int .u8 (d : Int), .int .u16 (A : Int), .int .u16 (B : Int), .int .u16 (S : Int)] 51
theorem alloc_topB (w : World) (o : Obj) {k : Nat} (hk : k = w.heap.size) : (w.alloc o).heap[k]? = some o := by
  subst hk
  show (w.heap.push o)[w.heap.size]? = some o
  simp
/-- The cells of an act in memory. -/
structure AtB (w : World) (b d A B S : Nat) : Prop where
  c0 : w.cell? ⟨b, 0, none⟩ = some (.int .u8 (d : Int))
  c1 : w.cell? ⟨b, 1, none⟩ = some (.int .u16 (A : Int))
  c2 : w.cell? ⟨b, 2, none⟩ = some (.int .u16 (B : Int))
  c3 : w.cell? ⟨b, 3, none⟩ = some (.int .u16 (S : Int))
theorem atB_of {w : World} {b d A B S : Nat} (h : w.heap[b]? = some (actoB d A B S)) : AtB w b d A B S :=
  ⟨cell_of_row w b 0 _ _ (0, 0) h, cell_of_row w b 1 _ _ (0, 0) h, cell_of_row w b 2 _ _ (0, 0) h, cell_of_row w b 3 _ _ (0, 0) h⟩
theorem rem9 (S : Nat) (hS : S ≤ 65535) : (S : Int).tmod 9 = ((S % 9 : Nat) : Int) ∧ (S : Int) % 9 = ((S % 9 : Nat) : Int) ∧ S % 9 < 9 := by
  have e : (S : Int) % 9 = ((S % 9 : Nat) : Int) := by omega
  exact ⟨by rw [Int.tmod_eq_emod_of_nonneg (by omega)]; exact e, e, by omega⟩
theorem i64B (i : Int) (h0 : -9223372036854775808 ≤ i) (h : i ≤ 9223372036854775807) : IntKind.i64.wrap i = i := IntWalk.i64_in _ (by omega)
theorem u16B {i : Int} (h0 : 0 ≤ i) (h : i ≤ 65535) : IntKind.u16.wrap i = i := by
  simp [IntKind.wrap, IntKind.signed, IntKind.bits]; omega
/-- What an act leaves of the row. -/
def FActed (w : World) (g n : Nat) (bs : List Bool) (d A B S : Nat) (e : Ending) (w' : World) : Prop :=
  ∃ (m : Nat) (cs : List Bool), e = .returned (.int .i64 (m : Int)) ∧ M.Acted d A B S (M.L bs) (M.L cs) m ∧ m ≤ 65536 ∧ Bs w' g n cs ∧ w.grownBy w' (some g)
theorem chg_le {o : Bool} {l l' : List Int} {f t : Int} {m N : Nat} (h : M.Chg o l l' f t m) (h1 : l.length ≤ N) (h2 : l'.length ≤ N) : m ≤ N := by
  have := h.2.2
  cases o
  · rw [if_neg (by decide)] at this; omega
  · rw [if_pos rfl] at this; omega
theorem Bs.le {w : World} {g n : Nat} {bs : List Bool} (a : Bs w g n bs) : (M.L bs).length ≤ 65536 := by
  have h1 := M.L_len bs
  have h2 := a.len
  have h3 := a.top
  omega
theorem mod5 (d : Nat) (hd : d < 256) (k : Nat) (hk : d % 5 = k) : (d : Int).tmod 5 = (k : Int) ∧ (d : Int) % 5 = (k : Int) := by
  have e : (d : Int) % 5 = (k : Int) := by omega
  exact ⟨by rw [Int.tmod_eq_emod_of_nonneg (by omega)]; exact e, e⟩
end Go.Proofs.YtkehehfphccpbaaGreatDoor
end
