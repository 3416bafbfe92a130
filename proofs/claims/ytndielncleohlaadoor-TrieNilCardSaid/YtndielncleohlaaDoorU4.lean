
/- slices.Insert and slices.Delete over an own row of ints: whatever way the library goes, the row is the list's. -/
import Derived.Test.YtndielncleohlaaDoorU2
import Derived.Test.YtndielncleohlaaDoorTLay
import Derived.Laws.AppendOwn
namespace Go.Proofs.YtndielncleohlaaDoor
set_option maxRecDepth 40000
open Go.RowKit
theorem row_setCells (b : Nat) (T : TypeId) : ∀ (vs : List Value) (o : Nat) (w : World) (cur : Array Value), w.heap[b]? = some (.cells cur T (0, 0)) → o + vs.length ≤ cur.size →
    ∃ cur' : Array Value, (w.setCells b o vs).heap[b]? = some (.cells cur' T (0, 0)) ∧ cur'.size = cur.size ∧ (∀ j, j < o → cur'[j]? = cur[j]?) ∧ (∀ j, j < vs.length → cur'[o + j]? = vs[j]?) ∧ (∀ j, o + vs.length ≤ j → cur'[j]? = cur[j]?)
  | [], o, w, cur, h, _ => ⟨cur, h, rfl, fun _ _ => rfl, fun j hj => by simp at hj, fun _ _ => rfl⟩
  | v :: r, o, w, cur, h, hl => by
    have hl' : o + 1 + r.length ≤ cur.size := by simp at hl; omega
    obtain ⟨cur', h1, h2, h3, h4, h5⟩ := row_setCells b T r (o + 1) (w.setCell ⟨b, o, none⟩ v) (cur.setIfInBounds o v) (row_set h o v) (by rw [Array.size_setIfInBounds]; exact hl')
    refine ⟨cur', h1, by rw [h2, Array.size_setIfInBounds], fun j hj => ?_, fun j hj => ?_, fun j hj => ?_⟩
    · rw [h3 j (by omega), Array.getElem?_setIfInBounds_ne (by omega)]
    · cases j with
      | zero =>
        rw [Nat.add_zero, h3 o (by omega), Array.getElem?_setIfInBounds_self_of_lt (by omega)]
        rfl
      | succ j =>
        rw [show o + (j + 1) = o + 1 + j by omega, h4 j (by simpa using hj)]
        rfl
    · simp at hj
      rw [h5 j (by omega), Array.getElem?_setIfInBounds_ne (by omega)]
theorem chg_setCells (b : Nat) (O : Nat → Prop) (h : O b) : ∀ (vs : List Value) (o : Nat) (w : World), K.Chg w (w.setCells b o vs) O
  | [], _, w => chg_refl w O
  | v :: r, o, w => (chg_set w b o v O h).same (chg_setCells b O h r (o + 1) _)
theorem own_of_row {w : World} {b cap n : Nat} {cur : Array Value} {xs : List Value} (h : w.heap[b]? = some (.cells cur 3 (0, 0))) (hc : cur.size = cap) (hn : n ≤ cap) (hm : cap ≤ maxLen) (hl : xs.length = n) (hx : ∀ j, j < n → cur[j]? = xs[j]?) :
    w.ownsRow 0 3 1 (.slice (some ⟨b, 0, none⟩) n cap) n xs := by
  refine ⟨by omega, .inr ⟨b, cap, cur, rfl, Nat.zero_le _, h, hn, hm, by omega, ?_⟩⟩
  refine List.ext_getElem? fun j => ?_
  rw [List.getElem?_take]
  split
  · rw [Array.getElem?_toList]
    exact hx j (by omega)
  · rw [List.getElem?_eq_none (by omega)]
theorem chg_of_drew {w w' : World} {O : Nat → Prop} (h : K.Chg w.drew w' O) : K.Chg w w' O := ⟨h.os, h.tape, h.output, h.size, h.block⟩
/-- What an insertion leaves. -/
def InsP (w : World) (A : Option Addr) (zs : List Nat) (e : Ending) (w' : World) : Prop :=
  ∃ A' c', e = .returned (.slice A' zs.length c') ∧ w'.ownsRow 0 3 1 (.slice A' zs.length c') zs.length (iw zs) ∧ K.Chg w w' (fun j => A.map (·.block) = some j) ∧ ∀ j, A'.map (·.block) = some j → A.map (·.block) = some j ∨ w.heap.size ≤ j
theorem ins_at (ch : List Nat) (i x : Nat) (hi : i ≤ ch.length) (j : Nat) : (ch.take i ++ x :: ch.drop i)[j]? = if j < i then ch[j]? else if j = i then some x else ch[j - 1]? := by
  have hl : (ch.take i).length = i := by rw [List.length_take]; omega
  rcases Nat.lt_trichotomy j i with h | h | h
  · rw [if_pos h, List.getElem?_append_left (by omega), List.getElem?_take, if_pos h]
  · subst h
    rw [if_neg (by omega), if_pos rfl, List.getElem?_append_right (by omega), hl, Nat.sub_self]
    rfl
  · rw [if_neg (by omega), if_neg (by omega), List.getElem?_append_right (by omega), hl]
    obtain ⟨m, hm⟩ : ∃ m, j - i = m + 1 := ⟨j - i - 1, by omega⟩
    rw [hm, List.getElem?_cons_succ, List.getElem?_drop]
    congr 1
    omega
theorem iw_at (xs : List Nat) (j : Nat) : (iw xs)[j]? = (xs[j]?).map fun i : Nat => Value.int .i64 (i : Int) := by simp [iw]
theorem iw_one (xs : List Nat) : ∀ v ∈ iw xs, v.oneCell' = true := by
  intro v hv
  obtain ⟨x, _, rfl⟩ := List.mem_map.1 hv
  rfl
set_option maxHeartbeats 1000000 in
theorem ins_int (w : World) (A : Option Addr) (c : Nat) (ch : List Nat) (h : w.ownsRow 0 3 1 (.slice A ch.length c) ch.length (iw ch)) (i : Nat) (hi : i ≤ ch.length) (hl : ch.length ≤ 64) (x vb : Nat) (hv : w.heap[vb]? = some (.cells #[.int .i64 (x : Int)] 3 (0, 0))) (hne : A.map (·.block) ≠ some vb) :
    Calls Tryd.prog 89 #[.slice A ch.length c, .int .i64 (i : Int), .slice (some ⟨vb, 0, none⟩) 1 1] w (InsP w A (ch.take i ++ x :: ch.drop i)) := by
  have hzl : (ch.take i ++ x :: ch.drop i).length = ch.length + 1 := by simp; omega
  have hvs : ∀ j v, [Value.int .i64 (x : Int)][j]? = some v → w.cell? ⟨vb, 0 + j, none⟩ = some v := by
    intro j v hj
    match j, hj with
    | 0, hj => cases hj; exact cell_of_row w vb 0 _ _ (0, 0) hv
  have h1v : ∀ v ∈ [Value.int .i64 (x : Int)], v.oneCell' = true := by intro v hv; simp at hv; subst hv; rfl
  unfold InsP
  rw [hzl]
  rcases h.2 with ⟨he, h0⟩ | ⟨b, cap, cur, he, _, hrow, hnc, hcm, hcs, hct⟩
  · -- nil
    simp only [Value.slice.injEq] at he
    obtain ⟨rfl, _, rfl⟩ := he
    have hch : ch = [] := List.length_eq_zero_iff.1 h0
    subst hch
    obtain rfl : i = 0 := by simpa using hi
    refine (Any2.slices_Insert_int_end_grow Tryd.insH none 0 0 vb 0 1 1 [] [.int .i64 (x : Int)] w (by omega) (by omega) (by omega) (by omega) rfl rfl (fun _ => rfl) (fun a ha => by cases ha) hvs h1v).mono ?_
    rintro e w' ⟨rfl, rfl⟩
    have hg := grownCap_ge w (0 + 1) 0 3
    have hgl := grownCap_le_maxLen w (0 + 1) 0 3 (by unfold maxLen; omega)
    rw [show Tryd.insH_ren.t 3 = 3 from rfl]
    generalize grownCap w (0 + 1) 0 3 = G at *
    refine ⟨_, _, rfl, own_of_row (K.alloc_top w.drew _) ?_ hg hgl (by simp) (fun j hj => ?_), chg_of_drew (chg_alloc w.drew _ _), fun j hj => .inr ?_⟩
    · simp [size_zeroCells, Value.cells]
      omega
    · obtain rfl : j = 0 := by simpa using hj
      rw [Array.getElem?_append_left (by simp)]
      rfl
    · cases hj; exact Nat.le_refl _
  · cases he
    have hcl : cur.size = c := by omega
    have hce : ∀ j, j < ch.length → cur[j]? = (iw ch)[j]? := by
      intro j hj
      rw [← hct, List.getElem?_take, if_pos (by omega), Array.getElem?_toList]
    have hcell : ∀ j v, (iw ch)[j]? = some v → w.cell? ⟨b, 0 + j, none⟩ = some v := by
      intro j v hj
      have hjl := (List.getElem?_eq_some_iff.1 hj).1
      rw [Nat.zero_add, cell_of_row w b j _ _ (0, 0) hrow, hce j (by simpa using hjl)]
      exact hj
    have hfz : ∀ j, w.frozen? ⟨b, j, none⟩ = false := fun j => frozen_of_row w b j _ _ hrow
    have hvb : vb ≠ b := fun e => hne (by subst e; rfl)
    by_cases hroom : ch.length + 1 ≤ c
    · have hsome : ∀ j, j < c → (w.cell? ⟨b, j, none⟩).isSome = true := fun j hj => by
        rw [cell_of_row w b j _ _ (0, 0) hrow]
        simp; omega
      by_cases hin : i < ch.length
      · have hsa : w.shape? vb = some (3, 1) := by simp [World.shape?, hv]
        have hsb : w.shape? b = some (3, c) := by simp [World.shape?, hrow, hcl]
        refine (Any2.slices_Insert_int_shift Tryd.insH b 0 ch.length c i vb 0 1 1 (iw ch) [.int .i64 (x : Int)] w hin (by omega) hroom (by unfold maxLen at hcm; omega) hvb (by simp) rfl hcell
          (fun j hj => by rw [Nat.zero_add]; exact hsome j (by omega)) (fun j _ => hfz _) hvs (iw_one ch) h1v 3 3 1 c hsa hsb (by omega) (frozen_of_row w vb 0 _ _ hv) (frozen_of_row w vb 1 _ _ hv)).mono ?_
        rintro e w' ⟨rfl, rfl⟩
        obtain ⟨cur1, r1, s1, a1, b1, c1⟩ := row_setCells b 3 ((iw ch).drop i) (0 + (i + 1)) w.drew cur hrow (by simp; omega)
        obtain ⟨cur2, r2, s2, a2, b2, c2⟩ := row_setCells b 3 [.int .i64 (x : Int)] (0 + i) _ cur1 r1 (by simp; omega)
        refine ⟨_, _, rfl, own_of_row r2 (by omega) hroom hcm (by simpa using hzl) (fun j hj => ?_), chg_of_drew ((chg_setCells b (fun j => some b = some j) rfl _ _ w.drew).same (chg_setCells b (fun j => some b = some j) rfl _ _ _)), fun j hj => .inl hj⟩
        rw [iw_at, ins_at ch i x hi]
        rcases Nat.lt_trichotomy j i with h2 | h2 | h2
        · rw [a2 j (by omega), a1 j (by omega), hce j (by omega), if_pos h2, iw_at]
        · subst h2
          have := b2 0 (by simp)
          simp at this
          rw [if_neg (by omega), if_pos rfl, this]
          rfl
        · rw [c2 j (by simp; omega)]
          have hjj : j = 0 + (i + 1) + (j - i - 1) := by omega
          have := b1 (j - i - 1) (by simp; omega)
          rw [← hjj] at this
          rw [this, if_neg (by omega), if_neg (by omega), List.getElem?_drop, iw_at]
          congr 2
          omega
      · obtain rfl : i = ch.length := by omega
        refine (Any2.slices_Insert_int_end_room Tryd.insH b 0 ch.length c vb 0 1 1 [.int .i64 (x : Int)] w (by omega) hroom (by unfold maxLen at hcm; omega) rfl
          (fun j hj => by rw [Nat.zero_add]; exact hsome _ (by omega)) (fun j _ => hfz _) hvs h1v).mono ?_
        rintro e w' ⟨rfl, rfl⟩
        obtain ⟨cur2, r2, s2, a2, b2, c2⟩ := row_setCells b 3 [.int .i64 (x : Int)] (0 + ch.length) w cur hrow (by simp; omega)
        refine ⟨_, _, rfl, own_of_row r2 (by omega) hroom hcm (by simp) (fun j hj => ?_), chg_setCells b (fun j => some b = some j) rfl _ _ w, fun j hj => .inl hj⟩
        rw [iw_at, ins_at ch ch.length x hi]
        rcases Nat.lt_or_ge j ch.length with h2 | h2
        · rw [a2 j (by omega), hce j (by omega), if_pos h2, iw_at]
        · obtain rfl : j = ch.length := by omega
          have := b2 0 (by simp)
          simp at this
          rw [if_neg (by omega), if_pos rfl, this]
          rfl
    · have hg := grownCap_ge w (ch.length + 1) c 3
      have hgl := grownCap_le_maxLen w (ch.length + 1) c 3 (by unfold maxLen; omega)
      have ht3 : (Tryd.insH_ren.t 3) = 3 := rfl
      by_cases hin : i < ch.length
      · refine (Any2.slices_Insert_int_grow Tryd.insH b 0 ch.length c i vb 0 1 1 (iw ch) [.int .i64 (x : Int)] w hin (by omega) hnc (by omega) (by omega) (by simp) rfl hcell hvs (iw_one ch) h1v).mono ?_
        rintro e w' ⟨rfl, rfl⟩
        rw [ht3]
        obtain ⟨cur0, hc0⟩ : ∃ cur0, cur0 = ((iw ch).take i).toArray ++ Builtin.zeroCells (Value.int .i64 0).cells (ch.length + 1 - i) ++ Builtin.zeroCells (Value.int .i64 0).cells (grownCap w (ch.length + 1) c 3 - (ch.length + 1)) := ⟨_, rfl⟩
        rw [← hc0]
        have hs0 : cur0.size = grownCap w (ch.length + 1) c 3 := by
          rw [hc0]
          simp [size_zeroCells, Value.cells]
          omega
        have he0 : ∀ j, j < i → cur0[j]? = (iw ch)[j]? := by
          intro j hj
          rw [hc0, Array.append_assoc, Array.getElem?_append_left (by simp; omega)]
          rw [List.getElem?_toArray, List.getElem?_take, if_pos hj]
        have r0 : ((w.alloc (.cells cur0 3)).drew).heap[w.heap.size]? = some (.cells cur0 3 (0, 0)) := K.alloc_top w _
        obtain ⟨cur1, r1, s1, a1, b1, c1⟩ := row_setCells w.heap.size 3 [.int .i64 (x : Int)] i _ cur0 r0 (by simp; omega)
        obtain ⟨cur2, r2, s2, a2, b2, c2⟩ := row_setCells w.heap.size 3 ((iw ch).drop i) (i + 1) _ cur1 (show ((((w.alloc (.cells cur0 3)).drew).setCells w.heap.size i [.int .i64 (x : Int)]).drew).heap[w.heap.size]? = _ from r1) (by simp; omega)
        refine ⟨_, _, rfl, own_of_row r2 (by omega) hg hgl (by simpa using hzl) (fun j hj => ?_), ?_, fun j hj => .inr (by cases hj; exact Nat.le_refl _)⟩
        · rw [iw_at, ins_at ch i x hi]
          rcases Nat.lt_trichotomy j i with h2 | h2 | h2
          · rw [a2 j (by omega), a1 j (by omega), he0 j h2, if_pos h2, iw_at]
          · subst h2
            have := b1 0 (by simp)
            simp at this
            rw [a2 j (by omega), if_neg (by omega), if_pos rfl, this]
            rfl
          · have hjj : j = i + 1 + (j - i - 1) := by omega
            have := b2 (j - i - 1) (by simp; omega)
            rw [← hjj] at this
            rw [this, if_neg (by omega), if_neg (by omega), List.getElem?_drop, iw_at]
            congr 2
            omega
        · have k1 : K.Chg w ((w.alloc (.cells cur0 3)).drew) (fun j => some b = some j) := (chg_alloc w _ _).drewN 1
          have k2 := k1.trans (chg_setCells w.heap.size (· = w.heap.size) rfl [.int .i64 (x : Int)] i _) (fun j hj => .inr (by omega))
          exact (k2.drewN 1).trans (chg_setCells w.heap.size (· = w.heap.size) rfl ((iw ch).drop i) (i + 1) _) (fun j hj => .inr (by omega))
      · obtain rfl : i = ch.length := by omega
        refine (Any2.slices_Insert_int_end_grow Tryd.insH (some ⟨b, 0, none⟩) ch.length c vb 0 1 1 (iw ch) [.int .i64 (x : Int)] w (by omega) hnc (by omega) (by omega) (by simp) rfl (fun ha => by cases ha) (fun a ha j v hj => by
          cases ha
          rw [add_off]
          have := hcell j v hj
          rwa [Nat.zero_add] at this) hvs h1v).mono ?_
        rintro e w' ⟨rfl, rfl⟩
        rw [ht3]
        refine ⟨_, _, rfl, own_of_row (K.alloc_top w.drew _) ?_ hg hgl (by simp) (fun j hj => ?_), chg_of_drew (chg_alloc w.drew _ _), fun j hj => .inr (by cases hj; exact Nat.le_refl _)⟩
        · simp [size_zeroCells, Value.cells]
          omega
        · rw [iw_at, ins_at ch ch.length x hi, Array.getElem?_append_left (by simp; omega), List.getElem?_toArray]
          rcases Nat.lt_or_ge j ch.length with h2 | h2
          · rw [List.getElem?_append_left (by simpa using h2), if_pos h2, iw_at]
          · obtain rfl : j = ch.length := by omega
            rw [if_neg (by omega), if_pos rfl, List.getElem?_append_right (by simp)]
            simp
end Go.Proofs.YtndielncleohlaaDoor
