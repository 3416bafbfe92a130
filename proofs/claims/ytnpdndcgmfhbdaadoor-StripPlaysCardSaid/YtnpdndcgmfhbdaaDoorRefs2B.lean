
/- What the document's functions that make and compare lists answer, and what words made of bits are: contracts of each, the text walked. -/
import Derived.Test.YtnpdndcgmfhbdaaDoorRefsB
import Derived.Deep.QuietTactic
import Derived.BigQuiet
namespace Go.Proofs.YtnpdndcgmfhbdaaDoor
open Go.RowKit

theorem same_no {xs ys : List Int} {k : Nat} (h : ∃ a b, xs[k]? = some a ∧ ys[k]? = some b ∧ a ≠ b) : decide (xs = ys) = false := by
  rw [decide_eq_false_iff_not]
  rintro rfl
  obtain ⟨a, b, h1, h2, h3⟩ := h
  rw [h1] at h2
  exact h3 (by simpa using h2)

set_option maxHeartbeats 1000000 in
theorem ref_same (A A' : Option Addr) (c c' : Nat) (xs ys : List Int) (w : World) (B B' : Nat) (hr : Rd w B A xs) (hr' : Rd w B' A' ys) (hl : xs.length ≤ 4611686018427387904) (_hl' : ys.length ≤ 4611686018427387904) :
    Calls Tryd.prog 9 #[.slice A xs.length c, .slice A' ys.length c'] w fun e w' => e = .returned (.bool (decide (xs = ys))) ∧ ∃ n, w' = w.drewN n := by
  by_cases hlen : xs.length = ys.length
  · generalize hL : ys.length = L at *
    have hLh := Lib.hid hL
    clear hL
    subst hlen
    go_enter Tryd.func9, Tryd.ntmps9
    go_wp2
    go_loopw [13] (fun i wr => ∃ k n : Nat, k ≤ xs.length ∧ i = .int .i64 k ∧ wr = w.drewN n ∧ Hid (xs.take k = ys.take k)) (fun i _ => xs.length - (intOf i).toNat)
    case atStart => exact ⟨0, 0, by omega, rfl, rfl, rfl⟩
    case round =>
      obtain ⟨k, n, hk, rfl, rfl, hH⟩ := hrel
      by_cases hlt : k < xs.length
      · have hlt' : k < ys.length := by rw [hLh.out]; exact hlt
        obtain ⟨b, off, rfl, hc⟩ := hr.at hlt
        obtain ⟨b', off', rfl, hc'⟩ := hr'.at hlt'
        have hx : xs[k]? = some xs[k] := List.getElem?_eq_getElem hlt
        have hy : ys[k]? = some ys[k] := List.getElem?_eq_getElem hlt'
        have hxH := Lib.hid hx
        have hyH := Lib.hid hy
        have hs := Lib.hid (take_snoc hlt)
        have hs' := Lib.hid (take_snoc hlt')
        clear hx hy
        generalize xs[k] = x at *
        generalize ys[k] = y at *
        by_cases he : x = y
        · have heb : (x == y) = true := by simp [he]
          have hres : Hid (xs.take (k + 1) = ys.take (k + 1)) := by
            show xs.take (k + 1) = ys.take (k + 1)
            rw [hs.out, hs'.out, hH.out, he]
          clear hs hs' hxH hyH hH he
          go_wp2
          go_quiet (fail)
          go_wp2
          go_roundw
          case rel => exact ⟨k + 1, _, by omega, by go_num, rfl, hres⟩
          case measure => simp [intOf]; omega
        · have heb : (x == y) = false := by simp [he]
          have hres := Lib.hid (same_no (k := k) ⟨x, y, hxH.out, hyH.out, he⟩)
          clear hs hs' hxH hyH hH he
          go_wp2
          go_quiet (fail)
          go_wp2
          go_ret
          exact ⟨ret_bool hres.out.symm, _, World.drewN_drewN _ _ _⟩
      · have hres : Hid (decide (xs = ys) = true) := by
          have h1 := hH.out
          rw [take_all hlt, take_all (by rw [hLh.out]; exact hlt)] at h1
          show decide (xs = ys) = true
          simp [h1]
        go_wp2
        go_ret
        exact ⟨ret_bool hres.out.symm, _, rfl⟩
  · have hres := Lib.hid (show decide (xs = ys) = false by rw [decide_eq_false_iff_not]; rintro rfl; exact hlen rfl)
    have hne : ((xs.length : Int) == (ys.length : Int)) = false := by simp; omega
    go_enter Tryd.func9, Tryd.ntmps9
    go_wp2
    go_ret
    exact ⟨ret_bool hres.out.symm, 0, rfl⟩

/-- An append of one number onto the call's own list, as the walks use it. -/
theorem own_snoc {w w0 w1 : World} {xs : List Int} {y : Int} {v v' : Value} {t : TypeId} (hb : Below w.heap.size w w0) (hown : w0.ownsRow w.heap.size 3 1 v xs.length (xs.map (Value.int .i64)))
    (hown' : w1.ownsRow w.heap.size 3 1 v' (xs.length + 1) (xs.map (Value.int .i64) ++ [.int .i64 y])) (hgrow : (w0.alloc (.cells #[.int .i64 y] t)).grownBy w1 v.ownBlock) :
    w1.ownsRow w.heap.size 3 1 v' (xs ++ [y]).length ((xs ++ [y]).map (Value.int .i64)) ∧ Below w.heap.size w w1 :=
  ⟨by rw [List.map_append, List.length_append]; exact hown', (hb.alloc hb.size _).grown hgrow (by have := hb.size; simp; omega) (fun g hg => (hown.lt g hg).1)⟩

theorem drop_len (xs : List Int) (n : Int) : (M.drop xs n).length ≤ xs.length := List.length_filter_le _ _
theorem drop_snoc (xs : List Int) (y n : Int) : M.drop (xs ++ [y]) n = M.drop xs n ++ if y ≠ n then [y] else [] := by
  unfold M.drop
  rw [List.filter_append]
  by_cases h : y = n <;> simp [h]

set_option maxHeartbeats 1000000 in
theorem ref_drop (A : Option Addr) (c : Nat) (xs : List Int) (n : Int) (w : World) (hr : Rd w w.heap.size A xs) (hl : xs.length ≤ 1073741824) :
    Calls Tryd.prog 41 #[.slice A xs.length c, .int .i64 n] w fun e w' => ∃ A' c', e = .returned (.slice A' (M.drop xs n).length c') ∧ Rd w' w'.heap.size A' (M.drop xs n) ∧ Fr w.heap.size A' ∧ Below w.heap.size w w' := by
  obtain ⟨i0, hi, hz0, hz1, hz2⟩ := info_parts int_info
  go_enter Tryd.func41, Tryd.ntmps41
  go_wp2
  go_loopw [5, 10] (fun v i wr => ∃ k : Nat, k ≤ xs.length ∧ i = .int .i64 k ∧ wr.ownsRow w.heap.size 3 1 v (M.drop (xs.take k) n).length ((M.drop (xs.take k) n).map (Value.int .i64)) ∧ Below w.heap.size w wr)
    (fun _ i _ => xs.length - (intOf i).toNat)
  case atStart => exact ⟨0, by omega, rfl, World.ownsRow_nil _ _ _ _, Below.refl _ _⟩
  case round =>
    obtain ⟨k, hk, rfl, hown, hb⟩ := hrel
    by_cases hlt : k < xs.length
    · obtain ⟨b, off, rfl, hc⟩ := (hr.below hb (Nat.le_refl _)).at hlt
      have hs := drop_snoc (xs.take k) xs[k] n
      rw [← take_snoc hlt] at hs
      have hlen := drop_len (xs.take k) n
      rw [List.length_take] at hlen
      have hsH := Lib.hid hs
      clear hs
      generalize M.drop (xs.take k) n = ds at *
      generalize xs[k] = y at *
      by_cases hy : y = n
      · subst hy
        have hbb : (y == y) = true := by simp
        have hown2 : wr.ownsRow w.heap.size 3 1 u5 (M.drop (xs.take (k + 1)) y).length ((M.drop (xs.take (k + 1)) y).map (Value.int .i64)) := by
          rw [hsH.out]; simpa using hown
        go_wp2
        go_roundw
        case rel => exact ⟨k + 1, by omega, by go_num, hown2, hb⟩
        case measure => simp [intOf]; omega
      · have hbb : (y == n) = false := by simp [hy]
        have hsH2 : Hid (M.drop (xs.take (k + 1)) n = ds ++ [y]) := by
          show M.drop (xs.take (k + 1)) n = ds ++ [y]
          rw [hsH.out, if_pos hy]
        clear hsH hy
        go_wp2_with (at_builtin; refine wpList_append_own _ rfl _ _ 25 rfl w.heap.size 3 i0 (.int .i64 0) 1 8 Tryd.underlying25 hi hz0 hz1 hz2 rfl (by decide) _ _ _ rfl (hown.alloc _) ⟨wr.heap.size, 0, none⟩ 1 1 [.int .i64 y] rfl rfl ?c1 ?c2 ?c3 ?c4 ?c5 ?_)
        case c1 => exact cell_one _ _ _
        case c2 => first | exact one_int _ _ | rfl
        case c3 => unfold maxLen; omega
        case c4 => omega
        case c5 => have := hb.size; simp; omega
        intro v' w1 hown' hgrow _
        obtain ⟨hown2, hb2⟩ := own_snoc hb hown hown' hgrow
        rw [← hsH2.out] at hown2
        clear hown' hgrow hown hb
        go_wp2
        go_roundw
        case rel => exact ⟨k + 1, by omega, by go_num, hown2, hb2⟩
        case measure => simp [intOf]; omega
    · rw [take_all hlt] at hown
      obtain ⟨A', c', rfl, hr', hF⟩ := Rd.of_own hown
      go_wp2
      go_ret
      exact ⟨A', c', rfl, hr', hF, hb⟩

/-- What Add has made of the first k, and whether the number is in it. -/
def addTo (n : Int) : List Int → List Int
  | [] => []
  | x :: xs => (if n ≤ x then n :: M.drop (x :: xs) n else x :: addTo n xs)
def addIn (n : Int) (l : List Int) : Bool := l.any fun x => decide (n ≤ x)
theorem drop_cons_no {x n : Int} {l : List Int} (h : x ≠ n) : M.drop (x :: l) n = x :: M.drop l n := by simp [M.drop, h]
theorem addTo_snoc (n : Int) (l : List Int) (y : Int) : addTo n (l ++ [y]) = addTo n l ++ ((if !addIn n l && decide (n ≤ y) then [n] else []) ++ (if y ≠ n then [y] else [])) := by
  induction l with
  | nil =>
    simp only [List.nil_append, addTo, addIn, List.any_nil, Bool.not_false, Bool.true_and]
    by_cases h : n ≤ y
    · by_cases e : y = n <;> simp [h, M.drop, e]
    · have e : y ≠ n := by omega
      simp [h, e]
  | cons x l ih =>
    rw [List.cons_append, addTo, addTo]
    by_cases h : n ≤ x
    · rw [if_pos h, if_pos h, ← List.cons_append, drop_snoc]
      have : addIn n (x :: l) = true := by simp [addIn, h]
      simp [this]
    · rw [if_neg h, if_neg h, ih]
      have : addIn n (x :: l) = addIn n l := by simp [addIn, h]
      rw [this]; simp
theorem addIn_snoc (n : Int) (l : List Int) (y : Int) : addIn n (l ++ [y]) = (addIn n l || decide (n ≤ y)) := by simp [addIn]
theorem addTo_len (n : Int) (l : List Int) : (addTo n l).length ≤ l.length + 1 := by
  induction l with
  | nil => simp [addTo]
  | cons x l ih =>
    rw [addTo]
    split
    · have := drop_len (x :: l) n
      simp only [List.length_cons] at *
      omega
    · simp only [List.length_cons]; omega
theorem addTo_end (n : Int) (l : List Int) (hl : l.Pairwise (· < ·)) : addTo n l ++ (if addIn n l then [] else [n]) = M.add l n := by
  rw [← M.addGo_eq n l hl]
  clear hl
  induction l with
  | nil => rfl
  | cons x l ih =>
    rw [addTo, M.addGo]
    by_cases h : n ≤ x
    · have : addIn n (x :: l) = true := by simp [addIn, h]
      simp only [h, if_true, this, decide_true, Bool.not_false, Bool.true_and, Bool.or_true, M.addGo_true, List.append_nil]
      by_cases e : x = n <;> simp [M.drop, e]
    · have : addIn n (x :: l) = addIn n l := by simp [addIn, h]
      have e : x ≠ n := by omega
      simp only [h, if_false, this, decide_false, Bool.and_false, Bool.or_false]
      rw [← ih]
      simp [e]

set_option maxHeartbeats 4000000 in
theorem ref_add (A : Option Addr) (c : Nat) (xs : List Int) (n : Int) (w : World) (hr : Rd w w.heap.size A xs) (hl : xs.length ≤ 1073741824) (hs : xs.Pairwise (· < ·)) :
    Calls Tryd.prog 40 #[.slice A xs.length c, .int .i64 n] w fun e w' => ∃ A' c', e = .returned (.slice A' (M.add xs n).length c') ∧ Rd w' w'.heap.size A' (M.add xs n) ∧ Fr w.heap.size A' ∧ Below w.heap.size w w' := by
  obtain ⟨i0, hi, hz0, hz1, hz2⟩ := info_parts int_info
  have hend := Lib.hid (addTo_end n xs hs)
  clear hs
  go_enter Tryd.func40, Tryd.ntmps40
  go_wp2
  go_loopw [5, 6, 11] (fun v d i wr => ∃ k : Nat, k ≤ xs.length ∧ i = .int .i64 k ∧ d = .bool (addIn n (xs.take k)) ∧ wr.ownsRow w.heap.size 3 1 v (addTo n (xs.take k)).length ((addTo n (xs.take k)).map (Value.int .i64)) ∧ Below w.heap.size w wr)
    (fun _ _ i _ => xs.length - (intOf i).toNat)
  case atStart => exact ⟨0, by omega, rfl, rfl, World.ownsRow_nil _ _ _ _, Below.refl _ _⟩
  case round =>
    obtain ⟨k, hk, rfl, rfl, hown, hb⟩ := hrel
    by_cases hlt : k < xs.length
    · obtain ⟨b, off, rfl, hc⟩ := (hr.below hb (Nat.le_refl _)).at hlt
      have hbk : b < w.heap.size := by
        obtain ⟨b', off', e, h1, _⟩ := hr (by intro e; subst e; simp at hlt)
        injection e with e; injection e with e; omega
      have hs := addTo_snoc n (xs.take k) xs[k]
      have hd := addIn_snoc n (xs.take k) xs[k]
      rw [← take_snoc hlt] at hs hd
      have hlen := addTo_len n (xs.take k)
      rw [List.length_take] at hlen
      have hsH := Lib.hid hs
      have hdH := Lib.hid hd
      clear hs hd
      generalize addTo n (xs.take k) = ds at *
      generalize addIn n (xs.take k) = d at *
      generalize xs[k] = y at *
      cases d
      · by_cases h : n ≤ y
        · have hd2 : Hid (addIn n (xs.take (k + 1)) = true) := by
            show addIn n (xs.take (k + 1)) = true
            rw [hdH.out]; simp [h]
          by_cases e : y = n
          · subst e
            have hbb : (y == y) = true := by simp
            have hs2 : Hid (addTo y (xs.take (k + 1)) = ds ++ [y]) := by
              show addTo y (xs.take (k + 1)) = ds ++ [y]
              rw [hsH.out]; simp
            clear hsH hdH
            go_wp2_with (at_builtin; refine wpList_append_own _ rfl _ _ 25 rfl w.heap.size 3 i0 (.int .i64 0) 1 8 Tryd.underlying25 hi hz0 hz1 hz2 rfl (by decide) _ _ _ rfl (hown.alloc _) ⟨wr.heap.size, 0, none⟩ 1 1 [.int .i64 y] rfl rfl ?d01 ?d02 ?d03 ?d04 ?d05 ?_)
            try (case d01 => exact cell_one _ _ _)
            case d02 => first | exact one_int _ _ | rfl
            case d03 => unfold maxLen; omega
            case d04 => omega
            case d05 => have := hb.size; simp; omega
            intro v1 w1 hown' hgrow _
            obtain ⟨hown1, hb1⟩ := own_snoc hb hown hown' hgrow
            clear hown' hgrow hown hb
            go_wp2
            go_roundw
            case rel => exact ⟨k + 1, by omega, by go_num, by first | rw [hd2.out] | (rw [hd2.out]; rfl), by rw [hs2.out]; exact hown1, hb1⟩
            case measure => simp [intOf]; omega
          · have hbb : (y == n) = false := by simp [e]
            have hs2 : Hid (addTo n (xs.take (k + 1)) = (ds ++ [n]) ++ [y]) := by
              show addTo n (xs.take (k + 1)) = (ds ++ [n]) ++ [y]
              rw [hsH.out]; simp [h, e]
            clear hsH hdH e
            go_wp2_with (at_builtin; refine wpList_append_own _ rfl _ _ 25 rfl w.heap.size 3 i0 (.int .i64 0) 1 8 Tryd.underlying25 hi hz0 hz1 hz2 rfl (by decide) _ _ _ rfl (hown.alloc _) ⟨wr.heap.size, 0, none⟩ 1 1 [.int .i64 n] rfl rfl ?d11 ?d12 ?d13 ?d14 ?d15 ?_)
            try (case d11 => exact cell_one _ _ _)
            case d12 => first | exact one_int _ _ | rfl
            case d13 => unfold maxLen; omega
            case d14 => omega
            case d15 => have := hb.size; simp; omega
            intro v1 w1 hown' hgrow _
            obtain ⟨hown1, hb1⟩ := own_snoc hb hown hown' hgrow
            clear hown' hgrow hown hb
            have hl1 : (ds ++ [n]).length ≤ k + 2 := by simp only [List.length_append, List.length_singleton]; omega
            clear hlen
            generalize ds ++ [n] = ds1 at *
            go_wp2_with (at_builtin; refine wpList_append_own _ rfl _ _ 25 rfl w.heap.size 3 i0 (.int .i64 0) 1 8 Tryd.underlying25 hi hz0 hz1 hz2 rfl (by decide) _ _ _ rfl (hown1.alloc _) ⟨w1.heap.size, 0, none⟩ 1 1 [.int .i64 y] rfl rfl ?d21 ?d22 ?d23 ?d24 ?d25 ?_)
            try (case d21 => exact cell_one _ _ _)
            case d22 => first | exact one_int _ _ | rfl
            case d23 => unfold maxLen; omega
            case d24 => omega
            case d25 => have := hb1.size; simp; omega
            intro v2 w2 hown' hgrow _
            obtain ⟨hown2, hb2⟩ := own_snoc hb1 hown1 hown' hgrow
            clear hown' hgrow hown1 hb1
            go_wp2
            go_roundw
            case rel => exact ⟨k + 1, by omega, by go_num, by first | rw [hd2.out] | (rw [hd2.out]; rfl), by rw [hs2.out]; exact hown2, hb2⟩
            case measure => simp [intOf]; omega
        · have e : y ≠ n := by omega
          have hbb : (y == n) = false := by simp [e]
          have hd2 : Hid (addIn n (xs.take (k + 1)) = false) := by
            show addIn n (xs.take (k + 1)) = false
            rw [hdH.out]; simp [h]
          have hs2 : Hid (addTo n (xs.take (k + 1)) = ds ++ [y]) := by
            show addTo n (xs.take (k + 1)) = ds ++ [y]
            rw [hsH.out]; simp [h, e]
          clear hsH hdH e
          go_wp2_with (at_builtin; refine wpList_append_own _ rfl _ _ 25 rfl w.heap.size 3 i0 (.int .i64 0) 1 8 Tryd.underlying25 hi hz0 hz1 hz2 rfl (by decide) _ _ _ rfl (hown.alloc _) ⟨wr.heap.size, 0, none⟩ 1 1 [.int .i64 y] rfl rfl ?d31 ?d32 ?d33 ?d34 ?d35 ?_)
          try (case d31 => exact cell_one _ _ _)
          case d32 => first | exact one_int _ _ | rfl
          case d33 => unfold maxLen; omega
          case d34 => omega
          case d35 => have := hb.size; simp; omega
          intro v1 w1 hown' hgrow _
          obtain ⟨hown1, hb1⟩ := own_snoc hb hown hown' hgrow
          clear hown' hgrow hown hb
          go_wp2
          go_roundw
          case rel => exact ⟨k + 1, by omega, by go_num, by first | rw [hd2.out] | (rw [hd2.out]; rfl), by rw [hs2.out]; exact hown1, hb1⟩
          case measure => simp [intOf]; omega
      · have hd2 : Hid (addIn n (xs.take (k + 1)) = true) := by
          show addIn n (xs.take (k + 1)) = true
          rw [hdH.out]; simp
        by_cases e : y = n
        · subst e
          have hbb : (y == y) = true := by simp
          have hs2 : Hid (addTo y (xs.take (k + 1)) = ds) := by
            show addTo y (xs.take (k + 1)) = ds
            rw [hsH.out]; simp
          clear hsH hdH
          go_wp2
          go_roundw
          case rel => exact ⟨k + 1, by omega, by go_num, by first | rw [hd2.out] | (rw [hd2.out]; rfl), by rw [hs2.out]; exact hown, hb⟩
          case measure => simp [intOf]; omega
        · have hbb : (y == n) = false := by simp [e]
          have hs2 : Hid (addTo n (xs.take (k + 1)) = ds ++ [y]) := by
            show addTo n (xs.take (k + 1)) = ds ++ [y]
            rw [hsH.out]; simp [e]
          clear hsH hdH e
          go_wp2_with (at_builtin; refine wpList_append_own _ rfl _ _ 25 rfl w.heap.size 3 i0 (.int .i64 0) 1 8 Tryd.underlying25 hi hz0 hz1 hz2 rfl (by decide) _ _ _ rfl (hown.alloc _) ⟨wr.heap.size, 0, none⟩ 1 1 [.int .i64 y] rfl rfl ?d41 ?d42 ?d43 ?d44 ?d45 ?_)
          try (case d41 => exact cell_one _ _ _)
          case d42 => first | exact one_int _ _ | rfl
          case d43 => unfold maxLen; omega
          case d44 => omega
          case d45 => have := hb.size; simp; omega
          intro v1 w1 hown' hgrow _
          obtain ⟨hown1, hb1⟩ := own_snoc hb hown hown' hgrow
          clear hown' hgrow hown hb
          go_wp2
          go_roundw
          case rel => exact ⟨k + 1, by omega, by go_num, by first | rw [hd2.out] | (rw [hd2.out]; rfl), by rw [hs2.out]; exact hown1, hb1⟩
          case measure => simp [intOf]; omega
    · rw [take_all hlt] at hown
      rw [take_all hlt]
      have hlen := addTo_len n xs
      generalize addTo n xs = ds at *
      generalize addIn n xs = d at *
      cases d
      · have hs2 : Hid (M.add xs n = ds ++ [n]) := by
          show M.add xs n = ds ++ [n]
          rw [← hend.out]; simp
        clear hend
        go_wp2_with (at_builtin; refine wpList_append_own _ rfl _ _ 25 rfl w.heap.size 3 i0 (.int .i64 0) 1 8 Tryd.underlying25 hi hz0 hz1 hz2 rfl (by decide) _ _ _ rfl (hown.alloc _) ⟨wr.heap.size, 0, none⟩ 1 1 [.int .i64 n] rfl rfl ?d51 ?d52 ?d53 ?d54 ?d55 ?_)
        try (case d51 => exact cell_one _ _ _)
        case d52 => first | exact one_int _ _ | rfl
        case d53 => unfold maxLen; omega
        case d54 => omega
        case d55 => have := hb.size; simp; omega
        intro v1 w1 hown' hgrow _
        obtain ⟨hown1, hb1⟩ := own_snoc hb hown hown' hgrow
        clear hown' hgrow hown hb
        rw [← hs2.out] at hown1
        obtain ⟨A', c', rfl, hr', hF⟩ := Rd.of_own hown1
        go_wp2
        go_ret
        exact ⟨A', c', rfl, hr', hF, hb1⟩
      · have hs2 : Hid (M.add xs n = ds) := by
          show M.add xs n = ds
          rw [← hend.out]; simp
        clear hend
        rw [← hs2.out] at hown
        obtain ⟨A', c', rfl, hr', hF⟩ := Rd.of_own hown
        go_wp2
        go_ret
        exact ⟨A', c', rfl, hr', hF, hb⟩
end Go.Proofs.YtnpdndcgmfhbdaaDoor
