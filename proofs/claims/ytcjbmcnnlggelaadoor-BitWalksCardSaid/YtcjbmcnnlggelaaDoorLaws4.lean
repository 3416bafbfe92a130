/- The law function BitLists: it returns true at every input, the text walked over the contracts. -/
import Derived.Test.YtcjbmcnnlggelaaDoorLaws
import Derived.Test.YtcjbmcnnlggelaaDoorRefs3
namespace Go.Proofs.YtcjbmcnnlggelaaDoor
open Go.RowKit

theorem ref_ints100 (A : Option Addr) (cp : Nat) (xs : List Int) (w : World) (hr : Rd w w.heap.size A xs) (hl : xs.length ≤ 9223372036854775807) :
    Calls Tryd.prog 34 #[.slice A xs.length cp, .int .i64 100] w fun e w' => ∃ A' c', e = .returned (.slice A' (xs.take 100).length c') ∧ Rd w' w'.heap.size A' (xs.take 100) ∧ Below w.heap.size w w' := ref_ints A cp xs 100 w hr hl (by decide)
theorem ref_words20 (A : Option Addr) (cp : Nat) (xs : List Nat) (w : World) (hr : Rw w w.heap.size A xs) (hl : xs.length ≤ 9223372036854775807) :
    Calls Tryd.prog 35 #[.slice A xs.length cp, .int .i64 20] w fun e w' => ∃ A' c', e = .returned (.slice A' (xs.take 20).length c') ∧ Rw w' w'.heap.size A' (xs.take 20) ∧ Below w.heap.size w w' := ref_words A cp xs 20 w hr hl (by decide)

/-- Two lists of the call's own that lie apart. -/
def Dj (a b : Value) : Prop := a.ownBlock = none ∨ b.ownBlock = none ∨ a.ownBlock ≠ b.ownBlock
theorem Dj.symm {a b : Value} (h : Dj a b) : Dj b a := by
  rcases h with h | h | h
  · exact .inr (.inl h)
  · exact .inl h
  · exact .inr (.inr h.symm)
theorem reads_one (w : World) (y : Int) (t : TypeId) : Reads (w.alloc (.cells #[.int .i64 y] t)) (w.heap.size + 1) 1 (some ⟨w.heap.size, 0, none⟩) 1 [.int .i64 y] :=
  ⟨rfl, fun _ => ⟨_, rfl, by show w.heap.size < w.heap.size + 1; omega, cell_one _ _ _⟩⟩
theorem own_below {w w' : World} {base : Nat} {v : Value} {n : Nat} {xs : List Value} (h : w.ownsRow base 3 1 v n xs) (hb : Below w.heap.size w w') : w'.ownsRow base 3 1 v n xs := by
  refine h.kept (row := none) ⟨hb.os, hb.tape, hb.output, hb.size, fun i hi _ => hb.block i hi⟩ ?_
  cases v.ownBlock
  · exact .inl rfl
  · exact .inr (by simp)
theorem two_step {W0 w0 w1 : World} {B : Nat} {v8 v9 v8' : Value} {l8 l9 : List Int} {y : Int} {t : TypeId}
    (h8 : w0.ownsRow B 3 1 v8 l8.length (iv l8)) (h9 : w0.ownsRow B 3 1 v9 l9.length (iv l9)) (dj : Dj v8 v9)
    (hown' : w1.ownsRow B 3 1 v8' (l8.length + 1) (iv l8 ++ [.int .i64 y])) (hgrow : (w0.alloc (.cells #[.int .i64 y] t)).grownBy w1 v8.ownBlock)
    (hat : v8'.ownBlock = v8.ownBlock ∨ v8'.ownBlock = some (w0.heap.size + 1)) (hb : Below B W0 w0) (hB : B ≤ w0.heap.size) :
    w1.ownsRow B 3 1 v8' (l8 ++ [y]).length (iv (l8 ++ [y])) ∧ w1.ownsRow B 3 1 v9 l9.length (iv l9) ∧ Dj v8' v9 ∧ Below B W0 w1 := by
  refine ⟨by rw [iv, List.map_append, List.length_append]; exact hown', (h9.alloc _).kept hgrow ?_, ?_, (hb.alloc hB _).grown hgrow (by simp; omega) (fun g hg => (h8.lt g hg).1)⟩
  · rcases dj with h | h | h
    · rw [h]
      cases v9.ownBlock
      · exact .inl rfl
      · exact .inr (by simp)
    · exact .inl h
    · exact .inr h.symm
  · rcases hat with h | h
    · unfold Dj; rw [h]; exact dj
    · right
      cases h9b : v9.ownBlock with
      | none => exact .inl rfl
      | some k =>
        right
        have := (h9.lt k h9b).2
        rw [h]
        simp only [ne_eq, Option.some.injEq]
        omega
theorem bz_mk0 (l : List Int) : M.bz (M.mk (l.take 0)) = [] := by simp [M.mk, M.bz, M.bl_zero]

set_option maxHeartbeats 4000000 in
theorem law_lists (A A' : Option Addr) (cp cp' : Nat) (xs : List Int) (ys : List Nat) (w : World) (hT : Tab w) (hr : Rd w w.heap.size A xs) (hr' : Rw w w.heap.size A' ys) (hl : xs.length ≤ 9223372036854775807) (hl' : ys.length ≤ 9223372036854775807)
    (hy : ∀ y ∈ ys, y < 18446744073709551616) :
    Calls Tryd.prog 8 #[.slice A xs.length cp, .slice A' ys.length cp'] w fun e w' => e = .returned (.bool true) ∧ Below w.heap.size w w' := by
  obtain ⟨i0, hi, hz0, hz1, hz2⟩ := info_parts int_info
  have hlen : (xs.take 100).length ≤ 100 := by rw [List.length_take]; omega
  have hlen' : (ys.take 20).length ≤ 20 := by rw [List.length_take]; omega
  have hyt := Lib.hid (show ∀ y ∈ ys.take 20, y < 18446744073709551616 from fun y h => hy y (List.mem_of_mem_take h))
  clear hy
  go_enter Tryd.func8, Tryd.ntmps8
  go_wp2_with (first
    | (go_at_call 10; refine (awake_any _ hT).mono ?_; rintro e w1 ⟨rfl, hb1⟩; have hr1 := (hr.below hb1 (Nat.le_refl _)).more hb1.size; have hr1' := (hr'.below hb1 (Nat.le_refl _)).more hb1.size)
    | (go_at_call 34; refine (ref_ints100 _ _ xs _ hr1 hl).mono ?_; rintro e w2 ⟨A2, c2, rfl, hr2, hb2⟩; have hr2' := (hr1'.below hb2 (Nat.le_refl _)).more hb2.size; clear hr1 hr1'; generalize xs.take 100 = ds at *)
    | (go_at_call 35; refine (ref_words20 _ _ ys _ hr2' hl').mono ?_; rintro e w3 ⟨A3, c3, rfl, hr3', hb3⟩; have hr3 := (hr2.below hb3 (Nat.le_refl _)).more hb3.size; clear hr2 hr2'; generalize ys.take 20 = es at *))
  have q2 := hb1.trans (hb2.mono hb1.size)
  have q3 := q2.trans (hb3.mono q2.size)
  clear hb1 hb2 hb3 q2
  go_loopw [5, 22] (fun v i wr => ∃ (k : Nat) (A5 : Option Addr) (c5 : Nat), k ≤ ds.length ∧ i = .int .i64 k ∧ v = .slice A5 (M.bz (M.mk (ds.take k))).length c5 ∧ Rd wr wr.heap.size A5 (M.bz (M.mk (ds.take k))) ∧ Below w3.heap.size w3 wr)
    (fun _ i _ => ds.length - (intOf i).toNat)
  case atStart => exact ⟨0, none, 0, by omega, rfl, by rw [bz_mk0]; rfl, by rw [bz_mk0]; exact fun h => absurd rfl h, Below.refl _ _⟩
  case round =>
    obtain ⟨k, A5, c5, hk, rfl, rfl, hr5, hb⟩ := hrel
    by_cases hlt : k < ds.length
    · obtain ⟨b, off, rfl, hc⟩ := (hr3.below hb (Nat.le_refl _)).at hlt
      have hsn := take_snoc hlt
      have hbz := M.bz_le (M.mk (ds.take k))
      have hsd := M.bz_sorted (M.mk (ds.take k))
      generalize ds.take k = ts at *
      generalize ds[k] = y at *
      have hsH := Lib.hid hsn
      have hsdH := Lib.hid hsd
      clear hsn hsd
      by_cases h0 : 0 ≤ y
      · by_cases h1 : y < 64
        · have hin := Lib.hid (M.mk_in ts y h0 h1)
          go_wp2_with (go_at_call 28; refine (ref_add _ _ (M.bz (M.mk ts)) _ _ hr5 (by omega) hsdH.out).mono ?_; rintro e w4 ⟨A6, c6, rfl, hr6, hb6⟩)
          go_roundw
          case rel => exact ⟨k + 1, A6, c6, by omega, by go_num, by rw [hsH.out, hin.out], by rw [hsH.out, hin.out]; exact hr6, hb.trans (hb6.mono hb.size)⟩
          case measure => simp [intOf]; omega
        · have hout := Lib.hid (M.mk_out ts y (by omega))
          go_wp2
          go_roundw
          case rel => exact ⟨k + 1, A5, c5, by omega, by go_num, by rw [hsH.out, hout.out], by rw [hsH.out, hout.out]; exact hr5, hb⟩
          case measure => simp [intOf]; omega
      · have hout := Lib.hid (M.mk_out ts y (by omega))
        go_wp2
        go_roundw
        case rel => exact ⟨k + 1, A5, c5, by omega, by go_num, by rw [hsH.out, hout.out], by rw [hsH.out, hout.out]; exact hr5, hb⟩
        case measure => simp [intOf]; omega
    · rw [take_all hlt] at hr5
      rw [take_all hlt]
      obtain ⟨w4, rfl⟩ : ∃ w4 : World, w4 = wr := ⟨_, rfl⟩
      have hr4 := (hr3.below hb (Nat.le_refl _)).more hb.size
      have hr4' := (hr3'.below hb (Nat.le_refl _)).more hb.size
      have q4 := q3.trans (hb.mono q3.size)
      clear hr3 hr3' hb q3
      go_wp2
      go_loopw [8, 9, 10] (fun v8 v9 i wr => ∃ k : Nat, k ≤ 64 ∧ i = .int .i64 k ∧ wr.ownsRow w4.heap.size 3 1 v8 (pz (M.orAll es) k).length (iv (pz (M.orAll es) k)) ∧
          wr.ownsRow w4.heap.size 3 1 v9 (pz (M.andAll es) k).length (iv (pz (M.andAll es) k)) ∧ Dj v8 v9 ∧ Below w4.heap.size w4 wr) (fun _ _ i _ => 64 - (intOf i).toNat)
      case atStart => exact ⟨0, by omega, rfl, World.ownsRow_nil _ _ _ _, World.ownsRow_nil _ _ _ _, .inl rfl, Below.refl _ _⟩
      case round =>
        obtain ⟨k, hk, rfl, h8, h9, dj, hb⟩ := hrel
        by_cases hlt : k < 64
        · obtain ⟨wo, rfl⟩ : ∃ wo : World, wo = wr := ⟨_, rfl⟩
          have dk : decide ((k : Int) < 64) = true := by simp; omega
          have pso := pz_succ (M.orAll es) k
          have psa := pz_succ (M.andAll es) k
          rw [M.or_has] at pso
          rw [M.and_has k hlt] at psa
          have hpo := pz_len (M.orAll es) k
          have hpa := pz_len (M.andAll es) k
          have psoH := Lib.hid pso
          have psaH := Lib.hid psa
          clear pso psa
          generalize pz (M.orAll es) k = l8 at *
          generalize pz (M.andAll es) k = l9 at *
          go_wp2
          go_loopw [11, 42] (fun n j wr => ∃ i n' : Nat, i ≤ es.length ∧ n' ≤ i ∧ j = .int .i64 i ∧ n = .int .i64 n' ∧ Hid (M.has k (es.take i) = n') ∧ Below wo.heap.size wo wr) (fun _ j _ => es.length - (intOf j).toNat)
          case atStart => exact ⟨0, 0, by omega, by omega, rfl, rfl, rfl, Below.refl _ _⟩
          case round =>
            obtain ⟨i, n, hie, hni, rfl, rfl, hH, hbi⟩ := hrel
            by_cases hlt2 : i < es.length
            · obtain ⟨b, off, rfl, hbb, hc⟩ := ((hr4'.below hb (Nat.le_refl _)).below hbi hb.size).at hlt2
              have hym := hyt.out _ (List.getElem_mem hlt2)
              have hsn := Lib.hid (show M.has k (es.take (i + 1)) = n + if es[i].testBit k then 1 else 0 by rw [take_snocN hlt2, M.has_snoc, hH.out])
              have hbit := M.has_bit es[i] k hlt
              generalize es[i] = y at *
              cases hyb : y.testBit k
              · rw [hyb] at hbit
                have hs2 : Hid (M.has k (es.take (i + 1)) = n) := by show M.has k _ = n; rw [hsn.out, hyb]; rfl
                clear hsn hyb
                have hl64 := M.bz_le y
                go_wp2_with (first
                  | (go_at_call 11; refine (ref_list y hym _).mono ?_; rintro e w6 ⟨A6, c6, rfl, hr6, hb6⟩)
                  | (go_at_call 13; refine (ref_has _ _ (M.bz y) _ _ _ hr6 (by omega)).mono ?_; rintro e w' ⟨rfl, rfl⟩))
                go_roundw
                case rel => exact ⟨i + 1, n, by omega, by omega, by go_num, rfl, hs2, hbi.trans (hb6.mono hbi.size)⟩
                case measure => simp [intOf]; omega
              · rw [hyb] at hbit
                have hs2 : Hid (M.has k (es.take (i + 1)) = n + 1) := by show M.has k _ = n + 1; rw [hsn.out, hyb]; rfl
                clear hsn hyb
                have hl64 := M.bz_le y
                go_wp2_with (first
                  | (go_at_call 11; refine (ref_list y hym _).mono ?_; rintro e w6 ⟨A6, c6, rfl, hr6, hb6⟩)
                  | (go_at_call 13; refine (ref_has _ _ (M.bz y) _ _ _ hr6 (by omega)).mono ?_; rintro e w' ⟨rfl, rfl⟩))
                go_roundw
                case rel => exact ⟨i + 1, n + 1, by omega, by omega, by go_num, by go_num, hs2, hbi.trans (hb6.mono hbi.size)⟩
                case measure => simp [intOf]; omega
            · rw [take_allN hlt2] at hH
              rw [hH.out] at psoH psaH
              have h8' := own_below h8 hbi
              have h9' := own_below h9 hbi
              have hb' := hb.trans (hbi.mono hb.size)
              have hn20 : n ≤ 20 := by omega
              clear h8 h9 hb hbi hH
              by_cases z : 0 < n
              · have e8 : Hid (pz (M.orAll es) (k + 1) = l8 ++ [(k : Int)]) := by
                  show pz _ _ = _
                  rw [psoH.out]; simp [z]
                by_cases t : n = es.length
                · have e9 : Hid (pz (M.andAll es) (k + 1) = l9 ++ [(k : Int)]) := by
                    show pz _ _ = _
                    rw [psaH.out]; simp [t]
                  have tb : ((n : Int) == (es.length : Int)) = true := by simp [t]
                  clear psoH psaH t
                  go_wp2_with (at_builtin; refine wpList_append_any _ rfl (.tmp 55) (.tmp 57) 24 rfl w4.heap.size 3 i0 (.int .i64 0) 1 8 Tryd.underlying24 hi hz0 hz1 hz2 rfl (by decide) _ _ _ rfl (h8'.alloc _) (wr.heap.size + 1) (some ⟨wr.heap.size, 0, none⟩) 1 1 [.int .i64 (k : Int)] rfl (reads_one _ _ _) (one_int _ _) ?x1 ?x2 ?x3 ?_)
                  case x1 => unfold maxLen; omega
                  case x2 => omega
                  case x3 => have := hb'.size; simp only [World.size_alloc]; omega
                  intro v8' w7 hown' hgrow hat
                  obtain ⟨o8, o9, dj2, hb7⟩ := two_step h8' h9' dj hown' hgrow hat hb' hb'.size
                  clear hown' hgrow hat h8' h9' dj hb'
                  go_wp2_with (at_builtin; refine wpList_append_any _ rfl (.tmp 63) (.tmp 65) 24 rfl w4.heap.size 3 i0 (.int .i64 0) 1 8 Tryd.underlying24 hi hz0 hz1 hz2 rfl (by decide) _ _ _ rfl (o9.alloc _) (w7.heap.size + 1) (some ⟨w7.heap.size, 0, none⟩) 1 1 [.int .i64 (k : Int)] rfl (reads_one _ _ _) (one_int _ _) ?y1 ?y2 ?y3 ?_)
                  case y1 => unfold maxLen; omega
                  case y2 => omega
                  case y3 => have := hb7.size; simp only [World.size_alloc]; omega
                  intro v9' w8 hown' hgrow hat
                  obtain ⟨p9, p8, dj3, hb8⟩ := two_step o9 o8 dj2.symm hown' hgrow hat hb7 hb7.size
                  clear hown' hgrow hat o9 o8 dj2 hb7
                  go_wp2
                  go_roundw
                  case rel => exact ⟨k + 1, by omega, by go_num, by rw [e8.out]; exact p8, by rw [e9.out]; exact p9, dj3.symm, hb8⟩
                  case measure => simp [intOf]; omega
                · have e9 : Hid (pz (M.andAll es) (k + 1) = l9) := by
                    show pz _ _ = _
                    rw [psaH.out]; simp [t]
                  have tb : ((n : Int) == (es.length : Int)) = false := by simp; omega
                  clear psoH psaH t
                  go_wp2_with (at_builtin; refine wpList_append_any _ rfl (.tmp 55) (.tmp 57) 24 rfl w4.heap.size 3 i0 (.int .i64 0) 1 8 Tryd.underlying24 hi hz0 hz1 hz2 rfl (by decide) _ _ _ rfl (h8'.alloc _) (wr.heap.size + 1) (some ⟨wr.heap.size, 0, none⟩) 1 1 [.int .i64 (k : Int)] rfl (reads_one _ _ _) (one_int _ _) ?u1 ?u2 ?u3 ?_)
                  case u1 => unfold maxLen; omega
                  case u2 => omega
                  case u3 => have := hb'.size; simp only [World.size_alloc]; omega
                  intro v8' w7 hown' hgrow hat
                  obtain ⟨o8, o9, dj2, hb7⟩ := two_step h8' h9' dj hown' hgrow hat hb' hb'.size
                  clear hown' hgrow hat h8' h9' dj hb'
                  go_wp2
                  go_roundw
                  case rel => exact ⟨k + 1, by omega, by go_num, by rw [e8.out]; exact o8, by rw [e9.out]; exact o9, dj2, hb7⟩
                  case measure => simp [intOf]; omega
              · have e8 : Hid (pz (M.orAll es) (k + 1) = l8) := by
                  show pz _ _ = _
                  rw [psoH.out]; simp [z]
                by_cases t : n = es.length
                · have e9 : Hid (pz (M.andAll es) (k + 1) = l9 ++ [(k : Int)]) := by
                    show pz _ _ = _
                    rw [psaH.out]; simp [t]
                  have tb : ((n : Int) == (es.length : Int)) = true := by simp [t]
                  clear psoH psaH t
                  go_wp2_with (at_builtin; refine wpList_append_any _ rfl (.tmp 63) (.tmp 65) 24 rfl w4.heap.size 3 i0 (.int .i64 0) 1 8 Tryd.underlying24 hi hz0 hz1 hz2 rfl (by decide) _ _ _ rfl (h9'.alloc _) (wr.heap.size + 1) (some ⟨wr.heap.size, 0, none⟩) 1 1 [.int .i64 (k : Int)] rfl (reads_one _ _ _) (one_int _ _) ?t1 ?t2 ?t3 ?_)
                  case t1 => unfold maxLen; omega
                  case t2 => omega
                  case t3 => have := hb'.size; simp only [World.size_alloc]; omega
                  intro v9' w7 hown' hgrow hat
                  obtain ⟨o9, o8, dj2, hb7⟩ := two_step h9' h8' dj.symm hown' hgrow hat hb' hb'.size
                  clear hown' hgrow hat h9' h8' dj hb'
                  go_wp2
                  go_roundw
                  case rel => exact ⟨k + 1, by omega, by go_num, by rw [e8.out]; exact o8, by rw [e9.out]; exact o9, dj2.symm, hb7⟩
                  case measure => simp [intOf]; omega
                · have e9 : Hid (pz (M.andAll es) (k + 1) = l9) := by
                    show pz _ _ = _
                    rw [psaH.out]; simp [t]
                  have tb : ((n : Int) == (es.length : Int)) = false := by simp; omega
                  clear psoH psaH t
                  go_wp2
                  go_roundw
                  case rel => exact ⟨k + 1, by omega, by go_num, by rw [e8.out]; exact h8', by rw [e9.out]; exact h9', dj, hb'⟩
                  case measure => simp [intOf]; omega
        · obtain rfl : k = 64 := by omega
          rw [pz_all] at h8 h9
          obtain ⟨A8, c8, rfl, hr8⟩ := Rd.of_own h8
          obtain ⟨A9, c9, rfl, hr9⟩ := Rd.of_own h9
          have hrd := (hr4.below hb (Nat.le_refl _)).more hb.size
          have hre := (hr4'.below hb (Nat.le_refl _)).more hb.size
          have hr5' := (hr5.below hb (Nat.le_refl _)).more hb.size
          have m1 := M.mk_lt ds
          have m2 := M.orAll_lt hyt.out
          have m3 := M.andAll_lt es
          have s1 := M.bz_le (M.mk ds)
          have s2 := M.bz_le (M.orAll es)
          have s3 := M.bz_le (M.andAll es)
          clear h8 h9 dj
          go_wp2_with (first
            | (go_at_call 36; refine (bit_make _ _ ds _ _ hrd (by omega)).mono ?_; rintro e w' ⟨rfl, rfl⟩)
            | (go_at_call 11; (with_reducible refine (ref_list (M.mk ds) m1 _).mono ?_); rintro e w6 ⟨A6, c6, rfl, hr6, hb6⟩; have k5 := hr5'.below hb6 (Nat.le_refl _); have k8 := (hr8.below hb6 (Nat.le_refl _)).more hb6.size; have k9 := (hr9.below hb6 (Nat.le_refl _)).more hb6.size; have ke := (hre.below hb6 (Nat.le_refl _)).more hb6.size)
            | (go_at_call 27; (with_reducible refine (ref_same _ _ _ _ (M.bz (M.mk ds)) (M.bz (M.mk ds)) _ _ _ hr6 k5 (by omega) (by omega)).mono ?_); rintro e w' ⟨rfl, n1, rfl⟩)
            | (go_at_call 37; refine (bit_any _ _ es _ _ (ke.drew _) hyt.out (by omega)).mono ?_; rintro e w' ⟨rfl, rfl⟩)
            | (go_at_call 11; (with_reducible refine (ref_list (M.orAll es) m2 _).mono ?_); rintro e w7 ⟨A7, c7, rfl, hr7, hb7⟩; have k8' := (k8.drew n1).below hb7 (Nat.le_refl _); have k9' := ((k9.drew n1).below hb7 (Nat.le_refl _)).more hb7.size; have ke' := ((ke.drew n1).below hb7 (Nat.le_refl _)).more hb7.size)
            | (go_at_call 27; (with_reducible refine (ref_same _ _ _ _ (M.bz (M.orAll es)) (M.bz (M.orAll es)) _ _ _ hr7 k8' (by omega) (by omega)).mono ?_); rintro e w' ⟨rfl, n2, rfl⟩)
            | (go_at_call 38; refine (bit_all _ _ es _ _ (ke'.drew _) hyt.out (by omega)).mono ?_; rintro e w' ⟨rfl, n3, rfl⟩)
            | (go_at_call 11; (with_reducible refine (ref_list (M.andAll es) m3 _).mono ?_); rintro e w8 ⟨A10, c10, rfl, hr10, hb8⟩; have k9'' := (k9'.drew (n2 + n3)).below hb8 (Nat.le_refl _))
            | (go_at_call 27; (with_reducible refine (ref_same _ _ _ _ (M.bz (M.andAll es)) (M.bz (M.andAll es)) _ _ _ hr10 k9'' (by omega) (by omega)).mono ?_); rintro e w' ⟨rfl, n4, rfl⟩))
          go_ret
          have r5 := q4.trans (hb.mono q4.size)
          have r6 := below_drewN (r5.trans (hb6.mono r5.size)) n1
          have r7 := below_drewN (r6.trans (hb7.mono r6.size)) (n2 + n3)
          exact ⟨rfl, below_drewN (r7.trans (hb8.mono r7.size)) _⟩
end Go.Proofs.YtcjbmcnnlggelaaDoor
