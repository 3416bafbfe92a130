
/- The law BitmapMakes, walked. -/
import Derived.Test.YtbbnamdlfnonoaaDoorGAll
import Derived.Test.YtbbnamdlfnonoaaDoorBFew
import Derived.Test.YtbbnamdlfnonoaaDoorBLaws
namespace Go.Proofs.YtbbnamdlfnonoaaDoor
open Go.RowKit Go.Shelf
theorem all_bit (w : World) (p s h : Nat) (us : List Nat) (a : Bm w p s h us) (hT : Tab w) (m : Nat) (mi : Int) (hmi : mi = (m : Int)) (hm : 0 < m) (hm2 : m ≤ 1000000) :
    Calls Tryd.prog 12 #[.pointer (some ⟨p, 0, none⟩), .int .i64 mi] w (AllQ w ((sl us).take m)) := by
  subst hmi
  have hl := a.lt
  refine all_law w _ (sl us) m hm hm2 (by have := len_top a; omega) (fun Bn W hW hz hB hc => ?_)
  have hl2 := a.st.2.2.2
  exact bit_seq 8 Bn (w.heap.size + 1) W _ (some ⟨s, 0, none⟩) (sl us) (fun y hy => a.range hy) hz hB hc (by decide)
    (fun W2 hW2 => kept_any W2 p s h us (a.all_below (hW.trans (hW2.mono hW.size))))
    (fun k Bs W2 hk hW2 hBs hcs => strip_seq k Bs (w.heap.size + 1) s h us hl2 (by omega) W2 (a.st.below (hW.trans (hW2.mono hW.size)) hl.2.1 hl.2.2) (hT.below (hW.trans (hW2.mono hW.size)) hT.pos) (by omega) (by omega) (Nat.le_trans hz hW2.size) hBs hcs hk)
theorem all_bit_nil (w : World) (m : Nat) (mi : Int) (hmi : mi = (m : Int)) (hm : 0 < m) (hm2 : m ≤ 1000000) :
    Calls Tryd.prog 12 #[.pointer none, .int .i64 mi] w (AllQ w []) := by
  subst hmi
  have h := all_law w none [] m hm hm2 (by simp) (fun Bn W hW hz hB hc => bit_seq 8 Bn (w.heap.size + 1) W none none [] (by simp) hz hB hc (by decide)
    (fun W2 hW2 => kept_nil W2) (fun k Bs W2 hk hW2 hBs hcs => strip_seq_nil k Bs (w.heap.size + 1) W2 hBs hcs))
  rw [List.take_nil] at h
  exact h
set_option maxHeartbeats 1000000 in
theorem b_of (A : Option Addr) (cp : Nat) (xs : List Int) (w : World) (hr : Rh w w.heap.size A xs) (hl : xs.length ≤ 9223372036854775807) (hx : ∀ y ∈ xs, 0 ≤ y ∧ y ≤ 65535) :
    Calls Tryd.prog 37 #[.slice A xs.length cp] w fun e w' => ∃ p s h us, e = .returned (.pointer (some ⟨p, 0, none⟩)) ∧ Bm w' p s h us ∧ OfL (sl us) xs ∧ w.heap.size ≤ p ∧ w.heap.size ≤ s ∧ w.heap.size ≤ h ∧ Below w.heap.size w w' := by
  have hnew := fun W => Lib.hid (b_new W)
  have hrH := Lib.hid hr
  have hxH := Lib.hid hx
  clear hr hx
  go_enter Tryd.func37, Tryd.ntmps37
  go_wp2_with (go_at_call 39; (with_reducible refine (hnew _).out.mono ?_); rintro e w1 ⟨p, s, h, rfl, hbm, hb1, hp, hs, hh⟩; have HM := Lib.hid hbm; have HB1 := Lib.hid hb1; clear hbm hb1)
  have h0 : Hid (OfL (sl (List.replicate 1024 0)) []) := ⟨sl_up _, by rw [sl_zeroB]; simp⟩
  obtain ⟨z0, hz0⟩ : ∃ z, List.replicate 1024 0 = z := ⟨_, rfl⟩
  rw [hz0] at HM h0
  clear hz0
  go_loopw [9] (fun i wr => ∃ (k : Nat) (us : List Nat), k ≤ xs.length ∧ i = .int .i64 (k : Int) ∧ Hid (Bm wr p s h us) ∧ Hid (OfL (sl us) (xs.take k)) ∧ Hid (Below w.heap.size w wr)) (fun i _ => xs.length - (intOf i).toNat)
  case atStart => exact ⟨0, z0, by omega, rfl, HM.out, by rw [List.take_zero]; exact h0.out, HB1.out⟩
  case round =>
    obtain ⟨k, us, hk, rfl, hB, hO, hW⟩ := hrel
    by_cases hlt : k < xs.length
    · have hT2 : decide (k < xs.length) = true := decide_eq_true hlt
      have hT3 : decide ((k : Int) < (xs.length : Int)) = true := decide_eq_true (by omega)
      obtain ⟨b, off, rfl, hbl, hc⟩ := (hrH.out.below hW.out (Nat.le_refl _)).at hlt
      have hv := hxH.out xs[k] (List.getElem_mem hlt)
      have hs := Lib.hid (take_snocH hlt)
      generalize xs[k] = y at *
      obtain ⟨v, rfl⟩ : ∃ v : Nat, y = (v : Int) := ⟨y.toNat, by omega⟩
      have hadd := Lib.hid (b_add hB.out v (by omega))
      go_wp2_with (go_at_call 29; (with_reducible refine hadd.out.mono ?_); rintro e w2 ⟨m, rfl, hst⟩
                   have HL := Lib.hid (hW.out.trans (bstep_below hst (B := w.heap.size) hW.out.size hh))
                   obtain ⟨us2, hc2, hm2, hg2⟩ := hst
                   have HO : Hid (OfL (sl us2) (xs.take (k + 1))) := ⟨sl_up _, fun y => by
                     rw [hc2.2.1 y, hs.out]
                     by_cases e : y = (v : Int)
                     · rw [if_pos (by omega)]; simp [e]
                     · rw [if_neg (by omega), hO.out.2 y]; simp [e]⟩
                   have HM2 := Lib.hid hm2
                   clear hc2 hm2 hg2)
      go_roundw
      case rel => exact ⟨k + 1, us2, by omega, by go_num, HM2.out, HO.out, HL.out⟩
      case measure => simp [intOf]; omega
    · have hT2 : decide (k < xs.length) = false := decide_eq_false hlt
      have hT3 : decide ((k : Int) < (xs.length : Int)) = false := decide_eq_false (by omega)
      have hO3 : Hid (OfL (sl us) xs) := by have := hO.out; rw [take_allH hlt] at this; exact this
      go_wp2
      go_ret
      exact ⟨p, s, h, us, rfl, hB.out, hO3.out, hp, hs, hh, hW.out⟩
set_option maxRecDepth 100000 in
set_option maxHeartbeats 2000000 in
theorem law_makes (A : Option Addr) (cp : Nat) (xs : List Int) (w : World) (hT : Tab w) (hr : Rh w w.heap.size A xs) (hl : xs.length ≤ 9223372036854775807) (hx : ∀ y ∈ xs, 0 ≤ y ∧ y ≤ 65535) :
    Calls Tryd.prog 6 #[.slice A xs.length cp] w fun e w' => e = .returned (.bool true) ∧ Below w.heap.size w w' := by
  have hrH := Lib.hid hr
  have hTH := Lib.hid hT
  have hxH : Hid (∀ y ∈ xs.take 300, 0 ≤ y ∧ y ≤ 65535) := fun y hy => hx y (List.mem_of_mem_take hy)
  clear hr hT hx
  have hfew : ∀ W, Rh W W.heap.size A xs → Hid (Calls Tryd.prog 36 #[.slice A xs.length cp, .int .i64 300] W fun e w' => ∃ A' c', e = .returned (.slice A' (xs.take 300).length c') ∧ Rh w' w'.heap.size A' (xs.take 300) ∧ Young W.heap.size A' ∧ Below W.heap.size W w') := fun W h => f_few A cp xs 300 W h hl (by decide)
  obtain ⟨ys, hys⟩ : ∃ ys, xs.take 300 = ys := ⟨_, rfl⟩
  have hl3 : ys.length ≤ 300 := by rw [← hys, List.length_take]; omega
  rw [hys] at hfew hxH
  clear hys
  go_enter Tryd.func6, Tryd.ntmps6
  go_wp2_with (first
    | (go_at_call 8; (with_reducible refine (awake_any _ hTH.out).mono ?_); rintro e w1 ⟨rfl, hb1⟩
       have hB1 := Lib.hid hb1
       have hr1 : Hid (Rh w1 w1.heap.size A xs) := (hrH.out.below hb1 (Nat.le_refl _)).more hb1.size
       clear hb1)
    | (go_at_call 36; (with_reducible refine (hfew _ hr1.out).out.mono ?_); rintro e w2 ⟨A2, c2, rfl, hr2, hy2, hb2⟩
       have hB2 := Lib.hid (hB1.out.trans (hb2.mono hB1.out.size))
       have hR2 := Lib.hid hr2
       clear hr2 hy2 hb2))
  go_wp2_with (go_at_call 37; (with_reducible refine (b_of A2 c2 ys _ hR2.out (by omega) hxH.out).mono ?_); rintro e w3 ⟨p, s, h, us, rfl, hm3, ho3, hp3, hs3, hh3, hb3⟩
               have hB3 := Lib.hid (hB2.out.trans (hb3.mono hB2.out.size))
               have hR3 : Hid (Rh w3 w3.heap.size A2 ys) := (hR2.out.below hb3 (Nat.le_refl _)).more hb3.size
               have HM3 := Lib.hid hm3
               have HO3 := Lib.hid ho3
               clear hm3 ho3 hb3)
  go_wp2_with (go_at_call 38; (with_reducible refine (f_of A2 c2 ys _ hR3.out (by omega) hxH.out).mono ?_); rintro e w4 ⟨g, n, bs, rfl, hb4, ho4, hg4, hl4⟩
               have hB4 := Lib.hid (hB3.out.trans (hl4.mono hB3.out.size))
               have HM4 := Lib.hid (HM3.out.all_below hl4)
               have HS4 := Lib.hid hb4
               have HEQ := Lib.hid (HO3.out.same ho4)
               clear hb4 ho4 hl4)
  have hlist : ∀ W, Bs W g n bs → Hid (Calls Tryd.prog 10 #[.slice (some ⟨g, 0, none⟩) n n] W fun e w' => ∃ A c, e = .returned (.slice A (sl us).length c) ∧ Rh w' w'.heap.size A (sl us) ∧ Young W.heap.size A ∧ Below W.heap.size W w') := fun W h => by
    have h1 := f_list W g n bs h
    rw [← HEQ.out] at h1
    exact h1
  have hlt : (sl us).length ≤ 65536 := len_top HM4.out
  have hupz := Lib.hid (sl_up us)
  go_wp2_with (go_at_call 10; (with_reducible refine (hlist _ HS4.out).out.mono ?_); rintro e w5 ⟨A5, c5, rfl, hr5, hy5, hl5⟩
               have hB5 := Lib.hid (hB4.out.trans (hl5.mono hB4.out.size))
               have HM5 := Lib.hid (HM4.out.all_below hl5)
               have HR5 := Lib.hid hr5
               clear hr5 hy5 hl5)
  have hT5 := Lib.hid (hTH.out.below hB5.out hTH.out.pos)
  have hall : Hid (Calls Tryd.prog 12 #[.pointer (some ⟨p, 0, none⟩), .int .i64 70000] w5 (AllQ w5 (sl us))) := by
    have h1 := all_bit w5 p s h us HM5.out hT5.out 70000 70000 rfl (by decide) (by decide)
    rw [List.take_of_length_le (by omega)] at h1
    exact h1
  have hlenc : ∀ W, Bm W p s h us → Hid (Calls Tryd.prog 13 #[.pointer (some ⟨p, 0, none⟩)] W fun e w' => e = .returned (.int .i64 ((sl us).length : Nat)) ∧ ∃ n, w' = W.drewN n) := fun W h => b_len h
  have hsame : ∀ W A6 c6, Rh W W.heap.size A6 (sl us) → Rh W W.heap.size A5 (sl us) → Hid (Calls Tryd.prog 11 #[.slice A6 (sl us).length c6, .slice A5 (sl us).length c5] W fun e w' => e = .returned (.bool true) ∧ ∃ n, w' = W.drewN n) := fun W A6 c6 h1 h2 => by
    have h3 := f_same A6 A5 c6 c5 (sl us) (sl us) W _ _ h1 h2 (by omega) (by omega)
    rw [decide_eq_true rfl] at h3
    exact h3
  generalize sl us = zs at *
  go_wp2_with (go_at_call 12; (with_reducible refine hall.out.mono ?_); rintro e w6 ⟨A6, c6, rfl, hr6, hy6, hl6⟩
               have hB6 := Lib.hid (hB5.out.trans (hl6.mono hB5.out.size))
               have HM6 := Lib.hid (HM5.out.all_below hl6)
               have HR6 := Lib.hid hr6
               have HR56 : Hid (Rh w6 w6.heap.size A5 zs) := (HR5.out.below hl6 (Nat.le_refl _)).more hl6.size
               clear hr6 hy6 hl6)
  go_wp2_with (go_at_call 11; (with_reducible refine (hsame _ A6 c6 HR6.out HR56.out).out.mono ?_); rintro e w7 ⟨rfl, N7, hw7⟩
               have HM7 : Hid (Bm w7 p s h us) := by rw [hw7]; exact HM6.out.drew N7
               have HB7 : Hid (Below w.heap.size w w7) := by rw [hw7]; exact below_drewN hB6.out N7
               clear hw7)
  go_wp2_with (go_at_call 13; (with_reducible refine (hlenc _ HM7.out).out.mono ?_); rintro e w8 ⟨rfl, N8, rfl⟩)
  go_ret
  exact ⟨rfl, below_drewN HB7.out _⟩
end Go.Proofs.YtbbnamdlfnonoaaDoor
