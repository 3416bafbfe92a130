
/- The law of copies of strips: it returns true at every input. -/
import Derived.Test.YtfdcejafobjlbaaDoorSLaws
namespace Go.Proofs.YtfdcejafobjlbaaDoor
open Go.RowKit
/-- But for blocks g1 and g2 nothing has changed that was there. -/
def But2 (w w' : World) (g1 g2 : Nat) : Prop := (w'.os = w.os ∧ w'.tape = w.tape ∧ w'.output = w.output) ∧ w.heap.size ≤ w'.heap.size ∧ ∀ j, j < w.heap.size → j ≠ g1 → j ≠ g2 → w'.heap[j]? = w.heap[j]?
theorem But2.refl (w : World) (g1 g2 : Nat) : But2 w w g1 g2 := ⟨⟨rfl, rfl, rfl⟩, Nat.le_refl _, fun _ _ _ _ => rfl⟩
theorem But2.store1 {w w' : World} {g1 g2 : Nat} (h : But2 w w' g1 g2) (k : Nat) (v : Value) : But2 w (w'.setCell ⟨g1, k, none⟩ v) g1 g2 :=
  ⟨h.1, by simpa [World.setCell] using h.2.1, fun j hj h1 h2 => (Below.heap_setCell w' ⟨g1, k, none⟩ v j h1).trans (h.2.2 j hj h1 h2)⟩
theorem But2.store2 {w w' : World} {g1 g2 : Nat} (h : But2 w w' g1 g2) (k : Nat) (v : Value) : But2 w (w'.setCell ⟨g2, k, none⟩ v) g1 g2 :=
  ⟨h.1, by simpa [World.setCell] using h.2.1, fun j hj h1 h2 => (Below.heap_setCell w' ⟨g2, k, none⟩ v j h2).trans (h.2.2 j hj h1 h2)⟩
theorem But2.below {w w' : World} {g1 g2 B : Nat} (h : But2 w w' g1 g2) (hB : B ≤ w.heap.size) (h1 : B ≤ g1) (h2 : B ≤ g2) : Below B w w' :=
  ⟨h.1.1, h.1.2.1, h.1.2.2, h.2.1, fun k hk => h.2.2 k (by omega) (by omega) (by omega)⟩
theorem But2.st {w w' : World} {g1 g2 s h : Nat} {ws : List Nat} (b : But2 w w' g1 g2) (a : St w s h ws) (h1 : s ≠ g1) (h2 : s ≠ g2) (h3 : h ≠ g1) (h4 : h ≠ g2) : St w' s h ws :=
  ⟨(b.2.2 s a.lt.1 h1 h2).trans a.1, (b.2.2 h a.lt.2 h3 h4).trans a.2.1, a.2.2⟩
theorem s_set_any (w : World) (s h : Nat) (ws : List Nat) (a : St w s h ws) (i : Int) :
    Calls Tryd.prog 38 #[.pointer (some ⟨s, 0, none⟩), .int .i64 i] w fun e w' => ∃ b us, e = .returned (.bool b) ∧ St w' s h us ∧ w.grownBy w' (some h) := by
  by_cases hi : 0 ≤ i ∧ i < ((64 * ws.length : Nat) : Int)
  · obtain ⟨k, rfl⟩ : ∃ k : Nat, i = (k : Int) := ⟨i.toNat, by omega⟩
    cases hb : sbit ws k
    · refine (s_set_new w s h ws a k (by omega) hb).mono ?_
      rintro e w' ⟨rfl, h1, h2⟩
      exact ⟨_, _, rfl, h1, h2⟩
    · refine (s_set_old w s h ws a k (by omega) hb).mono ?_
      rintro e w' ⟨rfl, rfl⟩
      exact ⟨_, _, rfl, a, ⟨rfl, rfl, rfl, Nat.le_refl _, fun _ _ _ => rfl⟩⟩
  · refine (s_set_out w s h ws a i hi).mono ?_
    rintro e w' ⟨rfl, rfl⟩
    exact ⟨_, _, rfl, a, ⟨rfl, rfl, rfl, Nat.le_refl _, fun _ _ _ => rfl⟩⟩
theorem St.grown {w w' : World} {s h b : Nat} {ws : List Nat} (a : St w s h ws) (g : w.grownBy w' (some b)) (h1 : s ≠ b) (h2 : h ≠ b) : St w' s h ws :=
  ⟨(g.block s a.lt.1 (by intro e; cases e; exact h1 rfl)).trans a.1, (g.block h a.lt.2 (by intro e; cases e; exact h2 rfl)).trans a.2.1, a.2.2⟩
theorem rw_of_row {w : World} {h : Nat} {ws : List Nat} (hh : w.heap[h]? = some (.cells (wv ws).toArray 56 (0, 0))) : Rw w w.heap.size (some ⟨h, 0, none⟩) ws := fun _ =>
  ⟨h, 0, rfl, (Array.getElem?_eq_some_iff.1 hh).1, fun k hk => by
    rw [Nat.zero_add, cell_of_row w h k _ _ (0, 0) hh]
    simp [wv, hk]⟩
theorem own_of_row {w : World} {h base : Nat} {ws : List Nat} (hh : w.heap[h]? = some (.cells (wv ws).toArray 56 (0, 0))) (hb : base ≤ h) (hl : ws.length ≤ 4096) : w.ownsRow base 56 1 (.slice (some ⟨h, 0, none⟩) ws.length ws.length) ws.length (wv ws) :=
  ⟨by simp [wv], .inr ⟨h, ws.length, _, rfl, hb, hh, Nat.le_refl _, by unfold maxLen; omega, by simp [wv], by rw [List.toList_toArray, Nat.mul_one, List.take_of_length_le (by simp [wv])]⟩⟩
theorem same_same (A A' : Option Addr) (c c' : Nat) (xs : List Nat) (w : World) (B B' : Nat) (hr : Rw w B A xs) (hr' : Rw w B' A' xs) (hl : xs.length ≤ 4611686018427387904) :
    Calls Tryd.prog 12 #[.slice A xs.length c, .slice A' xs.length c'] w fun e w' => e = .returned (.bool true) ∧ ∃ n, w' = w.drewN n := by
  have := ref_samekeys A A' c c' xs xs w B B' hr hr' hl hl
  rwa [decide_eq_true (rfl : xs = xs)] at this
theorem equal_same (w : World) (s h s2 h2 : Nat) (ws : List Nat) (a : St w s h ws) (b : St w s2 h2 ws) :
    Calls Tryd.prog 33 #[.pointer (some ⟨s, 0, none⟩), .pointer (some ⟨s2, 0, none⟩)] w fun e w' => e = .returned (.bool true) ∧ ∃ n, w' = w.drewN n := by
  have := s_equal w s h s2 h2 ws ws a b
  rwa [decide_eq_true (rfl : ws = ws)] at this
set_option maxHeartbeats 2000000 in
theorem law_copies (A : Option Addr) (cp : Nat) (xs : List Nat) (i : Int) (w : World) (hT : Tab w) (hr : Rw w w.heap.size A xs) (hx : ∀ x ∈ xs, x < 18446744073709551616) (hl : xs.length ≤ 9223372036854775807) :
    Calls Tryd.prog 7 #[.slice A xs.length cp, .int .i64 i] w fun e w' => e = .returned (.bool true) ∧ Below w.heap.size w w' := by
  have hus : Hid ((xs.take 6).length ≤ 6) := by show _ ≤ _; rw [List.length_take]; omega
  have hxu : Hid (∀ x ∈ xs.take 6, x < 18446744073709551616) := fun x hm => hx x (List.mem_of_mem_take hm)
  have hwd : Hid (∀ w1, Below w.heap.size w w1 → Calls Tryd.prog 34 #[.slice A xs.length cp, .int .i64 6] w1 fun e w' => ∃ A' c', e = .returned (.slice A' (xs.take 6).length c') ∧ Rw w' w'.heap.size A' (xs.take 6) ∧ Fr w1.heap.size A' ∧ Below w1.heap.size w1 w') := fun w1 hb => ref_words A cp xs 6 w1 ((hr.below hb (Nat.le_refl _)).more hb.size) hl (by omega)
  clear hx hr
  generalize xs.take 6 = us at *
  have htk : us.take 6 = us := List.take_of_length_le hus.out
  have hwd2 : Hid (∀ A c w1, Rw w1 w1.heap.size A us → Calls Tryd.prog 34 #[.slice A us.length c, .int .i64 6] w1 fun e w' => ∃ v, e = .returned v ∧ w'.ownsRow w1.heap.size 56 1 v us.length (wv us) ∧ Below w1.heap.size w1 w') := fun A c w1 h => by
    have := ref_words_own A c us 6 w1 h (by have := hus.out; omega) (by omega)
    rwa [htk] at this
  clear htk
  have h6 : us.length ≤ 6 := hus.out
  clear hus
  go_enter Tryd.func7, Tryd.ntmps7
  go_wp2_with (go_at_call 10; (with_reducible refine (awake_any _ hT).mono ?_); rintro e w1 ⟨rfl, hb1⟩; have hB1 := Lib.hid hb1; clear hb1)
  go_wp2_with (go_at_call 34; (with_reducible refine (hwd.out _ hB1.out).mono ?_); rintro e w2 ⟨A0, c0, rfl, hr0, hF0, hb2⟩; have hR0 := Lib.hid hr0; clear hr0; have hB2 := Lib.hid hb2; clear hb2; have hF0H := Lib.hid hF0; clear hF0)
  go_wp2_with (go_at_call 34; (with_reducible refine (hwd2.out _ _ _ hR0.out).mono ?_); rintro e w3 ⟨v1, rfl, hown, hb3⟩; have hB3 := Lib.hid hb3; clear hb3; obtain ⟨A1, c1, rfl, hr1, hF1⟩ := Rw.of_own hown; have hR1 := Lib.hid hr1; clear hr1; have hO1 := Lib.hid hown; clear hown; have hF1H := Lib.hid hF1; clear hF1)
  go_wp2_with (go_at_call 35; (with_reducible refine (s_of _ _ _ us hR1.out hxu.out (by omega)).mono ?_); rintro e w4 ⟨s, h, rfl, hst, hs4, hh4, hb4⟩; have hB4 := Lib.hid hb4; clear hb4; have hS4 := Lib.hid hst; clear hst)
  go_wp2_with (go_at_call 36; (with_reducible refine (s_copy _ s h us hS4.out).mono ?_); rintro e w5 ⟨s2, h2, rfl, hs5, hh5, hst, hb5⟩; have hB5 := Lib.hid hb5; clear hb5; have hC5 := Lib.hid hst; clear hst; have hS5 := Lib.hid (hS4.out.below hB5.out hS4.out.lt.1 hS4.out.lt.2))
  go_wp2_with (go_at_call 33; (with_reducible refine (equal_same _ s2 h2 s h us hC5.out hS5.out).mono ?_); rintro e w6 ⟨rfl, N6, rfl⟩)
  go_wp2_with (go_at_call 13; (with_reducible refine (s_words _ s h us (hS5.out.drew _)).mono ?_); rintro e w7 ⟨h7, rfl, hh7, hrow, hb7⟩; have hB7 := Lib.hid hb7; clear hb7; have hW7 := Lib.hid hrow; clear hrow)
  have hR07 := Lib.hid (((((hR0.out.below hB3.out (Nat.le_refl _)).below hB4.out hB3.out.size).below hB5.out (by have := hB3.out.size; have := hB4.out.size; omega)).drew N6).below hB7.out (by have := hB3.out.size; have := hB4.out.size; have := hB5.out.size; show _ ≤ w5.heap.size; omega))
  go_wp2_with (go_at_call 12; (with_reducible refine (same_same _ _ _ _ us _ _ _ (rw_of_row hW7.out) hR07.out (by omega)).mono ?_); rintro e w8 ⟨rfl, N8, rfl⟩)
  have hS7 := Lib.hid ((hS5.out.drew N6).below hB7.out (hS5.out.lt.1) (hS5.out.lt.2))
  have hC7 := Lib.hid ((hC5.out.drew N6).below hB7.out (hC5.out.lt.1) (hC5.out.lt.2))
  go_wp2_with (go_at_call 13; (with_reducible refine (s_words _ s h us (hS7.out.drew _)).mono ?_); rintro e w9 ⟨h9, rfl, hh9, hrow, hb9⟩; have hB9 := Lib.hid hb9; clear hb9; have hW9 := Lib.hid hrow; clear hrow)
  have hS9 := Lib.hid ((hS7.out.drew N8).below hB9.out hS7.out.lt.1 hS7.out.lt.2)
  have hC9 := Lib.hid ((hC7.out.drew N8).below hB9.out hC7.out.lt.1 hC7.out.lt.2)
  have hz3 := hB3.out.size
  have hz4 := hB4.out.size
  have hz5 := hB5.out.size
  have hz7 : w5.heap.size ≤ w7.heap.size := hB7.out.size
  have hz9 : w7.heap.size ≤ w9.heap.size := hB9.out.size
  have hh7' : w5.heap.size ≤ h7 := hh7
  have hh9' : w7.heap.size ≤ h9 := hh9
  have hls := hS4.out.lt
  have hlc := hC5.out.lt
  have hl9 : h9 < w9.heap.size := (Array.getElem?_eq_some_iff.1 hW9.out).1
  have hB39 : Hid (Below w3.heap.size w3 w9) := hB4.out.trans ((hB5.out.mono hz4).trans ((below_drewN (Below.refl _ _) N6).trans ((hB7.out.mono (by show w3.heap.size ≤ w5.heap.size; omega)).trans ((below_drewN (Below.refl _ _) N8).trans (hB9.out.mono (by show w3.heap.size ≤ w7.heap.size; omega))))))
  have hO9 : Hid (w9.ownsRow 0 56 1 (.slice (some ⟨h9, 0, none⟩) us.length us.length) us.length (wv us)) := own_of_row hW9.out (Nat.zero_le _) (by omega)
  have hO19 : Hid (w9.ownsRow w2.heap.size 56 1 (.slice A1 us.length c1) us.length (wv us)) := by
    refine hO1.out.kept (row := none) ⟨hB39.out.os, hB39.out.tape, hB39.out.output, hB39.out.size, fun k hk _ => hB39.out.block k hk⟩ ?_
    cases h : Value.ownBlock (.slice A1 us.length c1) <;> simp
  obtain ⟨g1, hg1a, hg1b, hg1⟩ : ∃ g1, w2.heap.size ≤ g1 ∧ (g1 < w3.heap.size ∨ g1 = h9) ∧ (0 < us.length → A1 = some ⟨g1, 0, none⟩ ∧ g1 < w3.heap.size) := by
    rcases hO1.out.2 with ⟨_, hn⟩ | ⟨g, cap, cur, hv, hb, hh, _⟩
    · exact ⟨h9, by omega, .inr rfl, fun h => by omega⟩
    · refine ⟨g, hb, .inl (Array.getElem?_eq_some_iff.1 hh).1, fun _ => ⟨?_, (Array.getElem?_eq_some_iff.1 hh).1⟩⟩
      simp at hv
      exact hv.1
  clear hO1 hW7 hW9 hR1 hF1H hF0H
  have hg1H := Lib.hid hg1
  clear hg1
  go_loopw [43] (fun q wr => ∃ k : Nat, k ≤ us.length ∧ q = .int .i64 k ∧ Hid (But2 w9 wr g1 h9) ∧
      Hid (∃ zs, wr.ownsRow w2.heap.size 56 1 (.slice A1 us.length c1) us.length zs ∧ ∀ z ∈ zs, ∃ x : Int, z = .int .u64 x) ∧
      Hid (∃ zs, wr.ownsRow 0 56 1 (.slice (some ⟨h9, 0, none⟩) us.length us.length) us.length zs)) (fun q _ => us.length - (intOf q).toNat)
  case atStart =>
    refine ⟨0, by omega, rfl, But2.refl _ _ _, ⟨wv us, hO19.out, ?_⟩, ⟨wv us, hO9.out⟩⟩
    intro z hz
    obtain ⟨a, _, rfl⟩ := List.mem_map.1 hz
    exact ⟨_, rfl⟩
  case round =>
    obtain ⟨k, hk, rfl, hBut, hM, hOut⟩ := hrel
    by_cases hlt : k < us.length
    · obtain ⟨rfl, hg3⟩ := hg1H.out (by omega)
      have hne : g1 ≠ h9 := by omega
      obtain ⟨zs, hz, hzi⟩ := hM.out
      obtain ⟨ys, hy⟩ := hOut.out
      have hkz : k < zs.length := by have := hz.1; omega
      have hky : k < ys.length := by have := hy.1; omega
      obtain ⟨x, hxk⟩ := hzi zs[k] (List.getElem_mem hkz)
      have hc1 : wr.cell? ⟨g1, k, none⟩ = some (.int .u64 x) := by rw [hz.cellAt k (by omega), List.getElem?_eq_getElem hkz, hxk]
      have hf1 := hz.frozenAt k
      have hc2 : ∀ v, (wr.setCell ⟨g1, k, none⟩ v).cell? ⟨h9, k, none⟩ = some ys[k] := fun v => by
        rw [World.cell?_setCell_other _ _ _ _ (by intro e; cases e; exact hne rfl), hy.cellAt k (by omega), List.getElem?_eq_getElem hky]
      have hf2 : ∀ v, (wr.setCell ⟨g1, k, none⟩ v).frozen? ⟨h9, k, none⟩ = false := fun v =>
        (hy.kept (set_grown wr g1 k v) (.inr (by simp [Value.ownBlock]; omega))).frozenAt k
      have hBut2 : Hid (∀ V, But2 w9 ((wr.setCell ⟨g1, k, none⟩ V).setCell ⟨h9, k, none⟩ (.int .u64 7)) g1 h9) := fun V => (hBut.out.store1 k V).store2 k _
      have hM2 : Hid (∀ x' : Int, ∃ zs, ((wr.setCell ⟨g1, k, none⟩ (.int .u64 x')).setCell ⟨h9, k, none⟩ (.int .u64 7)).ownsRow w2.heap.size 56 1 (.slice (some ⟨g1, 0, none⟩) us.length c1) us.length zs ∧ ∀ z ∈ zs, ∃ x : Int, z = .int .u64 x) := fun x' =>
        ⟨_, (hz.stored k _).1.kept (set_grown _ h9 k _) (.inr (by simp [Value.ownBlock]; omega)), fun z hm => by
          rcases List.mem_or_eq_of_mem_set hm with hm | rfl
          · exact hzi z hm
          · exact ⟨_, rfl⟩⟩
      have hOut2 : Hid (∀ V, ∃ zs, ((wr.setCell ⟨g1, k, none⟩ V).setCell ⟨h9, k, none⟩ (.int .u64 7)).ownsRow 0 56 1 (.slice (some ⟨h9, 0, none⟩) us.length us.length) us.length zs) := fun V =>
        ⟨_, ((hy.kept (set_grown wr g1 k V) (.inr (by simp [Value.ownBlock]; omega))).stored k _).1⟩
      clear hM hOut hBut hz hy hzi hxk
      generalize ys[k] = yk at *
      have k1 : (k : Int) < (us.length : Int) := by omega
      go_wp2
      go_roundw
      case rel => exact ⟨k + 1, by omega, by go_num, hBut2.out _, hM2.out _, hOut2.out _⟩
      case measure => simp [intOf]; omega
    · have hSr := Lib.hid (hBut.out.st hS9.out (by omega) (by omega) (by omega) (by omega))
      have hCr := Lib.hid (hBut.out.st hC9.out (by omega) (by omega) (by omega) (by omega))
      have hBr : Hid (Below w2.heap.size w9 wr) := hBut.out.below (by omega) hg1a (by omega)
      have hRr := Lib.hid ((hR07.out.drew N8).below hB9.out (by show _ ≤ w7.heap.size; omega))
      have hRr2 := Lib.hid (hRr.out.below hBr.out (Nat.le_refl _))
      have hzr := hBr.out.size
      clear hM hOut hBut
      go_wp2_with (go_at_call 37; (with_reducible refine (s_fill _ s2 h2 us hCr.out 0 1000 (by omega)).mono ?_); rintro e w10 ⟨vs, n, rfl, hL, hn, hst, hg⟩; have hC10 := Lib.hid hst; clear hst hL hn; have hG10 := Lib.hid hg; clear hg)
      have hS10 := Lib.hid (hSr.out.grown hG10.out (by omega) (by omega))
      have hz10 := hG10.out.size
      go_wp2_with (go_at_call 38; (with_reducible refine (s_set_any _ s2 h2 vs hC10.out i).mono ?_); rintro e w11 ⟨b, vs', rfl, hst, hg⟩; have hC11 := Lib.hid hst; clear hst; have hG11 := Lib.hid hg; clear hg)
      have hS11 := Lib.hid (hS10.out.grown hG11.out (by omega) (by omega))
      have hz11 := hG11.out.size
      have hB11 : Hid (Below w2.heap.size w9 w11) := hBr.out.trans ((below_grown_at hG10.out (by omega) (by omega)).trans (below_grown_at hG11.out (by omega) (by omega)))
      have hR11 := Lib.hid (hRr.out.below hB11.out (Nat.le_refl _))
      go_wp2_with (go_at_call 13; (with_reducible refine (s_words _ s h us hS11.out).mono ?_); rintro e w12 ⟨h12, rfl, hh12, hrow, hb12⟩; have hB12 := Lib.hid hb12; clear hb12; have hW12 := Lib.hid hrow; clear hrow)
      have hR12 := Lib.hid (hR11.out.below hB12.out (by omega))
      go_wp2_with (go_at_call 12; (with_reducible refine (same_same _ _ _ _ us _ _ _ (rw_of_row hW12.out) hR12.out (by omega)).mono ?_); rintro e w13 ⟨rfl, N13, rfl⟩)
      go_ret
      have hz1 := hB1.out.size
      have hz2 := hB2.out.size
      refine ⟨rfl, below_drewN (hB1.out.trans ((hB2.out.mono hz1).trans ((hB3.out.mono (by omega)).trans ((hB39.out.mono (by omega)).trans ((hB11.out.mono (by omega)).trans (hB12.out.mono (by omega))))))) _⟩
end Go.Proofs.YtfdcejafobjlbaaDoor
