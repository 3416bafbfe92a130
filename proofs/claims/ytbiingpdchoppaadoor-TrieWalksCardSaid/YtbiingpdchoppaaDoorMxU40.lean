/- The law TrieWalks, walked (written by genu40.py). -/
import Derived.Test.YtbiingpdchoppaaDoorMxU38
namespace Go.Proofs.YtbiingpdchoppaaDoor
set_option maxRecDepth 40000
open Go.RowKit
namespace K
theorem fi_succ {xs : List Nat} (h : Up xs) {j : Nat} (hj : j < xs.length) : fi xs (xs[j] + 1) = j + 1 := by
  have h1 := fi_le xs (xs[j] + 1)
  rcases Nat.lt_trichotomy (fi xs (xs[j] + 1)) (j + 1) with hlt | he | hgt
  · have h2 := fi_at (xs := xs) (k := xs[j] + 1) (by omega)
    rcases Nat.lt_or_ge (fi xs (xs[j] + 1)) j with h3 | h3
    · have := up_lt h h3 hj
      omega
    · have e : fi xs (xs[j] + 1) = j := by omega
      simp only [e] at h2
      omega
  · exact he
  · obtain ⟨h3, h2⟩ := fi_lt hgt
    have := up_lt (i := j) (j := j + 1) h (by omega) h3
    omega
theorem pv_pred {xs : List Nat} (h : Up xs) {j : Nat} (hj : j < xs.length) (h0 : 0 < xs[j]) : pvb xs (xs[j] - 1) = decide (0 < j) ∧ (0 < j → xs[j - 1]? = some (pv xs (xs[j] - 1))) := by
  obtain ⟨m, hm⟩ : ∃ m, xs[j] - 1 = m := ⟨_, rfl⟩
  rw [hm]
  have h1 : fi xs m ≤ j := by
    rcases Nat.lt_or_ge j (fi xs m) with h2 | h2
    · obtain ⟨_, h3⟩ := fi_lt h2
      omega
    · exact h2
  by_cases hf : fo xs m = true
  · obtain ⟨h2, h3⟩ := fo_lt hf
    have h4 : fi xs m = j - 1 ∧ 0 < j := by
      rcases Nat.lt_or_ge (fi xs m) j with h5 | h5
      · rcases Nat.lt_or_ge (fi xs m + 1) j with h6 | h6
        · have := up_lt (i := fi xs m) (j := fi xs m + 1) h (by omega) (by omega)
          have := up_lt h h6 hj
          omega
        · omega
      · have e : fi xs m = j := by omega
        simp only [e] at h3
        omega
    have e1 : pv xs m = m := if_pos hf
    have e2 : pvb xs m = true := by unfold pvb; rw [hf]; rfl
    refine ⟨by rw [e2, decide_eq_true h4.2], fun _ => ?_⟩
    rw [e1, ← h4.1, List.getElem?_eq_getElem h2, h3]
  · have hf' : fo xs m = false := by simpa using hf
    have h4 : fi xs m = j := by
      rcases Nat.lt_or_ge (fi xs m) j with h5 | h5
      · exfalso
        have h6 := fi_at (xs := xs) (k := m) (by omega)
        have h7 := up_lt h h5 hj
        have h8 : xs[fi xs m]'(by omega) = m := by omega
        refine hf ?_
        unfold fo
        exact decide_eq_true (by rw [List.getElem?_eq_getElem (by omega), h8])
      · omega
    unfold pvb pv
    rw [hf', h4]
    refine ⟨?_, fun hj0 => ?_⟩
    · rcases Nat.eq_zero_or_pos j with e | e
      · subst e; rfl
      · rw [decide_eq_true e, decide_eq_false (by omega)]; rfl
    · rw [if_neg (by simp), if_neg (by omega), List.getElem?_eq_getElem (by omega)]
      rfl
end K
section
variable (A : Option Addr) (cp : Nat) (l : List Nat) (w : World) (hTab : Tab w) (hr : Rw w w.heap.size A l) (hl : l.length ≤ 9223372036854775807) (hx : ∀ x ∈ l, x < 18446744073709551616)
include hTab hr hl hx
set_option maxHeartbeats 4000000 in
set_option maxRecDepth 100000 in
theorem law_walks :
    Calls Tryd.prog 8 #[.slice A l.length cp] w fun e w' => e = .returned (.bool true) ∧ Below w.heap.size w w' := by
  have haw := Lib.hid (law_awake_t w hTab)
  have hnew : Hid (∀ W : World, Below w.heap.size w W → Calls Tryd.prog 10 #[.int .i64 100000] W fun e w' => ∃ P, e = .returned (.tuple #[.pointer (some ⟨P, 0, none⟩), .int .i64 0]) ∧ TKs w w' P 100000 [] []) := Lib.hid (fun W hW => tks_new hW hTab 100000 (by omega))
  have hwd : Hid (∀ (W : World) (P : Nat), TKs w W P 100000 [] [] → Calls Tryd.prog 22 #[.slice A l.length cp, .int .i64 60] W fun e w' => ∃ A' c', e = .returned (.slice A' (l.take 60).length c') ∧ TKs w w' P 100000 [] [(.slice A' (l.take 60).length c', l.take 60)]) := Lib.hid (fun W P h => tks_words h A cp l 60 hr hl (by omega))
  have hkl : (l.take 60).length ≤ 60 := List.length_take_le 60 l
  have hku : ∀ x ∈ l.take 60, x < 18446744073709551616 := fun x h => hx x (List.mem_of_mem_take h)
  have hup := T.off_up (l.take 60)
  have hmem2 : ∀ x ∈ K.off (l.take 60), x ∈ l.take 60 := fun x h => (T.off_mem _ x).1 h
  have hxl := K.off_le (l.take 60)
  have hLen := Lib.hid (rfl : l.length = l.length)
  generalize l.take 60 = ks at *
  have hof := Lib.hid (fun (W : World) (P : Nat) (A1 : Option Addr) (c1 : Nat) (h : TKs w W P 100000 [] [(.slice A1 ks.length c1, ks)]) => tks_of h (.slice A1 ks.length c1) ks (by simp) (by omega))
  obtain ⟨xs, hxs⟩ : ∃ xs, K.off ks = xs := ⟨_, rfl⟩
  rw [hxs] at hof hup hmem2 hxl
  have hxu : ∀ x ∈ xs, x < 18446744073709551616 := fun x h => hku x (hmem2 x h)
  have he1 : Hid (∀ (W : World) (P : Nat) (A1 : Option Addr) (c1 : Nat) (S : List (Value × List Nat)), (Value.slice A1 xs.length c1, xs) ∈ S → TKs w W P 100000 [] S → Calls Tryd.prog 33 #[.pointer (some ⟨P, 0, none⟩), .slice A1 xs.length c1] W fun e w' => ∃ v, e = .returned v ∧ TKs w w' P 100000 xs S) := Lib.hid (fun W P A1 c1 S hm h => by
    have := tks_each h A1 c1 xs hm hxu (by omega)
    have h1 := (K.eachR_fit (lim := 100000) xs [] List.Pairwise.nil (by simp only [List.length_nil]; omega)).1
    rw [show xs.foldl K.add [] = K.off xs from rfl, K.off_self hup] at h1
    rw [h1] at this
    exact this.mono fun e w' ⟨h1, h2⟩ => ⟨_, h1, h2⟩)
  have hnx := Lib.hid (fun (W : World) (P : Nat) (S : List (Value × List Nat)) (h : TKs w W P 100000 xs S) (k : Nat) (hk : k < 18446744073709551616) => h.op (fun tk O hT => tt_tc.next W P xs 100000 tk O hT k hk))
  have hpv := Lib.hid (fun (W : World) (P : Nat) (S : List (Value × List Nat)) (h : TKs w W P 100000 xs S) (k : Nat) (hk : k < 18446744073709551616) => h.op (fun tk O hT => tt_tc.prev W P xs 100000 tk O hT k hk))
  have hsm : Hid (∀ (W : World) (P : Nat) (S : List (Value × List Nat)) (v : Value), (v, xs) ∈ S → TKs w W P 100000 xs S → Calls Tryd.prog 17 #[.pointer (some ⟨P, 0, none⟩), v] W fun e w' => e = .returned (.bool true) ∧ TKs w w' P 100000 xs S) := Lib.hid (fun W P S v hm h => by
    have := tks_same h v xs hm (by omega) (by omega)
    rw [decide_eq_true rfl] at this
    exact this)
  obtain ⟨n, hn⟩ : ∃ n, xs.length = n := ⟨_, rfl⟩
  have hn60 : n ≤ 60 := by omega
  have HUP := Lib.hid hup
  have HXU := Lib.hid hxu
  have HN := Lib.hid hn
  rw [hn] at hof he1
  clear hr hx hTab hl hku hmem2 hxs hLen hxu hup hn hkl hxl
  go_enter Tryd.func8, Tryd.ntmps8
  go_wp2_with (first
    | (go_at_call 9; (with_reducible refine haw.out.mono ?_); rintro e w1 ⟨rfl, hb1⟩; have HB1 := Lib.hid hb1; clear hb1)
    | (go_at_call 10; (with_reducible refine (hnew.out w1 HB1.out).mono ?_); rintro e w2 ⟨P, rfl, h2⟩; have H2 := Lib.hid h2; clear h2)
    | (go_at_call 22; (with_reducible refine (hwd.out w2 P H2.out).mono ?_); rintro e w3 ⟨A1, c1, rfl, h3⟩; have H3 := Lib.hid h3; clear h3)
    | (go_at_call 21; (with_reducible refine (hof.out w3 P A1 c1 H3.out).mono ?_); rintro e w4 ⟨A2, c2, rfl, h4⟩; have H4 := Lib.hid h4; clear h4)
    | (go_at_call 33; (with_reducible refine (he1.out w4 P A2 c2 _ ?_ H4.out).mono ?_); (simp); rintro e w5 ⟨v5, rfl, h5⟩; have H5 := Lib.hid h5; clear h5))
  go_loopw [26] (fun ix wr => ∃ (j : Nat), j ≤ n ∧ ix = .int .i64 (j : Int) ∧ Hid (TKs w wr P 100000 xs [(.slice A2 n c2, xs), (.slice A1 ks.length c1, ks)])) (fun ix _ => n - (intOf ix).toNat)
  case atStart => exact ⟨0, by omega, rfl, H5⟩
  case round =>
    obtain ⟨j, hj, rfl, HT⟩ := hrel
    clear H2 H3 H4 H5
    rcases Nat.lt_or_ge j n with hjr | hjr
    · have hjk : j < xs.length := by rw [HN.out]; exact hjr
      have hkx := HT.out.kx (List.mem_cons_self ..)
      unfold KX at hkx
      rw [HN.out] at hkx
      obtain ⟨g, rfl⟩ := own_some hkx (by omega)
      have hcell := tks_cell HT.out (List.mem_cons_self ..) (List.getElem?_eq_getElem hjk)
      have hkl := HXU.out xs[j] (List.getElem_mem hjk)
      have hfs := K.fi_succ HUP.out hjk
      have hpp := fun h0 => K.pv_pred HUP.out hjk h0
      have hlast : xs[j] = 18446744073709551615 → ¬ j + 1 < n := fun e hlt => by
        have h1 := K.up_lt (i := j) (j := j + 1) HUP.out (by omega) (by rw [HN.out]; exact hlt)
        have h2 := HXU.out _ (List.getElem_mem (show j + 1 < xs.length by rw [HN.out]; exact hlt))
        omega
      have hnb : K.nxb xs (xs[j] + 1) = decide (j + 1 < n) := by unfold K.nxb; rw [hfs, HN.out]
      have hnv : j + 1 < n → xs[j + 1]? = some (K.nx xs (xs[j] + 1)) := fun hlt => by
        have h9 : j + 1 < xs.length := by rw [HN.out]; exact hlt
        unfold K.nx
        rw [hfs, List.getElem?_eq_getElem h9]
        rfl
      generalize xs[j] = k at *
      obtain ⟨k1, hk1⟩ : ∃ k1, k + 1 = k1 := ⟨_, rfl⟩
      obtain ⟨k2, hk2⟩ : ∃ k2, k - 1 = k2 := ⟨_, rfl⟩
      rw [hk1] at hnb hnv
      rw [hk2] at hpp
      have gk : (j : Int) < (n : Int) := by omega
      obtain ⟨j1, hj1⟩ : ∃ j1, j + 1 = j1 := ⟨_, rfl⟩
      rw [hj1] at hnb hnv
      have wj : IntKind.i64.wrap ((j : Int) + 1) = (j1 : Int) := by rw [IntWalk.i64_in _ (by omega)]; omega
      have hnx1 := Lib.hid (fun (W : World) (S : List (Value × List Nat)) (h : TKs w W P 100000 xs S) (hk : k1 < 18446744073709551616) => hnx.out W P S h k1 hk)
      have hpv1 := Lib.hid (fun (W : World) (S : List (Value × List Nat)) (h : TKs w W P 100000 xs S) (hk : k2 < 18446744073709551616) => hpv.out W P S h k2 hk)
      generalize K.nx xs k1 = nv at *
      generalize K.pv xs k2 = pvv at *
      have HNV := Lib.hid hnv
      have HPP := Lib.hid hpp
      clear hnv hpp hfs hkx hnx hpv haw hnew hwd hof he1
      have HNB := Lib.hid hnb
      have HLAST := Lib.hid hlast
      clear hnb hlast
      obtain ⟨L, hL⟩ : ∃ L : Int, L = 18446744073709551615 := ⟨_, rfl⟩
      have HLL := Lib.hid hL
      rw [← hL]
      clear hL
      rcases (show k = 18446744073709551615 ∨ (k < 18446744073709551615 ∧ j1 < n) ∨ (k < 18446744073709551615 ∧ ¬ j1 < n) by omega) with hm | ⟨hm, hlt⟩ | ⟨hm, hlt⟩
      · rcases (show k = 0 ∨ (0 < k ∧ 0 < j) ∨ (0 < k ∧ ¬ 0 < j) by omega) with hk0 | ⟨hk0, hp0⟩ | ⟨hk0, hp0⟩
        · omega
        · have b1 : decide ((k : Int) < L) = false := decide_eq_false (by have := HLL.out; omega)
          have b3 : decide ((0 : Int) < (k : Int)) = true := decide_eq_true (by omega)
          have b3n : decide (0 < k) = true := decide_eq_true (by omega)
          have b3m : 0 < k := hk0
          have wk2 : IntKind.u64.wrap ((k : Int) - 1) = (k2 : Int) := by simp [IntKind.wrap, IntKind.signed, IntKind.bits]; omega
          have hpv2 := Lib.hid (fun (W : World) (S : List (Value × List Nat)) (h : TKs w W P 100000 xs S) => hpv1.out W S h (by omega))
          have b4 : decide ((0 : Int) < (j : Int)) = true := decide_eq_true (by omega)
          have b4n : decide (0 < j) = true := decide_eq_true (by omega)
          obtain ⟨j0, hj0⟩ : ∃ j0, j - 1 = j0 := ⟨_, rfl⟩
          have wj0 : IntKind.i64.wrap ((j : Int) - 1) = (j0 : Int) := by rw [IntWalk.i64_in _ (by omega)]; omega
          have gk0 : (j0 : Int) < (n : Int) := by omega
          have HPV : Hid (xs[j0]? = some pvv) := Lib.hid (by rw [← hj0]; exact (HPP.out hk0).2 hp0)
          rw [(HPP.out hk0).1, decide_eq_true hp0, ← wk2] at hpv2
          clear wk2
          have HJ1 := Lib.hid hj1
          clear hj0
          clear hm hk0 hkl hk1 hk2 hj1
          go_wp2_with (first | (go_at_call 30; (with_reducible refine (hpv2.out wr _ HT.out).mono ?_); rintro e w3 ⟨rfl, h3⟩; have d2 := tks_cell h3 (List.mem_cons_self ..) HPV.out; have H3 := Lib.hid h3; clear h3))
          go_roundw
          case rel => exact ⟨j1, by have := HJ1.out; omega, by go_num, H3⟩
          case measure => simp [intOf]; have := HJ1.out; omega
        · have b1 : decide ((k : Int) < L) = false := decide_eq_false (by have := HLL.out; omega)
          have b3 : decide ((0 : Int) < (k : Int)) = true := decide_eq_true (by omega)
          have b3n : decide (0 < k) = true := decide_eq_true (by omega)
          have b3m : 0 < k := hk0
          have wk2 : IntKind.u64.wrap ((k : Int) - 1) = (k2 : Int) := by simp [IntKind.wrap, IntKind.signed, IntKind.bits]; omega
          have hpv2 := Lib.hid (fun (W : World) (S : List (Value × List Nat)) (h : TKs w W P 100000 xs S) => hpv1.out W S h (by omega))
          have b4 : decide ((0 : Int) < (j : Int)) = false := decide_eq_false (by omega)
          have b4n : decide (0 < j) = false := decide_eq_false (by omega)
          rw [(HPP.out hk0).1, decide_eq_false hp0, ← wk2] at hpv2
          clear wk2
          have HJ1 := Lib.hid hj1
          clear hm hk0 hkl hk1 hk2 hj1
          go_wp2_with (first | (go_at_call 30; (with_reducible refine (hpv2.out wr _ HT.out).mono ?_); rintro e w3 ⟨rfl, h3⟩; have H3 := Lib.hid h3; clear h3))
          go_roundw
          case rel => exact ⟨j1, by have := HJ1.out; omega, by go_num, H3⟩
          case measure => simp [intOf]; have := HJ1.out; omega
      · rcases (show k = 0 ∨ (0 < k ∧ 0 < j) ∨ (0 < k ∧ ¬ 0 < j) by omega) with hk0 | ⟨hk0, hp0⟩ | ⟨hk0, hp0⟩
        · have b1 : decide ((k : Int) < L) = true := decide_eq_true (by have := HLL.out; omega)
          have wk1 : IntKind.u64.wrap ((k : Int) + 1) = (k1 : Int) := by simp [IntKind.wrap, IntKind.signed, IntKind.bits]; omega
          have hnx2 := Lib.hid (fun (W : World) (S : List (Value × List Nat)) (h : TKs w W P 100000 xs S) => hnx1.out W S h (by omega))
          have b2 : decide ((j1 : Int) < (n : Int)) = true := decide_eq_true (by omega)
          have gk1 : (j1 : Int) < (n : Int) := by omega
          rw [HNB.out, decide_eq_true hlt, ← wk1] at hnx2
          clear wk1
          have b3 : decide ((0 : Int) < (k : Int)) = false := decide_eq_false (by omega)
          have b3n : decide (0 < k) = false := decide_eq_false (by omega)
          have HJ1 := Lib.hid hj1
          clear hm hk0 hkl hk1 hk2 hj1
          go_wp2_with (first | (go_at_call 29; (with_reducible refine (hnx2.out wr _ HT.out).mono ?_); rintro e w2 ⟨rfl, h2⟩; have d1 := tks_cell h2 (List.mem_cons_self ..) (HNV.out hlt); have H2 := Lib.hid h2; clear h2))
          go_roundw
          case rel => exact ⟨j1, by have := HJ1.out; omega, by go_num, H2⟩
          case measure => simp [intOf]; have := HJ1.out; omega
        · have b1 : decide ((k : Int) < L) = true := decide_eq_true (by have := HLL.out; omega)
          have wk1 : IntKind.u64.wrap ((k : Int) + 1) = (k1 : Int) := by simp [IntKind.wrap, IntKind.signed, IntKind.bits]; omega
          have hnx2 := Lib.hid (fun (W : World) (S : List (Value × List Nat)) (h : TKs w W P 100000 xs S) => hnx1.out W S h (by omega))
          have b2 : decide ((j1 : Int) < (n : Int)) = true := decide_eq_true (by omega)
          have gk1 : (j1 : Int) < (n : Int) := by omega
          rw [HNB.out, decide_eq_true hlt, ← wk1] at hnx2
          clear wk1
          have b3 : decide ((0 : Int) < (k : Int)) = true := decide_eq_true (by omega)
          have b3n : decide (0 < k) = true := decide_eq_true (by omega)
          have b3m : 0 < k := hk0
          have wk2 : IntKind.u64.wrap ((k : Int) - 1) = (k2 : Int) := by simp [IntKind.wrap, IntKind.signed, IntKind.bits]; omega
          have hpv2 := Lib.hid (fun (W : World) (S : List (Value × List Nat)) (h : TKs w W P 100000 xs S) => hpv1.out W S h (by omega))
          have b4 : decide ((0 : Int) < (j : Int)) = true := decide_eq_true (by omega)
          have b4n : decide (0 < j) = true := decide_eq_true (by omega)
          obtain ⟨j0, hj0⟩ : ∃ j0, j - 1 = j0 := ⟨_, rfl⟩
          have wj0 : IntKind.i64.wrap ((j : Int) - 1) = (j0 : Int) := by rw [IntWalk.i64_in _ (by omega)]; omega
          have gk0 : (j0 : Int) < (n : Int) := by omega
          have HPV : Hid (xs[j0]? = some pvv) := Lib.hid (by rw [← hj0]; exact (HPP.out hk0).2 hp0)
          rw [(HPP.out hk0).1, decide_eq_true hp0, ← wk2] at hpv2
          clear wk2
          have HJ1 := Lib.hid hj1
          clear hj0
          clear hm hk0 hkl hk1 hk2 hj1
          go_wp2_with (first | (go_at_call 29; (with_reducible refine (hnx2.out wr _ HT.out).mono ?_); rintro e w2 ⟨rfl, h2⟩; have d1 := tks_cell h2 (List.mem_cons_self ..) (HNV.out hlt); have H2 := Lib.hid h2; clear h2) | (go_at_call 30; (with_reducible refine (hpv2.out w2 _ H2.out).mono ?_); rintro e w3 ⟨rfl, h3⟩; have d2 := tks_cell h3 (List.mem_cons_self ..) HPV.out; have H3 := Lib.hid h3; clear h3))
          go_roundw
          case rel => exact ⟨j1, by have := HJ1.out; omega, by go_num, H3⟩
          case measure => simp [intOf]; have := HJ1.out; omega
        · have b1 : decide ((k : Int) < L) = true := decide_eq_true (by have := HLL.out; omega)
          have wk1 : IntKind.u64.wrap ((k : Int) + 1) = (k1 : Int) := by simp [IntKind.wrap, IntKind.signed, IntKind.bits]; omega
          have hnx2 := Lib.hid (fun (W : World) (S : List (Value × List Nat)) (h : TKs w W P 100000 xs S) => hnx1.out W S h (by omega))
          have b2 : decide ((j1 : Int) < (n : Int)) = true := decide_eq_true (by omega)
          have gk1 : (j1 : Int) < (n : Int) := by omega
          rw [HNB.out, decide_eq_true hlt, ← wk1] at hnx2
          clear wk1
          have b3 : decide ((0 : Int) < (k : Int)) = true := decide_eq_true (by omega)
          have b3n : decide (0 < k) = true := decide_eq_true (by omega)
          have b3m : 0 < k := hk0
          have wk2 : IntKind.u64.wrap ((k : Int) - 1) = (k2 : Int) := by simp [IntKind.wrap, IntKind.signed, IntKind.bits]; omega
          have hpv2 := Lib.hid (fun (W : World) (S : List (Value × List Nat)) (h : TKs w W P 100000 xs S) => hpv1.out W S h (by omega))
          have b4 : decide ((0 : Int) < (j : Int)) = false := decide_eq_false (by omega)
          have b4n : decide (0 < j) = false := decide_eq_false (by omega)
          rw [(HPP.out hk0).1, decide_eq_false hp0, ← wk2] at hpv2
          clear wk2
          have HJ1 := Lib.hid hj1
          clear hm hk0 hkl hk1 hk2 hj1
          go_wp2_with (first | (go_at_call 29; (with_reducible refine (hnx2.out wr _ HT.out).mono ?_); rintro e w2 ⟨rfl, h2⟩; have d1 := tks_cell h2 (List.mem_cons_self ..) (HNV.out hlt); have H2 := Lib.hid h2; clear h2) | (go_at_call 30; (with_reducible refine (hpv2.out w2 _ H2.out).mono ?_); rintro e w3 ⟨rfl, h3⟩; have H3 := Lib.hid h3; clear h3))
          go_roundw
          case rel => exact ⟨j1, by have := HJ1.out; omega, by go_num, H3⟩
          case measure => simp [intOf]; have := HJ1.out; omega
      · rcases (show k = 0 ∨ (0 < k ∧ 0 < j) ∨ (0 < k ∧ ¬ 0 < j) by omega) with hk0 | ⟨hk0, hp0⟩ | ⟨hk0, hp0⟩
        · have b1 : decide ((k : Int) < L) = true := decide_eq_true (by have := HLL.out; omega)
          have wk1 : IntKind.u64.wrap ((k : Int) + 1) = (k1 : Int) := by simp [IntKind.wrap, IntKind.signed, IntKind.bits]; omega
          have hnx2 := Lib.hid (fun (W : World) (S : List (Value × List Nat)) (h : TKs w W P 100000 xs S) => hnx1.out W S h (by omega))
          have b2 : decide ((j1 : Int) < (n : Int)) = false := decide_eq_false (by omega)
          rw [HNB.out, decide_eq_false hlt, ← wk1] at hnx2
          clear wk1
          have b3 : decide ((0 : Int) < (k : Int)) = false := decide_eq_false (by omega)
          have b3n : decide (0 < k) = false := decide_eq_false (by omega)
          have HJ1 := Lib.hid hj1
          clear hm hk0 hkl hk1 hk2 hj1
          go_wp2_with (first | (go_at_call 29; (with_reducible refine (hnx2.out wr _ HT.out).mono ?_); rintro e w2 ⟨rfl, h2⟩; have H2 := Lib.hid h2; clear h2))
          go_roundw
          case rel => exact ⟨j1, by have := HJ1.out; omega, by go_num, H2⟩
          case measure => simp [intOf]; have := HJ1.out; omega
        · have b1 : decide ((k : Int) < L) = true := decide_eq_true (by have := HLL.out; omega)
          have wk1 : IntKind.u64.wrap ((k : Int) + 1) = (k1 : Int) := by simp [IntKind.wrap, IntKind.signed, IntKind.bits]; omega
          have hnx2 := Lib.hid (fun (W : World) (S : List (Value × List Nat)) (h : TKs w W P 100000 xs S) => hnx1.out W S h (by omega))
          have b2 : decide ((j1 : Int) < (n : Int)) = false := decide_eq_false (by omega)
          rw [HNB.out, decide_eq_false hlt, ← wk1] at hnx2
          clear wk1
          have b3 : decide ((0 : Int) < (k : Int)) = true := decide_eq_true (by omega)
          have b3n : decide (0 < k) = true := decide_eq_true (by omega)
          have b3m : 0 < k := hk0
          have wk2 : IntKind.u64.wrap ((k : Int) - 1) = (k2 : Int) := by simp [IntKind.wrap, IntKind.signed, IntKind.bits]; omega
          have hpv2 := Lib.hid (fun (W : World) (S : List (Value × List Nat)) (h : TKs w W P 100000 xs S) => hpv1.out W S h (by omega))
          have b4 : decide ((0 : Int) < (j : Int)) = true := decide_eq_true (by omega)
          have b4n : decide (0 < j) = true := decide_eq_true (by omega)
          obtain ⟨j0, hj0⟩ : ∃ j0, j - 1 = j0 := ⟨_, rfl⟩
          have wj0 : IntKind.i64.wrap ((j : Int) - 1) = (j0 : Int) := by rw [IntWalk.i64_in _ (by omega)]; omega
          have gk0 : (j0 : Int) < (n : Int) := by omega
          have HPV : Hid (xs[j0]? = some pvv) := Lib.hid (by rw [← hj0]; exact (HPP.out hk0).2 hp0)
          rw [(HPP.out hk0).1, decide_eq_true hp0, ← wk2] at hpv2
          clear wk2
          have HJ1 := Lib.hid hj1
          clear hj0
          clear hm hk0 hkl hk1 hk2 hj1
          go_wp2_with (first | (go_at_call 29; (with_reducible refine (hnx2.out wr _ HT.out).mono ?_); rintro e w2 ⟨rfl, h2⟩; have H2 := Lib.hid h2; clear h2) | (go_at_call 30; (with_reducible refine (hpv2.out w2 _ H2.out).mono ?_); rintro e w3 ⟨rfl, h3⟩; have d2 := tks_cell h3 (List.mem_cons_self ..) HPV.out; have H3 := Lib.hid h3; clear h3))
          go_roundw
          case rel => exact ⟨j1, by have := HJ1.out; omega, by go_num, H3⟩
          case measure => simp [intOf]; have := HJ1.out; omega
        · have b1 : decide ((k : Int) < L) = true := decide_eq_true (by have := HLL.out; omega)
          have wk1 : IntKind.u64.wrap ((k : Int) + 1) = (k1 : Int) := by simp [IntKind.wrap, IntKind.signed, IntKind.bits]; omega
          have hnx2 := Lib.hid (fun (W : World) (S : List (Value × List Nat)) (h : TKs w W P 100000 xs S) => hnx1.out W S h (by omega))
          have b2 : decide ((j1 : Int) < (n : Int)) = false := decide_eq_false (by omega)
          rw [HNB.out, decide_eq_false hlt, ← wk1] at hnx2
          clear wk1
          have b3 : decide ((0 : Int) < (k : Int)) = true := decide_eq_true (by omega)
          have b3n : decide (0 < k) = true := decide_eq_true (by omega)
          have b3m : 0 < k := hk0
          have wk2 : IntKind.u64.wrap ((k : Int) - 1) = (k2 : Int) := by simp [IntKind.wrap, IntKind.signed, IntKind.bits]; omega
          have hpv2 := Lib.hid (fun (W : World) (S : List (Value × List Nat)) (h : TKs w W P 100000 xs S) => hpv1.out W S h (by omega))
          have b4 : decide ((0 : Int) < (j : Int)) = false := decide_eq_false (by omega)
          have b4n : decide (0 < j) = false := decide_eq_false (by omega)
          rw [(HPP.out hk0).1, decide_eq_false hp0, ← wk2] at hpv2
          clear wk2
          have HJ1 := Lib.hid hj1
          clear hm hk0 hkl hk1 hk2 hj1
          go_wp2_with (first | (go_at_call 29; (with_reducible refine (hnx2.out wr _ HT.out).mono ?_); rintro e w2 ⟨rfl, h2⟩; have H2 := Lib.hid h2; clear h2) | (go_at_call 30; (with_reducible refine (hpv2.out w2 _ H2.out).mono ?_); rintro e w3 ⟨rfl, h3⟩; have H3 := Lib.hid h3; clear h3))
          go_roundw
          case rel => exact ⟨j1, by have := HJ1.out; omega, by go_num, H3⟩
          case measure => simp [intOf]; have := HJ1.out; omega
    · obtain rfl : j = n := by omega
      have g0 : decide ((j : Int) < (j : Int)) = false := decide_eq_false (by omega)
      go_wp2_with (go_at_call 17; (with_reducible refine (hsm.out wr P _ _ (List.mem_cons_self ..) HT.out).mono ?_); rintro e w6 ⟨rfl, h6⟩; have H6 := Lib.hid h6; clear h6)
      go_ret
      exact ⟨rfl, H6.out.low⟩
end
end Go.Proofs.YtbiingpdchoppaaDoor
