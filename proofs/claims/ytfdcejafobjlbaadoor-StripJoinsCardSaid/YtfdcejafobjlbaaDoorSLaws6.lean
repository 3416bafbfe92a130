
/- The law of joining strips: it returns true at every input. -/
import Derived.Test.YtfdcejafobjlbaaDoorJMath
namespace Go.Proofs.YtfdcejafobjlbaaDoor
open Go.RowKit
theorem s_or (w : World) (A : Option Addr) (c : Nat) (sts : List (Nat × Nat × List Nat)) (n : Nat) (h0 : 0 < sts.length) (hm : sts.length ≤ 1000) (hr : Rp w w.heap.size A (sts.map some)) (hs : ∀ x ∈ sts, St w x.1 x.2.1 x.2.2) (hn : ∀ x ∈ sts, x.2.2.length = n) (hn4 : n ≤ 4096) :
    Calls Tryd.prog 30 #[.slice A sts.length c] w (Joined M.orAll w sts n) := by
  have hj := Lib.hid (join_or w A c sts n h0 hm hr hs hn hn4)
  clear h0 hm hr hs hn hn4
  go_enter Tryd.func30, Tryd.ntmps30
  go_wp2_with (go_at_call 52; (with_reducible refine hj.out.mono ?_); rintro e w' ⟨s, h, us, rfl, h1, h2, h3, h4, h5, h6⟩; have H := Lib.hid (And.intro h1 (And.intro h2 (And.intro h3 (And.intro h4 (And.intro h5 h6))))); clear h1 h2 h3 h4 h5 h6)
  go_ret2
  obtain ⟨h1, h2, h3, h4, h5, h6⟩ := H.out
  exact ⟨s, h, us, rfl, h1, h2, h3, h4, h5, h6⟩
theorem s_and (w : World) (A : Option Addr) (c : Nat) (sts : List (Nat × Nat × List Nat)) (n : Nat) (h0 : 0 < sts.length) (hm : sts.length ≤ 1000) (hr : Rp w w.heap.size A (sts.map some)) (hs : ∀ x ∈ sts, St w x.1 x.2.1 x.2.2) (hn : ∀ x ∈ sts, x.2.2.length = n) (hn4 : n ≤ 4096) :
    Calls Tryd.prog 31 #[.slice A sts.length c] w (Joined M.andAll w sts n) := by
  have hj := Lib.hid (join_and w A c sts n h0 hm hr hs hn hn4)
  clear h0 hm hr hs hn hn4
  go_enter Tryd.func31, Tryd.ntmps31
  go_wp2_with (go_at_call 52; (with_reducible refine hj.out.mono ?_); rintro e w' ⟨s, h, us, rfl, h1, h2, h3, h4, h5, h6⟩; have H := Lib.hid (And.intro h1 (And.intro h2 (And.intro h3 (And.intro h4 (And.intro h5 h6))))); clear h1 h2 h3 h4 h5 h6)
  go_ret2
  obtain ⟨h1, h2, h3, h4, h5, h6⟩ := H.out
  exact ⟨s, h, us, rfl, h1, h2, h3, h4, h5, h6⟩
theorem s_or_no (w : World) (A : Option Addr) (c : Nat) (ps : List Sp) (hr : Rp w w.heap.size A ps) (hs : Sts w ps) (hl : ps.length ≤ 1000) (ha : alk ps = false) :
    Calls Tryd.prog 30 #[.slice A ps.length c] w fun e w' => e = .returned (.tuple #[.pointer none, .int .i64 1]) ∧ ∃ n, w' = w.drewN n := by
  have hj := Lib.hid (join_no w (.func (.func 53) #[] #[]) A c ps hr hs hl ha)
  clear hr hs hl ha
  go_enter Tryd.func30, Tryd.ntmps30
  go_wp2_with (go_at_call 52; (with_reducible refine hj.out.mono ?_); rintro e w' ⟨rfl, N, rfl⟩)
  go_ret2
  exact ⟨rfl, _, rfl⟩
theorem s_and_no (w : World) (A : Option Addr) (c : Nat) (ps : List Sp) (hr : Rp w w.heap.size A ps) (hs : Sts w ps) (hl : ps.length ≤ 1000) (ha : alk ps = false) :
    Calls Tryd.prog 31 #[.slice A ps.length c] w fun e w' => e = .returned (.tuple #[.pointer none, .int .i64 1]) ∧ ∃ n, w' = w.drewN n := by
  have hj := Lib.hid (join_no w (.func (.func 54) #[] #[]) A c ps hr hs hl ha)
  clear hr hs hl ha
  go_enter Tryd.func31, Tryd.ntmps31
  go_wp2_with (go_at_call 52; (with_reducible refine hj.out.mono ?_); rintro e w' ⟨rfl, N, rfl⟩)
  go_ret2
  exact ⟨rfl, _, rfl⟩
theorem no_or (w : World) (s h s' h' : Nat) (us vs : List Nat) (a : St w s h us) (b : St w s' h' vs) (hne : us.length ≠ vs.length) :
    Calls Tryd.prog 30 #[.slice (some ⟨w.heap.size, 0, none⟩) 2 2] (w.alloc (.cells #[.pointer (some ⟨s, 0, none⟩), .pointer (some ⟨s', 0, none⟩)] 24)) fun e w' => e = .returned (.tuple #[.pointer none, .int .i64 1]) ∧ Below w.heap.size w w' := by
  have hB : Below w.heap.size w (w.alloc (.cells #[.pointer (some ⟨s, 0, none⟩), .pointer (some ⟨s', 0, none⟩)] 24)) := (Below.refl _ w).alloc (Nat.le_refl _) _
  refine (s_or_no _ (some ⟨w.heap.size, 0, none⟩) 2 [some (s, h, us), some (s', h', vs)] (fun _ => ⟨w.heap.size, 0, rfl, by simp, fun k hk => ?_⟩) (fun a1 b1 c1 hm => ?_) (by simp) (alk_no (k := 1) (by simp) (.inr ?_))).mono ?_
  · rw [cell_of_row _ w.heap.size (0 + k) _ _ (0, 0) (alloc_top w _ rfl), Nat.zero_add]
    match k, (by simpa using hk : k < 2) with
    | 0, _ => rfl
    | 1, _ => rfl
  · simp at hm
    rcases hm with ⟨rfl, rfl, rfl⟩ | ⟨rfl, rfl, rfl⟩
    · exact a.below hB a.lt.1 a.lt.2
    · exact b.below hB b.lt.1 b.lt.2
  · simp [spl]; omega
  · rintro e w' ⟨rfl, N, rfl⟩
    exact ⟨rfl, below_drewN hB N⟩
theorem no_andnil (w : World) (s h : Nat) (us : List Nat) (a : St w s h us) :
    Calls Tryd.prog 31 #[.slice (some ⟨w.heap.size, 0, none⟩) 2 2] (w.alloc (.cells #[.pointer (some ⟨s, 0, none⟩), .pointer none] 24)) fun e w' => e = .returned (.tuple #[.pointer none, .int .i64 1]) ∧ Below w.heap.size w w' := by
  have hB : Below w.heap.size w (w.alloc (.cells #[.pointer (some ⟨s, 0, none⟩), .pointer none] 24)) := (Below.refl _ w).alloc (Nat.le_refl _) _
  refine (s_and_no _ (some ⟨w.heap.size, 0, none⟩) 2 [some (s, h, us), none] (fun _ => ⟨w.heap.size, 0, rfl, by simp, fun k hk => ?_⟩) (fun a1 b1 c1 hm => ?_) (by simp) (alk_no (k := 1) (by simp) (.inl ?_))).mono ?_
  · rw [cell_of_row _ w.heap.size (0 + k) _ _ (0, 0) (alloc_top w _ rfl), Nat.zero_add]
    match k, (by simpa using hk : k < 2) with
    | 0, _ => rfl
    | 1, _ => rfl
  · simp at hm
    obtain ⟨rfl, rfl, rfl⟩ := hm
    exact a.below hB a.lt.1 a.lt.2
  · rfl
  · rintro e w' ⟨rfl, N, rfl⟩
    exact ⟨rfl, below_drewN hB N⟩
theorem no_and (w : World) : Calls Tryd.prog 31 #[.slice none 0 0] w fun e w' => e = .returned (.tuple #[.pointer none, .int .i64 1]) ∧ Below w.heap.size w w' := by
  refine (s_and_no w none 0 [] (fun h => absurd rfl h) (fun _ _ _ hm => by simp at hm) (by simp) rfl).mono ?_
  rintro e w' ⟨rfl, N, rfl⟩
  exact ⟨rfl, below_drewN (Below.refl _ w) N⟩
set_option maxRecDepth 100000 in
set_option maxHeartbeats 4000000 in
theorem law_joins (A1 A2 A3 : Option Addr) (c1 c2 c3 : Nat) (xs1 xs2 xs3 : List (Nat × Int × Int)) (q r : Nat) (hq : q < 256) (hr : r < 256) (w : World) (hT : Tab w) (hr1 : Ra w w.heap.size A1 xs1) (hr2 : Ra w w.heap.size A2 xs2) (hr3 : Ra w w.heap.size A3 xs3)
    (hl1 : xs1.length ≤ 9223372036854775807) (hl2 : xs2.length ≤ 9223372036854775807) (hl3 : xs3.length ≤ 9223372036854775807) :
    Calls Tryd.prog 6 #[.int .u8 (q : Int), .slice A1 xs1.length c1, .slice A2 xs2.length c2, .slice A3 xs3.length c3, .int .u8 (r : Int)] w fun e w' => e = .returned (.bool true) ∧ Below w.heap.size w w' := by
  have hr1H := Lib.hid hr1
  have hr2H := Lib.hid hr2
  have hr3H := Lib.hid hr3
  clear hr1 hr2 hr3
  obtain ⟨n, hn⟩ : ∃ n, q % 5 = n := ⟨_, rfl⟩
  have hn5 : n < 5 := by omega
  have hnH := Lib.hid hn
  clear hn
  go_enter Tryd.func6, Tryd.ntmps6
  go_wp2_with (go_at_call 10; (with_reducible refine (awake_any _ hT).mono ?_); rintro e w1 ⟨rfl, hb1⟩; have hB1 := Lib.hid hb1; clear hb1)
  go_wp2_with (go_at_call 11; (with_reducible refine (lay_n _ A1 c1 xs1 (ra_later hr1H.out hB1.out) hl1 q hq n hnH.out).mono ?_); rintro e w2 ⟨s1, h1, us1, X1, d1, rfl, hul, hS, hRd, hs, hh, hb⟩; have hS1 := Lib.hid hS; clear hS; have hB2 := Lib.hid hb; clear hb; have hR1 := Lib.hid hRd; clear hRd; have hL1 := Lib.hid hul; clear hul; have hs1 := hs; have hh1 := hh; clear hs hh)
  obtain ⟨w2', hw2⟩ : ∃ w2', w2.alloc (.cells #[.int .i64 (n : Int), .slice X1 (sl us1).length d1] 27) = w2' := ⟨_, rfl⟩
  have hB2' : Hid (Below w2.heap.size w2 w2') := by rw [← hw2]; exact (Below.refl _ w2).alloc (Nat.le_refl _) _
  have hz2' : Hid (w2'.heap.size = w2.heap.size + 1) := by show _ = _; rw [← hw2]; simp
  have hK1 : Hid (w2'.heap[w2.heap.size]? = some (.cells #[.int .i64 (n : Int), .slice X1 (sl us1).length d1] 27 (0, 0))) := by show _ = _; rw [← hw2]; exact alloc_top w2 _ rfl
  have hB02 : Hid (Below w.heap.size w w2') := hB1.out.trans ((hB2.out.mono hB1.out.size).trans (hB2'.out.mono (Nat.le_trans hB1.out.size hB2.out.size)))
  rw [hw2]
  clear hw2
  go_wp2_with (go_at_call 11; (with_reducible refine (lay_n _ A2 c2 xs2 (ra_later hr2H.out hB02.out) hl2 q hq n hnH.out).mono ?_); rintro e w3 ⟨s2, h2, us2, X2, d2, rfl, hul, hS, hRd, hs, hh, hb⟩; have hS2 := Lib.hid hS; clear hS; have hB3 := Lib.hid hb; clear hb; have hR2 := Lib.hid hRd; clear hRd; have hL2 := Lib.hid hul; clear hul; have hs2 := hs; have hh2 := hh; clear hs hh)
  obtain ⟨w3', hw3⟩ : ∃ w3', w3.alloc (.cells #[.int .i64 (n : Int), .slice X2 (sl us2).length d2] 27) = w3' := ⟨_, rfl⟩
  have hB3' : Hid (Below w3.heap.size w3 w3') := by rw [← hw3]; exact (Below.refl _ w3).alloc (Nat.le_refl _) _
  have hz3' : Hid (w3'.heap.size = w3.heap.size + 1) := by show _ = _; rw [← hw3]; simp
  have hK2 : Hid (w3'.heap[w3.heap.size]? = some (.cells #[.int .i64 (n : Int), .slice X2 (sl us2).length d2] 27 (0, 0))) := by show _ = _; rw [← hw3]; exact alloc_top w3 _ rfl
  have hB03 : Hid (Below w.heap.size w w3') := hB02.out.trans ((hB3.out.mono hB02.out.size).trans (hB3'.out.mono (Nat.le_trans hB02.out.size hB3.out.size)))
  rw [hw3]
  clear hw3
  go_wp2_with (go_at_call 11; (with_reducible refine (lay_n _ A3 c3 xs3 (ra_later hr3H.out hB03.out) hl3 q hq n hnH.out).mono ?_); rintro e w4 ⟨s3, h3, us3, X3, d3, rfl, hul, hS, hRd, hs, hh, hb⟩; have hS3 := Lib.hid hS; clear hS; have hB4 := Lib.hid hb; clear hb; have hR3 := Lib.hid hRd; clear hRd; have hL3 := Lib.hid hul; clear hul; have hs3 := hs; have hh3 := hh; clear hs hh)
  obtain ⟨w4', hw4⟩ : ∃ w4', w4.alloc (.cells #[.int .i64 (n : Int), .slice X3 (sl us3).length d3] 27) = w4' := ⟨_, rfl⟩
  have hB4' : Hid (Below w4.heap.size w4 w4') := by rw [← hw4]; exact (Below.refl _ w4).alloc (Nat.le_refl _) _
  have hz4' : Hid (w4'.heap.size = w4.heap.size + 1) := by show _ = _; rw [← hw4]; simp
  have hK3 : Hid (w4'.heap[w4.heap.size]? = some (.cells #[.int .i64 (n : Int), .slice X3 (sl us3).length d3] 27 (0, 0))) := by show _ = _; rw [← hw4]; exact alloc_top w4 _ rfl
  have hB04 : Hid (Below w.heap.size w w4') := hB03.out.trans ((hB4.out.mono hB03.out.size).trans (hB4'.out.mono (Nat.le_trans hB03.out.size hB4.out.size)))
  rw [hw4]
  clear hw4
  have z2 := hz2'.out
  have z3 := hz3'.out
  have z4 := hz4'.out
  have y3 := hB3.out.size
  have y4 := hB4.out.size
  have hK1' : w4'.heap[w2.heap.size]? = some (.cells #[.int .i64 (n : Int), .slice X1 (sl us1).length d1] 27 (0, 0)) :=
    (hB4'.out.block _ (by omega)).trans ((hB4.out.block _ (by omega)).trans ((hB3'.out.block _ (by omega)).trans ((hB3.out.block _ (by omega)).trans hK1.out)))
  have hK2' : w4'.heap[w3.heap.size]? = some (.cells #[.int .i64 (n : Int), .slice X2 (sl us2).length d2] 27 (0, 0)) :=
    (hB4'.out.block _ (by omega)).trans ((hB4.out.block _ (by omega)).trans hK2.out)
  have k10 : w4'.cell? ⟨w2.heap.size, 0, none⟩ = some (.int .i64 (n : Int)) := cell_of_row w4' _ 0 _ _ (0, 0) hK1'
  have k11 : w4'.cell? ⟨w2.heap.size, 1, none⟩ = some (.slice X1 (sl us1).length d1) := cell_of_row w4' _ 1 _ _ (0, 0) hK1'
  have k20 : w4'.cell? ⟨w3.heap.size, 0, none⟩ = some (.int .i64 (n : Int)) := cell_of_row w4' _ 0 _ _ (0, 0) hK2'
  have k21 : w4'.cell? ⟨w3.heap.size, 1, none⟩ = some (.slice X2 (sl us2).length d2) := cell_of_row w4' _ 1 _ _ (0, 0) hK2'
  have k30 : w4'.cell? ⟨w4.heap.size, 0, none⟩ = some (.int .i64 (n : Int)) := cell_of_row w4' _ 0 _ _ (0, 0) hK3.out
  have k31 : w4'.cell? ⟨w4.heap.size, 1, none⟩ = some (.slice X3 (sl us3).length d3) := cell_of_row w4' _ 1 _ _ (0, 0) hK3.out
  have hm3 : r % 3 < 3 := Nat.mod_lt _ (by decide)
  have r1 : (r : Int) % 3 = ((r % 3 : Nat) : Int) := by omega
  have r2 : (r : Int).tmod 3 = ((r % 3 : Nat) : Int) := by rw [Int.tmod_eq_emod_of_nonneg (by omega)]; omega
  generalize r % 3 = m at *
  have r3 : IntKind.u8.wrap (m : Int) = (m : Int) := by simp [IntKind.wrap, IntKind.signed, IntKind.bits]; omega
  have r4 : IntKind.u8.wrap (1 + (m : Int)) = 1 + (m : Int) := by simp [IntKind.wrap, IntKind.signed, IntKind.bits]; omega
  have q1 : w2.heap.size < w4'.heap.size := by omega
  have q2 : w3.heap.size < w4'.heap.size := by omega
  have q3 : w4.heap.size < w4'.heap.size := by omega
  have m0 : 0 ≤ 1 + (m : Int) := by omega
  have m1 : 1 + (m : Int) ≤ 3 := by omega
  have m2 : (1 + (m : Int)).toNat = 1 + m := by omega
  have hK1H := Lib.hid hK1'
  have hK2H := Lib.hid hK2'
  clear z2 z3 z4 hK1' hK2'
  go_wp2
  go_region
  · obtain ⟨w5, hw5⟩ : ∃ w5, ((w4'.alloc (.cells #[.pointer (some ⟨s1, 0, none⟩), .pointer (some ⟨s2, 0, none⟩), .pointer (some ⟨s3, 0, none⟩)] 24)).alloc (.cells #[.int .i64 (n : Int), .slice X1 (sl us1).length d1, .int .i64 (n : Int), .slice X2 (sl us2).length d2, .int .i64 (n : Int), .slice X3 (sl us3).length d3] 27)).drew = w5 := ⟨_, rfl⟩
    have hB5 : Hid (Below w4'.heap.size w4' w5) := by rw [← hw5]; exact below_drewN (((Below.refl _ w4').alloc (Nat.le_refl _) _).alloc (by simp) _) 1
    have hL5 : Hid (w5.heap[w4'.heap.size]? = some (.cells #[.pointer (some ⟨s1, 0, none⟩), .pointer (some ⟨s2, 0, none⟩), .pointer (some ⟨s3, 0, none⟩)] 24 (0, 0))) := by
      show _ = _
      rw [← hw5]
      show ((w4'.alloc (.cells #[.pointer (some ⟨s1, 0, none⟩), .pointer (some ⟨s2, 0, none⟩), .pointer (some ⟨s3, 0, none⟩)] 24)).alloc (.cells #[.int .i64 (n : Int), .slice X1 (sl us1).length d1, .int .i64 (n : Int), .slice X2 (sl us2).length d2, .int .i64 (n : Int), .slice X3 (sl us3).length d3] 27)).heap[w4'.heap.size]? = _
      rw [Below.heap_alloc _ _ _ (by simp)]; exact alloc_top _ _ rfl
    have hM5 : Hid (w5.heap[w4'.heap.size + 1]? = some (.cells #[.int .i64 (n : Int), .slice X1 (sl us1).length d1, .int .i64 (n : Int), .slice X2 (sl us2).length d2, .int .i64 (n : Int), .slice X3 (sl us3).length d3] 27 (0, 0))) := by
      show _ = _
      rw [← hw5]
      show ((w4'.alloc (.cells #[.pointer (some ⟨s1, 0, none⟩), .pointer (some ⟨s2, 0, none⟩), .pointer (some ⟨s3, 0, none⟩)] 24)).alloc (.cells #[.int .i64 (n : Int), .slice X1 (sl us1).length d1, .int .i64 (n : Int), .slice X2 (sl us2).length d2, .int .i64 (n : Int), .slice X3 (sl us3).length d3] 27)).heap[w4'.heap.size + 1]? = _
      exact alloc_top _ _ (by simp)
    rw [hw5]
    clear hw5
    obtain ⟨bl, hble⟩ : ∃ bl, w4'.heap.size = bl := ⟨_, rfl⟩
    obtain ⟨bm, hbme⟩ : ∃ bm, w4'.heap.size + 1 = bm := ⟨_, rfl⟩
    have hbl : w4'.heap.size ≤ bl := by omega
    have hbm : w4'.heap.size ≤ bm := by omega
    rw [hble] at hL5
    rw [hbme] at hM5
    rw [hbme, hble]
    clear hble hbme
    have v2 := hB2'.out.size
    have v3 := hB3'.out.size
    have v4 := hB4'.out.size
    have v5 := hB5.out.size
    have hS1' : Hid (St w5 s1 h1 us1) := ((((((hS1.out.below hB2'.out hS1.out.lt.1 hS1.out.lt.2).below hB3.out (by have := hS1.out.lt.1; omega) (by have := hS1.out.lt.2; omega)).below hB3'.out (by have := hS1.out.lt.1; omega) (by have := hS1.out.lt.2; omega)).below hB4.out (by have := hS1.out.lt.1; omega) (by have := hS1.out.lt.2; omega)).below hB4'.out (by have := hS1.out.lt.1; omega) (by have := hS1.out.lt.2; omega)).below hB5.out (by have := hS1.out.lt.1; omega) (by have := hS1.out.lt.2; omega))
    have hS2' : Hid (St w5 s2 h2 us2) := ((((hS2.out.below hB3'.out hS2.out.lt.1 hS2.out.lt.2).below hB4.out (by have := hS2.out.lt.1; omega) (by have := hS2.out.lt.2; omega)).below hB4'.out (by have := hS2.out.lt.1; omega) (by have := hS2.out.lt.2; omega)).below hB5.out (by have := hS2.out.lt.1; omega) (by have := hS2.out.lt.2; omega))
    have hS3' : Hid (St w5 s3 h3 us3) := ((hS3.out.below hB4'.out hS3.out.lt.1 hS3.out.lt.2).below hB5.out (by have := hS3.out.lt.1; omega) (by have := hS3.out.lt.2; omega))
    have hR1' : Hid (Rd w5 w2.heap.size X1 (sl us1)) := (((((hR1.out.below hB2'.out (Nat.le_refl _)).below hB3.out (by omega)).below hB3'.out (by omega)).below hB4.out (by omega)).below hB4'.out (by omega)).below hB5.out (by omega)
    have hR2' : Hid (Rd w5 w3.heap.size X2 (sl us2)) := (((hR2.out.below hB3'.out (Nat.le_refl _)).below hB4.out (by omega)).below hB4'.out (by omega)).below hB5.out (by omega)
    have hR3' : Hid (Rd w5 w4.heap.size X3 (sl us3)) := (hR3.out.below hB4'.out (Nat.le_refl _)).below hB5.out (by omega)
    have hB05 : Hid (Below w.heap.size w w5) := hB04.out.trans (hB5.out.mono hB04.out.size)
    have p10 : w5.cell? ⟨w2.heap.size, 0, none⟩ = some (.int .i64 (n : Int)) := (hB5.out.cell (p := ⟨w2.heap.size, 0, none⟩) q1).trans k10
    have p11 : w5.cell? ⟨w2.heap.size, 1, none⟩ = some (.slice X1 (sl us1).length d1) := (hB5.out.cell (p := ⟨w2.heap.size, 1, none⟩) q1).trans k11
    have p21 : w5.cell? ⟨w3.heap.size, 1, none⟩ = some (.slice X2 (sl us2).length d2) := (hB5.out.cell (p := ⟨w3.heap.size, 1, none⟩) q2).trans k21
    have hll : bl < w5.heap.size := (Array.getElem?_eq_some_iff.1 hL5.out).1
    have hml : bm < w5.heap.size := (Array.getElem?_eq_some_iff.1 hM5.out).1
    obtain ⟨sts, hste⟩ : ∃ sts, tk m (s1, h1, us1) (s2, h2, us2) (s3, h3, us3) = sts := ⟨_, rfl⟩
    have hstl : sts.length = 1 + m := by rw [← hste]; exact tk_len hm3 _ _ _
    have hstS : Hid (∀ x ∈ sts, St w5 x.1 x.2.1 x.2.2) := fun x hx => by
      rw [← hste] at hx
      rcases tk_in hx with rfl | rfl | rfl
      · exact hS1'.out
      · exact hS2'.out
      · exact hS3'.out
    have hstn : Hid (∀ x ∈ sts, x.2.2.length = n) := fun x hx => by
      rw [← hste] at hx
      rcases tk_in hx with rfl | rfl | rfl
      · exact hL1.out
      · exact hL2.out
      · exact hL3.out
    have hRp : Hid (Rp w5 w5.heap.size (some ⟨bl, 0, none⟩) (sts.map some)) := fun _ => by
      refine ⟨bl, 0, rfl, hll, fun k hk => ?_⟩
      rw [List.length_map, hstl] at hk
      rw [cell_of_row w5 bl (0 + k) _ _ (0, 0) hL5.out, Nat.zero_add]
      rcases tk_at hm3 hk (s1, h1, us1) (s2, h2, us2) (s3, h3, us3) with ⟨rfl, e⟩ | ⟨rfl, e⟩ | ⟨rfl, e⟩
      all_goals
        rw [hste] at e
        have e2 := (List.getElem?_eq_some_iff.1 e).2
        simp [e2, spv]
    have hel : Hid (∀ j, j < 1 + m → ∃ X d us, w5.cell? ⟨bm, j * 2, none⟩ = some (.int .i64 (n : Int)) ∧ w5.cell? ⟨bm, j * 2 + 1, none⟩ = some (.slice X (sl us).length d) ∧ Rd w5 w5.heap.size X (sl us) ∧ (sts[j]?).map (·.2.2) = some us ∧ (sl us).length ≤ 1000) := fun j hj => by
      have hlen : ∀ us : List Nat, us.length = n → (sl us).length ≤ 1000 := fun us hu => by
        have := sorted_len (64 * us.length) (sl_up us) (fun y hy => by have := sl_in.1 hy; omega)
        omega
      rcases tk_at hm3 hj (s1, h1, us1) (s2, h2, us2) (s3, h3, us3) with ⟨rfl, e⟩ | ⟨rfl, e⟩ | ⟨rfl, e⟩
      · exact ⟨X1, d1, us1, cell_of_row w5 bm 0 _ _ (0, 0) hM5.out, cell_of_row w5 bm 1 _ _ (0, 0) hM5.out, hR1'.out.more (by omega), by rw [← hste, e]; rfl, hlen _ hL1.out⟩
      · exact ⟨X2, d2, us2, cell_of_row w5 bm 2 _ _ (0, 0) hM5.out, cell_of_row w5 bm 3 _ _ (0, 0) hM5.out, hR2'.out.more (by omega), by rw [← hste, e]; rfl, hlen _ hL2.out⟩
      · exact ⟨X3, d3, us3, cell_of_row w5 bm 4 _ _ (0, 0) hM5.out, cell_of_row w5 bm 5 _ _ (0, 0) hM5.out, hR3'.out.more (by omega), by rw [← hste, e]; rfl, hlen _ hL3.out⟩
    have hor := s_or w5 (some ⟨bl, 0, none⟩) 3 sts n (by omega) (by omega) hRp.out hstS.out hstn.out (by omega)
    rw [hstl] at hor
    have horH := Lib.hid hor
    have hstlH := Lib.hid hstl
    clear hor hste hstl k10 k11 k20 k21 k30 k31 hll
    go_wp2_with (go_at_call 30; (with_reducible refine horH.out.mono ?_); rintro e w6 ⟨so, ho, uso, rfl, hol, hov, hoS, hso, hho, hob⟩; have hOl := Lib.hid hol; have hOv := Lib.hid hov; have hOS := Lib.hid hoS; have hB6 := Lib.hid hob; clear hol hov hoS hob)
    have y6 := hB6.out.size
    have hand : Hid (Calls Tryd.prog 31 #[.slice (some ⟨bl, 0, none⟩) (1 + m) 3] w6 (Joined M.andAll w6 sts n)) := by
      have := s_and w6 (some ⟨bl, 0, none⟩) 3 sts n (by have := hstlH.out; omega) (by have := hstlH.out; omega) (fun hne => by
        obtain ⟨b, off, e, hb, hc⟩ := hRp.out hne
        cases e
        exact ⟨bl, 0, rfl, Nat.lt_of_lt_of_le hb y6, fun k hk => (hB6.out.cell (p := ⟨bl, 0 + k, none⟩) hb).trans (hc k hk)⟩) (fun x hx => (hstS.out x hx).below hB6.out (hstS.out x hx).lt.1 (hstS.out x hx).lt.2) hstn.out (by omega)
      rwa [hstlH.out] at this
    go_wp2_with (go_at_call 31; (with_reducible refine hand.out.mono ?_); rintro e w7 ⟨sa, ha, usa, rfl, hal, hav, haS, hsa, hha, hab⟩; have hAl := Lib.hid hal; have hAv := Lib.hid hav; have hAS := Lib.hid haS; have hB7 := Lib.hid hab; clear hal hav haS hab)
    have y7 := hB7.out.size
    have hB57 : Hid (Below w5.heap.size w5 w7) := hB6.out.trans (hB7.out.mono y6)
    have hOS7 : Hid (St w7 so ho uso) := hOS.out.below hB7.out hOS.out.lt.1 hOS.out.lt.2
    have hel7 : Hid (∀ j, j < 1 + m → ∃ X d us, w7.cell? ⟨bm, j * 2, none⟩ = some (.int .i64 (n : Int)) ∧ w7.cell? ⟨bm, j * 2 + 1, none⟩ = some (.slice X (sl us).length d) ∧ Rd w7 w7.heap.size X (sl us) ∧ (sts[j]?).map (·.2.2) = some us ∧ (sl us).length ≤ 1000) := fun j hj => by
      obtain ⟨X, d, us, e1, e2, e3, e4, e5⟩ := hel.out j hj
      exact ⟨X, d, us, (hB57.out.cell (p := ⟨bm, j * 2, none⟩) hml).trans e1, (hB57.out.cell (p := ⟨bm, j * 2 + 1, none⟩) hml).trans e2, (e3.below hB57.out (Nat.le_refl _)).more (by omega), e4, e5⟩
    have x10 : w7.cell? ⟨w2.heap.size, 0, none⟩ = some (.int .i64 (n : Int)) := (hB57.out.cell (p := ⟨w2.heap.size, 0, none⟩) (by show w2.heap.size < w5.heap.size; omega)).trans p10
    have x10H := Lib.hid x10
    have hq7 : w2.heap.size < w7.heap.size := by omega
    have hbm7 : bm < w7.heap.size := by omega
    clear x10 hel
    have w64 : IntKind.i64.wrap (64 * (n : Int)) = 64 * (n : Int) := IntWalk.i64_in _ (by omega)
    go_loopw [26] (fun u wr => ∃ i : Nat, i ≤ 64 * n ∧ u = .int .i64 i ∧ Hid (Below w7.heap.size w7 wr)) (fun u _ => 64 * n - (intOf u).toNat)
    case atStart => exact ⟨0, by omega, rfl, Below.refl _ _⟩
    case round =>
      obtain ⟨i, hi, rfl, hBr⟩ := hrel
      have c10 : wr.cell? ⟨w2.heap.size, 0, none⟩ = some (.int .i64 (n : Int)) := (hBr.out.cell (p := ⟨w2.heap.size, 0, none⟩) hq7).trans x10H.out
      by_cases hlt : i < 64 * n
      · have hTb : decide ((i : Int) < 64 * (n : Int)) = true := decide_eq_true (by omega)
        go_wp2
        go_loopw [27, 102] (fun v u wi => ∃ j : Nat, j ≤ 1 + m ∧ u = .int .i64 j ∧ v = .int .i64 (cnt (i : Int) (sts.take j)) ∧ Hid (Below w7.heap.size w7 wi)) (fun _ u _ => 1 + m - (intOf u).toNat)
        case atStart => exact ⟨0, by omega, rfl, by simp [cnt], hBr.out⟩
        case round =>
          obtain ⟨j, hj, rfl, rfl, hBi⟩ := hrel
          have hcb := cnt_le (i : Int) (sts.take j)
          have htl : (sts.take j).length ≤ j := List.length_take_le _ _
          by_cases hlj : j < 1 + m
          · obtain ⟨X, d, us, e1, e2, e3, e4, e5⟩ := hel7.out j hlj
            have f1 := (hBi.out.cell (p := ⟨bm, j * 2, none⟩) hbm7).trans e1
            have f2 := (hBi.out.cell (p := ⟨bm, j * 2 + 1, none⟩) hbm7).trans e2
            have f3 := e3.below hBi.out (Nat.le_refl _)
            have hjl : j < sts.length := by rw [hstlH.out]; exact hlj
            have hsu : sts[j].2.2 = us := by rw [List.getElem?_eq_getElem hjl] at e4; simpa using e4
            have hcs := Lib.hid (cnt_snoc (i : Int) (sts.take j) sts[j])
            rw [hsu, ← List.take_succ_eq_append_getElem hjl] at hcs
            have j1 : (j : Int) < ((1 + m : Nat) : Int) := by omega
            have hT2 : decide ((j : Int) < ((1 + m : Nat) : Int)) = true := decide_eq_true j1
            have hT3 : decide ((j : Int) < 1 + (m : Int)) = true := decide_eq_true (by omega)
            have hh := fun w0 (a : Rd w0 w7.heap.size X (sl us)) => Lib.hid (ref_has X d (sl us) (i : Int) w0 _ a (by omega))
            have f3' : ∀ o, Hid (Rd (wr.alloc o) w7.heap.size X (sl us)) := fun o => f3.below ((Below.refl _ wr).alloc (Nat.le_refl _) o) hBi.out.size
            have hBo : ∀ o, Hid (Below w7.heap.size w7 (wr.alloc o)) := fun o => hBi.out.alloc hBi.out.size o
            clear e1 e2 e3 e4 hsu f3
            generalize (sl us).length = L at *
            cases hb : M.rHas (sl us) (i : Int)
            all_goals
              rw [hb] at hcs
              simp only [hb] at hh
              clear hb
              generalize cnt (i : Int) (sts.take j) = C at *
              go_wp2_with (go_at_call 20; (with_reducible refine (hh _ (f3' _).out).out.mono ?_); rintro e w8 ⟨rfl, rfl⟩)
              go_roundw
              case rel => exact ⟨j + 1, by omega, by go_num, by rw [hcs.out]; first | rfl | go_num, (hBo _).out⟩
              case measure => simp [intOf]; omega
          · obtain rfl : j = 1 + m := by omega
            have hta : sts.take (1 + m) = sts := List.take_of_length_le (by rw [hstlH.out]; exact Nat.le_refl _)
            rw [hta] at hcb
            rw [hta]
            clear hta htl
            have hfo := or_at hOl.out hstn.out hlt hOv.out
            have hfa := and_at hAl.out hstn.out hlt hAv.out
            rw [hstlH.out] at hfa
            have hg1 : Hid (∀ w0, Below w7.heap.size w7 w0 → Calls Tryd.prog 19 #[.pointer (some ⟨so, 0, none⟩), .int .i64 (i : Int)] w0 fun e w' => e = .returned (.bool (decide (0 < cnt (i : Int) sts))) ∧ w0 = w') := fun w0 hb => by
              have := s_get_any w0 so ho uso (hOS7.out.below hb hOS7.out.lt.1 hOS7.out.lt.2) i
              rwa [hfo] at this
            have hg2 : Hid (∀ w0, Below w7.heap.size w7 w0 → Calls Tryd.prog 19 #[.pointer (some ⟨sa, 0, none⟩), .int .i64 (i : Int)] w0 fun e w' => e = .returned (.bool (decide (cnt (i : Int) sts = 1 + m))) ∧ w0 = w') := fun w0 hb => by
              have := s_get_any w0 sa ha usa (hAS.out.below hb hAS.out.lt.1 hAS.out.lt.2) i
              rwa [hfa] at this
            clear hfo hfa
            generalize cnt (i : Int) sts = C at *
            have hTf : decide (((1 + m : Nat) : Int) < ((1 + m : Nat) : Int)) = false := decide_eq_false (by omega)
            have hTf2 : decide (1 + (m : Int) < 1 + (m : Int)) = false := decide_eq_false (by omega)
            have tri : ∃ b1 b2 : Bool, decide (0 < (C : Int)) = b1 ∧ ((C : Int) == ((1 + m : Nat) : Int)) = b2 ∧ ((C : Int) == 1 + (m : Int)) = b2 ∧ decide (0 < C) = b1 ∧ decide (C = 1 + m) = b2 ∧ ((b1, b2) = (true, true) ∨ (b1, b2) = (true, false) ∨ (b1, b2) = (false, false)) := by
              refine ⟨decide (0 < C), decide (C = 1 + m), by rw [decide_eq_decide]; omega, by rw [Bool.eq_iff_iff, beq_iff_eq, decide_eq_true_eq]; omega, by rw [Bool.eq_iff_iff, beq_iff_eq, decide_eq_true_eq]; omega, rfl, rfl, ?_⟩
              by_cases hC1 : C = 1 + m
              · left; rw [decide_eq_true (by omega : 0 < C), decide_eq_true hC1]
              · right
                by_cases hC0 : 0 < C
                · left; rw [decide_eq_true hC0, decide_eq_false hC1]
                · right; rw [decide_eq_false hC0, decide_eq_false hC1]
            obtain ⟨b1, b2, t1, t2, t3, t4, t5, htri⟩ := tri
            rw [t4] at hg1
            rw [t5] at hg2
            have C9 : 0 ≤ (C : Int) := by omega
            clear hcb
            have w1i : IntKind.i64.wrap ((i : Int) + 1) = (i : Int) + 1 := IntWalk.i64_in _ (by omega)
            rcases htri with h | h | h
            all_goals
                obtain ⟨rfl, rfl⟩ := Prod.mk.injEq _ _ _ _ ▸ h
                clear h
                go_wp2_with (first
                  | (go_at_call 19; (with_reducible refine (hg1.out _ hBi.out).mono ?_); rintro e w9 ⟨rfl, rfl⟩)
                  | (go_at_call 19; (with_reducible refine (hg2.out _ hBi.out).mono ?_); rintro e w9 ⟨rfl, rfl⟩))
                go_roundw
                case rel => exact ⟨i + 1, by omega, by go_num, hBi.out⟩
                case measure => simp [intOf]; omega
      · have hTb : decide ((i : Int) < 64 * (n : Int)) = false := decide_eq_false (by omega)
        have w65 : IntKind.i64.wrap ((n : Int) + 1) = (n : Int) + 1 := IntWalk.i64_in _ (by omega)
        have hnw := fun w0 => Lib.hid (s_newI w0 ((n : Int) + 1) (n + 1) (by omega) (by omega))
        go_wp2_with (go_at_call 32; (with_reducible refine (hnw _).out.mono ?_); rintro e w10 ⟨s4, h4, rfl, hst, hg, hs4, hh4⟩; have hS10 := Lib.hid hst; clear hst; have hB10 := Lib.hid (below_grown hg); clear hg)
        have y10 := hB10.out.size
        have hB7w : Hid (Below w7.heap.size w7 w10) := hBr.out.trans (hB10.out.mono hBr.out.size)
        have hB5w : Hid (Below w5.heap.size w5 w10) := hB57.out.trans (hB7w.out.mono hB57.out.size)
        have z5 := hB5w.out.size
        have hS1w : Hid (St w10 s1 h1 us1) := hS1'.out.below hB5w.out hS1'.out.lt.1 hS1'.out.lt.2
        have hS2w : Hid (St w10 s2 h2 us2) := hS2'.out.below hB5w.out hS2'.out.lt.1 hS2'.out.lt.2
        have hR1w : Hid (Rd w10 w2.heap.size X1 (sl us1)) := hR1'.out.below hB5w.out (by omega)
        have hR2w : Hid (Rd w10 w3.heap.size X2 (sl us2)) := hR2'.out.below hB5w.out (by omega)
        have c11 : Hid (w10.cell? ⟨w2.heap.size, 1, none⟩ = some (.slice X1 (sl us1).length d1)) := (hB5w.out.cell (p := ⟨w2.heap.size, 1, none⟩) (by show w2.heap.size < w5.heap.size; omega)).trans p11
        have c21 : Hid (w10.cell? ⟨w3.heap.size, 1, none⟩ = some (.slice X2 (sl us2).length d2)) := (hB5w.out.cell (p := ⟨w3.heap.size, 1, none⟩) (by show w3.heap.size < w5.heap.size; omega)).trans p21
        have hq2 : w2.heap.size < w10.heap.size := by omega
        have hq3 : w3.heap.size < w10.heap.size := by omega
        have no1 := no_or w10 s1 h1 s4 h4 us1 (List.replicate (n + 1) 0) hS1w.out hS10.out (by rw [hL1.out, List.length_replicate]; omega)
        have no2 := no_and
        have no3 := fun w0 (hb : Below w10.heap.size w10 w0) => no_andnil w0 s1 h1 us1 (hS1w.out.below hb hS1w.out.lt.1 hS1w.out.lt.2)
        have no1H := Lib.hid no1
        have no2H := Lib.hid no2
        have no3H := Lib.hid no3
        clear no1 no2 no3
        go_wp2_with (go_at_call 30; (with_reducible refine no1H.out.mono ?_); rintro e w11 ⟨rfl, hb11⟩; have hB11 := Lib.hid hb11; clear hb11)
        go_wp2_with (go_at_call 31; (with_reducible refine (no2H.out _).mono ?_); rintro e w12 ⟨rfl, hb12⟩; have hB12 := Lib.hid hb12; clear hb12)
        have hB12' : Hid (Below w10.heap.size w10 w12) := hB11.out.trans (hB12.out.mono hB11.out.size)
        go_wp2_with (go_at_call 31; (with_reducible refine (no3H.out _ hB12'.out).mono ?_); rintro e w13 ⟨rfl, hb13⟩; have hB13 := Lib.hid hb13; clear hb13)
        have hBx : Hid (Below w10.heap.size w10 w13) := hB12'.out.trans (hB13.out.mono hB12'.out.size)
        have x11 : w13.cell? ⟨w2.heap.size, 1, none⟩ = some (.slice X1 (sl us1).length d1) := (hBx.out.cell (p := ⟨w2.heap.size, 1, none⟩) hq2).trans c11.out
        have x21 : w13.cell? ⟨w3.heap.size, 1, none⟩ = some (.slice X2 (sl us2).length d2) := (hBx.out.cell (p := ⟨w3.heap.size, 1, none⟩) hq3).trans c21.out
        have hu1 : us1.length = n := hL1.out
        have hu2 : us2.length = n := hL2.out
        have hlen : ∀ us : List Nat, us.length = n → (sl us).length ≤ 4611686018427387904 := fun us hu => by
          have := sorted_len (64 * us.length) (sl_up us) (fun y hy => by have := sl_in.1 hy; omega)
          omega
        have hSa : Hid (St w13 s1 h1 us1) := hS1w.out.below hBx.out hS1w.out.lt.1 hS1w.out.lt.2
        have hSb : Hid (St w13 s2 h2 us2) := hS2w.out.below hBx.out hS2w.out.lt.1 hS2w.out.lt.2
        have hSc : Hid (St w13 s4 h4 (List.replicate (n + 1) 0)) := hS10.out.below hBx.out hS10.out.lt.1 hS10.out.lt.2
        have hRa : Hid (Rd w13 w2.heap.size X1 (sl us1)) := hR1w.out.below hBx.out (by omega)
        have hRb : Hid (Rd w13 w3.heap.size X2 (sl us2)) := hR2w.out.below hBx.out (by omega)
        have hsame := same_sl (hu1.trans hu2.symm) hSa.out.2.2.1 hSb.out.2.2.1
        have qe1 : ∀ M, Hid (Calls Tryd.prog 33 #[.pointer (some ⟨s1, 0, none⟩), .pointer (some ⟨s2, 0, none⟩)] (w13.drewN M) fun e w'' => e = .returned (.bool (decide (us1 = us2))) ∧ ∃ m, w'' = w13.drewN m) := fun M => Calls.quiet_of (s_equal (w13.drewN M) s1 h1 s2 h2 us1 us2 (hSa.out.drew M) (hSb.out.drew M))
        have qe2 : ∀ M, Hid (Calls Tryd.prog 33 #[.pointer (some ⟨s1, 0, none⟩), .pointer (some ⟨s4, 0, none⟩)] (w13.drewN M) fun e w'' => e = .returned (.bool false) ∧ ∃ m, w'' = w13.drewN m) := fun M => by
          have := s_equal (w13.drewN M) s1 h1 s4 h4 us1 (List.replicate (n + 1) 0) (hSa.out.drew M) (hSc.out.drew M)
          rw [decide_eq_false (fun h => by have := congrArg List.length h; rw [List.length_replicate, hu1] at this; omega)] at this
          exact Calls.quiet_of this
        have qsm : ∀ M, Hid (Calls Tryd.prog 15 #[.slice X1 (sl us1).length d1, .slice X2 (sl us2).length d2] (w13.drewN M) fun e w'' => e = .returned (.bool (decide (us1 = us2))) ∧ ∃ m, w'' = w13.drewN m) := fun M => by
          have := ref_same X1 X2 d1 d2 (sl us1) (sl us2) (w13.drewN M) _ _ (hRa.out.drew M) (hRb.out.drew M) (hlen _ hu1) (hlen _ hu2)
          rw [hsame] at this
          exact Calls.quiet_of this
        have hBend : Hid (Below w.heap.size w w13) := hB05.out.trans ((hB5w.out.trans (hBx.out.mono z5)).mono hB05.out.size)
        clear hsame hSa hSb hSc hRa hRb
        clear hlen
        generalize decide (us1 = us2) = D at *
        generalize (sl us1).length = L1 at *
        generalize (sl us2).length = L2 at *
        cases D
        all_goals
          go_wp2
          go_quiet ((first
            | (go_at_call 33; with_reducible exact (qe1 _).out)
            | (go_at_call 33; with_reducible exact (qe2 _).out)
            | (go_at_call 15; with_reducible exact (qsm _).out)))
          go_wp2
          go_ret
          exact ⟨rfl, below_drewN hBend.out _⟩
  · obtain ⟨w5, hw5⟩ : ∃ w5, ((w4'.alloc (.cells #[.int .i64 (n : Int), .slice X1 (sl us1).length d1, .int .i64 (n : Int), .slice X2 (sl us2).length d2, .int .i64 (n : Int), .slice X3 (sl us3).length d3] 27)).alloc (.cells #[.pointer (some ⟨s1, 0, none⟩), .pointer (some ⟨s2, 0, none⟩), .pointer (some ⟨s3, 0, none⟩)] 24)).drew = w5 := ⟨_, rfl⟩
    have hB5 : Hid (Below w4'.heap.size w4' w5) := by rw [← hw5]; exact below_drewN (((Below.refl _ w4').alloc (Nat.le_refl _) _).alloc (by simp) _) 1
    have hL5 : Hid (w5.heap[w4'.heap.size + 1]? = some (.cells #[.pointer (some ⟨s1, 0, none⟩), .pointer (some ⟨s2, 0, none⟩), .pointer (some ⟨s3, 0, none⟩)] 24 (0, 0))) := by
      show _ = _
      rw [← hw5]
      show ((w4'.alloc (.cells #[.int .i64 (n : Int), .slice X1 (sl us1).length d1, .int .i64 (n : Int), .slice X2 (sl us2).length d2, .int .i64 (n : Int), .slice X3 (sl us3).length d3] 27)).alloc (.cells #[.pointer (some ⟨s1, 0, none⟩), .pointer (some ⟨s2, 0, none⟩), .pointer (some ⟨s3, 0, none⟩)] 24)).heap[w4'.heap.size + 1]? = _
      exact alloc_top _ _ (by simp)
    have hM5 : Hid (w5.heap[w4'.heap.size]? = some (.cells #[.int .i64 (n : Int), .slice X1 (sl us1).length d1, .int .i64 (n : Int), .slice X2 (sl us2).length d2, .int .i64 (n : Int), .slice X3 (sl us3).length d3] 27 (0, 0))) := by
      show _ = _
      rw [← hw5]
      show ((w4'.alloc (.cells #[.int .i64 (n : Int), .slice X1 (sl us1).length d1, .int .i64 (n : Int), .slice X2 (sl us2).length d2, .int .i64 (n : Int), .slice X3 (sl us3).length d3] 27)).alloc (.cells #[.pointer (some ⟨s1, 0, none⟩), .pointer (some ⟨s2, 0, none⟩), .pointer (some ⟨s3, 0, none⟩)] 24)).heap[w4'.heap.size]? = _
      rw [Below.heap_alloc _ _ _ (by simp)]; exact alloc_top _ _ rfl
    rw [hw5]
    clear hw5
    obtain ⟨bl, hble⟩ : ∃ bl, w4'.heap.size + 1 = bl := ⟨_, rfl⟩
    obtain ⟨bm, hbme⟩ : ∃ bm, w4'.heap.size = bm := ⟨_, rfl⟩
    have hbl : w4'.heap.size ≤ bl := by omega
    have hbm : w4'.heap.size ≤ bm := by omega
    rw [hble] at hL5
    rw [hbme] at hM5
    rw [hble, hbme]
    clear hble hbme
    have v2 := hB2'.out.size
    have v3 := hB3'.out.size
    have v4 := hB4'.out.size
    have v5 := hB5.out.size
    have hS1' : Hid (St w5 s1 h1 us1) := ((((((hS1.out.below hB2'.out hS1.out.lt.1 hS1.out.lt.2).below hB3.out (by have := hS1.out.lt.1; omega) (by have := hS1.out.lt.2; omega)).below hB3'.out (by have := hS1.out.lt.1; omega) (by have := hS1.out.lt.2; omega)).below hB4.out (by have := hS1.out.lt.1; omega) (by have := hS1.out.lt.2; omega)).below hB4'.out (by have := hS1.out.lt.1; omega) (by have := hS1.out.lt.2; omega)).below hB5.out (by have := hS1.out.lt.1; omega) (by have := hS1.out.lt.2; omega))
    have hS2' : Hid (St w5 s2 h2 us2) := ((((hS2.out.below hB3'.out hS2.out.lt.1 hS2.out.lt.2).below hB4.out (by have := hS2.out.lt.1; omega) (by have := hS2.out.lt.2; omega)).below hB4'.out (by have := hS2.out.lt.1; omega) (by have := hS2.out.lt.2; omega)).below hB5.out (by have := hS2.out.lt.1; omega) (by have := hS2.out.lt.2; omega))
    have hS3' : Hid (St w5 s3 h3 us3) := ((hS3.out.below hB4'.out hS3.out.lt.1 hS3.out.lt.2).below hB5.out (by have := hS3.out.lt.1; omega) (by have := hS3.out.lt.2; omega))
    have hR1' : Hid (Rd w5 w2.heap.size X1 (sl us1)) := (((((hR1.out.below hB2'.out (Nat.le_refl _)).below hB3.out (by omega)).below hB3'.out (by omega)).below hB4.out (by omega)).below hB4'.out (by omega)).below hB5.out (by omega)
    have hR2' : Hid (Rd w5 w3.heap.size X2 (sl us2)) := (((hR2.out.below hB3'.out (Nat.le_refl _)).below hB4.out (by omega)).below hB4'.out (by omega)).below hB5.out (by omega)
    have hR3' : Hid (Rd w5 w4.heap.size X3 (sl us3)) := (hR3.out.below hB4'.out (Nat.le_refl _)).below hB5.out (by omega)
    have hB05 : Hid (Below w.heap.size w w5) := hB04.out.trans (hB5.out.mono hB04.out.size)
    have p10 : w5.cell? ⟨w2.heap.size, 0, none⟩ = some (.int .i64 (n : Int)) := (hB5.out.cell (p := ⟨w2.heap.size, 0, none⟩) q1).trans k10
    have p11 : w5.cell? ⟨w2.heap.size, 1, none⟩ = some (.slice X1 (sl us1).length d1) := (hB5.out.cell (p := ⟨w2.heap.size, 1, none⟩) q1).trans k11
    have p21 : w5.cell? ⟨w3.heap.size, 1, none⟩ = some (.slice X2 (sl us2).length d2) := (hB5.out.cell (p := ⟨w3.heap.size, 1, none⟩) q2).trans k21
    have hll : bl < w5.heap.size := (Array.getElem?_eq_some_iff.1 hL5.out).1
    have hml : bm < w5.heap.size := (Array.getElem?_eq_some_iff.1 hM5.out).1
    obtain ⟨sts, hste⟩ : ∃ sts, tk m (s1, h1, us1) (s2, h2, us2) (s3, h3, us3) = sts := ⟨_, rfl⟩
    have hstl : sts.length = 1 + m := by rw [← hste]; exact tk_len hm3 _ _ _
    have hstS : Hid (∀ x ∈ sts, St w5 x.1 x.2.1 x.2.2) := fun x hx => by
      rw [← hste] at hx
      rcases tk_in hx with rfl | rfl | rfl
      · exact hS1'.out
      · exact hS2'.out
      · exact hS3'.out
    have hstn : Hid (∀ x ∈ sts, x.2.2.length = n) := fun x hx => by
      rw [← hste] at hx
      rcases tk_in hx with rfl | rfl | rfl
      · exact hL1.out
      · exact hL2.out
      · exact hL3.out
    have hRp : Hid (Rp w5 w5.heap.size (some ⟨bl, 0, none⟩) (sts.map some)) := fun _ => by
      refine ⟨bl, 0, rfl, hll, fun k hk => ?_⟩
      rw [List.length_map, hstl] at hk
      rw [cell_of_row w5 bl (0 + k) _ _ (0, 0) hL5.out, Nat.zero_add]
      rcases tk_at hm3 hk (s1, h1, us1) (s2, h2, us2) (s3, h3, us3) with ⟨rfl, e⟩ | ⟨rfl, e⟩ | ⟨rfl, e⟩
      all_goals
        rw [hste] at e
        have e2 := (List.getElem?_eq_some_iff.1 e).2
        simp [e2, spv]
    have hel : Hid (∀ j, j < 1 + m → ∃ X d us, w5.cell? ⟨bm, j * 2, none⟩ = some (.int .i64 (n : Int)) ∧ w5.cell? ⟨bm, j * 2 + 1, none⟩ = some (.slice X (sl us).length d) ∧ Rd w5 w5.heap.size X (sl us) ∧ (sts[j]?).map (·.2.2) = some us ∧ (sl us).length ≤ 1000) := fun j hj => by
      have hlen : ∀ us : List Nat, us.length = n → (sl us).length ≤ 1000 := fun us hu => by
        have := sorted_len (64 * us.length) (sl_up us) (fun y hy => by have := sl_in.1 hy; omega)
        omega
      rcases tk_at hm3 hj (s1, h1, us1) (s2, h2, us2) (s3, h3, us3) with ⟨rfl, e⟩ | ⟨rfl, e⟩ | ⟨rfl, e⟩
      · exact ⟨X1, d1, us1, cell_of_row w5 bm 0 _ _ (0, 0) hM5.out, cell_of_row w5 bm 1 _ _ (0, 0) hM5.out, hR1'.out.more (by omega), by rw [← hste, e]; rfl, hlen _ hL1.out⟩
      · exact ⟨X2, d2, us2, cell_of_row w5 bm 2 _ _ (0, 0) hM5.out, cell_of_row w5 bm 3 _ _ (0, 0) hM5.out, hR2'.out.more (by omega), by rw [← hste, e]; rfl, hlen _ hL2.out⟩
      · exact ⟨X3, d3, us3, cell_of_row w5 bm 4 _ _ (0, 0) hM5.out, cell_of_row w5 bm 5 _ _ (0, 0) hM5.out, hR3'.out.more (by omega), by rw [← hste, e]; rfl, hlen _ hL3.out⟩
    have hor := s_or w5 (some ⟨bl, 0, none⟩) 3 sts n (by omega) (by omega) hRp.out hstS.out hstn.out (by omega)
    rw [hstl] at hor
    have horH := Lib.hid hor
    have hstlH := Lib.hid hstl
    clear hor hste hstl k10 k11 k20 k21 k30 k31 hll
    go_wp2_with (go_at_call 30; (with_reducible refine horH.out.mono ?_); rintro e w6 ⟨so, ho, uso, rfl, hol, hov, hoS, hso, hho, hob⟩; have hOl := Lib.hid hol; have hOv := Lib.hid hov; have hOS := Lib.hid hoS; have hB6 := Lib.hid hob; clear hol hov hoS hob)
    have y6 := hB6.out.size
    have hand : Hid (Calls Tryd.prog 31 #[.slice (some ⟨bl, 0, none⟩) (1 + m) 3] w6 (Joined M.andAll w6 sts n)) := by
      have := s_and w6 (some ⟨bl, 0, none⟩) 3 sts n (by have := hstlH.out; omega) (by have := hstlH.out; omega) (fun hne => by
        obtain ⟨b, off, e, hb, hc⟩ := hRp.out hne
        cases e
        exact ⟨bl, 0, rfl, Nat.lt_of_lt_of_le hb y6, fun k hk => (hB6.out.cell (p := ⟨bl, 0 + k, none⟩) hb).trans (hc k hk)⟩) (fun x hx => (hstS.out x hx).below hB6.out (hstS.out x hx).lt.1 (hstS.out x hx).lt.2) hstn.out (by omega)
      rwa [hstlH.out] at this
    go_wp2_with (go_at_call 31; (with_reducible refine hand.out.mono ?_); rintro e w7 ⟨sa, ha, usa, rfl, hal, hav, haS, hsa, hha, hab⟩; have hAl := Lib.hid hal; have hAv := Lib.hid hav; have hAS := Lib.hid haS; have hB7 := Lib.hid hab; clear hal hav haS hab)
    have y7 := hB7.out.size
    have hB57 : Hid (Below w5.heap.size w5 w7) := hB6.out.trans (hB7.out.mono y6)
    have hOS7 : Hid (St w7 so ho uso) := hOS.out.below hB7.out hOS.out.lt.1 hOS.out.lt.2
    have hel7 : Hid (∀ j, j < 1 + m → ∃ X d us, w7.cell? ⟨bm, j * 2, none⟩ = some (.int .i64 (n : Int)) ∧ w7.cell? ⟨bm, j * 2 + 1, none⟩ = some (.slice X (sl us).length d) ∧ Rd w7 w7.heap.size X (sl us) ∧ (sts[j]?).map (·.2.2) = some us ∧ (sl us).length ≤ 1000) := fun j hj => by
      obtain ⟨X, d, us, e1, e2, e3, e4, e5⟩ := hel.out j hj
      exact ⟨X, d, us, (hB57.out.cell (p := ⟨bm, j * 2, none⟩) hml).trans e1, (hB57.out.cell (p := ⟨bm, j * 2 + 1, none⟩) hml).trans e2, (e3.below hB57.out (Nat.le_refl _)).more (by omega), e4, e5⟩
    have x10 : w7.cell? ⟨w2.heap.size, 0, none⟩ = some (.int .i64 (n : Int)) := (hB57.out.cell (p := ⟨w2.heap.size, 0, none⟩) (by show w2.heap.size < w5.heap.size; omega)).trans p10
    have x10H := Lib.hid x10
    have hq7 : w2.heap.size < w7.heap.size := by omega
    have hbm7 : bm < w7.heap.size := by omega
    clear x10 hel
    have w64 : IntKind.i64.wrap (64 * (n : Int)) = 64 * (n : Int) := IntWalk.i64_in _ (by omega)
    go_loopw [26] (fun u wr => ∃ i : Nat, i ≤ 64 * n ∧ u = .int .i64 i ∧ Hid (Below w7.heap.size w7 wr)) (fun u _ => 64 * n - (intOf u).toNat)
    case atStart => exact ⟨0, by omega, rfl, Below.refl _ _⟩
    case round =>
      obtain ⟨i, hi, rfl, hBr⟩ := hrel
      have c10 : wr.cell? ⟨w2.heap.size, 0, none⟩ = some (.int .i64 (n : Int)) := (hBr.out.cell (p := ⟨w2.heap.size, 0, none⟩) hq7).trans x10H.out
      by_cases hlt : i < 64 * n
      · have hTb : decide ((i : Int) < 64 * (n : Int)) = true := decide_eq_true (by omega)
        go_wp2
        go_loopw [27, 102] (fun v u wi => ∃ j : Nat, j ≤ 1 + m ∧ u = .int .i64 j ∧ v = .int .i64 (cnt (i : Int) (sts.take j)) ∧ Hid (Below w7.heap.size w7 wi)) (fun _ u _ => 1 + m - (intOf u).toNat)
        case atStart => exact ⟨0, by omega, rfl, by simp [cnt], hBr.out⟩
        case round =>
          obtain ⟨j, hj, rfl, rfl, hBi⟩ := hrel
          have hcb := cnt_le (i : Int) (sts.take j)
          have htl : (sts.take j).length ≤ j := List.length_take_le _ _
          by_cases hlj : j < 1 + m
          · obtain ⟨X, d, us, e1, e2, e3, e4, e5⟩ := hel7.out j hlj
            have f1 := (hBi.out.cell (p := ⟨bm, j * 2, none⟩) hbm7).trans e1
            have f2 := (hBi.out.cell (p := ⟨bm, j * 2 + 1, none⟩) hbm7).trans e2
            have f3 := e3.below hBi.out (Nat.le_refl _)
            have hjl : j < sts.length := by rw [hstlH.out]; exact hlj
            have hsu : sts[j].2.2 = us := by rw [List.getElem?_eq_getElem hjl] at e4; simpa using e4
            have hcs := Lib.hid (cnt_snoc (i : Int) (sts.take j) sts[j])
            rw [hsu, ← List.take_succ_eq_append_getElem hjl] at hcs
            have j1 : (j : Int) < ((1 + m : Nat) : Int) := by omega
            have hT2 : decide ((j : Int) < ((1 + m : Nat) : Int)) = true := decide_eq_true j1
            have hT3 : decide ((j : Int) < 1 + (m : Int)) = true := decide_eq_true (by omega)
            have hh := fun w0 (a : Rd w0 w7.heap.size X (sl us)) => Lib.hid (ref_has X d (sl us) (i : Int) w0 _ a (by omega))
            have f3' : ∀ o, Hid (Rd (wr.alloc o) w7.heap.size X (sl us)) := fun o => f3.below ((Below.refl _ wr).alloc (Nat.le_refl _) o) hBi.out.size
            have hBo : ∀ o, Hid (Below w7.heap.size w7 (wr.alloc o)) := fun o => hBi.out.alloc hBi.out.size o
            clear e1 e2 e3 e4 hsu f3
            generalize (sl us).length = L at *
            cases hb : M.rHas (sl us) (i : Int)
            all_goals
              rw [hb] at hcs
              simp only [hb] at hh
              clear hb
              generalize cnt (i : Int) (sts.take j) = C at *
              go_wp2_with (go_at_call 20; (with_reducible refine (hh _ (f3' _).out).out.mono ?_); rintro e w8 ⟨rfl, rfl⟩)
              go_roundw
              case rel => exact ⟨j + 1, by omega, by go_num, by rw [hcs.out]; first | rfl | go_num, (hBo _).out⟩
              case measure => simp [intOf]; omega
          · obtain rfl : j = 1 + m := by omega
            have hta : sts.take (1 + m) = sts := List.take_of_length_le (by rw [hstlH.out]; exact Nat.le_refl _)
            rw [hta] at hcb
            rw [hta]
            clear hta htl
            have hfo := or_at hOl.out hstn.out hlt hOv.out
            have hfa := and_at hAl.out hstn.out hlt hAv.out
            rw [hstlH.out] at hfa
            have hg1 : Hid (∀ w0, Below w7.heap.size w7 w0 → Calls Tryd.prog 19 #[.pointer (some ⟨so, 0, none⟩), .int .i64 (i : Int)] w0 fun e w' => e = .returned (.bool (decide (0 < cnt (i : Int) sts))) ∧ w0 = w') := fun w0 hb => by
              have := s_get_any w0 so ho uso (hOS7.out.below hb hOS7.out.lt.1 hOS7.out.lt.2) i
              rwa [hfo] at this
            have hg2 : Hid (∀ w0, Below w7.heap.size w7 w0 → Calls Tryd.prog 19 #[.pointer (some ⟨sa, 0, none⟩), .int .i64 (i : Int)] w0 fun e w' => e = .returned (.bool (decide (cnt (i : Int) sts = 1 + m))) ∧ w0 = w') := fun w0 hb => by
              have := s_get_any w0 sa ha usa (hAS.out.below hb hAS.out.lt.1 hAS.out.lt.2) i
              rwa [hfa] at this
            clear hfo hfa
            generalize cnt (i : Int) sts = C at *
            have hTf : decide (((1 + m : Nat) : Int) < ((1 + m : Nat) : Int)) = false := decide_eq_false (by omega)
            have hTf2 : decide (1 + (m : Int) < 1 + (m : Int)) = false := decide_eq_false (by omega)
            have tri : ∃ b1 b2 : Bool, decide (0 < (C : Int)) = b1 ∧ ((C : Int) == ((1 + m : Nat) : Int)) = b2 ∧ ((C : Int) == 1 + (m : Int)) = b2 ∧ decide (0 < C) = b1 ∧ decide (C = 1 + m) = b2 ∧ ((b1, b2) = (true, true) ∨ (b1, b2) = (true, false) ∨ (b1, b2) = (false, false)) := by
              refine ⟨decide (0 < C), decide (C = 1 + m), by rw [decide_eq_decide]; omega, by rw [Bool.eq_iff_iff, beq_iff_eq, decide_eq_true_eq]; omega, by rw [Bool.eq_iff_iff, beq_iff_eq, decide_eq_true_eq]; omega, rfl, rfl, ?_⟩
              by_cases hC1 : C = 1 + m
              · left; rw [decide_eq_true (by omega : 0 < C), decide_eq_true hC1]
              · right
                by_cases hC0 : 0 < C
                · left; rw [decide_eq_true hC0, decide_eq_false hC1]
                · right; rw [decide_eq_false hC0, decide_eq_false hC1]
            obtain ⟨b1, b2, t1, t2, t3, t4, t5, htri⟩ := tri
            rw [t4] at hg1
            rw [t5] at hg2
            have C9 : 0 ≤ (C : Int) := by omega
            clear hcb
            have w1i : IntKind.i64.wrap ((i : Int) + 1) = (i : Int) + 1 := IntWalk.i64_in _ (by omega)
            rcases htri with h | h | h
            all_goals
                obtain ⟨rfl, rfl⟩ := Prod.mk.injEq _ _ _ _ ▸ h
                clear h
                go_wp2_with (first
                  | (go_at_call 19; (with_reducible refine (hg1.out _ hBi.out).mono ?_); rintro e w9 ⟨rfl, rfl⟩)
                  | (go_at_call 19; (with_reducible refine (hg2.out _ hBi.out).mono ?_); rintro e w9 ⟨rfl, rfl⟩))
                go_roundw
                case rel => exact ⟨i + 1, by omega, by go_num, hBi.out⟩
                case measure => simp [intOf]; omega
      · have hTb : decide ((i : Int) < 64 * (n : Int)) = false := decide_eq_false (by omega)
        have w65 : IntKind.i64.wrap ((n : Int) + 1) = (n : Int) + 1 := IntWalk.i64_in _ (by omega)
        have hnw := fun w0 => Lib.hid (s_newI w0 ((n : Int) + 1) (n + 1) (by omega) (by omega))
        go_wp2_with (go_at_call 32; (with_reducible refine (hnw _).out.mono ?_); rintro e w10 ⟨s4, h4, rfl, hst, hg, hs4, hh4⟩; have hS10 := Lib.hid hst; clear hst; have hB10 := Lib.hid (below_grown hg); clear hg)
        have y10 := hB10.out.size
        have hB7w : Hid (Below w7.heap.size w7 w10) := hBr.out.trans (hB10.out.mono hBr.out.size)
        have hB5w : Hid (Below w5.heap.size w5 w10) := hB57.out.trans (hB7w.out.mono hB57.out.size)
        have z5 := hB5w.out.size
        have hS1w : Hid (St w10 s1 h1 us1) := hS1'.out.below hB5w.out hS1'.out.lt.1 hS1'.out.lt.2
        have hS2w : Hid (St w10 s2 h2 us2) := hS2'.out.below hB5w.out hS2'.out.lt.1 hS2'.out.lt.2
        have hR1w : Hid (Rd w10 w2.heap.size X1 (sl us1)) := hR1'.out.below hB5w.out (by omega)
        have hR2w : Hid (Rd w10 w3.heap.size X2 (sl us2)) := hR2'.out.below hB5w.out (by omega)
        have c11 : Hid (w10.cell? ⟨w2.heap.size, 1, none⟩ = some (.slice X1 (sl us1).length d1)) := (hB5w.out.cell (p := ⟨w2.heap.size, 1, none⟩) (by show w2.heap.size < w5.heap.size; omega)).trans p11
        have c21 : Hid (w10.cell? ⟨w3.heap.size, 1, none⟩ = some (.slice X2 (sl us2).length d2)) := (hB5w.out.cell (p := ⟨w3.heap.size, 1, none⟩) (by show w3.heap.size < w5.heap.size; omega)).trans p21
        have hq2 : w2.heap.size < w10.heap.size := by omega
        have hq3 : w3.heap.size < w10.heap.size := by omega
        have no1 := no_or w10 s1 h1 s4 h4 us1 (List.replicate (n + 1) 0) hS1w.out hS10.out (by rw [hL1.out, List.length_replicate]; omega)
        have no2 := no_and
        have no3 := fun w0 (hb : Below w10.heap.size w10 w0) => no_andnil w0 s1 h1 us1 (hS1w.out.below hb hS1w.out.lt.1 hS1w.out.lt.2)
        have no1H := Lib.hid no1
        have no2H := Lib.hid no2
        have no3H := Lib.hid no3
        clear no1 no2 no3
        go_wp2_with (go_at_call 30; (with_reducible refine no1H.out.mono ?_); rintro e w11 ⟨rfl, hb11⟩; have hB11 := Lib.hid hb11; clear hb11)
        go_wp2_with (go_at_call 31; (with_reducible refine (no2H.out _).mono ?_); rintro e w12 ⟨rfl, hb12⟩; have hB12 := Lib.hid hb12; clear hb12)
        have hB12' : Hid (Below w10.heap.size w10 w12) := hB11.out.trans (hB12.out.mono hB11.out.size)
        go_wp2_with (go_at_call 31; (with_reducible refine (no3H.out _ hB12'.out).mono ?_); rintro e w13 ⟨rfl, hb13⟩; have hB13 := Lib.hid hb13; clear hb13)
        have hBx : Hid (Below w10.heap.size w10 w13) := hB12'.out.trans (hB13.out.mono hB12'.out.size)
        have x11 : w13.cell? ⟨w2.heap.size, 1, none⟩ = some (.slice X1 (sl us1).length d1) := (hBx.out.cell (p := ⟨w2.heap.size, 1, none⟩) hq2).trans c11.out
        have x21 : w13.cell? ⟨w3.heap.size, 1, none⟩ = some (.slice X2 (sl us2).length d2) := (hBx.out.cell (p := ⟨w3.heap.size, 1, none⟩) hq3).trans c21.out
        have hu1 : us1.length = n := hL1.out
        have hu2 : us2.length = n := hL2.out
        have hlen : ∀ us : List Nat, us.length = n → (sl us).length ≤ 4611686018427387904 := fun us hu => by
          have := sorted_len (64 * us.length) (sl_up us) (fun y hy => by have := sl_in.1 hy; omega)
          omega
        have hSa : Hid (St w13 s1 h1 us1) := hS1w.out.below hBx.out hS1w.out.lt.1 hS1w.out.lt.2
        have hSb : Hid (St w13 s2 h2 us2) := hS2w.out.below hBx.out hS2w.out.lt.1 hS2w.out.lt.2
        have hSc : Hid (St w13 s4 h4 (List.replicate (n + 1) 0)) := hS10.out.below hBx.out hS10.out.lt.1 hS10.out.lt.2
        have hRa : Hid (Rd w13 w2.heap.size X1 (sl us1)) := hR1w.out.below hBx.out (by omega)
        have hRb : Hid (Rd w13 w3.heap.size X2 (sl us2)) := hR2w.out.below hBx.out (by omega)
        have hsame := same_sl (hu1.trans hu2.symm) hSa.out.2.2.1 hSb.out.2.2.1
        have qe1 : ∀ M, Hid (Calls Tryd.prog 33 #[.pointer (some ⟨s1, 0, none⟩), .pointer (some ⟨s2, 0, none⟩)] (w13.drewN M) fun e w'' => e = .returned (.bool (decide (us1 = us2))) ∧ ∃ m, w'' = w13.drewN m) := fun M => Calls.quiet_of (s_equal (w13.drewN M) s1 h1 s2 h2 us1 us2 (hSa.out.drew M) (hSb.out.drew M))
        have qe2 : ∀ M, Hid (Calls Tryd.prog 33 #[.pointer (some ⟨s1, 0, none⟩), .pointer (some ⟨s4, 0, none⟩)] (w13.drewN M) fun e w'' => e = .returned (.bool false) ∧ ∃ m, w'' = w13.drewN m) := fun M => by
          have := s_equal (w13.drewN M) s1 h1 s4 h4 us1 (List.replicate (n + 1) 0) (hSa.out.drew M) (hSc.out.drew M)
          rw [decide_eq_false (fun h => by have := congrArg List.length h; rw [List.length_replicate, hu1] at this; omega)] at this
          exact Calls.quiet_of this
        have qsm : ∀ M, Hid (Calls Tryd.prog 15 #[.slice X1 (sl us1).length d1, .slice X2 (sl us2).length d2] (w13.drewN M) fun e w'' => e = .returned (.bool (decide (us1 = us2))) ∧ ∃ m, w'' = w13.drewN m) := fun M => by
          have := ref_same X1 X2 d1 d2 (sl us1) (sl us2) (w13.drewN M) _ _ (hRa.out.drew M) (hRb.out.drew M) (hlen _ hu1) (hlen _ hu2)
          rw [hsame] at this
          exact Calls.quiet_of this
        have hBend : Hid (Below w.heap.size w w13) := hB05.out.trans ((hB5w.out.trans (hBx.out.mono z5)).mono hB05.out.size)
        clear hsame hSa hSb hSc hRa hRb
        clear hlen
        generalize decide (us1 = us2) = D at *
        generalize (sl us1).length = L1 at *
        generalize (sl us2).length = L2 at *
        cases D
        all_goals
          go_wp2
          go_quiet ((first
            | (go_at_call 33; with_reducible exact (qe1 _).out)
            | (go_at_call 33; with_reducible exact (qe2 _).out)
            | (go_at_call 15; with_reducible exact (qsm _).out)))
          go_wp2
          go_ret
          exact ⟨rfl, below_drewN hBend.out _⟩
end Go.Proofs.YtfdcejafobjlbaaDoor
