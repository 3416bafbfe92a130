
/- The law ArrayChanges; the text walked. -/
import Derived.Test.YtfccgefpchgdlaaArr13
import Derived.Test.YtfccgefpchgdlaaArrV
namespace Go.Proofs.Ytfccgefpchgdlaa
open Go.RowKit Go.Shelf
/-- What is kept while sets are filled: the list (twice) and the two sets. -/
structure CK (w0 W : World) (B : Nat) (A A' : Option Addr) (zs : List Int) (g1 m1 : Nat) (bs1 : List Bool) (g2 m2 : Nat) (bs2 : List Bool) : Prop where
  low : Below w0.heap.size w0 W
  wB : w0.heap.size ≤ B
  hB : B ≤ W.heap.size
  ra : Rh W B A zs
  rw : Rh W B A' zs
  s1 : Bs W g1 m1 bs1
  s2 : Bs W g2 m2 bs2
  b1 : B ≤ g1
  b2 : B ≤ g2
  ne : g1 ≠ g2
theorem rh_grown {w w' : World} {B g : Nat} {A : Option Addr} {xs : List Int} (h : Rh w B A xs) (hg : w.grownBy w' (some g)) (hB : B ≤ w.heap.size) (hgB : B ≤ g) : Rh w' B A xs := fun hne => by
  obtain ⟨b, off, h1, h2, h3⟩ := h hne
  refine ⟨b, off, h1, h2, fun k hk => ?_⟩
  have hb : w'.heap[b]? = w.heap[b]? := hg.block b (by omega) (by intro e; cases e; omega)
  have h4 := h3 k hk
  unfold World.cell? at h4 ⊢
  rw [hb]
  exact h4
theorem CK.fill1 {w0 W W' : World} {B g1 m1 g2 m2 : Nat} {A A' : Option Addr} {zs : List Int} {bs1 bs2 cs : List Bool} (h : CK w0 W B A A' zs g1 m1 bs1 g2 m2 bs2) (hg : W.grownBy W' (some g1)) (hc : Bs W' g1 m1 cs) : CK w0 W' B A A' zs g1 m1 cs g2 m2 bs2 :=
  ⟨h.low.grown hg h.low.size (fun g e => by cases e; exact Nat.le_trans h.wB h.b1), h.wB, Nat.le_trans h.hB hg.size, rh_grown h.ra hg h.hB h.b1, rh_grown h.rw hg h.hB h.b1, hc, h.s2.grown hg (fun e => by cases e; exact h.ne rfl), h.b1, h.b2, h.ne⟩
theorem CK.fill2 {w0 W W' : World} {B g1 m1 g2 m2 : Nat} {A A' : Option Addr} {zs : List Int} {bs1 bs2 cs : List Bool} (h : CK w0 W B A A' zs g1 m1 bs1 g2 m2 bs2) (hg : W.grownBy W' (some g2)) (hc : Bs W' g2 m2 cs) : CK w0 W' B A A' zs g1 m1 bs1 g2 m2 cs :=
  ⟨h.low.grown hg h.low.size (fun g e => by cases e; exact Nat.le_trans h.wB h.b2), h.wB, Nat.le_trans h.hB hg.size, rh_grown h.ra hg h.hB h.b2, rh_grown h.rw hg h.hB h.b2, h.s1.grown hg (fun e => by cases e; exact h.ne rfl), hc, h.b1, h.b2, h.ne⟩
theorem CK.below {w0 W W' : World} {B g1 m1 g2 m2 : Nat} {A A' : Option Addr} {zs : List Int} {bs1 bs2 : List Bool} (h : CK w0 W B A A' zs g1 m1 bs1 g2 m2 bs2) (hb : Below W.heap.size W W') : CK w0 W' B A A' zs g1 m1 bs1 g2 m2 bs2 :=
  ⟨h.low.trans (hb.mono h.low.size), h.wB, Nat.le_trans h.hB hb.size, h.ra.below hb h.hB, h.rw.below hb h.hB, h.s1.all_below hb, h.s2.all_below hb, h.b1, h.b2, h.ne⟩
/-- What is kept while rows are written. -/
structure LK (w0 W : World) (B : Nat) (A A' : Option Addr) (zs : List Int) : Prop where
  low : Below w0.heap.size w0 W
  wB : w0.heap.size ≤ B
  hB : B ≤ W.heap.size
  ra : Rh W B A zs
  rw : Rh W B A' zs
theorem LK.set {w0 W : World} {B : Nat} {A A' : Option Addr} {zs : List Int} (h : LK w0 W B A A' zs) {g k : Nat} {u : Value} (hg : B ≤ g) : LK w0 (W.setCell ⟨g, k, none⟩ u) B A A' zs :=
  ⟨h.low.grown (set_grownB W g k u) h.low.size (fun g' e => by cases e; exact Nat.le_trans h.wB hg), h.wB, by have := h.hB; simp [World.setCell]; exact this, h.ra.other hg, h.rw.other hg⟩
theorem filter_snoc {zs : List Int} {k : Nat} (p : Int → Bool) (h : k < zs.length) : (zs.take (k + 1)).filter p = (zs.take k).filter p ++ if p zs[k] then [zs[k]] else [] := by
  rw [take_snocH h, List.filter_append]
  cases e : p zs[k] <;> simp [e]
set_option maxHeartbeats 40000000 in
set_option maxRecDepth 100000 in
theorem law_changes (A : Option Addr) (cp : Nat) (xs : List Int) (v : Nat) (hv0 : v < 65536) (f : Nat) (_hf : f < 65536) (t : Nat) (_ht : t < 65536) (w : World) (hr : Rh w w.heap.size A xs) (hl : xs.length ≤ 9223372036854775807) (hx : ∀ y ∈ xs, 0 ≤ y ∧ y ≤ 65535) :
    Calls Try.prog 5 #[.slice A xs.length cp, .int .u16 (v : Int), .int .u16 (f : Int), .int .u16 (t : Int)] w fun e w' => e = .returned (.bool true) ∧ Below w.heap.size w w' := by
  have hrH := Lib.hid hr
  obtain ⟨i0, hi, hz0, hz1, hz2⟩ := info_parts u16_info
  have hxH : Hid (∀ y ∈ xs.take 300, 0 ≤ y ∧ y ≤ 65535) := fun y hy => hx y (List.mem_of_mem_take hy)
  have hfew : ∀ W, Rh W W.heap.size A xs → Hid (Calls Try.prog 9 #[.slice A xs.length cp, .int .i64 300] W fun e w' => ∃ A' c', e = .returned (.slice A' (xs.take 300).length c') ∧ Rh w' w'.heap.size A' (xs.take 300) ∧ Young W.heap.size A' ∧ Below W.heap.size W w') := fun W h => f_few A cp xs 300 W h hl (by decide)
  clear hr hx
  obtain ⟨ys, hys⟩ : ∃ ys, xs.take 300 = ys := ⟨_, rfl⟩
  have hl3 : ys.length ≤ 300 := by rw [← hys, List.length_take]; omega
  rw [hys] at hfew hxH
  clear hys
  obtain ⟨n, hn⟩ : ∃ n, n = ys.length := ⟨_, rfl⟩
  rw [← hn] at hfew hl3
  have HN := Lib.hid hn
  have HF := Lib.hid hfew
  clear hn hfew
  go_enter Try.func5, Try.ntmps5
  go_wp2_with (go_at_call 8; (with_reducible refine (awake_any w).mono ?_); rintro e w1 ⟨rfl, hb1⟩)
  have HB1 := Lib.hid hb1
  have R1 : Hid (Rh w1 w1.heap.size A xs) := Lib.hid ((hrH.out.below hb1 (Nat.le_refl _)).more hb1.size)
  clear hb1
  go_wp2_with (go_at_call 9; (with_reducible refine (HF.out w1 R1.out).out.mono ?_); rintro e w2 ⟨A2, c2, rfl, hr2, -, hb2⟩; replace hr2 := Lib.hid hr2; replace hb2 := Lib.hid hb2)
  have HB2 := Lib.hid (HB1.out.trans (hb2.out.mono HB1.out.size))
  clear hb2 R1 HF HB1
  go_wp2_with (go_at_call 10; (with_reducible refine (of_any w2 w2.heap.size n c2 A2 ys HN.out hr2.out (Nat.le_refl _) (by omega)).mono ?_); rintro e w3 ⟨v5, zs, rfl, z1, z2, z3, hb3, z4⟩
               obtain ⟨A3, c3, hv5, hr3, hc3⟩ := own_reads z3
               subst hv5
               have HZ := Lib.hid (fun y (hy : y ∈ zs) => hxH.out y ((z2 y).1 hy))
               obtain ⟨N, hNz⟩ : ∃ N, N = zs.length := ⟨_, rfl⟩
               rw [← hNz] at hc3
               rw [← hNz]
               have hN : N ≤ 300 := (by rw [hNz]; exact Nat.le_trans z4 hl3)
               have HNz := Lib.hid hNz
               have R3 := Lib.hid hr3
               obtain ⟨n1, hn1⟩ : ∃ n1 : Nat, (if (v : Int) ∈ zs then 0 else 1) = n1 := ⟨_, rfl⟩
               obtain ⟨n2, hn2⟩ : ∃ n2 : Nat, (if (v : Int) ∈ zs then 1 else 0) = n2 := ⟨_, rfl⟩
               obtain ⟨b0, hb0⟩ : ∃ b0, decide ((v : Int) ∈ zs) = b0 := ⟨_, rfl⟩
               have HV : Hid (n1 = (if b0 then 0 else 1) ∧ n2 = if b0 then 1 else 0) := Lib.hid (by rw [← hb0, ← hn1, ← hn2]; simp)
               have HN1 := Lib.hid hn1
               have HN2 := Lib.hid hn2
               have HB0 := Lib.hid hb0
               clear hNz hr3 z2 z3 z4 hn1 hn2 hb0
               replace z1 := Lib.hid z1
               replace hb3 := Lib.hid hb3)
  have HB3 := Lib.hid (HB2.out.trans (hb3.out.mono HB2.out.size))
  clear hb3 HB2 hr2 hxH HN
  have F4 : Hid (Calls Try.prog 9 #[.slice A3 N c3, .int .i64 300] w3 fun e w' => ∃ A' c', e = .returned (.slice A' N c') ∧ Rh w' w'.heap.size A' zs ∧ Young w3.heap.size A' ∧ Below w3.heap.size w3 w') := Lib.hid (by
    have h := f_few A3 c3 zs 300 w3 R3.out (by have := HNz.out; omega) (by decide)
    rw [List.take_of_length_le (by rw [← HNz.out]; exact hN), ← HNz.out] at h
    exact h)
  go_wp2_with (go_at_call 9; (with_reducible refine F4.out.mono ?_); rintro e w4 ⟨A4, c4, rfl, hr4, -, hb4⟩; replace hr4 := Lib.hid hr4; replace hb4 := Lib.hid hb4)
  have HB4 := Lib.hid (HB3.out.trans (hb4.out.mono HB3.out.size))
  have R34 : Hid (Rh w4 w4.heap.size A3 zs) := Lib.hid ((R3.out.below hb4.out (Nat.le_refl _)).more hb4.out.size)
  clear hb4 HB3 R3 F4
  have F5 : Hid (∀ W, Rh W W.heap.size A3 zs → Calls Try.prog 12 #[.slice A3 N c3] W fun e w' => ∃ g n bs, e = .returned (.slice (some ⟨g, 0, none⟩) n n) ∧ Bs w' g n bs ∧ M.L bs = zs ∧ W.heap.size ≤ g ∧ Below W.heap.size W w') := Lib.hid (fun W h => by
    rw [HNz.out]
    refine (f_of A3 c3 zs W h (by have := HNz.out; omega) HZ.out).mono ?_
    rintro e w' ⟨g, n, bs, rfl, h1, h2, h3, h4⟩
    exact ⟨g, n, bs, rfl, h1, M.sorted_ext h2.1 z1.out h2.2, h3, h4⟩)
  go_wp2_with (first
    | (go_at_call 12; (with_reducible refine (F5.out w4 R34.out).mono ?_); rintro e w5 ⟨g1, m1, bs1, rfl, hs1, he1, hg1, hb5⟩; replace hb5 := Lib.hid hb5; replace hs1 := Lib.hid hs1; replace hg1 := Lib.hid hg1; replace he1 := Lib.hid he1
       have R35 : Hid (Rh w5 w5.heap.size A3 zs) := Lib.hid ((R34.out.below hb5.out (Nat.le_refl _)).more hb5.out.size))
    | (go_at_call 12; (with_reducible refine (F5.out w5 R35.out).mono ?_); rintro e w6 ⟨g2, m2, bs2, rfl, hs2, he2, hg2, hb6⟩; replace hb6 := Lib.hid hb6; replace hs2 := Lib.hid hs2; replace hg2 := Lib.hid hg2; replace he2 := Lib.hid he2
       have K6 : Hid (CK w w6 w4.heap.size A3 A4 zs g1 m1 bs1 g2 m2 bs2) := Lib.hid (by
         have hb := hb5.out.trans (hb6.out.mono hb5.out.size)
         exact ⟨HB4.out.trans (hb.mono HB4.out.size), HB4.out.size, hb.size, R34.out.below hb (Nat.le_refl _), hr4.out.below hb (Nat.le_refl _), hs1.out.all_below hb6.out, hs2.out, hg1.out, Nat.le_trans hb5.out.size hg2.out, by have h1 := hs1.out.lt; have h2 := hg2.out; omega⟩)
       have L7 : Hid (Calls Try.prog 25 #[.slice (some ⟨g1, 0, none⟩) m1 m1, .int .u16 (v : Int), .int .u16 (v : Int), .bool true] w6 fun e w' => ∃ cs1, e = .returned (.int .i64 (n1 : Int)) ∧ (∀ y, y ∈ M.L cs1 ↔ y ∈ zs ∨ y = (v : Int)) ∧ CK w w' w4.heap.size A3 A4 zs g1 m1 cs1 g2 m2 bs2) := Lib.hid (by
         refine (f_fill w6 g1 m1 bs1 K6.out.s1 v v (by omega) (by omega) true).mono ?_
         rintro e w' ⟨m, rfl, cs, h1, h2, h3⟩
         rw [he1.out] at h1
         obtain ⟨h4, h5⟩ := chg_up z1.out h1
         rw [HN1.out] at h5
         subst h5
         exact ⟨cs, rfl, h4, K6.out.fill1 h3 h2⟩)
       clear hs1 hs2 hb5 hb6 hg1 hg2 R34 R35 HB4 hr4)
    | (go_at_call 25; (with_reducible refine L7.out.mono ?_); rintro e w7 ⟨cs1, rfl, hu1, k7⟩; replace hu1 := Lib.hid hu1; have K7 := Lib.hid k7; clear k7
       have L8 : Hid (Calls Try.prog 25 #[.slice (some ⟨g2, 0, none⟩) m2 m2, .int .u16 (v : Int), .int .u16 (v : Int), .bool false] w7 fun e w' => ∃ cs2, e = .returned (.int .i64 (n2 : Int)) ∧ (∀ y, y ∈ M.L cs2 ↔ y ∈ zs ∧ y ≠ (v : Int)) ∧ CK w w' w4.heap.size A3 A4 zs g1 m1 cs1 g2 m2 cs2) := Lib.hid (by
         refine (f_fill w7 g2 m2 bs2 K7.out.s2 v v (by omega) (by omega) false).mono ?_
         rintro e w' ⟨m, rfl, cs, h1, h2, h3⟩
         rw [he2.out] at h1
         obtain ⟨h4, h5⟩ := chg_down z1.out h1
         rw [HN2.out] at h5
         subst h5
         exact ⟨cs, rfl, h4, K7.out.fill2 h3 h2⟩)
       clear K6 L7)
    | (go_at_call 25; (with_reducible refine L8.out.mono ?_); rintro e w8 ⟨cs2, rfl, hu2, k8⟩; replace hu2 := Lib.hid hu2; have K8 := Lib.hid k8; clear k8
       have L9 : Hid (Calls Try.prog 26 #[.slice A3 N c3, .int .u16 (v : Int)] w8 fun e w' => ∃ (val : Value) (qs : List Int), e = .returned (.tuple #[val, .bool (!b0)]) ∧ qs.Pairwise (· < ·) ∧ (∀ x, x ∈ qs ↔ x ∈ zs ∨ x = (v : Int)) ∧ qs.length ≤ N + 1 ∧ w'.ownsRow w8.heap.size 30 1 val qs.length (hv qs) ∧ Below w8.heap.size w8 w') := Lib.hid (by rw [← HB0.out]; exact a_add w8 _ N c3 A3 zs (v : Int) HNz.out K8.out.ra z1.out K8.out.hB hc3 (by omega))
       clear K7 L8)
    | (go_at_call 26; (with_reducible refine L9.out.mono ?_); rintro e w9 ⟨vb, zb, rfl, p1, p2, p3, p4, hb9⟩
       have EB : Hid (zb = M.L cs1) := Lib.hid (M.sorted_ext p1 (M.L_up _) fun y => by rw [p2 y, hu1.out y])
       obtain ⟨Ab, cb, hvb, rb, _, wb⟩ := Wr.of_own p4
       subst hvb
       obtain ⟨nb, hnb⟩ : ∃ nb, zb.length = nb := ⟨_, rfl⟩
       rw [hnb] at wb
       rw [hnb]
       have hnb3 : nb ≤ 301 := by omega
       have HNB := Lib.hid hnb
       have RB := Lib.hid rb
       have WB := Lib.hid wb
       have HB9 := Lib.hid hb9
       have K9 := Lib.hid (K8.out.below hb9)
       have B89 := Lib.hid K8.out.hB
       clear p1 p2 p3 p4 hnb rb wb hb9 K8 L9
       have LA : Hid (Calls Try.prog 27 #[.slice A3 N c3, .int .u16 (v : Int)] w9 fun e w' => ∃ (val : Value) (qs : List Int), e = .returned (.tuple #[val, .bool b0]) ∧ qs.Pairwise (· < ·) ∧ (∀ x, x ∈ qs ↔ x ∈ zs ∧ x ≠ (v : Int)) ∧ qs.length ≤ N ∧ w'.ownsRow w9.heap.size 30 1 val qs.length (hv qs) ∧ Below w9.heap.size w9 w') := Lib.hid (by rw [← HB0.out]; exact a_drop w9 _ N c3 A3 zs (v : Int) HNz.out K9.out.ra z1.out K9.out.hB hc3 (by omega)))
    | (go_at_call 27; (with_reducible refine LA.out.mono ?_); rintro e w10 ⟨vc, zc, rfl, p1, p2, p3, p4, hb10⟩
       have EC : Hid (zc = M.L cs2) := Lib.hid (M.sorted_ext p1 (M.L_up _) fun y => by rw [p2 y, hu2.out y])
       obtain ⟨Ac, cc, hvc, rc, _⟩ := own_reads p4
       subst hvc
       obtain ⟨nc, hnc⟩ : ∃ nc, zc.length = nc := ⟨_, rfl⟩
       rw [hnc]
       have hnc3 : nc ≤ 300 := by omega
       have HNC := Lib.hid hnc
       have RC := Lib.hid rc
       have HB10 := Lib.hid hb10
       have K10 := Lib.hid (K9.out.below hb10)
       have RB10 := Lib.hid ((RB.out.below hb10 (Nat.le_refl _)).more hb10.size)
       have WB10 := Lib.hid (WB.out.below hb10 (Nat.le_refl _))
       have Z910 := Lib.hid hb10.size
       clear p1 p2 p3 p4 hnc rc hb10 K9 LA RB WB))
  have ZB10 := Lib.hid (Nat.le_trans B89.out (Nat.le_trans HB9.out.size Z910.out))
  clear HB9 HB10 F5 he1 he2 hu1 hu2
  obtain ⟨pf, hpf⟩ : ∃ pf : Int → Bool, pf = fun x => decide ((f : Int) ≤ x ∧ x ≤ (t : Int)) := ⟨_, rfl⟩
  have HPF := Lib.hid hpf
  clear hpf
  go_loopw [19, 59] (fun vp vi wr => ∃ k : Nat, k ≤ N ∧ vi = .int .i64 k ∧ wr.ownsRow w10.heap.size 30 1 vp ((zs.take k).filter pf).length (hv ((zs.take k).filter pf)) ∧ Below w10.heap.size w10 wr)
    (fun _ vi _ => N - (intOf vi).toNat)
  case atStart => exact ⟨0, by omega, rfl, by simp [World.ownsRow_nil], Below.refl _ _⟩
  case round =>
    obtain ⟨k, hk, rfl, hown, hb⟩ := hrel
    by_cases hlt : k < N
    · have hkz : k < zs.length := by rw [← HNz.out]; exact hlt
      obtain ⟨b, off, hA, _, hcell⟩ := (K10.out.ra.below hb K10.out.hB).at hkz
      subst hA
      have hs := Lib.hid (filter_snoc pf hkz)
      have hlen : ((zs.take k).filter pf).length ≤ 300 := Nat.le_trans (List.length_filter_le _ _) (by rw [List.length_take]; omega)
      obtain ⟨y, hy⟩ : ∃ y, y = zs[k] := ⟨_, rfl⟩
      rw [← hy] at hcell hs
      obtain ⟨p, hp⟩ : ∃ p, p = pf y := ⟨_, rfl⟩
      rw [← hp] at hs
      rw [HPF.out] at hp
      generalize (zs.take k).filter pf = ds at *
      by_cases h1 : (f : Int) ≤ y
      · by_cases h2 : y ≤ (t : Int)
        · have hp1 : p = true := by rw [hp]; exact decide_eq_true ⟨h1, h2⟩
          subst hp1
          rw [if_pos rfl] at hs
          clear hp hy
          go_wp2_with (at_builtin; refine wpList_append_own _ rfl _ _ 22 rfl w10.heap.size 30 i0 (.int .u16 0) 1 2 Try.underlying22 hi hz0 hz1 hz2 rfl (by decide) _ _ _ rfl (hown.alloc _) ⟨wr.heap.size, 0, none⟩ 1 1 [.int .u16 y] rfl rfl ?c1 ?c2 ?c3 ?c4 ?c5 ?_)
          case c1 => exact cell_oneB _ _ _
          case c2 => first | exact one_intB _ _ | rfl
          case c3 => unfold maxLen; omega
          case c4 => omega
          case c5 => have := hb.size; simp; omega
          intro v' wn hown' hgrow _
          obtain ⟨hown2, hb2⟩ := own_snocH hb hown hown' hgrow
          rw [← hs.out] at hown2
          clear hown' hgrow hown hb
          go_wp2
          go_roundw
          case rel => exact ⟨k + 1, by omega, by go_num, hown2, hb2⟩
          case measure => simp [intOf]; omega
        · have hp1 : p = false := by rw [hp]; exact decide_eq_false (fun h => h2 h.2)
          subst hp1
          rw [if_neg (by decide), List.append_nil] at hs
          rw [← hs.out] at hown
          clear hp hy
          go_wp2
          go_roundw
          case rel => exact ⟨k + 1, by omega, by go_num, hown, hb⟩
          case measure => simp [intOf]; omega
      · have hp1 : p = false := by rw [hp]; exact decide_eq_false (fun h => h1 h.1)
        subst hp1
        rw [if_neg (by decide), List.append_nil] at hs
        rw [← hs.out] at hown
        clear hp hy
        go_wp2
        go_roundw
        case rel => exact ⟨k + 1, by omega, by go_num, hown, hb⟩
        case measure => simp [intOf]; omega
    · obtain rfl : k = N := by omega
      rw [List.take_of_length_le (by rw [← HNz.out]; exact Nat.le_refl _)] at hown
      obtain ⟨Ap, c_p, hvp, rp, _⟩ := own_reads hown
      subst hvp
      obtain ⟨np, hnp⟩ : ∃ np, (zs.filter pf).length = np := ⟨_, rfl⟩
      rw [hnp]
      have hnp3 : np ≤ 300 := by
        rw [← hnp]; exact Nat.le_trans (List.length_filter_le _ _) (by rw [← HNz.out]; exact hN)
      obtain ⟨ps, hps⟩ : ∃ ps, zs.filter pf = ps := ⟨_, rfl⟩
      rw [hps] at rp hnp
      have HPS := Lib.hid hps
      have HNP := Lib.hid hnp
      have RP := Lib.hid rp
      have HB11 := Lib.hid hb
      have K11 := Lib.hid (K10.out.below hb)
      have RB11 := Lib.hid ((RB10.out.below hb (Nat.le_refl _)).more hb.size)
      have RC11 := Lib.hid ((RC.out.below hb (Nat.le_refl _)).more hb.size)
      have WB11 := Lib.hid (WB10.out.below hb Z910.out)
      have Z911 := Lib.hid (Nat.le_trans Z910.out hb.size)
      obtain ⟨w11, hw11⟩ : ∃ w11, w11 = wr := ⟨_, rfl⟩
      subst hw11
      have LP : Hid (Calls Try.prog 28 #[.slice A3 k c3, .int .u16 (f : Int), .int .u16 (t : Int)] w11 fun e w' => ∃ (val : Value), e = .returned val ∧ w'.ownsRow w11.heap.size 30 1 val np (hv ps) ∧ Below w11.heap.size w11 w') := Lib.hid (by
        refine (a_part w11 _ k c3 A3 zs (f : Int) (t : Int) HNz.out K11.out.ra z1.out K11.out.hB hc3 (by omega)).mono ?_
        rintro e w' ⟨val, qs, rfl, q1, q2, _, q4, q5⟩
        have e1 : qs = ps := M.sorted_ext q1 (by rw [← HPS.out]; exact z1.out.filter _) fun y => by
          rw [q2 y, ← HPS.out, List.mem_filter, HPF.out, decide_eq_true_eq]
        subst e1
        rw [HNP.out] at q4
        exact ⟨val, rfl, q4, q5⟩)
      clear hown hnp hps rp hb RB10 RC WB10 K10
      go_wp2_with (go_at_call 28; (with_reducible refine LP.out.mono ?_); rintro e w12 ⟨vd, rfl, hd1, hd2⟩
                   rw [← HNP.out] at hd1
                   obtain ⟨Ad, cd, hvd, rd, _, wd⟩ := Wr.of_own hd1
                   subst hvd
                   rw [HNP.out] at wd
                   rw [HNP.out]
                   have K12 := Lib.hid (K11.out.below hd2)
                   have RB12 := Lib.hid ((RB11.out.below hd2 (Nat.le_refl _)).more hd2.size)
                   have RC12 := Lib.hid ((RC11.out.below hd2 (Nat.le_refl _)).more hd2.size)
                   have RP12 := Lib.hid ((RP.out.below hd2 (Nat.le_refl _)).more hd2.size)
                   have WB12 := Lib.hid (WB11.out.below hd2 Z911.out)
                   have RD12 := Lib.hid rd
                   have WD12 := Lib.hid wd
                   have HW : Hid (Below w12.heap.size w12 w12) := Lib.hid (Below.refl _ _)
                   have WX := Lib.hid hd2.size
                   clear hd1 hd2 rd wd LP RP RB11 RC11 WB11 K11)
      have LU : Hid (∀ W, Below w12.heap.size w12 W → Calls Try.prog 11 #[.slice (some ⟨g1, 0, none⟩) m1 m1] W fun e w' => ∃ A c, e = .returned (.slice A nb c) ∧ Rh w' w'.heap.size A zb ∧ Below w12.heap.size w12 w') := Lib.hid (fun W hW => by
        refine (f_list W g1 m1 cs1 (K12.out.s1.all_below hW)).mono ?_
        rintro e w' ⟨A, c, rfl, h1, _, h2⟩
        rw [← EB.out] at h1 ⊢
        rw [HNB.out]
        exact ⟨A, c, rfl, h1, hW.trans (h2.mono hW.size)⟩)
      have LD : Hid (∀ W, Below w12.heap.size w12 W → Calls Try.prog 11 #[.slice (some ⟨g2, 0, none⟩) m2 m2] W fun e w' => ∃ A c, e = .returned (.slice A nc c) ∧ Rh w' w'.heap.size A zc ∧ Below w12.heap.size w12 w') := Lib.hid (fun W hW => by
        refine (f_list W g2 m2 cs2 (K12.out.s2.all_below hW)).mono ?_
        rintro e w' ⟨A, c, rfl, h1, _, h2⟩
        rw [← EC.out] at h1 ⊢
        rw [HNC.out]
        exact ⟨A, c, rfl, h1, hW.trans (h2.mono hW.size)⟩)
      have SB : Hid (∀ W A c, Below w12.heap.size w12 W → Rh W W.heap.size A zb → Calls Try.prog 13 #[.slice Ab nb cb, .slice A nb c] W fun e w' => e = .returned (.bool true) ∧ Below w12.heap.size w12 w') := Lib.hid (fun W A c hW h => by
        have h3 := f_same Ab A cb c zb zb W _ _ (RB12.out.below hW (Nat.le_refl _)) (h) (by have := HNB.out; omega) (by have := HNB.out; omega)
        rw [decide_eq_true rfl, HNB.out] at h3
        exact h3.mono fun e w' h => ⟨h.1, by obtain ⟨q, rfl⟩ := h.2; exact below_drewN hW _⟩)
      have SC : Hid (∀ W A c, Below w12.heap.size w12 W → Rh W W.heap.size A zc → Calls Try.prog 13 #[.slice Ac nc cc, .slice A nc c] W fun e w' => e = .returned (.bool true) ∧ Below w12.heap.size w12 w') := Lib.hid (fun W A c hW h => by
        have h3 := f_same Ac A cc c zc zc W _ _ (RC12.out.below hW (Nat.le_refl _)) (h) (by have := HNC.out; omega) (by have := HNC.out; omega)
        rw [decide_eq_true rfl, HNC.out] at h3
        exact h3.mono fun e w' h => ⟨h.1, by obtain ⟨q, rfl⟩ := h.2; exact below_drewN hW _⟩)
      have SD : Hid (∀ W, Below w12.heap.size w12 W → Calls Try.prog 13 #[.slice Ad np cd, .slice Ap np c_p] W fun e w' => e = .returned (.bool true) ∧ Below w12.heap.size w12 w') := Lib.hid (fun W hW => by
        have h3 := f_same Ad Ap cd c_p ps ps W _ _ (RD12.out.below hW (Nat.le_refl _)) (RP12.out.below hW (Nat.le_refl _)) (by have := HNP.out; omega) (by have := HNP.out; omega)
        rw [decide_eq_true rfl, HNP.out] at h3
        exact h3.mono fun e w' h => ⟨h.1, by obtain ⟨q, rfl⟩ := h.2; exact below_drewN hW _⟩)
      have SA : Hid (∀ W, Rh W w4.heap.size A3 zs → Rh W w4.heap.size A4 zs → Calls Try.prog 13 #[.slice A3 k c3, .slice A4 k c4] W fun e w' => e = .returned (.bool true) ∧ ∃ q, w' = W.drewN q) := Lib.hid (fun W h1 h2 => by
        have h3 := f_same A3 A4 c3 c4 zs zs W _ _ h1 h2 (by have := HNz.out; omega) (by have := HNz.out; omega)
        rw [decide_eq_true rfl, ← HNz.out] at h3
        exact h3)
      have SAW : Hid (∀ W, Below w12.heap.size w12 W → Calls Try.prog 13 #[.slice A3 k c3, .slice A4 k c4] W fun e w' => e = .returned (.bool true) ∧ Below w12.heap.size w12 w') := Lib.hid (fun W hW => (SA.out W (K12.out.ra.below hW K12.out.hB) (K12.out.rw.below hW K12.out.hB)).mono fun e w' h => ⟨h.1, by obtain ⟨q, rfl⟩ := h.2; exact below_drewN hW _⟩)
      have hv1 := HV.out
      cases b0
      all_goals
        simp at hv1
        obtain ⟨hv1, hv2⟩ := hv1
        subst hv1 hv2
        go_wp2_with (first
          | (go_at_call 11; (with_reducible refine (LU.out _ HW.out).mono ?_); rintro e w13 ⟨A13, c13, rfl, r13, h13⟩; have R13 := Lib.hid r13; clear HW r13; have HW := Lib.hid h13; clear h13)
          | (go_at_call 11; (with_reducible refine (LD.out _ HW.out).mono ?_); rintro e w14 ⟨A14, c14, rfl, r14, h14⟩; have R14 := Lib.hid r14; clear HW r14; have HW := Lib.hid h14; clear h14)
          | (go_at_call 13; (with_reducible refine (SB.out _ _ _ HW.out R13.out).mono ?_); rintro e w15 ⟨rfl, h15⟩; clear HW; have HW := Lib.hid h15; clear h15)
          | (go_at_call 13; (with_reducible refine (SC.out _ _ _ HW.out R14.out).mono ?_); rintro e w16 ⟨rfl, h16⟩; clear HW; have HW := Lib.hid h16; clear h16)
          | (go_at_call 13; (with_reducible refine (SD.out _ HW.out).mono ?_); rintro e w17 ⟨rfl, h17⟩; clear HW; have HW := Lib.hid h17; clear h17)
          | (go_at_call 13; (with_reducible refine (SAW.out _ HW.out).mono ?_); rintro e w18 ⟨rfl, h18⟩; clear HW; have HW := Lib.hid h18; clear h18))
        have LKK : Hid (LK w w18 w4.heap.size A3 A4 zs) := Lib.hid ⟨(K12.out.below HW.out).low, K12.out.wB, (K12.out.below HW.out).hB, (K12.out.below HW.out).ra, (K12.out.below HW.out).rw⟩
        have WB18 := Lib.hid (WB12.out.below HW.out (Nat.le_trans Z911.out (by have := WX.out; exact this)))
        have WD18 := Lib.hid (WD12.out.below HW.out (Nat.le_refl _))
        go_loopw [114] (fun vi wr => ∃ j : Nat, j ≤ nb ∧ vi = .int .i64 j ∧ Hid (LK w wr w4.heap.size A3 A4 zs) ∧ Hid (Wr wr w8.heap.size w9.heap.size Ab nb) ∧ Hid (Wr wr w11.heap.size w12.heap.size Ad np)) (fun vi _ => nb - (intOf vi).toNat)
        case atStart => exact ⟨0, Nat.zero_le _, rfl, LKK, WB18, WD18⟩
        case round =>
          obtain ⟨j, hj, rfl, HL, HWB, HWD⟩ := hrel
          by_cases hjl : j < nb
          · obtain ⟨g, x, hA, hgB, hgE, hcell, hfz, hset⟩ := HWB.out.at hjl
            subst hA
            have HSET := Lib.hid hset
            have HG : Hid (w4.heap.size ≤ g ∧ g < w11.heap.size) := Lib.hid ⟨by have := B89.out; omega, by have := Z911.out; omega⟩
            clear hset hgB hgE
            go_wp2
            go_roundw
            case rel => exact ⟨j + 1, by omega, by go_num, Lib.hid (HL.out.set HG.out.1), Lib.hid (HSET.out _), Lib.hid (HWD.out.other (.inl HG.out.2))⟩
            case measure => simp [intOf]; omega
          · clear LKK WB18 WD18
            go_wp2
            go_loopw [126] (fun vi wr => ∃ j : Nat, j ≤ np ∧ vi = .int .i64 j ∧ Hid (LK w wr w4.heap.size A3 A4 zs) ∧ Hid (Wr wr w11.heap.size w12.heap.size Ad np)) (fun vi _ => np - (intOf vi).toNat)
            case atStart => exact ⟨0, Nat.zero_le _, rfl, HL, HWD⟩
            case round =>
              clear HL HWB HWD
              obtain ⟨j, hj, rfl, HL, HWD⟩ := hrel
              by_cases hjl : j < np
              · obtain ⟨g, x, hA, hgB, hgE, hcell, hfz, hset⟩ := HWD.out.at hjl
                subst hA
                have HSET := Lib.hid hset
                have HG : Hid (w4.heap.size ≤ g) := Lib.hid (by have := ZB10.out; have := HB11.out.size; omega)
                clear hset hgB hgE
                go_wp2
                go_roundw
                case rel => exact ⟨j + 1, by omega, by go_num, Lib.hid (HL.out.set HG.out), Lib.hid (HSET.out _)⟩
                case measure => simp [intOf]; omega
              · go_wp2_with (go_at_call 13; (with_reducible refine (SA.out _ HL.out.ra HL.out.rw).mono ?_); rintro e w19 ⟨rfl, q, rfl⟩)
                go_ret
                exact ⟨rfl, below_drewN HL.out.low _⟩
end Go.Proofs.Ytfccgefpchgdlaa
