
/- The law ArrayJoins; the text walked. -/
import Derived.Test.YtfccgefpchgdlaaArrJ
import Derived.Test.YtfccgefpchgdlaaArrR
namespace Go.Proofs.Ytfccgefpchgdlaa
open Go.RowKit Go.Shelf
theorem L_zip (f : Bool → Bool → Bool) (h0 : f false false = false) {xs ys : List Bool} (hl : xs.length = ys.length) (y : Int) : y ∈ M.L (List.zipWith f xs ys) ↔ f (decide (y ∈ M.L xs)) (decide (y ∈ M.L ys)) = true := by
  by_cases hy : 0 ≤ y
  · have e1 : ∀ bs : List Bool, decide (y ∈ M.L bs) = (bs[y.toNat]?).getD false := fun bs => by
      rw [Bool.eq_iff_iff, decide_eq_true_eq, M.L_in]
      constructor
      · rintro ⟨_, h⟩
        rw [h]
        rfl
      · intro h
        refine ⟨hy, ?_⟩
        cases e : bs[y.toNat]? with
        | none => rw [e] at h; cases h
        | some b => rw [e] at h; exact congrArg some h
    rw [M.L_in, e1, e1, List.getElem?_zipWith]
    by_cases hk : y.toNat < xs.length
    · have hk2 : y.toNat < ys.length := by omega
      rw [List.getElem?_eq_getElem hk, List.getElem?_eq_getElem hk2]
      simp [hy]
    · rw [List.getElem?_eq_none (by omega), List.getElem?_eq_none (by omega)]
      simp [h0]
  · have e1 : ∀ bs : List Bool, ¬ y ∈ M.L bs := fun bs h => hy (M.L_in.1 h).1
    rw [decide_eq_false (e1 xs), decide_eq_false (e1 ys), h0]
    exact ⟨fun h => absurd h (e1 _), fun h => by cases h⟩
theorem list_keep {W0 W : World} {g n m : Nat} {A : Option Addr} {bs : List Bool} {ls zs : List Int} (hb : Below W0.heap.size W0 W) (hs : Bs W g n bs) (he : M.L bs = ls) (hm : ls.length = m) (hr : Rh W W.heap.size A zs) :
    Calls Try.prog 11 #[.slice (some ⟨g, 0, none⟩) n n] W fun e w' => ∃ A' c', e = .returned (.slice A' m c') ∧ Rh w' w'.heap.size A' ls ∧ Rh w' w'.heap.size A zs ∧ Below W0.heap.size W0 w' := by
  subst he hm
  refine (f_list W g n bs hs).mono ?_
  rintro e w' ⟨A', c', rfl, h1, _, h2⟩
  exact ⟨A', c', rfl, h1, (hr.below h2 (Nat.le_refl _)).more h2.size, hb.trans (h2.mono hb.size)⟩
theorem same_keep {W0 W : World} {m c c' : Nat} {A A' : Option Addr} {zs : List Int} (hb : Below W0.heap.size W0 W) (h1 : Rh W W.heap.size A zs) (h2 : Rh W W.heap.size A' zs) (hm : zs.length = m) (hl : m ≤ 1000000) :
    Calls Try.prog 13 #[.slice A m c, .slice A' m c'] W fun e w' => e = .returned (.bool true) ∧ Below W0.heap.size W0 w' := by
  subst hm
  have h3 := f_same A A' c c' zs zs W _ _ h1 h2 (by omega) (by omega)
  rw [decide_eq_true rfl] at h3
  exact h3.mono fun e w' h => ⟨h.1, by obtain ⟨q, rfl⟩ := h.2; exact below_drewN hb _⟩
theorem join2_keep {W0 W : World} {ga gb na nb : Nat} {A : Option Addr} {xs ys : List Bool} {zs : List Int} (hb : Below W0.heap.size W0 W) (h1 : Bs W ga na xs) (h2 : Bs W gb nb ys) (hr : Rh W W.heap.size A zs) :
    Calls Try.prog 30 #[.slice (some ⟨ga, 0, none⟩) na na, .slice (some ⟨gb, 0, none⟩) nb nb, .int .i64 2] W fun e w' => ∃ g n, e = .returned (.slice (some ⟨g, 0, none⟩) n n) ∧ Bs w' g n (List.zipWith (fun a b => a && !b) xs ys) ∧ Rh w' w'.heap.size A zs ∧ Below W0.heap.size W0 w' := by
  refine (f_join2 W ga gb na nb xs ys h1 h2).mono ?_
  rintro e w' ⟨g, n, rfl, h3, h4, _⟩
  exact ⟨g, n, rfl, h3, (hr.below h4 (Nat.le_refl _)).more h4.size, hb.trans (h4.mono hb.size)⟩
theorem join3_keep {W0 W : World} {ga gb na nb : Nat} {A : Option Addr} {xs ys : List Bool} {zs : List Int} (hb : Below W0.heap.size W0 W) (h1 : Bs W ga na xs) (h2 : Bs W gb nb ys) (hr : Rh W W.heap.size A zs) :
    Calls Try.prog 30 #[.slice (some ⟨ga, 0, none⟩) na na, .slice (some ⟨gb, 0, none⟩) nb nb, .int .i64 3] W fun e w' => ∃ g n, e = .returned (.slice (some ⟨g, 0, none⟩) n n) ∧ Bs w' g n (List.zipWith (fun a b => a != b) xs ys) ∧ Rh w' w'.heap.size A zs ∧ Below W0.heap.size W0 w' := by
  refine (f_join3 W ga gb na nb xs ys h1 h2).mono ?_
  rintro e w' ⟨g, n, rfl, h3, h4, _⟩
  exact ⟨g, n, rfl, h3, (hr.below h4 (Nat.le_refl _)).more h4.size, hb.trans (h4.mono hb.size)⟩
/-- The first two hundred of a list: apart. -/
abbrev FewK (w : World) (A : Option Addr) (l cp n : Nat) (ys : List Int) : Prop := ∀ W, Below w.heap.size w W → Calls Try.prog 9 #[.slice A l cp, .int .i64 200] W fun e w' => ∃ A' c', e = .returned (.slice A' n c') ∧ Rh w' w'.heap.size A' ys ∧ Below W.heap.size W w'
theorem few_keep {w : World} {A : Option Addr} {cp : Nat} {xs : List Int} (hr : Rh w w.heap.size A xs) (hl : xs.length ≤ 9223372036854775807) (hx : ∀ y ∈ xs, 0 ≤ y ∧ y ≤ 65535) :
    ∃ n ys, n = ys.length ∧ n ≤ 200 ∧ (∀ y ∈ ys, 0 ≤ y ∧ y ≤ 65535) ∧ FewK w A xs.length cp n ys := by
  refine ⟨(xs.take 200).length, xs.take 200, rfl, by rw [List.length_take]; omega, fun y hy => hx y (List.mem_of_mem_take hy), fun W hb => ?_⟩
  refine (f_few A cp xs 200 W ((hr.below hb (Nat.le_refl _)).more hb.size) hl (by decide)).mono ?_
  rintro e w' ⟨A', c', rfl, h1, _, h2⟩
  exact ⟨A', c', rfl, h1, h2⟩
theorem of_keep {W : World} {A : Option Addr} {c n : Nat} {ys : List Int} (hn : n = ys.length) (h200 : n ≤ 200) (hx : ∀ y ∈ ys, 0 ≤ y ∧ y ≤ 65535) (hr : Rh W W.heap.size A ys) :
    Calls Try.prog 10 #[.slice A n c] W fun e w' => ∃ A' m c' zs, e = .returned (.slice A' m c') ∧ m = zs.length ∧ m ≤ c' ∧ m ≤ 200 ∧ zs.Pairwise (· < ·) ∧ (∀ y ∈ zs, 0 ≤ y ∧ y ≤ 65535) ∧ Rh w' w'.heap.size A' zs ∧ Below W.heap.size W w' := by
  refine (of_any W W.heap.size n c A ys hn hr (Nat.le_refl _) (by omega)).mono ?_
  rintro e w' ⟨v, zs, rfl, z1, z2, z3, z4, z5⟩
  obtain ⟨A', c', rfl, hr', hc'⟩ := own_reads z3
  exact ⟨A', zs.length, c', zs, rfl, rfl, hc', by omega, z1, fun y hy => hx y ((z2 y).1 hy), hr', z4⟩
theorem set_keep {W : World} {A : Option Addr} {c n : Nat} {zs : List Int} (hn : n = zs.length) (h200 : n ≤ 1000000) (hs : zs.Pairwise (· < ·)) (hx : ∀ y ∈ zs, 0 ≤ y ∧ y ≤ 65535) (hr : Rh W W.heap.size A zs) :
    Calls Try.prog 12 #[.slice A n c] W fun e w' => ∃ g n bs, e = .returned (.slice (some ⟨g, 0, none⟩) n n) ∧ Bs w' g n bs ∧ M.L bs = zs ∧ Below W.heap.size W w' := by
  subst hn
  refine (f_of A c zs W hr (by omega) hx).mono ?_
  rintro e w' ⟨g, n, bs, rfl, h1, h2, _, h4⟩
  exact ⟨g, n, bs, rfl, h1, M.sorted_ext h2.1 hs h2.2, h4⟩
set_option maxHeartbeats 40000000 in
set_option maxRecDepth 100000 in
theorem law_joins (Aa : Option Addr) (ca : Nat) (xa : List Int) (Ab : Option Addr) (cb : Nat) (xb : List Int) (Ac : Option Addr) (cc : Nat) (xc : List Int) (n : Nat) (_hn : n < 256) (w : World)
    (ra : Rh w w.heap.size Aa xa) (la : xa.length ≤ 9223372036854775807) (va : ∀ y ∈ xa, 0 ≤ y ∧ y ≤ 65535) (rb : Rh w w.heap.size Ab xb) (lb : xb.length ≤ 9223372036854775807) (vb : ∀ y ∈ xb, 0 ≤ y ∧ y ≤ 65535)
    (rc : Rh w w.heap.size Ac xc) (lc : xc.length ≤ 9223372036854775807) (vc : ∀ y ∈ xc, 0 ≤ y ∧ y ≤ 65535) :
    Calls Try.prog 6 #[.slice Aa xa.length ca, .slice Ab xb.length cb, .slice Ac xc.length cc, .int .u8 (n : Int)] w fun e w' => e = .returned (.bool true) ∧ Below w.heap.size w w' := by
  obtain ⟨na, ya, na1, na2, na3, FA⟩ := few_keep (cp := ca) ra la va
  obtain ⟨nb, yb, nb1, nb2, nb3, FB⟩ := few_keep (cp := cb) rb lb vb
  obtain ⟨nc, yc, nc1, nc2, nc3, FC⟩ := few_keep (cp := cc) rc lc vc
  replace FA := Lib.hid FA
  replace FB := Lib.hid FB
  replace FC := Lib.hid FC
  have HNA := Lib.hid (And.intro na1 na3)
  have HNB := Lib.hid (And.intro nb1 nb3)
  have HNC := Lib.hid (And.intro nc1 nc3)
  clear na1 na3 nb1 nb3 nc1 nc3 ra la va rb lb vb rc lc vc
  generalize xa.length = la at *
  generalize xb.length = lb at *
  generalize xc.length = lc at *
  obtain ⟨m, hm⟩ : ∃ m, m = n % 4 := ⟨_, rfl⟩
  have hm4 : (n : Int) % 4 = (m : Int) := by omega
  have hm3 : m ≤ 3 := by omega
  have hm3i : (m : Int) ≤ 3 := by omega
  clear hm _hn
  go_enter Try.func6, Try.ntmps6
  go_wp2_with (go_at_call 8; (with_reducible refine (awake_any w).mono ?_); rintro e w1 ⟨rfl, hb1⟩; have HB1 := Lib.hid hb1; clear hb1)
  go_wp2_with (first
    | (go_at_call 9; (with_reducible refine (FA.out _ HB1.out).mono ?_); rintro e w2 ⟨A2, c2, rfl, r2, b2⟩
       have HB2 := Lib.hid (HB1.out.trans (b2.mono HB1.out.size))
       have CO2 := Lib.hid (of_keep (c := c2) HNA.out.1 na2 HNA.out.2 r2)
       clear HB1 r2 b2)
    | (go_at_call 10; (with_reducible refine CO2.out.mono ?_); rintro e w3 ⟨Za, ma, da, za, rfl, a1, a2, a3, a4, a5, r3, b3⟩
       have HB3 := Lib.hid (HB2.out.trans (b3.mono HB2.out.size))
       have RA3 := Lib.hid r3
       have HZA := Lib.hid (And.intro a1 (And.intro a4 a5))
       clear HB2 CO2 a1 a4 a5 r3 b3)
    | (go_at_call 9; (with_reducible refine (FB.out _ HB3.out).mono ?_); rintro e w4 ⟨A4, c4, rfl, r4, b4⟩
       have HB4 := Lib.hid (HB3.out.trans (b4.mono HB3.out.size))
       have RA4 := Lib.hid ((RA3.out.below b4 (Nat.le_refl _)).more b4.size)
       have CO4 := Lib.hid (of_keep (c := c4) HNB.out.1 nb2 HNB.out.2 r4)
       clear HB3 r4 b4 RA3)
    | (go_at_call 10; (with_reducible refine CO4.out.mono ?_); rintro e w5 ⟨Zb, mb, db, zb, rfl, a1, a2', a3', a4, a5, r5, b5⟩
       have HB5 := Lib.hid (HB4.out.trans (b5.mono HB4.out.size))
       have RA5 := Lib.hid ((RA4.out.below b5 (Nat.le_refl _)).more b5.size)
       have RB5 := Lib.hid r5
       have HZB := Lib.hid (And.intro a1 (And.intro a4 a5))
       clear HB4 CO4 a1 a4 a5 r5 b5 RA4)
    | (go_at_call 9; (with_reducible refine (FC.out _ HB5.out).mono ?_); rintro e w6 ⟨A6, c6, rfl, r6, b6⟩
       have HB6 := Lib.hid (HB5.out.trans (b6.mono HB5.out.size))
       have RA6 := Lib.hid ((RA5.out.below b6 (Nat.le_refl _)).more b6.size)
       have RB6 := Lib.hid ((RB5.out.below b6 (Nat.le_refl _)).more b6.size)
       have CO6 := Lib.hid (of_keep (c := c6) HNC.out.1 nc2 HNC.out.2 r6)
       clear HB5 r6 b6 RA5 RB5)
    | (go_at_call 10; (with_reducible refine CO6.out.mono ?_); rintro e w7 ⟨Zc, mc, dc, zc, rfl, a1, a2'', a3'', a4, a5, r7, b7⟩
       have HB7 := Lib.hid (HB6.out.trans (b7.mono HB6.out.size))
       have RA7 := Lib.hid ((RA6.out.below b7 (Nat.le_refl _)).more b7.size)
       have RB7 := Lib.hid ((RB6.out.below b7 (Nat.le_refl _)).more b7.size)
       have RC7 := Lib.hid r7
       have HZC := Lib.hid (And.intro a1 (And.intro a4 a5))
       clear HB6 CO6 a1 a4 a5 r7 b7 RA6 RB6))
  have HPK : Hid (∃ L : List Part, m = L.length ∧ Parts (w7.alloc (.cells #[.slice Za ma da, .slice Zb mb db, .slice Zc mc dc] 22)) w7.heap.size w7.heap.size 0 L ∧ (∀ p ∈ L, p.2.2.Pairwise (· < ·) ∧ p.2.2.length ≤ 200 ∧ ∀ y ∈ p.2.2, 0 ≤ y ∧ y ≤ 65535) ∧ (cat L).length ≤ 1000000) := Lib.hid (by
    have hP : Parts (w7.alloc (.cells #[.slice Za ma da, .slice Zb mb db, .slice Zc mc dc] 22)) w7.heap.size w7.heap.size 0 [(Za, da, za), (Zb, db, zb), (Zc, dc, zc)] := by
      have b8 := (Below.refl w7.heap.size w7).alloc (Nat.le_refl _) (.cells #[.slice Za ma da, .slice Zb mb db, .slice Zc mc dc] 22)
      have e1 := HZA.out.1
      have e2 := HZB.out.1
      have e3 := HZC.out.1
      subst e1 e2 e3
      intro k hk
      match k, hk with
      | 0, _ => exact ⟨by rw [Nat.zero_add, World.cell?_alloc_new]; rfl, RA7.out.below b8 (Nat.le_refl _)⟩
      | 1, _ => exact ⟨by rw [Nat.zero_add, World.cell?_alloc_new]; rfl, RB7.out.below b8 (Nat.le_refl _)⟩
      | 2, _ => exact ⟨by rw [Nat.zero_add, World.cell?_alloc_new]; rfl, RC7.out.below b8 (Nat.le_refl _)⟩
    have hQ : ∀ p ∈ [(Za, da, za), (Zb, db, zb), (Zc, dc, zc)], p.2.2.Pairwise (· < ·) ∧ p.2.2.length ≤ 200 ∧ ∀ y ∈ p.2.2, 0 ≤ y ∧ y ≤ 65535 := by
      intro p hp
      simp only [List.mem_cons, List.not_mem_nil, or_false] at hp
      rcases hp with rfl | rfl | rfl
      · exact ⟨HZA.out.2.1, by rw [← HZA.out.1]; exact a3, HZA.out.2.2⟩
      · exact ⟨HZB.out.2.1, by rw [← HZB.out.1]; exact a3', HZB.out.2.2⟩
      · exact ⟨HZC.out.2.1, by rw [← HZC.out.1]; exact a3'', HZC.out.2.2⟩
    refine ⟨[(Za, da, za), (Zb, db, zb), (Zc, dc, zc)].take m, by rw [List.length_take]; show m = min m 3; omega, hP.front, fun p hp => hQ p (List.mem_of_mem_take hp), ?_⟩
    have h1 := cat_le (L := [(Za, da, za), (Zb, db, zb), (Zc, dc, zc)]) (k := m)
    have h2 : (cat [(Za, da, za), (Zb, db, zb), (Zc, dc, zc)]).length = ma + mb + mc := by
      rw [HZA.out.1, HZB.out.1, HZC.out.1]; simp [cat]; omega
    omega)
  have HB8 : Hid (Below w.heap.size w (w7.alloc (.cells #[.slice Za ma da, .slice Zb mb db, .slice Zc mc dc] 22))) := Lib.hid (HB7.out.trans ((Below.refl w7.heap.size w7).alloc (Nat.le_refl _) _ |>.mono HB7.out.size))
  have HZ8 : Hid (w7.heap.size < (w7.alloc (.cells #[.slice Za ma da, .slice Zb mb db, .slice Zc mc dc] 22)).heap.size) := Lib.hid (by simp)
  generalize w7.alloc (.cells #[.slice Za ma da, .slice Zb mb db, .slice Zc mc dc] 22) = w8 at *
  obtain ⟨L, hL1, hL2, hL3, hL4⟩ := HPK.out
  have LM := Lib.hid hL1
  have LP := Lib.hid hL2
  have LV := Lib.hid hL3
  have LC := Lib.hid hL4
  clear hL1 hL2 hL3 hL4 HPK HZA HZB HZC RA7 RB7 RC7 HB7 FC HNC
  generalize w7.heap.size = gl at *
  clear a2 a2' a2'' a3 a3' a3''
  go_wp2_with (first
    | (go_at_call 29; (with_reducible refine (f_new w8).mono ?_); rintro e w9 ⟨g9, n9, rfl, s9, b9, _⟩
       have N9 := Lib.hid s9
       have HB9 := Lib.hid (below_grown b9)
       clear s9 b9)
    | (go_at_call 29; (with_reducible refine (f_new w9).mono ?_); rintro e w10 ⟨g10, n10, rfl, s10, b10, _⟩
       have N10 := Lib.hid s10
       have N9' := Lib.hid (N9.out.all_below (below_grown b10))
       have HB10 : Hid (Below w8.heap.size w8 w10) := Lib.hid (HB9.out.trans ((below_grown b10).mono HB9.out.size))
       clear s10 b10 N9 HB9))
  go_loopw [10, 11, 38] (fun vo va vi wr => ∃ (k go no ga na' : Nat) (bo ba : List Bool), k ≤ m ∧ vo = .slice (some ⟨go, 0, none⟩) no no ∧ va = .slice (some ⟨ga, 0, none⟩) na' na' ∧ vi = .int .i64 k ∧ Hid (Bs wr go no bo) ∧ Hid (Bs wr ga na' ba) ∧ Hid (∀ y, y ∈ M.L bo ↔ SOr (lists (L.take k)) y) ∧ Hid ((k = 0 → M.L ba = []) ∧ (0 < k → ∀ y, y ∈ M.L ba ↔ SAnd (lists (L.take k)) y)) ∧ Hid (Below w8.heap.size w8 wr))
    (fun _ _ vi _ => m - (intOf vi).toNat)
  case atStart =>
    refine ⟨0, g9, n9, g10, n10, _, _, Nat.zero_le _, rfl, rfl, rfl, N9', N10, Lib.hid (fun y => ?_), Lib.hid ⟨fun _ => M.L_false _, fun h => absurd h (by omega)⟩, HB10⟩
    rw [M.L_false]
    exact ⟨fun h => absurd h (by simp), fun ⟨p, h, _⟩ => absurd h (by simp [lists])⟩
  case round =>
    obtain ⟨k, go, no, ga, na', bo, ba, hk, rfl, rfl, rfl, HO, HA, MO, MA, HW⟩ := hrel
    by_cases hlt : k < m
    · have hkL : k < L.length := by rw [← LM.out]; exact hlt
      have hcell := ((LP.out.below HW.out (by have := HZ8.out; omega) HZ8.out) k hkL).1
      have RK := Lib.hid ((LP.out.below HW.out (by have := HZ8.out; omega) HZ8.out) k hkL).2
      have hv := LV.out L[k] (List.getElem_mem hkL)
      have HS1 : Hid (∀ y, SOr (lists (L.take (k + 1))) y ↔ SOr (lists (L.take k)) y ∨ y ∈ L[k].2.2) := Lib.hid (fun y => by
        rw [List.take_succ_eq_append_getElem hkL]
        unfold lists
        rw [List.map_append]
        constructor
        · rintro ⟨p, h, h2⟩
          rcases List.mem_append.1 h with h | h
          · exact .inl ⟨p, h, h2⟩
          · rw [List.map_cons, List.map_nil, List.mem_singleton] at h; exact .inr (h ▸ h2)
        · rintro (⟨p, h, h2⟩ | h)
          · exact ⟨p, List.mem_append_left _ h, h2⟩
          · exact ⟨_, List.mem_append_right _ (by simp), h⟩)
      have HS2 : Hid (∀ y, SAnd (lists (L.take (k + 1))) y ↔ SAnd (lists (L.take k)) y ∧ y ∈ L[k].2.2) := Lib.hid (fun y => by
        rw [List.take_succ_eq_append_getElem hkL]
        unfold lists
        rw [List.map_append]
        constructor
        · exact fun h => ⟨fun p hp => h p (List.mem_append_left _ hp), h _ (List.mem_append_right _ (by simp))⟩
        · rintro ⟨h1, h2⟩ p hp
          rcases List.mem_append.1 hp with h | h
          · exact h1 p h
          · rw [List.map_cons, List.map_nil, List.mem_singleton] at h; exact h ▸ h2)
      generalize L[k] = P at *
      obtain ⟨Zk, dk, zk⟩ := P
      simp only at hcell RK hv HS1 HS2
      obtain ⟨nk, hnk⟩ : ∃ nk, nk = zk.length := ⟨_, rfl⟩
      rw [← hnk, Nat.zero_add] at hcell
      have CO := Lib.hid (set_keep (W := wr) (c := dk) hnk (by omega) hv.1 hv.2.2 (RK.out.more (by have := HZ8.out; have := HW.out.size; omega)))
      clear hv hnk RK
      have HLEN : Hid (bo.length = 65536 ∧ ba.length = 65536) := Lib.hid ⟨HO.out.len.trans HO.out.top, HA.out.len.trans HA.out.top⟩
      have HBA : Hid (∀ y, (0 < k → (y ∈ M.L ba ↔ SAnd (lists (L.take k)) y)) ∧ (k = 0 → SAnd (lists (L.take k)) y)) := Lib.hid (fun y => ⟨fun h => MA.out.2 h y, fun h p hp => by subst h; simp [lists] at hp⟩)
      have HNX : Hid (∀ (bs : List Bool), bs.length = 65536 → M.L bs = zk → ∀ y, (y ∈ M.L (List.zipWith (fun a b => a || b) bo bs) ↔ SOr (lists (L.take (k + 1))) y) ∧ (0 < k → (y ∈ M.L (List.zipWith (fun a b => a && b) ba bs) ↔ SAnd (lists (L.take (k + 1))) y)) ∧ (k = 0 → (y ∈ M.L (List.zipWith (fun a b => a && b) bs bs) ↔ SAnd (lists (L.take (k + 1))) y))) := Lib.hid (fun bs hb he y => by
        refine ⟨?_, fun h => ?_, fun h => ?_⟩
        · rw [L_zip _ rfl (HLEN.out.1.trans hb.symm), HS1.out y, ← MO.out y, he]
          simp
        · rw [L_zip _ rfl (HLEN.out.2.trans hb.symm), HS2.out y, ← (HBA.out y).1 h, he]
          simp
        · rw [L_zip _ rfl rfl, HS2.out y, he]
          simp [(HBA.out y).2 h])
      clear HS1 HS2 HBA MO MA HLEN
      by_cases h0 : k = 0
      all_goals
        first
        | (have e0 : ((k : Int) == 0) = true := by rw [beq_iff_eq]; omega)
        | (have e0 : ((k : Int) == 0) = false := by rw [beq_eq_false_iff_ne]; omega)
        have H0 := Lib.hid h0
        clear h0
        go_wp2_with (first
          | (go_at_call 12; (with_reducible refine CO.out.mono ?_); rintro e wA ⟨gs, ns, bs, rfl, s1, he, b1⟩
             have SS := Lib.hid s1
             have HE := Lib.hid he
             have HO1 := Lib.hid (HO.out.all_below b1)
             have HA1 := Lib.hid (HA.out.all_below b1)
             have HW1 := Lib.hid (HW.out.trans (b1.mono HW.out.size))
             clear s1 he b1 HO HA HW CO)
          | (go_at_call 30; (with_reducible refine (f_join0 wA go gs no ns bo bs HO1.out SS.out).mono ?_); rintro e wB ⟨gp, np, rfl, s2, b2, _⟩
             have HO2 := Lib.hid s2
             have SS2 := Lib.hid (SS.out.all_below b2)
             have HA2 := Lib.hid (HA1.out.all_below b2)
             have HW2 := Lib.hid (HW1.out.trans (b2.mono HW1.out.size))
             clear s2 b2 HO1 HA1 HW1 SS)
          | (go_at_call 30; (with_reducible refine (f_join1 wB gs gs ns ns bs bs SS2.out SS2.out).mono ?_); rintro e wC ⟨gq, nq, rfl, s3, b3, _⟩
             have HA3 := Lib.hid s3
             have HO3 := Lib.hid (HO2.out.all_below b3)
             have HW3 := Lib.hid (HW2.out.trans (b3.mono HW2.out.size))
             clear s3 b3)
          | (go_at_call 30; (with_reducible refine (f_join1 wB ga gs na' ns ba bs HA2.out SS2.out).mono ?_); rintro e wC ⟨gq, nq, rfl, s3, b3, _⟩
             have HA3 := Lib.hid s3
             have HO3 := Lib.hid (HO2.out.all_below b3)
             have HW3 := Lib.hid (HW2.out.trans (b3.mono HW2.out.size))
             clear s3 b3))
        go_roundw
        case rel => exact ⟨k + 1, gp, np, gq, nq, _, _, by omega, rfl, rfl, by go_num, HO3, HA3, Lib.hid (fun y => (HNX.out bs (SS2.out.len.trans SS2.out.top) HE.out y).1), Lib.hid ⟨fun h => absurd h (by omega), fun _ y => by first | exact (HNX.out bs (SS2.out.len.trans SS2.out.top) HE.out y).2.2 H0.out | exact (HNX.out bs (SS2.out.len.trans SS2.out.top) HE.out y).2.1 (by have := H0.out; omega)⟩, HW3⟩
        case measure => simp [intOf]; omega
    · have hkm : k = m := by omega
      subst hkm
      have hT : L.take k = L := List.take_of_length_le (by rw [← LM.out]; exact Nat.le_refl _)
      rw [hT] at MO MA
      clear hT hlt
      have HV1 : Hid (Below w.heap.size w wr) := Lib.hid (HB8.out.trans (HW.out.mono HB8.out.size))
      have LPW := Lib.hid (LP.out.below HW.out (by have := HZ8.out; omega) HZ8.out)
      have HZW : Hid (gl < wr.heap.size) := Lib.hid (Nat.lt_of_lt_of_le HZ8.out HW.out.size)
      clear LP HW HB8 HZ8
      obtain ⟨wz, hwz⟩ : ∃ wz, wz = wr := ⟨_, rfl⟩
      subst hwz
      have HK1 : Hid (Below wz.heap.size wz wz) := Lib.hid (Below.refl _ _)
      go_wp2_with (first
        | (go_at_call 9; (with_reducible refine (FA.out _ HV1.out).mono ?_); rintro e w2 ⟨A2, c2, rfl, r2, b2⟩
           have HV2 := Lib.hid (HV1.out.trans (b2.mono HV1.out.size))
           have HK2 := Lib.hid (HK1.out.trans (b2.mono HK1.out.size))
           have CO2 := Lib.hid (of_keep (c := c2) HNA.out.1 na2 HNA.out.2 r2)
           clear HV1 HK1 r2 b2)
        | (go_at_call 10; (with_reducible refine CO2.out.mono ?_); rintro e w3 ⟨X, mx, dx, zx, rfl, x1, x2, x3, x4, x5, r3, b3⟩
           have HV3 := Lib.hid (HV2.out.trans (b3.mono HV2.out.size))
           have HK3 := Lib.hid (HK2.out.trans (b3.mono HK2.out.size))
           have RX3 := Lib.hid r3
           have HX := Lib.hid (And.intro x1 (And.intro x4 x5))
           clear HV2 HK2 CO2 x1 x4 x5 r3 b3)
        | (go_at_call 9; (with_reducible refine (FB.out _ HV3.out).mono ?_); rintro e w4 ⟨A4, c4, rfl, r4, b4⟩
           have HV4 := Lib.hid (HV3.out.trans (b4.mono HV3.out.size))
           have HK4 := Lib.hid (HK3.out.trans (b4.mono HK3.out.size))
           have RX4 := Lib.hid ((RX3.out.below b4 (Nat.le_refl _)).more b4.size)
           have CO4 := Lib.hid (of_keep (c := c4) HNB.out.1 nb2 HNB.out.2 r4)
           clear HV3 HK3 r4 b4 RX3)
        | (go_at_call 10; (with_reducible refine CO4.out.mono ?_); rintro e w5 ⟨Y, my, dy, zy, rfl, y1, y2, y3, y4, y5, r5, b5⟩
           have HV5 := Lib.hid (HV4.out.trans (b5.mono HV4.out.size))
           have HK5 := Lib.hid (HK4.out.trans (b5.mono HK4.out.size))
           have RX5 := Lib.hid ((RX4.out.below b5 (Nat.le_refl _)).more b5.size)
           have RY5 := Lib.hid r5
           have HY := Lib.hid (And.intro y1 (And.intro y4 y5))
           have COX := Lib.hid (set_keep (c := dx) HX.out.1 (by omega) HX.out.2.1 HX.out.2.2 RX5.out)
           clear HV4 HK4 CO4 y1 y4 y5 r5 b5 RX4)
        | (go_at_call 12; (with_reducible refine COX.out.mono ?_); rintro e w6 ⟨gs, ns, bs, rfl, s6, he6, b6⟩
           have HV6 := Lib.hid (HV5.out.trans (b6.mono HV5.out.size))
           have HK6 := Lib.hid (HK5.out.trans (b6.mono HK5.out.size))
           have RX6 := Lib.hid ((RX5.out.below b6 (Nat.le_refl _)).more b6.size)
           have RY6 := Lib.hid ((RY5.out.below b6 (Nat.le_refl _)).more b6.size)
           have BS6 := Lib.hid s6
           have ES := Lib.hid he6
           have COY := Lib.hid (set_keep (c := dy) HY.out.1 (by omega) HY.out.2.1 HY.out.2.2 RY6.out)
           clear HV5 HK5 COX s6 he6 b6 RX5 RY5)
        | (go_at_call 12; (with_reducible refine COY.out.mono ?_); rintro e wq ⟨gt, nt, bt, rfl, s7, he7, b7⟩
           have HV7 := Lib.hid (HV6.out.trans (b7.mono HV6.out.size))
           have HK7 := Lib.hid (HK6.out.trans (b7.mono HK6.out.size))
           have RX7 := Lib.hid ((RX6.out.below b7 (Nat.le_refl _)).more b7.size)
           have RY7 := Lib.hid ((RY6.out.below b7 (Nat.le_refl _)).more b7.size)
           have BS7 := Lib.hid (BS6.out.all_below b7)
           have BT7 := Lib.hid s7
           have ET := Lib.hid he7
           have BO7 := Lib.hid (HO.out.all_below HK7.out)
           have BA7 := Lib.hid (HA.out.all_below HK7.out)
           have LP7 := Lib.hid (LPW.out.below HK7.out (Nat.le_of_lt HZW.out) HZW.out)
           have HZ7 := Lib.hid (Nat.lt_of_lt_of_le HZW.out HK7.out.size)
           have HW := Lib.hid (Below.refl wq.heap.size wq)
           clear HV6 HK6 COY s7 he7 b7 RX6 RY6 BS6 HO HA LPW HZW
           obtain ⟨qo, hqo⟩ : ∃ q, (M.L bo).length = q := ⟨_, rfl⟩
           obtain ⟨qa, hqa⟩ : ∃ q, (M.L ba).length = q := ⟨_, rfl⟩
           obtain ⟨zl, hzl⟩ : ∃ z, M.L (List.zipWith (fun a b => a && !b) bs bt) = z := ⟨_, rfl⟩
           obtain ⟨zw, hzw⟩ : ∃ z, M.L (List.zipWith (fun a b => a != b) bs bt) = z := ⟨_, rfl⟩
           obtain ⟨ql, hql⟩ : ∃ q, zl.length = q := ⟨_, rfl⟩
           obtain ⟨qw, hqw⟩ : ∃ q, zw.length = q := ⟨_, rfl⟩
           have hlst : bs.length = bt.length := (BS7.out.len.trans BS7.out.top).trans (BT7.out.len.trans BT7.out.top).symm
           have hmo : qo ≤ 1000000 := by have h1 := M.L_len bo; have h2 := BO7.out.len; have h3 := BO7.out.top; omega
           have hma : qa ≤ 1000000 := by have h1 := M.L_len ba; have h2 := BA7.out.len; have h3 := BA7.out.top; omega
           have LSR := Lib.hid (fun p (h : p ∈ lists L) => by
             unfold lists at h
             obtain ⟨q, h1, h2⟩ := List.mem_map.1 h
             exact h2 ▸ (LV.out q h1).1 : ∀ p, p ∈ lists L → p.Pairwise (· < ·))
           have COR : Hid (∀ W, Below wq.heap.size wq W → Calls Try.prog 31 #[.slice (some ⟨gl, 0, none⟩) k 3] W fun e w' => ∃ A c, e = .returned (.slice A qo c) ∧ Rh w' w'.heap.size A (M.L bo) ∧ Below wq.heap.size wq w') := Lib.hid (fun W hW => by
             refine (a_or k L W gl gl 0 3 LM.out (LP7.out.below hW (Nat.le_of_lt HZ7.out) HZ7.out) (Nat.le_of_lt (Nat.lt_of_lt_of_le HZ7.out hW.size)) (Nat.lt_of_lt_of_le HZ7.out hW.size) LSR.out LC.out hm3 (by omega)).mono ?_
             rintro e w' ⟨v, zs, rfl, q1, q2, q3, _, q5, q6⟩
             have ez : zs = M.L bo := M.sorted_ext q1 (M.L_up _) fun y => by
               rw [MO.out y]
               by_cases hL : L = []
               · rw [q3 hL, hL]; exact ⟨fun h => absurd h (by simp), fun ⟨p, h, _⟩ => absurd h (by simp [lists])⟩
               · exact q2 hL y
             subst ez
             obtain ⟨A', c', rfl, hr', _⟩ := own_reads q5
             rw [hqo]
             exact ⟨A', c', rfl, hr', hW.trans (q6.mono hW.size)⟩)
           have CAN : Hid (∀ W, Below wq.heap.size wq W → Calls Try.prog 32 #[.slice (some ⟨gl, 0, none⟩) k 3] W fun e w' => ∃ A c, e = .returned (.slice A qa c) ∧ Rh w' w'.heap.size A (M.L ba) ∧ Below wq.heap.size wq w') := Lib.hid (fun W hW => by
             refine (a_and k L W gl gl 0 3 LM.out (LP7.out.below hW (Nat.le_of_lt HZ7.out) HZ7.out) (Nat.le_of_lt (Nat.lt_of_lt_of_le HZ7.out hW.size)) (Nat.lt_of_lt_of_le HZ7.out hW.size) LSR.out LC.out hm3 (by omega)).mono ?_
             rintro e w' ⟨v, zs, rfl, q1, q2, q3, _, q5, q6⟩
             have ez : zs = M.L ba := M.sorted_ext q1 (M.L_up _) fun y => by
               by_cases hL : L = []
               · have hk0 : k = 0 := by rw [LM.out, hL]; rfl
                 rw [q3 hL, MA.out.1 hk0]
               · have hk0 : 0 < k := by rw [LM.out]; exact Nat.pos_of_ne_zero (fun h => hL (List.eq_nil_of_length_eq_zero h))
                 rw [MA.out.2 hk0 y]; exact q2 hL y
             subst ez
             obtain ⟨A', c', rfl, hr', _⟩ := own_reads q5
             rw [hqa]
             exact ⟨A', c', rfl, hr', hW.trans (q6.mono hW.size)⟩)
           have CLE : Hid (∀ W, Below wq.heap.size wq W → Calls Try.prog 33 #[.slice X mx dx, .slice Y my dy] W fun e w' => ∃ A c, e = .returned (.slice A ql c) ∧ Rh w' w'.heap.size A zl ∧ Below wq.heap.size wq w') := Lib.hid (fun W hW => by
             refine (a_less W W.heap.size mx dx my dy X Y zx zy (Nat.le_refl _) HX.out.1 HY.out.1 x2 y2 ((RX7.out.below hW (Nat.le_refl _)).more hW.size) ((RY7.out.below hW (Nat.le_refl _)).more hW.size) HX.out.2.1 HY.out.2.1 (by omega) (by omega)).mono ?_
             rintro e w' ⟨v, zs, rfl, q1, q2, _, q5, q6⟩
             have ez : zs = zl := M.sorted_ext q1 (by rw [← hzl]; exact M.L_up _) fun y => by
               rw [q2 y, ← hzl, L_zip _ rfl hlst, ES.out, ET.out]
               unfold M.Wt
               by_cases h1 : y ∈ zx <;> by_cases h2 : y ∈ zy <;> simp [h1, h2]
             subst ez
             obtain ⟨A', c', rfl, hr', _⟩ := own_reads q5
             rw [hql]
             exact ⟨A', c', rfl, hr', hW.trans (q6.mono hW.size)⟩)
           have CXO : Hid (∀ W, Below wq.heap.size wq W → Calls Try.prog 34 #[.slice X mx dx, .slice Y my dy] W fun e w' => ∃ A c, e = .returned (.slice A qw c) ∧ Rh w' w'.heap.size A zw ∧ Below wq.heap.size wq w') := Lib.hid (fun W hW => by
             refine (a_xor W W.heap.size mx dx my dy X Y zx zy (Nat.le_refl _) HX.out.1 HY.out.1 x2 y2 ((RX7.out.below hW (Nat.le_refl _)).more hW.size) ((RY7.out.below hW (Nat.le_refl _)).more hW.size) HX.out.2.1 HY.out.2.1 (by omega) (by omega)).mono ?_
             rintro e w' ⟨v, zs, rfl, q1, q2, _, q5, q6⟩
             have ez : zs = zw := M.sorted_ext q1 (by rw [← hzw]; exact M.L_up _) fun y => by
               rw [q2 y, ← hzw, L_zip _ rfl hlst, ES.out, ET.out]
               unfold M.Wt
               by_cases h1 : y ∈ zx <;> by_cases h2 : y ∈ zy <;> simp [h1, h2]
             subst ez
             obtain ⟨A', c', rfl, hr', _⟩ := own_reads q5
             rw [hqw]
             exact ⟨A', c', rfl, hr', hW.trans (q6.mono hW.size)⟩)
           have hml : ql ≤ 1000000 := by
             have h1 := M.L_len (List.zipWith (fun a b => a && !b) bs bt)
             rw [List.length_zipWith, hzl, hql] at h1
             have h2 := BS7.out.len
             have h3 := BS7.out.top
             omega
           have hmw : qw ≤ 1000000 := by
             have h1 := M.L_len (List.zipWith (fun a b => a != b) bs bt)
             rw [List.length_zipWith, hzw, hqw] at h1
             have h2 := BS7.out.len
             have h3 := BS7.out.top
             omega
           have HQ := Lib.hid (And.intro hqo (And.intro hqa (And.intro hzl (And.intro hzw (And.intro hql hqw)))))
           clear hqo hqa hzl hzw hql hqw hlst))
      go_wp2_with (first
        | (go_at_call 31; (with_reducible refine (COR.out _ HW.out).mono ?_); rintro e w21 ⟨A21, c21, rfl, r21, h21⟩; have R21 := Lib.hid r21; clear HW r21; have HW := Lib.hid h21; clear h21
           have LL := Lib.hid (list_keep HW.out (BO7.out.all_below HW.out) rfl HQ.out.1 R21.out))
        | (go_at_call 11; (with_reducible refine LL.out.mono ?_); rintro e w22 ⟨A22, c22, rfl, r22, r21', h22⟩; clear HW LL; have HW := Lib.hid h22; clear h22
           have LS := Lib.hid (same_keep (c := c21) (c' := c22) HW.out r21' r22 HQ.out.1 hmo)
           clear r22 r21')
        | (go_at_call 13; (with_reducible refine LS.out.mono ?_); rintro e w23 ⟨rfl, h23⟩; clear HW LS; have HW := Lib.hid h23; clear h23)
        | (go_at_call 32; (with_reducible refine (CAN.out _ HW.out).mono ?_); rintro e w24 ⟨A24, c24, rfl, r24, h24⟩; have R24 := Lib.hid r24; clear HW r24; have HW := Lib.hid h24; clear h24
           have LL := Lib.hid (list_keep HW.out (BA7.out.all_below HW.out) rfl HQ.out.2.1 R24.out))
        | (go_at_call 11; (with_reducible refine LL.out.mono ?_); rintro e w25 ⟨A25, c25, rfl, r25, r24', h25⟩; clear HW LL; have HW := Lib.hid h25; clear h25
           have LS := Lib.hid (same_keep (c := c24) (c' := c25) HW.out r24' r25 HQ.out.2.1 hma)
           clear r25 r24')
        | (go_at_call 33; (with_reducible refine (CLE.out _ HW.out).mono ?_); rintro e w26 ⟨A26, c26, rfl, r26, h26⟩; have R26 := Lib.hid r26; clear HW r26; have HW := Lib.hid h26; clear h26
           have LJ := Lib.hid (join2_keep HW.out (BS7.out.all_below HW.out) (BT7.out.all_below HW.out) R26.out))
        | (go_at_call 30; (with_reducible refine LJ.out.mono ?_); rintro e w27 ⟨g27, n27, rfl, s27, r26', h27⟩; clear HW LJ; have HW := Lib.hid h27; clear h27
           have LL := Lib.hid (list_keep HW.out s27 HQ.out.2.2.1 HQ.out.2.2.2.2.1 r26')
           clear s27 r26')
        | (go_at_call 11; (with_reducible refine LL.out.mono ?_); rintro e w28 ⟨A28, c28, rfl, r28, r26'', h28⟩; clear HW LL; have HW := Lib.hid h28; clear h28
           have LS := Lib.hid (same_keep (c := c26) (c' := c28) HW.out r26'' r28 HQ.out.2.2.2.2.1 hml)
           clear r28 r26'')
        | (go_at_call 34; (with_reducible refine (CXO.out _ HW.out).mono ?_); rintro e w29 ⟨A29, c29, rfl, r29, h29⟩; have R29 := Lib.hid r29; clear HW r29; have HW := Lib.hid h29; clear h29
           have LJ := Lib.hid (join3_keep HW.out (BS7.out.all_below HW.out) (BT7.out.all_below HW.out) R29.out))
        | (go_at_call 30; (with_reducible refine LJ.out.mono ?_); rintro e w30 ⟨g30, n30, rfl, s30, r29', h30⟩; clear HW LJ; have HW := Lib.hid h30; clear h30
           have LL := Lib.hid (list_keep HW.out s30 HQ.out.2.2.2.1 HQ.out.2.2.2.2.2 r29')
           clear s30 r29')
        | (go_at_call 11; (with_reducible refine LL.out.mono ?_); rintro e w31 ⟨A31, c31, rfl, r31, r29'', h31⟩; clear HW LL; have HW := Lib.hid h31; clear h31
           have LS := Lib.hid (same_keep (c := c29) (c' := c31) HW.out r29'' r31 HQ.out.2.2.2.2.2 hmw)
           clear r31 r29''))
      go_ret
      exact ⟨rfl, HV7.out.trans (HW.out.mono HV7.out.size)⟩
end Go.Proofs.Ytfccgefpchgdlaa
