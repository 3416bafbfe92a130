
/- The law's own functions 'do' and 'lay': a bitmap and the document's set, changed alike; the text walked. -/
import Derived.Test.YtbbnamdlfnonoaaDoorBObj
import Derived.Test.YtbbnamdlfnonoaaDoorBDo
import Derived.Test.YtbbnamdlfnonoaaDoorButG
namespace Go.Proofs.YtbbnamdlfnonoaaDoor
open Go.RowKit
/-- A bitmap and the document's set, alike. -/
structure BB (w : World) (p s h g n : Nat) (ws : List Nat) (bs : List Bool) : Prop where
  bm : Bm w p s h ws
  rs : Bs w g n bs
  same : sl ws = M.L bs
section
variable {w w' : World} {p s h g n : Nat} {ws us : List Nat} {bs cs : List Bool}
theorem BB.hg (a : BB w p s h g n ws bs) : h ≠ g := by
  intro e
  have h1 := a.bm.st.2.1
  have h2 := a.rs.row
  rw [e, h2] at h1
  simp at h1
theorem BB.pg (a : BB w p s h g n ws bs) : p ≠ g := by
  intro e
  have h1 := a.bm.row
  have h2 := a.rs.row
  rw [e, h2] at h1
  simp at h1
theorem BB.sg (a : BB w p s h g n ws bs) : s ≠ g := by
  intro e
  have h1 := a.bm.st.1
  have h2 := a.rs.row
  rw [e, h2] at h1
  simp at h1
theorem BB.all_below (a : BB w p s h g n ws bs) (hb : Below w.heap.size w w') : BB w' p s h g n ws bs := ⟨a.bm.all_below hb, a.rs.all_below hb, a.same⟩
theorem BB.drew (a : BB w p s h g n ws bs) (k : Nat) : BB (w.drewN k) p s h g n ws bs := ⟨a.bm.drew k, a.rs.drew k, a.same⟩
end
theorem St.grownB {w w' : World} {s h g : Nat} {ws : List Nat} (a : St w s h ws) (hg : w.grownBy w' (some g)) (h1 : s ≠ g) (h2 : h ≠ g) : St w' s h ws :=
  ⟨(hg.block s a.lt.1 (by intro e; cases e; exact h1 rfl)).trans a.1, (hg.block h a.lt.2 (by intro e; cases e; exact h2 rfl)).trans a.2.1, a.2.2⟩
theorem Bm.grownB {w w' : World} {p s h g : Nat} {ws : List Nat} (a : Bm w p s h ws) (hg : w.grownBy w' (some g)) (h0 : p ≠ g) (h1 : s ≠ g) (h2 : h ≠ g) : Bm w' p s h ws :=
  ⟨(hg.block p a.lt.1 (by intro e; cases e; exact h0 rfl)).trans a.row, a.st.grownB hg h1 h2, a.len⟩
/-- What an act leaves. -/
def DidB (w : World) (p s h g n : Nat) (e : Ending) (w' : World) : Prop :=
  e = .returned (.bool true) ∧ ∃ us cs, BB w' p s h g n us cs ∧ ButS w w' (fun j => j = h ∨ j = g)
theorem acted_add {l a b : List Int} {A : Int} {m k : Nat} (h : M.Chg true l a A A m) (h' : M.Chg true l b A A k) : (decide (0 < k) == decide (0 < m)) = true := by
  obtain ⟨_, rfl⟩ := h.same h'; simp
set_option maxHeartbeats 1000000 in
theorem do_0 (w : World) (p s h g n : Nat) (ws : List Nat) (bs : List Bool) (a : BB w p s h g n ws bs) (d A B S : Nat) (hd : d < 256) (hk : d % 5 = 0) (hA : A ≤ 65535) (hB : B ≤ 65535) (hS : S ≤ 65535) :
    Calls Tryd.prog 41 #[.pointer (some ⟨p, 0, none⟩), .slice (some ⟨g, 0, none⟩) n n, actB d A B S] w (DidB w p s h g n) := by
  obtain ⟨e1, e2⟩ := mod5 d hd 0 hk
  have hB0 : Below w.heap.size w (w.alloc (actoB d A B S)) := (Below.refl _ _).alloc (Nat.le_refl _) _
  have aA := Lib.hid (a.all_below hB0)
  have hrow := Lib.hid (alloc_topB w (actoB d A B S) rfl)
  have hbut : Hid (ButS w (w.alloc (actoB d A B S)) (fun j => j = h ∨ j = g)) := but_alloc' _ _ _
  have hzw : w.heap.size < (w.alloc (actoB d A B S)).heap.size := by simp
  have hlg := a.rs.lt
  have hlh := a.bm.lt.2.2
  have hk5 := Lib.hid hk
  have hat := atB_of (alloc_topB w (actoB d A B S) rfl)
  obtain ⟨wa, hwa⟩ : ∃ wa, w.alloc (actoB d A B S) = wa := ⟨_, rfl⟩
  rw [hwa] at aA hrow hbut hzw hat
  have hwaH := Lib.hid hwa
  have hdo := Lib.hid (f_do wa g n bs aA.out.rs d A B S hd hA hB hS)
  obtain ⟨c0, c1, c2, c3⟩ := hat
  clear hk a hB0 hwa
  go_enter Tryd.func41, Tryd.ntmps41
  go_wp2_with fail
  rw [hwaH.out]
  go_wp2_with (go_at_call 63; (with_reducible refine hdo.out.mono ?_); rintro e w1 ⟨m, cs, rfl, hac, hm, hb1, hg1⟩
               have HAC := Lib.hid hac
               have HB1 := Lib.hid hb1
               have HG1 := Lib.hid hg1
               have hrw1 := (hg1.block w.heap.size hzw (by intro e; cases e; omega)).trans hrow.out
               obtain ⟨d0, d1, d2, d3⟩ := atB_of hrw1
               have HM := Lib.hid (aA.out.bm.grownB hg1 aA.out.pg aA.out.sg aA.out.hg)
               have hmeth := Lib.hid (b_add HM.out A (by omega))
               clear hac hb1 hg1 hrw1)
  go_wp2_with (go_at_call 29; (with_reducible refine hmeth.out.mono ?_); rintro e w2 ⟨m2, rfl, us, hc2, hm2, hg2⟩
               have hac := HAC.out
               unfold M.Acted at hac
               simp only [hk5.out] at hac
               have hac : M.Chg true (M.L bs) (M.L cs) (A : Int) (A : Int) m := hac
               rw [aA.out.same] at hc2
               obtain ⟨he, rfl⟩ := hac.same hc2
               have HE := Lib.hid he
               have HM2 := Lib.hid hm2
               have HG2 := Lib.hid hg2
               clear hac hc2 he hm2 hg2)
  go_ret
  exact ⟨by simp, us, cs, ⟨HM2.out, HB1.out.grown HG2.out (by intro e; cases e; exact aA.out.hg rfl), HE.out.symm⟩, (hbut.out.trans (ButS.of_grown HG1.out (fun j e => by cases e; exact .inr rfl))).trans (ButS.of_grown HG2.out (fun j e => by cases e; exact .inl rfl))⟩
set_option maxHeartbeats 1000000 in
theorem do_1 (w : World) (p s h g n : Nat) (ws : List Nat) (bs : List Bool) (a : BB w p s h g n ws bs) (d A B S : Nat) (hd : d < 256) (hk : d % 5 = 1) (hA : A ≤ 65535) (hB : B ≤ 65535) (hS : S ≤ 65535) :
    Calls Tryd.prog 41 #[.pointer (some ⟨p, 0, none⟩), .slice (some ⟨g, 0, none⟩) n n, actB d A B S] w (DidB w p s h g n) := by
  obtain ⟨e1, e2⟩ := mod5 d hd 1 hk
  have hB0 : Below w.heap.size w (w.alloc (actoB d A B S)) := (Below.refl _ _).alloc (Nat.le_refl _) _
  have aA := Lib.hid (a.all_below hB0)
  have hrow := Lib.hid (alloc_topB w (actoB d A B S) rfl)
  have hbut : Hid (ButS w (w.alloc (actoB d A B S)) (fun j => j = h ∨ j = g)) := but_alloc' _ _ _
  have hzw : w.heap.size < (w.alloc (actoB d A B S)).heap.size := by simp
  have hlg := a.rs.lt
  have hlh := a.bm.lt.2.2
  have hk5 := Lib.hid hk
  have hat := atB_of (alloc_topB w (actoB d A B S) rfl)
  obtain ⟨wa, hwa⟩ : ∃ wa, w.alloc (actoB d A B S) = wa := ⟨_, rfl⟩
  rw [hwa] at aA hrow hbut hzw hat
  have hwaH := Lib.hid hwa
  have hdo := Lib.hid (f_do wa g n bs aA.out.rs d A B S hd hA hB hS)
  obtain ⟨c0, c1, c2, c3⟩ := hat
  clear hk a hB0 hwa
  go_enter Tryd.func41, Tryd.ntmps41
  go_wp2_with fail
  rw [hwaH.out]
  go_wp2_with (go_at_call 63; (with_reducible refine hdo.out.mono ?_); rintro e w1 ⟨m, cs, rfl, hac, hm, hb1, hg1⟩
               have HAC := Lib.hid hac
               have HB1 := Lib.hid hb1
               have HG1 := Lib.hid hg1
               have hrw1 := (hg1.block w.heap.size hzw (by intro e; cases e; omega)).trans hrow.out
               obtain ⟨d0, d1, d2, d3⟩ := atB_of hrw1
               have HM := Lib.hid (aA.out.bm.grownB hg1 aA.out.pg aA.out.sg aA.out.hg)
               have hmeth := Lib.hid (b_drop HM.out A (by omega))
               clear hac hb1 hg1 hrw1)
  go_wp2_with (go_at_call 30; (with_reducible refine hmeth.out.mono ?_); rintro e w2 ⟨m2, rfl, us, hc2, hm2, hg2⟩
               have hac := HAC.out
               unfold M.Acted at hac
               simp only [hk5.out] at hac
               have hac : M.Chg false (M.L bs) (M.L cs) (A : Int) (A : Int) m := hac
               rw [aA.out.same] at hc2
               obtain ⟨he, rfl⟩ := hac.same hc2
               have HE := Lib.hid he
               have HM2 := Lib.hid hm2
               have HG2 := Lib.hid hg2
               clear hac hc2 he hm2 hg2)
  go_ret
  exact ⟨by simp, us, cs, ⟨HM2.out, HB1.out.grown HG2.out (by intro e; cases e; exact aA.out.hg rfl), HE.out.symm⟩, (hbut.out.trans (ButS.of_grown HG1.out (fun j e => by cases e; exact .inr rfl))).trans (ButS.of_grown HG2.out (fun j e => by cases e; exact .inl rfl))⟩
set_option maxHeartbeats 1000000 in
theorem do_2 (w : World) (p s h g n : Nat) (ws : List Nat) (bs : List Bool) (a : BB w p s h g n ws bs) (d A B S : Nat) (hd : d < 256) (hk : d % 5 = 2) (hA : A ≤ 65535) (hB : B ≤ 65535) (hS : S ≤ 65535) :
    Calls Tryd.prog 41 #[.pointer (some ⟨p, 0, none⟩), .slice (some ⟨g, 0, none⟩) n n, actB d A B S] w (DidB w p s h g n) := by
  obtain ⟨e1, e2⟩ := mod5 d hd 2 hk
  have hB0 : Below w.heap.size w (w.alloc (actoB d A B S)) := (Below.refl _ _).alloc (Nat.le_refl _) _
  have aA := Lib.hid (a.all_below hB0)
  have hrow := Lib.hid (alloc_topB w (actoB d A B S) rfl)
  have hbut : Hid (ButS w (w.alloc (actoB d A B S)) (fun j => j = h ∨ j = g)) := but_alloc' _ _ _
  have hzw : w.heap.size < (w.alloc (actoB d A B S)).heap.size := by simp
  have hlg := a.rs.lt
  have hlh := a.bm.lt.2.2
  have hk5 := Lib.hid hk
  have hat := atB_of (alloc_topB w (actoB d A B S) rfl)
  obtain ⟨wa, hwa⟩ : ∃ wa, w.alloc (actoB d A B S) = wa := ⟨_, rfl⟩
  rw [hwa] at aA hrow hbut hzw hat
  have hwaH := Lib.hid hwa
  have hdo := Lib.hid (f_do wa g n bs aA.out.rs d A B S hd hA hB hS)
  obtain ⟨c0, c1, c2, c3⟩ := hat
  clear hk a hB0 hwa
  go_enter Tryd.func41, Tryd.ntmps41
  go_wp2_with fail
  rw [hwaH.out]
  go_wp2_with (go_at_call 63; (with_reducible refine hdo.out.mono ?_); rintro e w1 ⟨m, cs, rfl, hac, hm, hb1, hg1⟩
               have HAC := Lib.hid hac
               have HB1 := Lib.hid hb1
               have HG1 := Lib.hid hg1
               have hrw1 := (hg1.block w.heap.size hzw (by intro e; cases e; omega)).trans hrow.out
               obtain ⟨d0, d1, d2, d3⟩ := atB_of hrw1
               have HM := Lib.hid (aA.out.bm.grownB hg1 aA.out.pg aA.out.sg aA.out.hg)
               have hmeth := Lib.hid (b_fill HM.out A B (by omega) (by omega))
               clear hac hb1 hg1 hrw1)
  go_wp2_with (go_at_call 27; (with_reducible refine hmeth.out.mono ?_); rintro e w2 ⟨m2, rfl, us, hc2, hm2, hg2⟩
               have hac := HAC.out
               unfold M.Acted at hac
               simp only [hk5.out] at hac
               have hac : M.Chg true (M.L bs) (M.L cs) (A : Int) (B : Int) m := hac
               rw [aA.out.same] at hc2
               obtain ⟨he, rfl⟩ := hac.same hc2
               have HE := Lib.hid he
               have HM2 := Lib.hid hm2
               have HG2 := Lib.hid hg2
               clear hac hc2 he hm2 hg2)
  go_ret
  exact ⟨by simp, us, cs, ⟨HM2.out, HB1.out.grown HG2.out (by intro e; cases e; exact aA.out.hg rfl), HE.out.symm⟩, (hbut.out.trans (ButS.of_grown HG1.out (fun j e => by cases e; exact .inr rfl))).trans (ButS.of_grown HG2.out (fun j e => by cases e; exact .inl rfl))⟩
set_option maxHeartbeats 1000000 in
theorem do_3 (w : World) (p s h g n : Nat) (ws : List Nat) (bs : List Bool) (a : BB w p s h g n ws bs) (d A B S : Nat) (hd : d < 256) (hk : d % 5 = 3) (hA : A ≤ 65535) (hB : B ≤ 65535) (hS : S ≤ 65535) :
    Calls Tryd.prog 41 #[.pointer (some ⟨p, 0, none⟩), .slice (some ⟨g, 0, none⟩) n n, actB d A B S] w (DidB w p s h g n) := by
  obtain ⟨e1, e2⟩ := mod5 d hd 3 hk
  have hB0 : Below w.heap.size w (w.alloc (actoB d A B S)) := (Below.refl _ _).alloc (Nat.le_refl _) _
  have aA := Lib.hid (a.all_below hB0)
  have hrow := Lib.hid (alloc_topB w (actoB d A B S) rfl)
  have hbut : Hid (ButS w (w.alloc (actoB d A B S)) (fun j => j = h ∨ j = g)) := but_alloc' _ _ _
  have hzw : w.heap.size < (w.alloc (actoB d A B S)).heap.size := by simp
  have hlg := a.rs.lt
  have hlh := a.bm.lt.2.2
  have hk5 := Lib.hid hk
  have hat := atB_of (alloc_topB w (actoB d A B S) rfl)
  obtain ⟨wa, hwa⟩ : ∃ wa, w.alloc (actoB d A B S) = wa := ⟨_, rfl⟩
  rw [hwa] at aA hrow hbut hzw hat
  have hwaH := Lib.hid hwa
  have hdo := Lib.hid (f_do wa g n bs aA.out.rs d A B S hd hA hB hS)
  obtain ⟨c0, c1, c2, c3⟩ := hat
  clear hk a hB0 hwa
  go_enter Tryd.func41, Tryd.ntmps41
  go_wp2_with fail
  rw [hwaH.out]
  go_wp2_with (go_at_call 63; (with_reducible refine hdo.out.mono ?_); rintro e w1 ⟨m, cs, rfl, hac, hm, hb1, hg1⟩
               have HAC := Lib.hid hac
               have HB1 := Lib.hid hb1
               have HG1 := Lib.hid hg1
               have hrw1 := (hg1.block w.heap.size hzw (by intro e; cases e; omega)).trans hrow.out
               obtain ⟨d0, d1, d2, d3⟩ := atB_of hrw1
               have HM := Lib.hid (aA.out.bm.grownB hg1 aA.out.pg aA.out.sg aA.out.hg)
               have hmeth := Lib.hid (b_wipe HM.out A B (by omega) (by omega))
               clear hac hb1 hg1 hrw1)
  go_wp2_with (go_at_call 28; (with_reducible refine hmeth.out.mono ?_); rintro e w2 ⟨m2, rfl, us, hc2, hm2, hg2⟩
               have hac := HAC.out
               unfold M.Acted at hac
               simp only [hk5.out] at hac
               have hac : M.Chg false (M.L bs) (M.L cs) (A : Int) (B : Int) m := hac
               rw [aA.out.same] at hc2
               obtain ⟨he, rfl⟩ := hac.same hc2
               have HE := Lib.hid he
               have HM2 := Lib.hid hm2
               have HG2 := Lib.hid hg2
               clear hac hc2 he hm2 hg2)
  go_ret
  exact ⟨by simp, us, cs, ⟨HM2.out, HB1.out.grown HG2.out (by intro e; cases e; exact aA.out.hg rfl), HE.out.symm⟩, (hbut.out.trans (ButS.of_grown HG1.out (fun j e => by cases e; exact .inr rfl))).trans (ButS.of_grown HG2.out (fun j e => by cases e; exact .inl rfl))⟩
theorem ar_take (A s k j : Nat) (h : j < k) : (M.ar A s k)[j]'(by rw [M.ar_len]; exact h) = ((A + s * j : Nat) : Int) := by
  simp [M.ar]
theorem ar_le {A B s k j : Nat} (h : M.Stops A B s k) (hj : j < k) : A + s * j ≤ B := by
  have h1 := h.1 (by omega)
  have h2 : s * j ≤ s * (k - 1) := Nat.mul_le_mul_left s (by omega)
  omega
set_option maxHeartbeats 2000000 in
theorem do_4 (w : World) (p s h g n : Nat) (ws : List Nat) (bs : List Bool) (a : BB w p s h g n ws bs) (d A B S : Nat) (hd : d < 256) (hk : d % 5 = 4) (hA : A ≤ 65535) (hB : B ≤ 65535) (hS : S ≤ 65535) :
    Calls Tryd.prog 41 #[.pointer (some ⟨p, 0, none⟩), .slice (some ⟨g, 0, none⟩) n n, actB d A B S] w (DidB w p s h g n) := by
  obtain ⟨e1, e2⟩ := mod5 d hd 4 hk
  have hB0 : Below w.heap.size w (w.alloc (actoB d A B S)) := (Below.refl _ _).alloc (Nat.le_refl _) _
  have aA := Lib.hid (a.all_below hB0)
  have hrow := Lib.hid (alloc_topB w (actoB d A B S) rfl)
  have hbut : Hid (ButS w (w.alloc (actoB d A B S)) (fun j => j = h ∨ j = g)) := but_alloc' _ _ _
  have hzw : w.heap.size < (w.alloc (actoB d A B S)).heap.size := by simp
  have hlg := a.rs.lt
  have hlp := a.bm.lt.1
  have hls := a.bm.lt.2.1
  have hlh := a.bm.lt.2.2
  have hk5 := Lib.hid hk
  have hat := atB_of (alloc_topB w (actoB d A B S) rfl)
  obtain ⟨wa, hwa⟩ : ∃ wa, w.alloc (actoB d A B S) = wa := ⟨_, rfl⟩
  rw [hwa] at aA hrow hbut hzw hat
  have hwaH := Lib.hid hwa
  have hdo := Lib.hid (f_do wa g n bs aA.out.rs d A B S hd hA hB hS)
  have hsteps := fun W => Lib.hid (f_steps W d A B S hA hB hS)
  obtain ⟨c0, c1, c2, c3⟩ := hat
  clear hk a hB0 hwa
  go_enter Tryd.func41, Tryd.ntmps41
  go_wp2_with fail
  rw [hwaH.out]
  go_wp2_with (go_at_call 63; (with_reducible refine hdo.out.mono ?_); rintro e w1 ⟨m, cs, rfl, hac, hm, hb1, hg1⟩
               have HAC := Lib.hid hac
               have HB1 := Lib.hid hb1
               have HG1 := Lib.hid hg1
               have hz1 := hg1.size
               have hrw1 := (hg1.block w.heap.size hzw (by intro e; cases e; omega)).trans hrow.out
               obtain ⟨d0, d1, d2, d3⟩ := atB_of hrw1
               have HM := Lib.hid (aA.out.bm.grownB hg1 aA.out.pg aA.out.sg aA.out.hg)
               clear hac hb1 hg1 hrw1)
  go_wp2_with (go_at_call 64; (with_reducible refine (hsteps _).out.mono ?_); rintro e w2 ⟨K, P, c, hst, hK9, rfl, hR, hY, hb2⟩
               have HST := Lib.hid hst
               have HR := Lib.hid hR
               have HY := Lib.hid hY
               have HB2 := Lib.hid hb2
               have hz2 := hb2.size
               have HM2 := Lib.hid (HM.out.all_below hb2)
               have HR2 := Lib.hid (HB1.out.all_below hb2)
               have HE : Hid (M.AddAll (M.L bs) (M.L cs) (M.ar A (2 + S % 9) K) m) := by
                 have hac := HAC.out
                 unfold M.Acted at hac
                 simp only [hk5.out] at hac
                 have hac : ∃ k, M.Stops A B (2 + S % 9) k ∧ M.AddAll (M.L bs) (M.L cs) (M.ar A (2 + S % 9) k) m := hac
                 obtain ⟨k, hk1, hk2⟩ := hac
                 obtain rfl := hk1.same hst
                 exact hk2
               clear hst hR hY hb2)
  have hYne : Hid (∀ ad, P = some ad → ad.block ≠ h) := fun ad e e2 => by have := HY.out ad e; omega
  have hz2' : w.heap.size < w2.heap.size := by omega
  generalize S % 9 = q at *
  go_loopw [8, 58] (fun u i wr => ∃ (j m2 : Nat) (us : List Nat), j ≤ K ∧ i = .int .i64 (j : Int) ∧ u = .int .i64 (m2 : Int) ∧ m2 ≤ j ∧ Hid (M.AddAll (M.L bs) (sl us) (M.ar A (2 + q) j) m2) ∧ Hid (Bm wr p s h us) ∧ Hid (w2.grownBy wr (some h)))
    (fun _ i _ => K - (intOf i).toNat)
  case atStart => exact ⟨0, 0, ws, by omega, rfl, rfl, by omega, by show M.AddAll _ _ _ _; rw [aA.out.same]; exact M.AddAll.start (M.L_up bs), HM2.out, grownB_refl _ _⟩
  case round =>
    obtain ⟨j, m2, us, hj, rfl, rfl, hmj, hP, hBm, hG⟩ := hrel
    by_cases hlt : j < K
    · have hT2 : decide (j < K) = true := decide_eq_true hlt
      have hT3 : decide ((j : Int) < (K : Int)) = true := decide_eq_true (by omega)
      have hzr := hG.out.size
      obtain ⟨b, off, rfl, hbl, hc⟩ := (HR.out.grown hG.out (Nat.le_refl _) hYne.out).at (k := j) (by rw [M.ar_len]; exact hlt)
      rw [ar_take A (2 + q) K j hlt] at hc
      have hle := ar_le HST.out hlt
      have hsucc := Lib.hid (M.ar_succ A (2 + q) j)
      obtain ⟨v, hv⟩ : ∃ v, A + (2 + q) * j = v := ⟨_, rfl⟩
      rw [hv] at hc hsucc hle
      clear hv
      have hadd := Lib.hid (b_add hBm.out v (by omega))
      go_wp2_with (go_at_call 29; (with_reducible refine hadd.out.mono ?_); rintro e w3 ⟨m3, rfl, us3, hc3, hm3, hg3⟩
                   have hst := hP.out.step hc3
                   rw [← hsucc.out] at hst
                   have hle3 : m3 ≤ 1 := by
                     have h1 := hst.2.2
                     have h2 := hc3.2.2
                     rw [if_pos rfl] at h2
                     rcases Nat.lt_or_ge m3 2 with h3 | h3
                     · omega
                     · exfalso
                       have hsub : ∀ y ∈ sl us3, y = (v : Int) ∨ y ∈ sl us := fun y hy => by
                         have h4 := (hc3.2.1 y).1 hy
                         by_cases e : y = (v : Int)
                         · exact .inl e
                         · rw [if_neg (by omega)] at h4; exact .inr h4
                       have h5 : (sl us3).length ≤ ((v : Int) :: sl us).length := M.up_len hc3.1 (fun y hy => by rcases hsub y hy with e | e; subst e; exact List.mem_cons_self ..; exact List.mem_cons_of_mem _ e)
                       rw [List.length_cons] at h5
                       omega
                   have HST3 := Lib.hid hst
                   have HM3 := Lib.hid hm3
                   have HG3 := Lib.hid (grownB_trans hG.out hg3)
                   clear hst hm3 hg3 hc3)
      · have hpos : 0 < m3 := by first | assumption | (simp at *; omega)
        obtain rfl : m3 = 1 := by omega
        go_roundw
        case rel => exact ⟨j + 1, m2 + 1, us3, by omega, by go_num, by go_num, by omega, HST3.out, HM3.out, HG3.out⟩
        case measure => simp [intOf]; omega
      · obtain rfl : m3 = 0 := by first | omega | (simp at *; omega)
        go_roundw
        case rel => exact ⟨j + 1, m2, us3, by omega, by go_num, rfl, by omega, HST3.out, HM3.out, HG3.out⟩
        case measure => simp [intOf]; omega
    · obtain rfl : j = K := by omega
      have hT2 : decide (j < j) = false := decide_eq_false hlt
      have hT3 : decide ((j : Int) < (j : Int)) = false := decide_eq_false (by omega)
      obtain ⟨he, rfl⟩ := hP.out.same HE.out
      have HEQ := Lib.hid he
      clear he
      go_wp2
      go_ret
      exact ⟨by simp, us, cs, ⟨hBm.out, HR2.out.grown hG.out (by intro e; cases e; exact aA.out.hg rfl), HEQ.out⟩,
        ((hbut.out.trans (ButS.of_grown HG1.out (fun j e => by cases e; exact .inr rfl))).trans (ButS.of_below HB2.out (Nat.le_refl _))).trans (ButS.of_grown hG.out (fun j e => by cases e; exact .inl rfl))⟩
theorem do_any (w : World) (p s h g n : Nat) (ws : List Nat) (bs : List Bool) (a : BB w p s h g n ws bs) (d A B S : Nat) (hd : d < 256) (hA : A ≤ 65535) (hB : B ≤ 65535) (hS : S ≤ 65535) :
    Calls Tryd.prog 41 #[.pointer (some ⟨p, 0, none⟩), .slice (some ⟨g, 0, none⟩) n n, actB d A B S] w (DidB w p s h g n) := by
  rcases (by omega : d % 5 = 0 ∨ d % 5 = 1 ∨ d % 5 = 2 ∨ d % 5 = 3 ∨ d % 5 = 4) with k | k | k | k | k
  · exact do_0 w p s h g n ws bs a d A B S hd k hA hB hS
  · exact do_1 w p s h g n ws bs a d A B S hd k hA hB hS
  · exact do_2 w p s h g n ws bs a d A B S hd k hA hB hS
  · exact do_3 w p s h g n ws bs a d A B S hd k hA hB hS
  · exact do_4 w p s h g n ws bs a d A B S hd k hA hB hS
abbrev AcB := Nat × Nat × Nat × Nat
/-- The slice at P reads as these acts, in cells below block B. -/
def Rk (w : World) (B : Nat) (P : Option Addr) (xs : List AcB) : Prop :=
  (∀ x ∈ xs, x.1 < 256 ∧ x.2.1 ≤ 65535 ∧ x.2.2.1 ≤ 65535 ∧ x.2.2.2 ≤ 65535) ∧ (xs ≠ [] → ∃ b off, P = some ⟨b, off, none⟩ ∧ b < B ∧ ∀ (k : Nat) (h : k < xs.length),
    w.cell? ⟨b, off + k * 4, none⟩ = some (.int .u8 (xs[k].1 : Nat)) ∧ w.cell? ⟨b, off + k * 4 + 1, none⟩ = some (.int .u16 (xs[k].2.1 : Nat)) ∧ w.cell? ⟨b, off + k * 4 + 2, none⟩ = some (.int .u16 (xs[k].2.2.1 : Nat)) ∧ w.cell? ⟨b, off + k * 4 + 3, none⟩ = some (.int .u16 (xs[k].2.2.2 : Nat)))
theorem Rk.below {w w' : World} {B B' : Nat} {P : Option Addr} {xs : List AcB} (h : Rk w B P xs) (hb : Below B' w w') (hB : B ≤ B') : Rk w' B P xs := ⟨h.1, fun hne => by
  obtain ⟨b, off, rfl, hlt, hc⟩ := h.2 hne
  refine ⟨b, off, rfl, hlt, fun k hk => ?_⟩
  have hl : b < B' := by omega
  obtain ⟨h1, h2, h3, h4⟩ := hc k hk
  exact ⟨(hb.cell (p := ⟨b, off + k * 4, none⟩) hl).trans h1, (hb.cell (p := ⟨b, off + k * 4 + 1, none⟩) hl).trans h2, (hb.cell (p := ⟨b, off + k * 4 + 2, none⟩) hl).trans h3, (hb.cell (p := ⟨b, off + k * 4 + 3, none⟩) hl).trans h4⟩⟩
theorem Rk.later {w w1 : World} {P : Option Addr} {xs : List AcB} (h : Rk w w.heap.size P xs) (hb : Below w.heap.size w w1) : Rk w1 w1.heap.size P xs := ⟨h.1, fun hne => by
  obtain ⟨b, off, rfl, hlt, hc⟩ := (h.below hb (Nat.le_refl _)).2 hne
  exact ⟨b, off, rfl, Nat.lt_of_lt_of_le hlt hb.size, hc⟩⟩
theorem Rk.at {w : World} {B : Nat} {P : Option Addr} {xs : List AcB} (h : Rk w B P xs) {k : Nat} (hk : k < xs.length) : ∃ b off, P = some ⟨b, off, none⟩ ∧ b < B ∧
    w.cell? ⟨b, off + k * 4, none⟩ = some (.int .u8 (xs[k].1 : Nat)) ∧ w.cell? ⟨b, off + k * 4 + 1, none⟩ = some (.int .u16 (xs[k].2.1 : Nat)) ∧ w.cell? ⟨b, off + k * 4 + 2, none⟩ = some (.int .u16 (xs[k].2.2.1 : Nat)) ∧ w.cell? ⟨b, off + k * 4 + 3, none⟩ = some (.int .u16 (xs[k].2.2.2 : Nat)) := by
  obtain ⟨b, off, rfl, hb, hc⟩ := h.2 (by intro e; subst e; simp at hk)
  exact ⟨b, off, rfl, hb, hc k hk⟩
theorem sl_zeroB (n : Nat) : sl (List.replicate n 0) = [] := by
  unfold sl
  rw [List.map_eq_nil_iff, List.filter_eq_nil_iff]
  intro b _
  unfold sbit
  by_cases h : b / 64 < n
  · simp [h]
  · simp [h]
/-- What 'lay' answers. -/
def LaidB (w : World) (e : Ending) (w' : World) : Prop :=
  ∃ p s h g n us cs, e = .returned (.tuple #[.pointer (some ⟨p, 0, none⟩), .slice (some ⟨g, 0, none⟩) n n, .bool true]) ∧ BB w' p s h g n us cs ∧ w.heap.size ≤ p ∧ w.heap.size ≤ s ∧ w.heap.size ≤ h ∧ w.heap.size ≤ g ∧ Below w.heap.size w w'
set_option maxHeartbeats 2000000 in
theorem lay_any (w : World) (P : Option Addr) (cp : Nat) (xs : List AcB) (hr : Rk w w.heap.size P xs) (hl : xs.length ≤ 9223372036854775807) :
    Calls Tryd.prog 9 #[.slice P xs.length cp] w (LaidB w) := by
  have hrH := Lib.hid hr
  clear hr
  have hnew := fun W => Lib.hid (b_new W)
  have hnew2 := fun W => Lib.hid (f_new W)
  go_enter Tryd.func9, Tryd.ntmps9
  go_wp2_with (first
    | (go_at_call 39; (with_reducible refine (hnew _).out.mono ?_); rintro e w1 ⟨p, s, h, rfl, hbm, hb1, hp, hs, hh⟩; have HM := Lib.hid hbm; have HB1 := Lib.hid hb1; clear hbm hb1)
    | (go_at_call 40; (with_reducible refine (hnew2 _).out.mono ?_); rintro e w2 ⟨g, n, rfl, hbs, hg2, hg⟩; have HS := Lib.hid hbs; have HG2 := Lib.hid hg2; clear hbs hg2))
  have hz1 := HB1.out.size
  have hz2 := HG2.out.size
  have hB2 : Hid (Below w1.heap.size w1 w2) := ⟨HG2.out.os, HG2.out.tape, HG2.out.output, HG2.out.size, fun k hk => HG2.out.block k hk (by simp)⟩
  have hBB : Hid (BB w2 p s h g n (List.replicate 1024 0) (List.replicate n false)) := ⟨HM.out.all_below hB2.out, HS.out, by rw [sl_zeroB, M.L_false]⟩
  have hBw : Hid (Below w.heap.size w w2) := HB1.out.trans (hB2.out.mono hz1)
  obtain ⟨z1024, hz⟩ : ∃ z, List.replicate 1024 0 = z := ⟨_, rfl⟩
  rw [hz] at hBB
  clear hz HM
  go_loopw [13] (fun u wr => ∃ (k : Nat) (us : List Nat) (cs : List Bool), k ≤ xs.length ∧ u = .int .i64 (k : Int) ∧ Hid (BB wr p s h g n us cs) ∧ Hid (Below w.heap.size w wr)) (fun u _ => xs.length - (intOf u).toNat)
  case atStart => exact ⟨0, z1024, List.replicate n false, by omega, rfl, hBB.out, hBw.out⟩
  case round =>
    obtain ⟨k, us, cs, hk, rfl, hB, hW⟩ := hrel
    by_cases hlt : k < xs.length
    · have hT2 : decide (k < xs.length) = true := decide_eq_true hlt
      have hT3 : decide ((k : Int) < (xs.length : Int)) = true := decide_eq_true (by omega)
      have hzr := hW.out.size
      obtain ⟨b, off, rfl, hb, ha1, ha2, ha3, ha4⟩ := (hrH.out.below hW.out (Nat.le_refl _)).at hlt
      obtain ⟨hx1, hx2, hx3, hx4⟩ := hrH.out.1 xs[k] (List.getElem_mem hlt)
      generalize xs[k].1 = d at *
      generalize xs[k].2.1 = A at *
      generalize xs[k].2.2.1 = B at *
      generalize xs[k].2.2.2 = S at *
      have hA : ∀ o, Hid (BB (wr.alloc o) p s h g n us cs) := fun o => hB.out.all_below ((Below.refl _ _).alloc (Nat.le_refl _) _)
      have hWA : ∀ o, Hid (Below w.heap.size w (wr.alloc o)) := fun o => hW.out.alloc hzr o
      by_cases h10 : k < 10
      · have hdo := fun o => Lib.hid (do_any (wr.alloc o) p s h g n us cs (hA o).out d A B S hx1 hx2 hx3 hx4)
        have hTb : decide ((k : Int) < 10) = true := decide_eq_true (by omega)
        go_wp2_with (go_at_call 41; (with_reducible refine (hdo _).out.mono ?_); rintro e w5 ⟨rfl, us', cs', hB', hU⟩; have HB5 := Lib.hid hB'; have HU := Lib.hid (hU.below (B := w.heap.size) (by simp; omega) (fun j hj => by rcases hj with e | e <;> subst e <;> omega)); clear hB' hU)
        go_roundw
        case rel => exact ⟨k + 1, us', cs', by omega, by go_num, HB5.out, (hWA _).out.trans HU.out⟩
        case measure => simp [intOf]; omega
      · have hTb : decide ((k : Int) < 10) = false := decide_eq_false (by omega)
        go_wp2
        go_roundw
        case rel => exact ⟨k + 1, us, cs, by omega, by go_num, (hA _).out, (hWA _).out⟩
        case measure => simp [intOf]; omega
    · have hT2 : decide (k < xs.length) = false := decide_eq_false hlt
      have hT3 : decide ((k : Int) < (xs.length : Int)) = false := decide_eq_false (by omega)
      go_wp2
      refine bodyPost_ret (results_tmp3 rfl _ _ _) rfl ?_
      exact ⟨p, s, h, g, n, us, cs, rfl, hB.out, hp, hs, hh, by omega, hW.out⟩
end Go.Proofs.YtbbnamdlfnonoaaDoor
