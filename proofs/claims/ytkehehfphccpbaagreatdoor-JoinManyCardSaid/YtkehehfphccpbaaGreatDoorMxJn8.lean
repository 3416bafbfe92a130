/- What two boxes and two sets are together, from whatever world on; the law JoinMakes; the text walked. -/
import Derived.Test.YtkehehfphccpbaaGreatDoorMgJd
namespace Go.Proofs.YtkehehfphccpbaaGreatDoor
set_option maxRecDepth 40000
open Go.RowKit
theorem NewP.from {W V w' : World} {ys : List Int} {e : Ending} (hW : Below W.heap.size W V) (h : NewP V ys e w') : NewP W ys e w' := by
  obtain ⟨q, r, rfl, h1, h2, h3, h4⟩ := h
  have z := hW.size
  exact ⟨q, r, rfl, h1, by omega, fun e => by have := h3 e; omega, hW.trans (h4.mono z)⟩
section
variable {W : World} {p q : Option Addr} {xs ys : List Int} (a : Bp W p xs) (b : Bp W q ys) (he : q = p → ys = xs) (hT : Tab W)
include a b he hT
theorem two_or (V : World) (hV : Below W.heap.size W V) : Calls Tryz.prog 10 #[.slice (some ⟨V.heap.size, 0, none⟩) 2 2] (V.alloc (.cells #[.pointer p, .pointer q] 24)) fun e w' => ∃ zs, (∀ x, x ∈ zs ↔ x ∈ xs ∨ x ∈ ys) ∧ NewP W zs e w' := by
  have hV1 : Below W.heap.size W (V.alloc (.cells #[.pointer p, .pointer q] 24)) := hV.alloc hV.size _
  refine Calls.mono (or_any (V.alloc (.cells #[.pointer p, .pointer q] 24)) (some ⟨V.heap.size, 0, none⟩) 2 [p, q] (two p xs ys) (pps_two V p q) (by simp) ((two_bps a b he).next hV1) (hT.below hV1 hT.pos)) ?_
  rintro e w' ⟨zs, hz, h⟩
  exact ⟨zs, fun x => by rw [hz x, two_some he], h.from hV1⟩
theorem two_and (V : World) (hV : Below W.heap.size W V) : Calls Tryz.prog 12 #[.slice (some ⟨V.heap.size, 0, none⟩) 2 2] (V.alloc (.cells #[.pointer p, .pointer q] 24)) fun e w' => ∃ zs, (∀ x, x ∈ zs ↔ x ∈ xs ∧ x ∈ ys) ∧ NewP W zs e w' := by
  have hV1 : Below W.heap.size W (V.alloc (.cells #[.pointer p, .pointer q] 24)) := hV.alloc hV.size _
  refine Calls.mono (and_any (V.alloc (.cells #[.pointer p, .pointer q] 24)) (some ⟨V.heap.size, 0, none⟩) 2 [p, q] (two p xs ys) (pps_two V p q) (by simp) ((two_bps a b he).next hV1) (hT.below hV1 hT.pos)) ?_
  rintro e w' ⟨zs, hz, h⟩
  exact ⟨zs, fun x => by rw [hz x, two_all he]; exact ⟨fun h => h.2, fun h => ⟨by simp, h⟩⟩, h.from hV1⟩
omit he in
theorem two_less (V : World) (hV : Below W.heap.size W V) : Calls Tryz.prog 13 #[.pointer p, .pointer q] V fun e w' => ∃ zs, (∀ x, x ∈ zs ↔ x ∈ xs ∧ ¬ x ∈ ys) ∧ NewP W zs e w' := by
  refine (less_any V p q xs ys (a.next hV) (b.next hV) (hT.below hV hT.pos)).mono ?_
  rintro e w' ⟨zs, hz, h⟩
  exact ⟨zs, hz, h.from hV⟩
omit he in
theorem two_xor (V : World) (hV : Below W.heap.size W V) : Calls Tryz.prog 14 #[.pointer p, .pointer q] V fun e w' => ∃ zs, (∀ x, x ∈ zs ↔ (x ∈ xs ∧ ¬ x ∈ ys) ∨ (x ∈ ys ∧ ¬ x ∈ xs)) ∧ NewP W zs e w' := by
  refine (xor_any V p q xs ys (a.next hV) (b.next hV) (hT.below hV hT.pos)).mono ?_
  rintro e w' ⟨zs, hz, h⟩
  exact ⟨zs, hz, h.from hV⟩
end
/-- A new set. -/
def JoinP (W : World) (S : Int → Prop) (e : Ending) (w' : World) : Prop := ∃ g n ds, e = .returned (.slice (some ⟨g, 0, none⟩) n n) ∧ Bs w' g n ds ∧ (∀ x, x ∈ M.L ds ↔ S x) ∧ W.heap.size ≤ g ∧ Below W.heap.size W w'
section
variable {W : World} {ga na gb nb : Nat} {bs cs : List Bool} {xs ys : List Int} (s : Bs W ga na bs) (t : Bs W gb nb cs) (hs : M.L bs = xs) (ht : M.L cs = ys)
include s t hs ht
theorem set_0 (V : World) (hV : Below W.heap.size W V) : Calls Tryz.prog 11 #[.slice (some ⟨ga, 0, none⟩) na na, .slice (some ⟨gb, 0, none⟩) nb nb, .int .i64 0] V (JoinP V fun x => x ∈ xs ∨ x ∈ ys) := by
  have hl1 : bs.length = 65536 := s.len.trans s.top
  have hl2 : cs.length = 65536 := t.len.trans t.top
  refine (f_join0 V ga gb na nb bs cs (s.all_below hV) (t.all_below hV)).mono ?_
  rintro e w' ⟨g, n, rfl, h1, h2, h3⟩
  refine ⟨g, n, _, rfl, h1, fun x => ?_, h3, h2⟩
  rw [L_zip2 _ rfl hl1 hl2, hs, ht]
  by_cases e1 : x ∈ xs <;> by_cases e2 : x ∈ ys <;> simp [e1, e2]
theorem set_1 (V : World) (hV : Below W.heap.size W V) : Calls Tryz.prog 11 #[.slice (some ⟨ga, 0, none⟩) na na, .slice (some ⟨gb, 0, none⟩) nb nb, .int .i64 1] V (JoinP V fun x => x ∈ xs ∧ x ∈ ys) := by
  have hl1 : bs.length = 65536 := s.len.trans s.top
  have hl2 : cs.length = 65536 := t.len.trans t.top
  refine (f_join1 V ga gb na nb bs cs (s.all_below hV) (t.all_below hV)).mono ?_
  rintro e w' ⟨g, n, rfl, h1, h2, h3⟩
  refine ⟨g, n, _, rfl, h1, fun x => ?_, h3, h2⟩
  rw [L_zip2 _ rfl hl1 hl2, hs, ht]
  by_cases e1 : x ∈ xs <;> by_cases e2 : x ∈ ys <;> simp [e1, e2]
theorem set_2 (V : World) (hV : Below W.heap.size W V) : Calls Tryz.prog 11 #[.slice (some ⟨ga, 0, none⟩) na na, .slice (some ⟨gb, 0, none⟩) nb nb, .int .i64 2] V (JoinP V fun x => x ∈ xs ∧ ¬ x ∈ ys) := by
  have hl1 : bs.length = 65536 := s.len.trans s.top
  have hl2 : cs.length = 65536 := t.len.trans t.top
  refine (f_join2 V ga gb na nb bs cs (s.all_below hV) (t.all_below hV)).mono ?_
  rintro e w' ⟨g, n, rfl, h1, h2, h3⟩
  refine ⟨g, n, _, rfl, h1, fun x => ?_, h3, h2⟩
  rw [L_zip2 _ rfl hl1 hl2, hs, ht]
  by_cases e1 : x ∈ xs <;> by_cases e2 : x ∈ ys <;> simp [e1, e2]
theorem set_3 (V : World) (hV : Below W.heap.size W V) : Calls Tryz.prog 11 #[.slice (some ⟨ga, 0, none⟩) na na, .slice (some ⟨gb, 0, none⟩) nb nb, .int .i64 3] V (JoinP V fun x => (x ∈ xs ∧ ¬ x ∈ ys) ∨ (x ∈ ys ∧ ¬ x ∈ xs)) := by
  have hl1 : bs.length = 65536 := s.len.trans s.top
  have hl2 : cs.length = 65536 := t.len.trans t.top
  refine (f_join3 V ga gb na nb bs cs (s.all_below hV) (t.all_below hV)).mono ?_
  rintro e w' ⟨g, n, rfl, h1, h2, h3⟩
  refine ⟨g, n, _, rfl, h1, fun x => ?_, h3, h2⟩
  rw [L_zip2 _ rfl hl1 hl2, hs, ht]
  by_cases e1 : x ∈ xs <;> by_cases e2 : x ∈ ys <;> simp [e1, e2]
end
theorem ChP.new {o : Bool} {W w w' : World} {q r n : Nat} {xs : List Int} {f t : Int} (hW : Below W.heap.size W w) (hq : W.heap.size ≤ q) (hr : kd false xs = 2 → W.heap.size ≤ r) (h : ChP o w q r xs false f t n w') : ∃ ys r', Bo w' q r' ys false ∧ (kd false ys = 2 → W.heap.size ≤ r') ∧ Below W.heap.size W w' := by
  obtain ⟨ys, r', h1, h2, h3, h4⟩ := h
  rw [Bool.false_and] at h2 h3
  refine ⟨ys, r', h2, fun e => ?_, hW.trans (h4.below hW.size (fun k hk => ?_))⟩
  · rcases h3 e with ⟨e2, e3⟩ | e2
    · rw [e3]; exact hr e2
    · exact Nat.le_trans hW.size e2
  · rcases hk with e | ⟨e2, e⟩
    · rw [e]; exact hq
    · rw [e]; exact hr e2
set_option maxHeartbeats 16000000 in
theorem law_makes (P : Option Addr) (cp : Nat) (as0 : List AcB) (P2 : Option Addr) (cp2 : Nat) (as1 : List AcB) (b1 b2 : Bool) (w : World) (hT : Tab w) (hr : Rk w w.heap.size P as0) (hl : as0.length ≤ 9223372036854775807) (hr2 : Rk w w.heap.size P2 as1) (hl2 : as1.length ≤ 9223372036854775807) :
    Calls Tryz.prog 3 #[.slice P as0.length cp, .slice P2 as1.length cp2, .bool b1, .bool b2] w fun e w' => e = .returned (.bool true) ∧ Below w.heap.size w w' := by
  have HR1 := Lib.hid hr
  have HR2 := Lib.hid hr2
  have HT0 := Lib.hid hT
  clear hr hr2 hT
  go_enter Tryz.func3, Tryz.ntmps3
  go_wp2_with (go_at_call 6; (with_reducible refine (awake_any w HT0.out).mono ?_); rintro e w1 ⟨rfl, hb1⟩
               have HB1 := Lib.hid hb1
               have HL1 := Lib.hid (lay_any w1 (HT0.out.below hb1 HT0.out.pos) P cp as0 b1 (HR1.out.later hb1) hl)
               clear hb1)
  go_wp2_with (go_at_call 7; (with_reducible refine HL1.out.mono ?_); rintro e w2 ⟨qa, ra, xs, ga, na, bs, la, rfl, j1⟩
               have HJ1 := Lib.hid j1
               have hb2 : Below w.heap.size w w2 := HB1.out.trans (j1.low.mono HB1.out.size)
               have HB2 := Lib.hid hb2
               have HL2 := Lib.hid (lay_any w2 (HT0.out.below hb2 HT0.out.pos) P2 cp2 as1 b2 (HR2.out.later hb2) hl2)
               clear hb2 j1 HL1)
  go_wp2_with (go_at_call 7; (with_reducible refine HL2.out.mono ?_); rintro e W ⟨qb, rb, ys, gb, nb, cs, lb, rfl, j2⟩
               have HJ2 := Lib.hid j2
               have HA := Lib.hid (HJ1.out.next j2.low)
               have hb3 : Below w.heap.size w W := HB2.out.trans (j2.low.mono HB2.out.size)
               have HB3 := Lib.hid hb3
               have HT := Lib.hid (HT0.out.below hb3 HT0.out.pos)
               have LW := Lib.hid (Below.refl W.heap.size W)
               clear hb3 j2 HL2)
  have ba : Bp W (some ⟨qa, 0, none⟩) xs := .inr ⟨qa, ra, la, rfl, HA.out.b⟩
  have bb : Bp W (some ⟨qb, 0, none⟩) ys := .inr ⟨qb, rb, lb, rfl, HJ2.out.b⟩
  have hne : (some ⟨qb, 0, none⟩ : Option Addr) = some ⟨qa, 0, none⟩ → ys = xs := fun e => by
    have h1 := HJ2.out.q0
    have h2 := HJ1.out.b.lt
    cases e
    omega
  have COR := Lib.hid (two_or ba bb hne HT.out)
  have COA := Lib.hid (two_or ba ba (fun _ => rfl) HT.out)
  have CAN := Lib.hid (two_and ba bb hne HT.out)
  have CLE := Lib.hid (two_less ba bb HT.out)
  have CXO := Lib.hid (two_xor ba bb HT.out)
  have CJ0 := Lib.hid (set_0 HA.out.s HJ2.out.s HA.out.same HJ2.out.same)
  have CJ1 := Lib.hid (set_1 HA.out.s HJ2.out.s HA.out.same HJ2.out.same)
  have CJ2 := Lib.hid (set_2 HA.out.s HJ2.out.s HA.out.same HJ2.out.same)
  have CJ3 := Lib.hid (set_3 HA.out.s HJ2.out.s HA.out.same HJ2.out.same)
  have CKA := Lib.hid (fun V (hV : Below W.heap.size W V) => bo_Kind V qa ra xs la (HA.out.b.next hV))
  have CKB := Lib.hid (fun V (hV : Below W.heap.size W V) => bo_Kind V qb rb ys lb (HJ2.out.b.next hV))
  have CLA := Lib.hid (fun V (hV : Below W.heap.size W V) => bp_List (ba.next hV) (HT.out.below hV HT.out.pos))
  have CLB := Lib.hid (fun V (hV : Below W.heap.size W V) => bp_List (bb.next hV) (HT.out.below hV HT.out.pos))
  have CFA : Hid (∀ V, Below W.heap.size W V → Calls Tryz.prog 19 #[.slice (some ⟨ga, 0, none⟩) na na] V fun e w' => ∃ A c, e = .returned (.slice A xs.length c) ∧ Rh w' w'.heap.size A xs ∧ Young V.heap.size A ∧ Below V.heap.size V w') := Lib.hid (fun V hV => by
    have h := f_list V ga na bs (HA.out.s.all_below hV)
    rw [HA.out.same] at h
    exact h)
  have CFB : Hid (∀ V, Below W.heap.size W V → Calls Tryz.prog 19 #[.slice (some ⟨gb, 0, none⟩) nb nb] V fun e w' => ∃ A c, e = .returned (.slice A ys.length c) ∧ Rh w' w'.heap.size A ys ∧ Young V.heap.size A ∧ Below V.heap.size V w') := Lib.hid (fun V hV => by
    have h := f_list V gb nb cs (HJ2.out.s.all_below hV)
    rw [HJ2.out.same] at h
    exact h)
  have fa := ba.up.few
  have fb := bb.up.few
  obtain ⟨ka, hka⟩ : ∃ ka, kd la xs = ka := ⟨_, rfl⟩
  obtain ⟨kb, hkb⟩ : ∃ kb, kd lb ys = kb := ⟨_, rfl⟩
  rw [hka] at CKA
  rw [hkb] at CKB
  clear ba bb hne hka hkb
  go_wp2_with (first
    | (go_at_call 8; first
       | ((with_reducible refine (CKA.out _ LW.out).mono ?_); rintro e w4 ⟨rfl, h4⟩; replace LW := Lib.hid (LW.out.trans (h4.mono LW.out.size)); clear h4)
       | ((with_reducible refine (CKB.out _ LW.out).mono ?_); rintro e w4 ⟨rfl, h4⟩; replace LW := Lib.hid (LW.out.trans (h4.mono LW.out.size)); clear h4))
    | (go_at_call 10; first
       | ((with_reducible refine (COR.out _ LW.out).mono ?_); rintro e w5 ⟨zs, hz, q5, r5, rfl, h1, h2, h3, h4⟩
          have HNB := Lib.hid h1
          have HZS := Lib.hid hz
          have HQR := Lib.hid (And.intro h2 h3)
          replace LW := Lib.hid h4
          clear hz h1 h2 h3 h4)
       | ((with_reducible refine (COA.out _ LW.out).mono ?_); rintro e w5 ⟨zs, hz, q5, r5, rfl, h1, h2, h3, h4⟩
          have HNB := Lib.hid h1
          have HZS := Lib.hid hz
          have HQR := Lib.hid (And.intro h2 h3)
          replace LW := Lib.hid h4
          have HFI : Hid (Calls Tryz.prog 15 #[.pointer (some ⟨q5, 0, none⟩), .int .u16 0, .int .u16 9] w5 fun e w' => ∃ n : Nat, e = .returned (.int .i64 (n : Int)) ∧ ChP true w5 q5 r5 zs false 0 9 n w') := Lib.hid (box_Fill w5 q5 r5 zs false h1 (HT.out.below h4 HT.out.pos) 0 9 (by omega) (by omega))
          clear hz h1 h2 h3 h4))
    | (go_at_call 12; first
       | ((with_reducible refine (CAN.out _ LW.out).mono ?_); rintro e w5 ⟨zs, hz, q5, r5, rfl, h1, h2, h3, h4⟩
          have HNB := Lib.hid h1
          have HZS := Lib.hid hz
          have HQR := Lib.hid (And.intro h2 h3)
          replace LW := Lib.hid h4
          clear hz h1 h2 h3 h4))
    | (go_at_call 13; first
       | ((with_reducible refine (CLE.out _ LW.out).mono ?_); rintro e w5 ⟨zs, hz, q5, r5, rfl, h1, h2, h3, h4⟩
          have HNB := Lib.hid h1
          have HZS := Lib.hid hz
          have HQR := Lib.hid (And.intro h2 h3)
          replace LW := Lib.hid h4
          clear hz h1 h2 h3 h4))
    | (go_at_call 14; first
       | ((with_reducible refine (CXO.out _ LW.out).mono ?_); rintro e w5 ⟨zs, hz, q5, r5, rfl, h1, h2, h3, h4⟩
          have HNB := Lib.hid h1
          have HZS := Lib.hid hz
          have HQR := Lib.hid (And.intro h2 h3)
          replace LW := Lib.hid h4
          clear hz h1 h2 h3 h4))
    | (go_at_call 11; first
       | ((with_reducible refine (CJ0.out _ LW.out).mono ?_); rintro e w6 ⟨g6, n6, ds, rfl, k1, k2, k3, k4⟩
          have hsame : M.L ds = zs := M.sorted_ext (M.L_up ds) HNB.out.u.up (fun x => (k2 x).trans (HZS.out x).symm)
          have hlw := LW.out.trans (k4.mono LW.out.size)
          have HPL := Lib.hid (plain_law w6 q5 r5 g6 n6 zs ds (HNB.out.next k4) k1 hsame (HT.out.below hlw HT.out.pos))
          replace LW := Lib.hid hlw
          clear k1 k2 k3 k4 hsame hlw)
       | ((with_reducible refine (CJ1.out _ LW.out).mono ?_); rintro e w6 ⟨g6, n6, ds, rfl, k1, k2, k3, k4⟩
          have hsame : M.L ds = zs := M.sorted_ext (M.L_up ds) HNB.out.u.up (fun x => (k2 x).trans (HZS.out x).symm)
          have hlw := LW.out.trans (k4.mono LW.out.size)
          have HPL := Lib.hid (plain_law w6 q5 r5 g6 n6 zs ds (HNB.out.next k4) k1 hsame (HT.out.below hlw HT.out.pos))
          replace LW := Lib.hid hlw
          clear k1 k2 k3 k4 hsame hlw)
       | ((with_reducible refine (CJ2.out _ LW.out).mono ?_); rintro e w6 ⟨g6, n6, ds, rfl, k1, k2, k3, k4⟩
          have hsame : M.L ds = zs := M.sorted_ext (M.L_up ds) HNB.out.u.up (fun x => (k2 x).trans (HZS.out x).symm)
          have hlw := LW.out.trans (k4.mono LW.out.size)
          have HPL := Lib.hid (plain_law w6 q5 r5 g6 n6 zs ds (HNB.out.next k4) k1 hsame (HT.out.below hlw HT.out.pos))
          replace LW := Lib.hid hlw
          clear k1 k2 k3 k4 hsame hlw)
       | ((with_reducible refine (CJ3.out _ LW.out).mono ?_); rintro e w6 ⟨g6, n6, ds, rfl, k1, k2, k3, k4⟩
          have hsame : M.L ds = zs := M.sorted_ext (M.L_up ds) HNB.out.u.up (fun x => (k2 x).trans (HZS.out x).symm)
          have hlw := LW.out.trans (k4.mono LW.out.size)
          have HPL := Lib.hid (plain_law w6 q5 r5 g6 n6 zs ds (HNB.out.next k4) k1 hsame (HT.out.below hlw HT.out.pos))
          replace LW := Lib.hid hlw
          clear k1 k2 k3 k4 hsame hlw))
    | (go_at_call 9; (with_reducible refine HPL.out.mono ?_); rintro e w7 ⟨rfl, h7⟩; replace LW := Lib.hid (LW.out.trans (h7.mono LW.out.size)); clear h7)
    | (go_at_call 15; (with_reducible refine HFI.out.mono ?_); rintro e w8 ⟨n8, rfl, h8⟩
       obtain ⟨us, r8, h9, h10, h11⟩ := h8.new LW.out HQR.out.1 HQR.out.2
       have HWI : Hid (Calls Tryz.prog 16 #[.pointer (some ⟨q5, 0, none⟩), .int .u16 10, .int .u16 5000] w8 fun e w' => ∃ n : Nat, e = .returned (.int .i64 (n : Int)) ∧ ChP false w8 q5 r8 us false 10 5000 n w') := Lib.hid (box_Wipe w8 q5 r8 us false h9 (HT.out.below h11 HT.out.pos) 10 5000 (by omega) (by omega))
       have HQR2 := Lib.hid (And.intro HQR.out.1 h10)
       replace LW := Lib.hid h11
       clear h8 h9 h10 h11 HFI)
    | (go_at_call 16; (with_reducible refine HWI.out.mono ?_); rintro e w9 ⟨n9, rfl, h8⟩
       obtain ⟨us9, r9, h9, h10, h11⟩ := h8.new LW.out HQR2.out.1 HQR2.out.2
       replace LW := Lib.hid h11
       clear h8 h9 h10 h11 HWI)
    | (go_at_call 18; first
       | ((with_reducible refine (CLA.out _ LW.out).mono ?_); rintro e w4 ⟨v4, rfl, ho4, hb4⟩; obtain ⟨U4, c4, rfl, hr4, _⟩ := Rh.of_own ho4; have HR4 := Lib.hid hr4; replace LW := Lib.hid (LW.out.trans (hb4.mono LW.out.size)); clear hb4 ho4 hr4)
       | ((with_reducible refine (CLB.out _ LW.out).mono ?_); rintro e w4 ⟨v4, rfl, ho4, hb4⟩; obtain ⟨U4, c4, rfl, hr4, _⟩ := Rh.of_own ho4; have HR4 := Lib.hid hr4; replace LW := Lib.hid (LW.out.trans (hb4.mono LW.out.size)); clear hb4 ho4 hr4))
    | (go_at_call 19; first
       | ((with_reducible refine (CFA.out _ LW.out).mono ?_); rintro e w5 ⟨U5, c5, rfl, hr5, _, hb5⟩
          have HSA := f_same U4 U5 c4 c5 xs xs w5 _ _ ((HR4.out.below hb5 (Nat.le_refl _)).more hb5.size) hr5 (by omega) (by omega)
          rw [decide_eq_true rfl] at HSA
          replace HSA := Lib.hid HSA
          replace LW := Lib.hid (LW.out.trans (hb5.mono LW.out.size))
          clear hb5 hr5)
       | ((with_reducible refine (CFB.out _ LW.out).mono ?_); rintro e w5 ⟨U5, c5, rfl, hr5, _, hb5⟩
          have HSA := f_same U4 U5 c4 c5 ys ys w5 _ _ ((HR4.out.below hb5 (Nat.le_refl _)).more hb5.size) hr5 (by omega) (by omega)
          rw [decide_eq_true rfl] at HSA
          replace HSA := Lib.hid HSA
          replace LW := Lib.hid (LW.out.trans (hb5.mono LW.out.size))
          clear hb5 hr5))
    | (go_at_call 17; (with_reducible refine HSA.out.mono ?_); rintro e w6 ⟨rfl, n6, rfl⟩; replace LW := Lib.hid (below_drewN LW.out n6)))
  go_ret
  exact ⟨by first | rfl | simp, HB3.out.trans (LW.out.mono HB3.out.size)⟩
end Go.Proofs.YtkehehfphccpbaaGreatDoor
