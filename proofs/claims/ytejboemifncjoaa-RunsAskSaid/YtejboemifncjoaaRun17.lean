
/- The law RunsOrder; the text walked. -/
import Derived.Test.YtejboemifncjoaaRun16
namespace Go.Proofs.Ytejboemifncjoaa
open Go.RowKit
set_option maxRecDepth 100000 in
theorem neq_run (f t : Int) (W : World) : (binOp .neq 46 (.agg #[.int .u16 f, .int .u16 t]) (.agg #[.int .u16 f, .int .u16 t])).run Try.prog W = .ok (.bool false) W := by
  rw [run_neq_struct, run_equalIn_agg W 9999 _ _ _ (by kernel_rfl) (by kernel_rfl)]
  have h : (Op.eqFields 9999 #[.int .u16 f, .int .u16 t] #[.int .u16 f, .int .u16 t] (Try.prog.fieldsOf 46).toList).run Try.prog W = .ok (f == f && t == t) W := by
    have hf : ∃ a b, (Try.prog.fieldsOf 46).toList = [a, b] ∧ a.type = 31 ∧ b.type = 31 ∧ a.offset = 0 ∧ b.offset = 1 ∧ a.name = "From" ∧ b.name = "To" := ⟨_, _, rfl, rfl, rfl, rfl, rfl, rfl, rfl⟩
    obtain ⟨a, b, e1, e2, e3, e4, e5, e6, e7⟩ := hf
    rw [e1]
    have ha : (isAgg 31).run Try.prog W = .ok false W := Try.isAgg31 W
    have hq : ∀ a b, (Op.equalIn 9999 31 (.int .u16 a) (.int .u16 b)).run Try.prog W = .ok (a == b) W := fun a b => run_equalIn_int W 9998 _ .u16 .u16 a b Try.underlying31
    simp [Op.eqFields, e2, e3, e4, e5, e6, e7, part, ha, hq]
  rw [h]
  simp [Result.andThen]
/-- The numbers from behind, turned. -/
def turned (ys : List Int) (T k : Nat) : List Int := (List.range k).map fun i => ys.getD ((ys.length - 1 - i + T) % ys.length) 0
theorem turned_step (ys : List Int) (T k : Nat) (h : (ys.length - 1 - k + T) % ys.length < ys.length) : turned ys T (k + 1) = turned ys T k ++ [ys[(ys.length - 1 - k + T) % ys.length]] := by
  unfold turned
  rw [List.range_succ, List.map_append]
  show _ ++ [ys.getD _ 0] = _
  rw [List.getD_eq_getElem?_getD, List.getElem?_eq_getElem h]
  rfl
theorem turned_len (ys : List Int) (T k : Nat) : (turned ys T k).length = k := by unfold turned; rw [List.length_map, List.length_range]
theorem turned_mem (ys : List Int) (T : Nat) (y : Int) : y ∈ turned ys T ys.length ↔ y ∈ ys := by
  unfold turned
  constructor
  · intro h
    obtain ⟨i, hi, rfl⟩ := List.mem_map.1 h
    rw [List.mem_range] at hi
    have h2 : (ys.length - 1 - i + T) % ys.length < ys.length := Nat.mod_lt _ (by omega)
    rw [List.getD_eq_getElem?_getD, List.getElem?_eq_getElem h2]
    exact List.getElem_mem h2
  · intro h
    obtain ⟨j, hj, rfl⟩ := List.getElem_of_mem h
    obtain ⟨m, hm⟩ : ∃ m, m = ys.length - 1 + T - j := ⟨_, rfl⟩
    have hi : m % ys.length < ys.length := Nat.mod_lt _ (by omega)
    refine List.mem_map.2 ⟨m % ys.length, List.mem_range.2 hi, ?_⟩
    have hdm := Nat.div_add_mod m ys.length
    have e : ys.length - 1 - m % ys.length + T = j + ys.length * (m / ys.length) := by omega
    have e2 : (ys.length - 1 - m % ys.length + T) % ys.length = j := by rw [e, Nat.add_mul_mod_self_left, Nat.mod_eq_of_lt hj]
    rw [e2, List.getD_eq_getElem?_getD, List.getElem?_eq_getElem hj]
    rfl
set_option maxHeartbeats 40000000 in
set_option maxRecDepth 100000 in
theorem law_order (A : Option Addr) (cp : Nat) (xs : List Int) (T : Nat) (hT : T < 256) (w : World) (hr : Rh w w.heap.size A xs) (hl : xs.length ≤ 9223372036854775807) (hx : ∀ y ∈ xs, 0 ≤ y ∧ y ≤ 65535) :
    Calls Try.prog 6 #[.slice A xs.length cp, .int .u8 (T : Int)] w fun e w' => e = .returned (.bool true) ∧ Below w.heap.size w w' := by
  obtain ⟨i0, hi, hz0, hz1, hz2⟩ := info_parts u16_info
  have hrH := Lib.hid hr
  have hxH : Hid (∀ y ∈ xs.take 60, 0 ≤ y ∧ y ≤ 65535) := fun y hy => hx y (List.mem_of_mem_take hy)
  have hfew : ∀ W, Rh W W.heap.size A xs → Hid (Calls Try.prog 20 #[.slice A xs.length cp, .int .i64 60] W fun e w' => ∃ A' c', e = .returned (.slice A' (xs.take 60).length c') ∧ Rh w' w'.heap.size A' (xs.take 60) ∧ Young W.heap.size A' ∧ Below W.heap.size W w') := fun W h => f_few A cp xs 60 W h hl (by decide)
  clear hr hx
  obtain ⟨ys, hys⟩ : ∃ ys, xs.take 60 = ys := ⟨_, rfl⟩
  have hl3 : ys.length ≤ 60 := by rw [← hys, List.length_take]; omega
  rw [hys] at hfew hxH
  clear hys
  obtain ⟨n, hn⟩ : ∃ n, n = ys.length := ⟨_, rfl⟩
  rw [← hn] at hfew hl3
  have HN := Lib.hid hn
  have HF := Lib.hid hfew
  clear hn hfew
  go_enter Try.func6, Try.ntmps6
  go_wp2_with (go_at_call 7; (with_reducible refine (awake_any w).mono ?_); rintro e w1 ⟨rfl, hb1⟩)
  have HB1 := Lib.hid hb1
  have R1 : Hid (Rh w1 w1.heap.size A xs) := Lib.hid ((hrH.out.below hb1 (Nat.le_refl _)).more hb1.size)
  clear hb1
  go_wp2_with (go_at_call 20; (with_reducible refine (HF.out w1 R1.out).out.mono ?_); rintro e w2 ⟨A2, c2, rfl, hr2, -, hb2⟩; replace hr2 := Lib.hid hr2; replace hb2 := Lib.hid hb2)
  have HB2 := Lib.hid (HB1.out.trans (hb2.out.mono HB1.out.size))
  clear hb2 R1 HF HB1
  have wT : IntKind.i64.wrap (T : Int) = (T : Int) := IntWalk.i64_in _ (by omega)
  go_loopw [5, 16] (fun vb vi wr => ∃ k : Nat, k ≤ n ∧ vi = .int .i64 k ∧ wr.ownsRow w2.heap.size 31 1 vb k (hv (turned ys T k)) ∧ Below w2.heap.size w2 wr) (fun _ vi _ => n - (intOf vi).toNat)
  case atStart => exact ⟨0, Nat.zero_le _, rfl, by simp [World.ownsRow_nil, turned], Below.refl _ _⟩
  case round =>
    obtain ⟨k, hk, rfl, hown, hb⟩ := hrel
    by_cases hlt : k < n
    · obtain ⟨j, hj⟩ : ∃ j, j = (n - 1 - k + T) % n := ⟨_, rfl⟩
      have hjn : j < n := by rw [hj]; exact Nat.mod_lt _ (by omega)
      have hjy : j < ys.length := by rw [← HN.out]; exact hjn
      have hji : ((n : Int) - 1 - (k : Int) + (T : Int)) % (n : Int) = (j : Int) := by
        rw [hj, Int.natCast_emod]
        congr 1
        omega
      have hs := Lib.hid (turned_step ys T k (by rw [← HN.out, ← hj]; exact hjn))
      have hjs : ys[(ys.length - 1 - k + T) % ys.length]'(by rw [← HN.out, ← hj]; exact hjn) = ys[j] := by congr 1; rw [hj, HN.out]
      rw [hjs] at hs
      obtain ⟨b, off, hA, _, hcell⟩ := (hr2.out.below hb (Nat.le_refl _)).at hjy
      subst hA
      obtain ⟨y, hy⟩ : ∃ y, y = ys[j] := ⟨_, rfl⟩
      rw [← hy] at hcell hs
      have hlen : (turned ys T k).length = k := turned_len ys T k
      have wa : IntKind.i64.wrap ((n : Int) - 1) = (n : Int) - 1 := IntWalk.i64_in _ (by omega)
      have wb : IntKind.i64.wrap ((n : Int) - 1 - (k : Int)) = (n : Int) - 1 - (k : Int) := IntWalk.i64_in _ (by omega)
      have wc : IntKind.i64.wrap ((n : Int) - 1 - (k : Int) + (T : Int)) = (n : Int) - 1 - (k : Int) + (T : Int) := IntWalk.i64_in _ (by omega)
      have hnn : (0 : Int) ≤ (n : Int) - 1 - (k : Int) + (T : Int) := by omega
      have hn0 : ((n : Int) == 0) = false := by rw [beq_eq_false_iff_ne]; omega
      have hn1 : ¬ (n : Int) = 0 := by omega
      have hjl : (j : Int) < (n : Int) := by omega
      clear hj hjs hy
      generalize turned ys T k = ds at *
      have hownD : wr.ownsRow w2.heap.size 31 1 u5 ds.length (hv ds) := by rw [hlen]; exact hown
      go_wp2_with (at_builtin; refine wpList_append_own _ rfl _ _ 40 rfl w2.heap.size 31 i0 (.int .u16 0) 1 2 Try.underlying40 hi hz0 hz1 hz2 rfl (by decide) _ _ _ rfl (hownD.alloc _) ⟨wr.heap.size, 0, none⟩ 1 1 [.int .u16 y] rfl rfl ?c1 ?c2 ?c3 ?c4 ?c5 ?_)
      case c1 => exact cell_oneB _ _ _
      case c2 => first | exact one_intB _ _ | rfl
      case c3 => unfold maxLen; omega
      case c4 => omega
      case c5 => have := hb.size; simp; omega
      intro v' wn hown' hgrow _
      obtain ⟨hown2, hb2⟩ := own_snocH hb hownD (by rw [hlen]; exact hown') hgrow
      rw [← hs.out, hs.out, show (ds ++ [y]).length = k + 1 by rw [List.length_append, hlen]; rfl] at hown2
      clear hown' hgrow hown hb hownD
      go_wp2
      go_roundw
      case rel => exact ⟨k + 1, by omega, by go_num, by rw [hs.out]; exact hown2, hb2⟩
      case measure => simp [intOf]; omega
    · obtain rfl : k = n := by omega
      have hlen : (turned ys T k).length = k := turned_len ys T k
      have hownD : wr.ownsRow w2.heap.size 31 1 u5 (turned ys T k).length (hv (turned ys T k)) := by rw [hlen]; exact hown
      obtain ⟨Ab, cb, hvb, rb, _⟩ := Rh.of_own hownD
      rw [hlen] at hvb
      subst hvb
      have HBM : Hid (∀ y, y ∈ turned ys T k ↔ y ∈ ys) := Lib.hid (fun y => by rw [HN.out]; exact turned_mem ys T y)
      have HBL := Lib.hid hlen
      have RB := Lib.hid rb
      have HB3 := Lib.hid (HB2.out.trans (hb.mono HB2.out.size))
      have R3 := Lib.hid ((hr2.out.below hb (Nat.le_refl _)).more hb.size)
      clear hown hownD rb hb hlen hr2
      generalize turned ys T k = zs at *
      obtain ⟨w3, hw3⟩ : ∃ w3, w3 = wr := ⟨_, rfl⟩
      subst hw3
      have HX : Hid (∀ y ∈ zs, 0 ≤ y ∧ y ≤ 65535) := Lib.hid (fun y hy => hxH.out y ((HBM.out y).1 hy))
      have CA := Lib.hid (r_add w3 0 0 0 w3.heap.size k c2 none A2 [] ys rfl (Rq.nil _ _ _) (Nat.zero_le _) Rn.Ok.nil HN.out R3.out (Nat.le_refl _) hxH.out (by omega))
      have LW3 := Lib.hid (Below.refl w3.heap.size w3)
      go_wp2_with (first
        | (go_at_call 28; (with_reducible refine CA.out.mono ?_); rintro e w4 ⟨va, aq, rfl, a1, a2, a3, a4⟩
           obtain ⟨Aa, ca, hva, ra, _⟩ := Rq.of_own a3
           subst hva
           have A1 := Lib.hid a1
           have AV := Lib.hid a2
           have AL := Lib.hid a4
           have RA := Lib.hid ra
           have CB := Lib.hid (r_add w4 0 0 0 w3.heap.size k cb none Ab [] zs rfl (Rq.nil _ _ _) (Nat.zero_le _) Rn.Ok.nil HBL.out.symm (RB.out.below a4 (Nat.le_refl _)) a4.size HX.out (by omega))
           clear a1 a2 a3 a4 ra CA)
        | (go_at_call 28; (with_reducible refine CB.out.mono ?_); rintro e w5 ⟨vb, bs, rfl, b1, b2, b3, b4⟩
           obtain ⟨Ac, cc, hvb, rb, _⟩ := Rq.of_own b3
           subst hvb
           have EB : bs = aq := Rn.ok_ext b1 A1.out (fun x => (b2 x).trans (Iff.trans (or_congr Iff.rfl (HBM.out x)) (AV.out x).symm))
           subst EB
           have RA5 := Lib.hid ((RA.out.below b4 (Nat.le_refl _)).more b4.size)
           have RC5 := Lib.hid rb
           have BL := Lib.hid (AL.out.trans (b4.mono AL.out.size))
           obtain ⟨q, hq⟩ : ∃ q, bs.length = q := ⟨_, rfl⟩
           rw [hq]
           have HQ := Lib.hid hq
           clear b1 b2 b3 b4 rb CB hq))
      have hq6 : q ≤ 65536 := by rw [← HQ.out]; exact ok_len A1.out
      go_loopw [48] (fun vi wr => ∃ j : Nat, j ≤ q ∧ vi = .int .i64 j ∧ Hid (∃ m, wr = w5.drewN m)) (fun vi _ => q - (intOf vi).toNat)
      case atStart => exact ⟨0, Nat.zero_le _, rfl, Lib.hid ⟨0, rfl⟩⟩
      case round =>
        obtain ⟨j, hj, rfl, HD⟩ := hrel
        obtain ⟨m, hm⟩ := HD.out
        have RAw : Hid (Rq wr w5.heap.size Aa bs ∧ Rq wr w5.heap.size Ac bs) := Lib.hid (by rw [hm]; exact ⟨RA5.out.drew m, RC5.out.drew m⟩)
        have HM := Lib.hid hm
        clear hm
        by_cases hlt : j < q
        · have hjq : j < bs.length := by rw [HQ.out]; exact hlt
          obtain ⟨b1, o1, hA1, _, d1, d2⟩ := RAw.out.1.at hjq
          obtain ⟨b2, o2, hA2, _, d3, d4⟩ := RAw.out.2.at hjq
          subst hA1 hA2
          obtain ⟨x, hx⟩ : ∃ x, x = bs[j] := ⟨_, rfl⟩
          rw [← hx] at d1 d2 d3 d4
          clear hx
          obtain ⟨f, t⟩ := x
          simp only at d1 d2 d3 d4
          have hji : (j : Int) < (q : Int) := by omega
          have hnq : ∀ W : World, (binOp .neq 46 (.agg #[.int .u16 f, .int .u16 t]) (.agg #[.int .u16 f, .int .u16 t])).run Try.prog W = .ok (.bool false) W := fun W => neq_run f t W
          go_wp2
          go_quiet (fail)
          go_wp2
          go_roundw
          case rel => exact ⟨j + 1, by omega, by go_num, Lib.hid ⟨m + nq, by rw [HM.out]; simp⟩⟩
          case measure => simp [intOf]; omega
        · have hm := HM.out
          subst hm
          have CIS := Lib.hid (r_is (w5.drewN m) w5.heap.size q ca Aa bs HQ.out.symm (RA5.out.drew m) (Nat.le_refl _) (fun r hr => by have g := A1.out.1 r hr; unfold Rn.Good at g; omega) (by omega) true (iff_of_true rfl (ok_ga A1.out)))
          have LW5 : Hid (Below w5.heap.size w5 (w5.drewN m)) := Lib.hid (below_drewN (Below.refl _ _) m)
          obtain ⟨L0, hL0⟩ : ∃ L0, (Rn.flat bs).length = L0 := ⟨_, rfl⟩
          have hL6 : L0 ≤ 65536 := by rw [← hL0]; exact ok_flat A1.out
          have HL0 := Lib.hid hL0
          have CLN : Hid (∀ W, Below w5.heap.size w5 W → Calls Try.prog 29 #[.slice Aa q ca] W fun e w' => e = .returned (.int .i64 (L0 : Int)) ∧ Below w5.heap.size w5 w') := Lib.hid (fun W hW => by
            refine (r_len W w5.heap.size q ca Aa bs HQ.out.symm (RA5.out.below hW (Nat.le_refl _)) hW.size A1.out.1 (by rw [HL0.out]; omega) (by omega)).mono ?_
            rintro e w' ⟨rfl, h⟩
            exact ⟨by rw [HL0.out], hW.trans (h.mono hW.size)⟩)
          have R35 : Hid (Rh w5 w5.heap.size A2 ys) := Lib.hid ((R3.out.below BL.out (Nat.le_refl _)).more BL.out.size)
          have RB5 : Hid (Rh w5 w5.heap.size Ab zs) := Lib.hid ((RB.out.below BL.out (Nat.le_refl _)).more BL.out.size)
          have COF : Hid (∀ W, Below w5.heap.size w5 W → Calls Try.prog 22 #[.slice A2 k c2] W fun e w' => ∃ g n bs, e = .returned (.slice (some ⟨g, 0, none⟩) n n) ∧ Bs w' g n bs ∧ OfL (M.L bs) ys ∧ Below w5.heap.size w5 w') := Lib.hid (fun W hW => by
            rw [HN.out]
            refine (f_of A2 c2 ys W ((R35.out.below hW (Nat.le_refl _)).more hW.size) (by have := HN.out; omega) hxH.out).mono ?_
            rintro e w' ⟨g, n, cs, rfl, h1, h2, _, h4⟩
            exact ⟨g, n, cs, rfl, h1, h2, hW.trans (h4.mono hW.size)⟩)
          have CDR : Hid (∀ W, Below w5.heap.size w5 W → Calls Try.prog 31 #[.slice Aa q ca, .slice Ab k cb] W fun e w' => ∃ A c, e = .returned (.slice A 0 c) ∧ Below w5.heap.size w5 w') := Lib.hid (fun W hW => by
            refine (r_drop W w5.heap.size q ca w5.heap.size k cb Aa Ab bs zs HQ.out.symm (RA5.out.below hW (Nat.le_refl _)) hW.size A1.out HBL.out.symm (RB5.out.below hW (Nat.le_refl _)) hW.size HX.out (by omega)).mono ?_
            rintro e w' ⟨val, os, rfl, o1, o2, o3, o4⟩
            have ho : os = [] := Rn.ok_ext o1 Rn.Ok.nil (fun x => by
              refine (o2 x).trans ⟨fun h => ?_, fun h => absurd h (Rn.V_nil x)⟩
              have h1 : x ∈ ys := ((AV.out x).1 h.1).elim (fun h => absurd h (Rn.V_nil x)) id
              exact absurd ((HBM.out x).2 h1) h.2)
            subst ho
            obtain ⟨A', c', rfl, _, _⟩ := Rq.of_own o3
            exact ⟨A', c', rfl, hW.trans (o4.mono hW.size)⟩)
          have HEQ : Hid (∀ cs, OfL (M.L cs) ys → (M.L cs).length = L0) := Lib.hid (fun cs h => by
            rw [← HL0.out, M.sorted_ext h.1 (Rn.flat_up A1.out) fun x => by rw [h.2 x, Rn.mem_flat]; exact ⟨fun hx => (AV.out x).2 (.inr hx), fun hx => ((AV.out x).1 hx).elim (fun h => absurd h (Rn.V_nil x)) id⟩])
          clear hL0
          go_wp2_with (first
            | (go_at_call 27; (with_reducible refine CIS.out.mono ?_); rintro e w6 ⟨rfl, h6⟩; have LW := Lib.hid (LW5.out.trans (h6.mono (Nat.le_refl _))); clear h6 CIS LW5)
            | (go_at_call 29; (with_reducible refine (CLN.out _ LW.out).mono ?_); rintro e w7 ⟨rfl, h7⟩; clear LW; have LW := Lib.hid h7; clear h7)
            | (go_at_call 22; (with_reducible refine (COF.out _ LW.out).mono ?_); rintro e w8 ⟨g8, n8, cs, rfl, s8, o8, h8⟩; clear LW; have LW := Lib.hid h8; have S8 := Lib.hid s8; have O8 := Lib.hid o8; clear h8 s8 o8
               have CLS : Hid (Calls Try.prog 30 #[.slice (some ⟨g8, 0, none⟩) n8 n8] w8 fun e w' => ∃ A c, e = .returned (.slice A L0 c) ∧ Below w5.heap.size w5 w') := Lib.hid (by
                 refine (f_list w8 g8 n8 cs S8.out).mono ?_
                 rintro e w' ⟨A', c', rfl, _, _, h⟩
                 exact ⟨A', c', by rw [HEQ.out cs O8.out], LW.out.trans (h.mono LW.out.size)⟩))
            | (go_at_call 30; (with_reducible refine CLS.out.mono ?_); rintro e w9 ⟨A9, c9, rfl, h9⟩; clear LW; have LW := Lib.hid h9; clear h9 CLS)
            | (go_at_call 31; (with_reducible refine (CDR.out _ LW.out).mono ?_); rintro e w10 ⟨A10, c10, rfl, h10⟩; clear LW; have LW := Lib.hid h10; clear h10))
          go_ret
          exact ⟨by simp, HB3.out.trans ((BL.out.trans (LW.out.mono BL.out.size)).mono HB3.out.size)⟩
end Go.Proofs.Ytejboemifncjoaa
