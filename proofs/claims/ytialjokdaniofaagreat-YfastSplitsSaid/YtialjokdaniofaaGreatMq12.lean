/- A gap is closed; the text walked. Plain facts on moving all entries to other places. All entries are moved to other places; the text walked. -/
import Derived.Deep.RegionHeld3
import Derived.Test.YtialjokdaniofaaGreatMq11
import Derived.Test.YtialjokdaniofaaGreatMq10
section
namespace Go.Proofs.YtialjokdaniofaaGreat.Hs
set_option maxRecDepth 4000
open Go.RowKit
/-- An entry is laid into place i. -/
def put4 (w : World) (Q i : Nat) (e : H.En) : World :=
  (((w.setCell ⟨Q, i * 4, none⟩ (.int .u8 (e.l : Int))).setCell ⟨Q, i * 4 + 1, none⟩ (.int .u64 (e.p : Int))).setCell ⟨Q, i * 4 + 2, none⟩ (.int .u64 (e.v : Int))).setCell ⟨Q, i * 4 + 3, none⟩ (.bool e.t)
theorem put4_but (w : World) (Q i : Nat) (e : H.En) (S : Nat → Prop) (h : S Q) : ButS w (put4 w Q i e) S :=
  (((but_set' w Q _ _ S h).trans (but_set' _ Q _ _ S h)).trans (but_set' _ Q _ _ S h)).trans (but_set' _ Q _ _ S h)
theorem Tb.store {w : World} {P Q M seed c pr : Nat} {ps : List H.En} (a : Tb w P Q M seed c pr ps) (i : Nat) (hi : i < ps.length) (e : H.En) (he : e.l < 256 ∧ e.p < 18446744073709551616 ∧ e.v < 18446744073709551616) : Tb (put4 w Q i e) P Q M seed c pr (ps.set i e) := by
  have hb := put4_but w Q i e (· = Q) rfl
  refine ⟨by rw [List.length_set]; exact (hb.block P a.row.lt a.ne).trans a.row, ?_, by rw [List.length_set]; exact a.pw, fun x hx => ?_⟩
  · have h := set_heap (set_heap (set_heap (set_heap a.pl (i * 4) (.int .u8 (e.l : Int))) (i * 4 + 1) (.int .u64 (e.p : Int))) (i * 4 + 2) (.int .u64 (e.v : Int))) (i * 4 + 3) (.bool e.t)
    have hs := ev_set ps i e hi
    rw [← hs]
    simpa [put4] using h
  · rcases List.mem_or_eq_of_mem_set hx with hx | rfl
    · exact a.rng x hx
    · exact he
def ClosedP (w : World) (P Q M seed c pr : Nat) (ps : List H.En) (s : Nat) (e : Ending) (w' : World) : Prop :=
  ∃ (qs : List H.En) (j : Nat), e = .returned (.tuple #[]) ∧ Tb w' P Q M seed c (pr + j + 1) qs ∧ H.Inv ps.length (hmN seed ps.length) qs ∧ (H.ents qs).Perm (H.ents (ps.set s H.z)) ∧
    (∀ h d, h < ps.length → H.Scan ps.length h ps s d → d + (j + 1) + 1 ≤ ps.length) ∧ ButS w w' (fun x => x = P ∨ x = Q)
set_option maxHeartbeats 2000000 in
theorem t_close (w : World) (P Q M seed c pr : Nat) (ps : List H.En) (a : Tb w P Q M seed c pr ps) (I : H.Inv ps.length (hmN seed ps.length) ps) (s : Nat) (hs : s < ps.length) (hst : (H.ge ps s).t = true)
    (hf : ∃ f, f < ps.length ∧ (H.ge ps f).t = false) (hpr : pr ≤ ps.length) :
    Calls Tryz.prog 136 #[.pointer (some ⟨P, 0, none⟩), .int .i64 (s : Int)] w (ClosedP w P Q M seed c pr ps s) := by
  obtain ⟨q, hq, hq3, hn⟩ := a.pw
  have hl8 := a.len
  have hh : ∀ k, hmN seed ps.length k < ps.length := fun k => hmN_lt seed ps.length k (by omega)
  have hG := Lib.hid (H.gap_start I (by omega) hs hst)
  have hbe := Lib.hid (t_behind w P Q M seed ps.length c pr q a.row hn (by omega) s hs)
  have HA := Lib.hid a
  have HN := Lib.hid hn
  have HF := Lib.hid hf
  have HH := Lib.hid hh
  clear a hn hf I hst hh
  go_enter Tryz.func136, Tryz.ntmps136
  go_wp2_with (go_at_call 148; (with_reducible refine hbe.out.mono ?_); rintro e w' ⟨rfl, rfl⟩)
  go_loopw [1, 4] (fun ug ui wr => ∃ (g i j : Nat) (qs : List H.En), ug = .int .i64 (g : Int) ∧ ui = .int .i64 (i : Int) ∧ Hid (qs.length = ps.length) ∧ Hid (Tb wr P Q M seed c (pr + j) qs) ∧ Hid (H.Gap ps.length (hmN seed ps.length) ps s (qs.set g H.z) g i (j + 1)) ∧ Hid ((H.ents (qs.set g H.z)).Perm (H.ents (ps.set s H.z))) ∧ Hid (ButS w wr (fun x => x = P ∨ x = Q)))
    (fun _ ui _ => ps.length - H.wy ps.length s (intOf ui).toNat)
  case atStart => exact ⟨s, H.nx ps.length s, 0, ps, rfl, rfl, Lib.hid rfl, HA, hG, Lib.hid (List.Perm.refl _), Lib.hid (ButS.refl _ _)⟩
  case round =>
    obtain ⟨g, i, j, qs, rfl, rfl, HL, HT, HG, HP, HW⟩ := hrel
    clear hG hbe
    have hi := HG.out.ilt
    have hg := HG.out.glt
    have hne := HG.out.ne
    have hgi : H.ge (qs.set g H.z) i = H.ge qs i := H.ge_set_ne hne
    have hiq : i < qs.length := by rw [HL.out]; exact hi
    have hgq : g < qs.length := by rw [HL.out]; exact hg
    obtain ⟨x0, x1, x2, x3⟩ := HT.out.cellg i hiq
    have p2 := HT.out.row.c2
    obtain ⟨z0, z1, z2, z3⟩ := HT.out.cellg g hgq
    have g0 := HT.out.qfr (g * 4)
    have g1 := HT.out.qfr (g * 4 + 1)
    have g2 := HT.out.qfr (g * 4 + 2)
    have g3 := HT.out.qfr (g * 4 + 3)
    have hPQ := HT.out.ne
    have p4 := HT.out.row.c4
    have f4 := HT.out.row.fr 4
    have hjn : j + 1 < ps.length := by have := HG.out.way; have := H.wy_lt hs hi; omega
    have wd1 : IntKind.i64.wrap (((pr + j : Nat) : Int) + 1) = ((pr + j + 1 : Nat) : Int) := by rw [IntWalk.i64_in _ (by omega)]; omega
    rw [HL.out] at p2
    have HGI := Lib.hid hgi
    clear hgi
    cases ht : (H.ge qs i).t with
    | false =>
      rw [ht] at x3
      have HTt := Lib.hid ht
      clear ht x0 x1 x2
      generalize hL : ps.length = n at *
      have HLn := Lib.hid hL
      clear hL
      go_wp2
      refine bodyPost_ret (results_none rfl _ _ _) rfl ?_
      have T1 := HT.out.setp (pr + j + 1)
      rw [show ((pr + j + 1 : Nat) : Int) = (pr : Int) + (j : Int) + 1 by omega] at T1
      have T2 := T1.store g hgq H.z (by decide)
      have hfr : (H.ge (qs.set g H.z) i).t = false := by rw [HGI.out]; exact HTt.out
      refine ⟨qs.set g H.z, j, rfl, T2, ?_, HP.out, ?_, ?_⟩
      · rw [HLn.out]; exact HG.out.done HH.out hfr
      · rw [HLn.out]; exact fun h d hh sc => H.gap_probes HG.out hs hh sc hfr
      · exact (HW.out.trans (but_set' _ P _ _ _ (.inl rfl))).trans (put4_but _ Q g H.z _ (.inr rfl))
    | true =>
      rw [ht] at x3
      have HTt := Lib.hid ht
      have T1 := HT.out.setp (pr + j + 1)
      have hrng := HT.out.rngg i hiq
      have hqe : (H.ge qs i).t = (H.ge (qs.set g H.z) i).t := by rw [HGI.out]
      have hm1 := HG.out.more hs (by rw [HGI.out]; exact ht) HF.out
      have hms := Lib.hid (show ps.length - H.wy ps.length s (H.nx ps.length i) < ps.length - H.wy ps.length s i by
        rw [H.wy_nx hs (by rw [HG.out.way]; exact hm1)]; have := H.wy_lt hs hi; omega)
      have HE := Lib.hid (rfl : H.ge qs i = H.ge qs i)
      have r1 := hrng.1
      have hwg : H.wy ps.length g i < ps.length := H.wy_lt hg hi
      have hho := Lib.hid (t_home _ P Q M seed qs.length c (pr + j + 1) q T1.row (HL.out.trans HN.out) (by omega) (H.ge qs i).k hrng.1)
      have hwh : H.wy ps.length (hmN seed ps.length (H.ge qs i).k) i < ps.length := H.wy_lt (HH.out _) hi
      rw [show ((pr + j + 1 : Nat) : Int) = (pr : Int) + (j : Int) + 1 by omega] at T1 hho
      rw [HL.out] at hho
      have HT1 := Lib.hid T1
      have hrr : (H.ge qs i).l < 256 ∧ (H.ge qs i).p < 18446744073709551616 ∧ (H.ge qs i).v < 18446744073709551616 := hrng
      clear ht T1 hqe hrng
      have hst : (H.ge qs i).t = true := HTt.out
      have HST := Lib.hid hst
      clear hst
      generalize hee : H.ge qs i = ee at *
      have HEE := Lib.hid hee
      clear hee
      have HHk := Lib.hid (HH.out ee.k)
      by_cases hw : H.wy ps.length g i ≤ H.wy ps.length (hmN seed ps.length ee.k) i
      · have d1 : decide (H.wy ps.length g i ≤ H.wy ps.length (hmN seed ps.length ee.k) i) = true := decide_eq_true hw
        have d2 : decide ((H.wy ps.length g i : Int) ≤ (H.wy ps.length (hmN seed ps.length ee.k) i : Int)) = true := decide_eq_true (by omega)
        have HWy := Lib.hid hw
        clear hw
        generalize hL : ps.length = n at *
        have HLn := Lib.hid hL
        clear hL
        go_wp2_with (first
          | (go_at_call 147; (with_reducible refine hho.out.mono ?_); rintro e w2 ⟨rfl, hb2⟩
             have HT2 := Lib.hid (HT1.out.below hb2 (Nat.le_refl _))
             have HB2 := Lib.hid ((but_set' wr P 4 (.int .i64 ((pr : Int) + (j : Int) + 1)) (fun x => x = P ∨ x = Q) (.inl rfl)).trans (ButS.of_below hb2 (Nat.le_refl _)))
             have hwa := Lib.hid (t_way w2 P Q M seed qs.length c (pr + j + 1) q HT2.out.row (HL.out.trans HN.out) (by omega) (hmN seed n ee.k) i (by rw [HL.out]; exact HHk.out) hiq)
             have hwb := Lib.hid (t_way w2 P Q M seed qs.length c (pr + j + 1) q HT2.out.row (HL.out.trans HN.out) (by omega) g i hgq hiq)
             rw [HL.out] at hwa hwb
             obtain ⟨v0, v1, v2, v3⟩ := HT2.out.cellg i hiq
             rw [HEE.out] at v0 v1 v2 v3
             rw [HST.out] at v3
             obtain ⟨y0, y1, y2, y3⟩ := HT2.out.cellg g hgq
             have k0 := HT2.out.qfr (g * 4)
             have k1 := HT2.out.qfr (g * 4 + 1)
             have k2 := HT2.out.qfr (g * 4 + 2)
             have k3 := HT2.out.qfr (g * 4 + 3)
             have q2 := HT2.out.row.c2
             rw [HL.out] at q2
             have t3 := HT2.out.store g hgq ee hrr
             have hl3 : (qs.set g ee).length = n := by rw [List.length_set]; exact HL.out
             have hb3 := Lib.hid (t_behind (World.drew (put4 w2 Q g ee)) P Q M seed (qs.set g ee).length c (pr + j + 1) q t3.row (hl3.trans HN.out) (by omega) i (by omega))
             rw [hl3] at hb3
             have B3 := put4_but w2 Q g ee (fun x => x = P ∨ x = Q) (.inr rfl)
             unfold put4 at t3 hb3 B3
             rw [HST.out] at t3 hb3 B3
             have HT3 := Lib.hid t3
             have HB3 := Lib.hid B3
             have HL3 := Lib.hid hl3
             clear t3 hl3 B3
             clear hb2)
          | (go_at_call 148; (with_reducible refine hb3.out.mono ?_); rintro e w4 ⟨rfl, rfl⟩)
          | (go_at_call 154; (with_reducible refine hwa.out.mono ?_); rintro e w3 ⟨rfl, rfl⟩; clear hwa)
          | (go_at_call 154; (with_reducible refine hwb.out.mono ?_); rintro e w3 ⟨rfl, rfl⟩; clear hwb))
        go_region
        go_wp2_with (go_at_call 148; (with_reducible refine hb3.out.mono ?_); rintro e w4 ⟨rfl, rfl⟩)
        go_roundw
        case rel =>
          have hgm := HG.out.move hs HH.out (by rw [HGI.out]; exact HST.out) (by omega) (by rw [HGI.out]; exact HWy.out)
          have hge := H.gap_move_ents HG.out (by rw [HGI.out]; exact HST.out)
          rw [HGI.out, List.set_set] at hgm hge
          exact ⟨i, H.nx n i, j + 1, qs.set g ee, rfl, rfl, HL3, Lib.hid (HT3.out.drewN 1), Lib.hid hgm, Lib.hid (hge.trans HP.out), Lib.hid ((HW.out.trans (HB2.out.trans HB3.out)).drewN 1)⟩
        case measure => exact hms.out
      · have d1 : decide (H.wy ps.length g i ≤ H.wy ps.length (hmN seed ps.length ee.k) i) = false := decide_eq_false hw
        have d2 : decide ((H.wy ps.length g i : Int) ≤ (H.wy ps.length (hmN seed ps.length ee.k) i : Int)) = false := decide_eq_false (by omega)
        have HWy := Lib.hid hw
        clear hw
        generalize hL : ps.length = n at *
        have HLn := Lib.hid hL
        clear hL
        go_wp2_with (first
          | (go_at_call 147; (with_reducible refine hho.out.mono ?_); rintro e w2 ⟨rfl, hb2⟩
             have HT2 := Lib.hid (HT1.out.below hb2 (Nat.le_refl _))
             have HB2 := Lib.hid ((but_set' wr P 4 (.int .i64 ((pr : Int) + (j : Int) + 1)) (fun x => x = P ∨ x = Q) (.inl rfl)).trans (ButS.of_below hb2 (Nat.le_refl _)))
             have hwa := Lib.hid (t_way w2 P Q M seed qs.length c (pr + j + 1) q HT2.out.row (HL.out.trans HN.out) (by omega) (hmN seed n ee.k) i (by rw [HL.out]; exact HHk.out) hiq)
             have hwb := Lib.hid (t_way w2 P Q M seed qs.length c (pr + j + 1) q HT2.out.row (HL.out.trans HN.out) (by omega) g i hgq hiq)
             have hb3 := Lib.hid (t_behind w2 P Q M seed qs.length c (pr + j + 1) q HT2.out.row (HL.out.trans HN.out) (by omega) i hiq)
             rw [HL.out] at hwa hwb hb3
             clear hb2)
          | (go_at_call 154; (with_reducible refine hwa.out.mono ?_); rintro e w3 ⟨rfl, rfl⟩; clear hwa)
          | (go_at_call 154; (with_reducible refine hwb.out.mono ?_); rintro e w3 ⟨rfl, rfl⟩; clear hwb)
          | (go_at_call 148; (with_reducible refine hb3.out.mono ?_); rintro e w4 ⟨rfl, rfl⟩))
        go_roundw
        case rel =>
          have hgm := HG.out.stay hs HH.out (by rw [HGI.out]; exact HST.out) (by omega) (by rw [HGI.out]; exact HWy.out)
          exact ⟨g, H.nx n i, j + 1, qs, rfl, rfl, HL, HT2, Lib.hid hgm, HP, Lib.hid (HW.out.trans HB2.out)⟩
        case measure => exact hms.out
end Go.Proofs.YtialjokdaniofaaGreat.Hs
end
section
namespace Go.Proofs.YtialjokdaniofaaGreat.Hs.H
set_option maxRecDepth 4000
theorem ge_take {ps : List En} {k j : Nat} (h : j < k) : ge (ps.take k) j = ge ps j := by
  unfold ge; rw [List.getElem?_take_of_lt h]
theorem ents_take_succ {ps : List En} {k : Nat} (h : k < ps.length) : ents (ps.take (k + 1)) = ents (ps.take k) ++ (if (ge ps k).t = true then [((ge ps k).k, (ge ps k).v)] else []) := by
  rw [List.take_succ_eq_append_getElem h, ents_append, ents_cons, ents_nil, List.append_nil, ge_get h]
theorem ents_take_le (ps : List En) (k : Nat) : (ents (ps.take k)).length ≤ (ents ps).length := by
  have : ents ps = ents (ps.take k) ++ ents (ps.drop k) := by rw [← ents_append, List.take_append_drop]
  rw [this, List.length_append]; omega
theorem move_absent {n : Nat} {hm : Key → Nat} {ps ts : List En} {k : Nat} (I : Inv n hm ps) (hk : k < n) (ht : (ge ps k).t = true) (hp : (ents ts).Perm (ents (ps.take k))) : Absent ts (ge ps k).k := by
  rw [absent_iff]
  intro x hx e
  obtain ⟨j, hj, hjt, rfl⟩ := ents_mem.1 (hp.mem_iff.1 hx)
  have hjk : j < k := by rw [List.length_take] at hj; omega
  rw [ge_take hjk] at hjt e
  have := I.key j k (by omega) hk hjt ht e
  omega
theorem move_put {ps ts : List En} {k i : Nat} (hk : k < ps.length) (ht : (ge ps k).t = true) (hp : (ents ts).Perm (ents (ps.take k))) (hi : i < ts.length) (hf : (ge ts i).t = false) :
    (ents (ts.set i (ge ps k))).Perm (ents (ps.take (k + 1))) := by
  have h1 := ents_put (ge ps k) hi hf ht
  rw [ents_take_succ hk, if_pos ht]
  exact h1.trans ((hp.cons _).trans (List.perm_append_comm (l₁ := [((ge ps k).k, (ge ps k).v)])))
theorem move_skip {ps ts : List En} {k : Nat} (hk : k < ps.length) (ht : (ge ps k).t = false) (hp : (ents ts).Perm (ents (ps.take k))) : (ents ts).Perm (ents (ps.take (k + 1))) := by
  rw [ents_take_succ hk, ht]
  simpa using hp
theorem move_free {ps ts : List En} {k n : Nat} (hp : (ents ts).Perm (ents (ps.take k))) (h : (ents ps).length < n) (hl : ts.length = n) : ∃ f, f < n ∧ (ge ts f).t = false := by
  have := ents_take_le ps k
  have h2 := hp.length_eq
  obtain ⟨f, hf, ht⟩ := free_of (ps := ts) (by omega)
  exact ⟨f, by omega, ht⟩
theorem en_eta (e : En) (h : e.t = true) : (⟨e.k.1, e.k.2, e.v, true⟩ : En) = e := by
  cases e; simp at h; simp [h]
end Go.Proofs.YtialjokdaniofaaGreat.Hs.H
end
section
namespace Go.Proofs.YtialjokdaniofaaGreat.Hs
set_option maxRecDepth 4000
open Go.RowKit
theorem made_ev (n : Nat) : madeCells #[.int .u8 0, .int .u64 0, .int .u64 0, .bool false] (n * 4) = (ev (List.replicate n H.z)).toArray := by
  apply Array.ext
  · simp [madeCells, ev_len]
  · intro i h1 h2
    have hn : i < n * 4 := by simpa [madeCells] using h1
    have hk : i / 4 < (List.replicate n H.z).length := by rw [List.length_replicate]; omega
    have h := ev_at (List.replicate n H.z) (i / 4) hk
    have hz : (List.replicate n H.z)[i / 4] = H.z := by simp
    rw [hz] at h
    have hm : i % 4 = 0 ∨ i % 4 = 1 ∨ i % 4 = 2 ∨ i % 4 = 3 := by omega
    have hL : some ((madeCells #[.int .u8 0, .int .u64 0, .int .u64 0, .bool false] (n * 4))[i]) = (ev (List.replicate n H.z))[i]? → (madeCells #[.int .u8 0, .int .u64 0, .int .u64 0, .bool false] (n * 4))[i] = (ev (List.replicate n H.z)).toArray[i] := by
      intro e
      have h2' : i < (ev (List.replicate n H.z)).length := by simpa using h2
      rw [List.getElem?_eq_getElem h2'] at e
      injection e
    apply hL
    rcases hm with e | e | e | e
    · have ei : i = i / 4 * 4 := by omega
      conv => rhs; rw [ei]
      rw [h.1]; simp [madeCells, e, H.z]
    · have ei : i = i / 4 * 4 + 1 := by omega
      conv => rhs; rw [ei]
      rw [h.2.1]; simp [madeCells, e, H.z]
    · have ei : i = i / 4 * 4 + 2 := by omega
      conv => rhs; rw [ei]
      rw [h.2.2.1]; simp [madeCells, e, H.z]
    · have ei : i = i / 4 * 4 + 3 := by omega
      conv => rhs; rw [ei]
      rw [h.2.2.2]; simp [madeCells, e, H.z]
theorem mk_entries (n : Nat) (hn : n ≤ 2199023255552) (w : World) : (Instr.makeSlice 116 (.int .i64 (n : Int)) (.int .i64 (n : Int))).run Tryz.prog w = .ok (.slice (some ⟨w.heap.size, 0, none⟩) n n) (w.alloc (.cells (ev (List.replicate n H.z)).toArray 169)) := by
  obtain ⟨ti, hi, hb, hz, hsz⟩ : ∃ ti, Tryz.prog.info? 169 = some ti ∧ ti.bytes = 32 ∧ ti.zero = some (.agg #[.int .u8 0, .int .u64 0, .int .u64 0, .bool false]) ∧ ti.size = 4 := ⟨_, rfl, rfl, rfl, rfl⟩
  have := run_make (P := Tryz.prog) w 116 169 ti _ (by kernel_rfl) hi hz .i64 .i64 (n : Int) (n : Int) (by omega) (by omega) (by rw [hb]; omega) (by omega)
  rw [← made_ev]
  simpa [hsz, Value.cells] using this
/-- Block b is an entry. -/
def EB (w : World) (b : Nat) (e : H.En) : Prop := w.heap[b]? = some (.cells #[.int .u8 (e.l : Int), .int .u64 (e.p : Int), .int .u64 (e.v : Int), .bool e.t] 169 (0, 0))
theorem EB.cells {w : World} {b : Nat} {e : H.En} (h : EB w b e) : w.cell? ⟨b, 0, none⟩ = some (.int .u8 (e.l : Int)) ∧ w.cell? ⟨b, 1, none⟩ = some (.int .u64 (e.p : Int)) ∧ w.cell? ⟨b, 2, none⟩ = some (.int .u64 (e.v : Int)) ∧ w.cell? ⟨b, 3, none⟩ = some (.bool e.t) :=
  ⟨cell_of_row w b 0 _ _ (0, 0) h, cell_of_row w b 1 _ _ (0, 0) h, cell_of_row w b 2 _ _ (0, 0) h, cell_of_row w b 3 _ _ (0, 0) h⟩
theorem mvS {w : World} {P Q M seed c pr b size : Nat} {ts : List H.En} {e : H.En} (hT : Tb w P Q M seed c pr ts) (hE : EB w b e) (ht : e.t = true) (hl : ts.length = size) :
    w.cell? ⟨P, 2, none⟩ = some (.slice (some ⟨Q, 0, none⟩) size size) ∧ w.cell? ⟨b, 0, none⟩ = some (.int .u8 (e.l : Int)) ∧ w.cell? ⟨b, 1, none⟩ = some (.int .u64 (e.p : Int)) ∧ w.cell? ⟨b, 2, none⟩ = some (.int .u64 (e.v : Int)) ∧ w.cell? ⟨b, 3, none⟩ = some (.bool true) := by
  have h := hE.cells
  rw [ht] at h
  have hc := hT.row.c2
  rw [hl] at hc
  exact ⟨hc, h.1, h.2.1, h.2.2.1, h.2.2.2⟩
theorem EB.but {w w' : World} {b : Nat} {e : H.En} {S : Nat → Prop} (h : EB w b e) (hb : ButS w w' S) (hs : ¬ S b) : EB w' b e := by
  have hlt : b < w.heap.size := by
    rcases Nat.lt_or_ge b w.heap.size with hlt | hge
    · exact hlt
    · unfold EB at h; rw [Array.getElem?_eq_none hge] at h; cases h
  exact (hb.block b hlt hs).trans h
theorem EB.below {w w' : World} {b B : Nat} {e : H.En} (h : EB w b e) (hb : Below B w w') (hlt : b < B) : EB w' b e := (hb.block b hlt).trans h
def MovedP (w : World) (P M seed c pr size : Nat) (ps : List H.En) (e : Ending) (w' : World) : Prop :=
  ∃ (qs : List H.En) (Q : Nat), e = .returned (.tuple #[]) ∧ Tb w' P Q M seed c pr qs ∧ qs.length = size ∧ H.Inv size (hmN seed size) qs ∧ (H.ents qs).Perm (H.ents ps) ∧ w.heap.size ≤ Q ∧ ButS w w' (· = P)
set_option maxHeartbeats 2000000 in
theorem t_move (w : World) (P Q M seed c pr : Nat) (ps : List H.En) (a : Tb w P Q M seed c pr ps) (I : H.Inv ps.length (hmN seed ps.length) ps) (size q : Nat) (hs : size = 2 ^ q) (hq : q ≤ 40) (hq3 : 3 ≤ q) (hlt : (H.ents ps).length < size) :
    Calls Tryz.prog 130 #[.pointer (some ⟨P, 0, none⟩), .int .i64 (size : Int)] w (MovedP w P M seed c pr size ps) := by
  have hl8 := a.len
  have hs8 : 8 ≤ size ∧ size ≤ 1099511627776 := by
    rw [hs]; exact ⟨Nat.pow_le_pow_right (n := 2) (by decide) hq3, Nat.pow_le_pow_right (n := 2) (by decide) hq⟩
  have hmk := mk_entries size (by omega)
  have hc2 := a.row.c2
  have hf2 := a.row.fr 2
  have hPl := a.row.lt
  have hQl := a.qlt
  have hPQ := a.ne
  have HA := Lib.hid a
  have HI := Lib.hid I
  have HS := Lib.hid hs
  clear a I hs
  generalize hL : ps.length = n at *
  have HL := Lib.hid hL
  clear hL
  go_enter Tryz.func130, Tryz.ntmps130
  go_wp2
  have hsz : (w.setCell ⟨P, 2, none⟩ (.slice (some ⟨w.heap.size, 0, none⟩) size size)).heap.size = w.heap.size := by simp
  have hb1 := Lib.hid ((but_set' w P 2 (.slice (some ⟨w.heap.size, 0, none⟩) size size) (· = P) rfl).trans (but_alloc' _ (.cells (ev (List.replicate size H.z)).toArray 169) _))
  have hT1 : Hid (Tb ((w.setCell ⟨P, 2, none⟩ (.slice (some ⟨w.heap.size, 0, none⟩) size size)).alloc (.cells (ev (List.replicate size H.z)).toArray 169)) P w.heap.size M seed c pr (List.replicate size H.z)) := by
    refine Lib.hid ⟨?_, ?_, ?_, ?_⟩
    · have h0 := HA.out.row
      unfold TRow at h0 ⊢
      have := set_heap h0 2 (.slice (some ⟨w.heap.size, 0, none⟩) size size)
      rw [List.length_replicate]
      refine (Below.heap_alloc _ _ _ (by rw [hsz]; exact hPl)).trans ?_
      simpa using this
    · have := alloc_topI (w.setCell ⟨P, 2, none⟩ (.slice (some ⟨w.heap.size, 0, none⟩) size size)) (.cells (ev (List.replicate size H.z)).toArray 169)
      rw [hsz] at this
      exact this
    · exact ⟨q, hq, hq3, by rw [List.length_replicate]; exact HS.out⟩
    · intro e he
      rw [List.eq_of_mem_replicate he]; decide
  clear hsz
  go_loopw [18] (fun u wr => ∃ (k : Nat) (ts : List H.En), u = .int .i64 (k : Int) ∧ k ≤ n ∧ Hid (Tb wr P w.heap.size M seed c pr ts) ∧ Hid (ts.length = size) ∧ Hid (H.Inv size (hmN seed size) ts) ∧ Hid ((H.ents ts).Perm (H.ents (ps.take k))) ∧ Hid (ButS w wr (· = P)))
    (fun u _ => n - (intOf u).toNat)
  case atStart => exact ⟨0, _, rfl, by omega, hT1, Lib.hid List.length_replicate, Lib.hid (H.inv_rep _ _), Lib.hid (by rw [List.take_zero, H.ents_rep, H.ents_nil]), hb1⟩
  case round =>
    obtain ⟨k, ts, rfl, hk, HT, HTL, HTI, HP, HB⟩ := hrel
    clear hT1 hb1
    by_cases hlt2 : k < n
    · have hTk : decide ((k : Int) < (n : Int)) = true := decide_eq_true (by omega)
      have hTk2 : decide (k < n) = true := decide_eq_true hlt2
      obtain ⟨x0, x1, x2, x3⟩ := HA.out.cellg k (by rw [HL.out]; exact hlt2)
      have hbc := fun o => HB.out.cell (b := Q) hQl (fun h => hPQ h.symm) o
      rw [← hbc] at x0 x1 x2 x3
      clear hbc
      have hkl : k < ps.length := by rw [HL.out]; exact hlt2
      cases ht : (H.ge ps k).t with
      | false =>
        rw [ht] at x3
        have HTs := Lib.hid (H.move_skip hkl ht HP.out)
        clear ht
        go_wp2
        have hbe := (Below.refl wr.heap.size wr).alloc (Nat.le_refl _) (.cells #[.int .u8 ((H.ge ps k).l : Int), .int .u64 ((H.ge ps k).p : Int), .int .u64 ((H.ge ps k).v : Int), .bool false] 169)
        exact ⟨⟨k + 1, ts, by go_num, by omega, Lib.hid (HT.out.below hbe (Nat.le_refl _)), HTL, HTI, HTs, Lib.hid (HB.out.trans (ButS.of_below hbe (Nat.le_refl _)))⟩, by simp [intOf]; omega⟩
      | true =>
        rw [ht] at x3
        have hrr : (H.ge ps k).l < 256 ∧ (H.ge ps k).p < 18446744073709551616 ∧ (H.ge ps k).v < 18446744073709551616 := HA.out.rngg k hkl
        have HF := Lib.hid (H.move_free HP.out hlt HTL.out)
        have HAb := Lib.hid (H.move_absent HI.out hlt2 ht HP.out)
        have HMv := fun i hi hf => Lib.hid (H.move_put (i := i) hkl ht HP.out hi hf)
        generalize hee : H.ge ps k = ee at *
        have HEE := Lib.hid hee
        have HTt := Lib.hid ht
        clear hee
        have hbe := (Below.refl wr.heap.size wr).alloc (Nat.le_refl _) (.cells #[.int .u8 (ee.l : Int), .int .u64 (ee.p : Int), .int .u64 (ee.v : Int), .bool true] 169)
        have hT2 := Lib.hid (HT.out.below hbe (Nat.le_refl _))
        have hE2 : Hid (EB (wr.alloc (.cells #[.int .u8 (ee.l : Int), .int .u64 (ee.p : Int), .int .u64 (ee.v : Int), .bool true] 169)) wr.heap.size ee) := Lib.hid (by unfold EB; rw [ht]; exact alloc_topI _ _)
        have hB2 := Lib.hid hbe
        clear hbe ht
        have hfc := fun w0 (a : Tb w0 P w.heap.size M seed c pr ts) => Lib.hid (t_free w0 P w.heap.size M seed c pr ts a ee.k hrr.1 (by rw [HTL.out]; exact HF.out))
        go_wp2
        have hbW : wr.heap.size < (wr.alloc (.cells #[.int .u8 (ee.l : Int), .int .u64 (ee.p : Int), .int .u64 (ee.v : Int), .bool true] 169)).heap.size := by simp
        generalize hW2 : wr.alloc (.cells #[.int .u8 (ee.l : Int), .int .u64 (ee.p : Int), .int .u64 (ee.v : Int), .bool true] 169) = W2 at *
        generalize hb : wr.heap.size = b at *
        have hb0 := Below.refl W2.heap.size W2
        have hbQ : b ≠ w.heap.size := by
          have := HT.out.qlt
          omega
        have HBb := Lib.hid hb
        clear hb
        go_region_held3 (fun w' => w'.cell? ⟨P, 2, none⟩ = some (.slice (some ⟨w.heap.size, 0, none⟩) size size) ∧ w'.cell? ⟨b, 0, none⟩ = some (.int .u8 (ee.l : Int)) ∧ w'.cell? ⟨b, 1, none⟩ = some (.int .u64 (ee.p : Int)) ∧ w'.cell? ⟨b, 2, none⟩ = some (.int .u64 (ee.v : Int)) ∧ w'.cell? ⟨b, 3, none⟩ = some (.bool true))
          (first
            | exact mvS (hT2.out.drewN 1) hE2.out HTt.out HTL.out
            | exact mvS hT3 hE3 HTt.out HTL.out
            | exact mvS hT4 hE4 HTt.out hL4
            | go_keep)
          (first
            | (go_at_call 131; refine (hfc W2.drew (hT2.out.drewN 1)).out.mono ?_; rintro e w3 ⟨i, d, rfl, sc, hft, hb3⟩; have hT3 : Tb w3 P w.heap.size M seed c pr ts := (hT2.out.drewN 1).below hb3 (Nat.le_refl _); have hE3 : EB w3 b ee := EB.below (w := W2.drew) hE2.out hb3 hbW; have hB3 : Below W2.heap.size W2 w3 := (below_drewN hb0 1).trans hb3; have hil : i < size := by (rw [← HTL.out]; exact sc.lt)
               obtain ⟨m0, m1, m2, m3⟩ := hT3.cellg i sc.lt
               have n0 := hT3.qfr (i * 4)
               have n1 := hT3.qfr (i * 4 + 1)
               have n2 := hT3.qfr (i * 4 + 2)
               have n3 := hT3.qfr (i * 4 + 3)
               have hT4 := hT3.store i sc.lt ee hrr
               have hE4 := hE3.but (put4_but w3 w.heap.size i ee (· = w.heap.size) rfl) hbQ
               have hB4 := put4_but w3 w.heap.size i ee (· = w.heap.size) rfl
               unfold put4 at hT4 hE4 hB4
               rw [HTt.out] at hT4 hE4 hB4
               have hL4 : (ts.set i ee).length = size := (by (rw [List.length_set]; exact HTL.out))))
        go_wp2
        have sc' := sc
        rw [HTL.out] at sc'
        have hI4 := H.inv_put HTI.out (hmN_lt seed size ee.k (by omega)) sc' HAb.out ee.v
        have he : (⟨ee.k.1, ee.k.2, ee.v, true⟩ : H.En) = ee := H.en_eta ee HTt.out
        rw [he] at hI4
        have hp4 := (HMv i sc.lt hft).out
        have hbw : ButS w w3 (· = P) := HB.out.trans (ButS.trans (ButS.of_below hB2.out (by rw [HBb.out]; exact Nat.le_refl _)) (ButS.of_below hB3 (Nat.le_refl _)))
        exact ⟨⟨k + 1, ts.set i ee, by go_num, by omega, Lib.hid hT4, Lib.hid hL4, Lib.hid hI4, Lib.hid hp4, Lib.hid (hbw.then hB4 (fun j hj => .inr (Nat.le_of_eq hj.symm)))⟩, by simp [intOf]; omega⟩
    · obtain rfl : k = n := by omega
      have hTk : decide ((k : Int) < (k : Int)) = false := decide_eq_false (by omega)
      have hTk2 : decide (k < k) = false := decide_eq_false (by omega)
      go_wp2
      refine bodyPost_ret (results_none rfl _ _ _) rfl ?_
      have hp := HP.out
      rw [List.take_of_length_le (Nat.le_of_eq HL.out)] at hp
      exact ⟨ts, _, rfl, HT.out, HTL.out, HTI.out, hp, Nat.le_refl _, HB.out⟩
end Go.Proofs.YtialjokdaniofaaGreat.Hs
end
