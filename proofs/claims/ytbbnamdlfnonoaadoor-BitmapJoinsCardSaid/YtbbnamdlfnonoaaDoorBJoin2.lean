
/- Bitmaps joined word by word: the walk, for each of the four ways; the text walked. -/
import Derived.Test.YtbbnamdlfnonoaaDoorBJoin
namespace Go.Proofs.YtbbnamdlfnonoaaDoor
open Go.RowKit Go.Shelf
set_option maxRecDepth 100000 in
set_option maxHeartbeats 4000000 in
theorem join_or (f : Nat → Nat → Nat) (hfl : ∀ a b, a < 18446744073709551616 → b < 18446744073709551616 → f a b < 18446744073709551616)
    (hF : ∀ (a b : Nat) (W : World), a < 18446744073709551616 → b < 18446744073709551616 → Calls Tryd.prog 58 #[.int .u64 (a : Int), .int .u64 (b : Int)] W fun e w' => e = .returned (.int .u64 (f a b : Nat)) ∧ W = w')
    (w : World) (A : Option Addr) (c : Nat) (ps : List (Option Addr)) (ws : List (List Nat)) (hr : Rps w A ps) (hl : ps.length = ws.length) (h0 : 0 < ps.length) (hc : ps.length ≤ c) (hn : ps.length ≤ 1000) (hp : ∀ (k : Nat) (h : k < ps.length) (h' : k < ws.length), PB w ps[k] ws[k]) :
    Calls Tryd.prog 57 #[.slice A ps.length c, .func (.func 58) #[] #[]] w fun e w' => ∃ p s h, e = .returned (.pointer (some ⟨p, 0, none⟩)) ∧ Bm w' p s h (joined f ws (ps.length - 1)) ∧ Below w.heap.size w w' ∧ w.heap.size ≤ p ∧ w.heap.size ≤ s ∧ w.heap.size ≤ h := by
  obtain ⟨b, off, rfl, hb, hcells⟩ := hr (by rintro rfl; simp at h0)
  have hfst := hcells 0 h0
  rw [Nat.add_zero] at hfst
  have hp0 := hp 0 h0 (by omega)
  have hws : Hid (∀ u ∈ ws, u.length = 1024) := fun u hu => by
    obtain ⟨k, hk, rfl⟩ := List.getElem_of_mem hu
    exact (hp k (by omega) hk).len
  have hwl : Hid (∀ u ∈ ws, ∀ x ∈ u, x < 18446744073709551616) := fun u hu => by
    obtain ⟨k, hk, rfl⟩ := List.getElem_of_mem hu
    exact (hp k (by omega) hk).lt
  have hrow0 := Lib.hid (fun W (hW : Below w.heap.size w W) => b_row W _ _ (hp0.below hW))
  obtain ⟨len, hlen⟩ : ∃ len, ps.length = len := ⟨_, rfl⟩
  rw [hlen] at h0 hc hn hl
  rw [hlen]
  obtain ⟨A3, hA3, hs1, hs2⟩ := rest_from b off len c h0 hc
  obtain ⟨m3, hm3⟩ : ∃ m3, len - 1 = m3 := ⟨_, rfl⟩
  obtain ⟨c3, hc3⟩ : ∃ c3, c - 1 = c3 := ⟨_, rfl⟩
  rw [hm3, hc3] at hs1 hs2
  rw [hm3]
  have HA := Lib.hid hA3
  have HP := Lib.hid hp
  have HC := Lib.hid hcells
  have HL := Lib.hid hl
  have HLN := Lib.hid hlen
  have hm31 : len = m3 + 1 := by omega
  have HM := Lib.hid hm31
  have hne : ((len : Int) == 0) = false := by simp; omega
  have hne2 : (len == 0) = false := by simp; omega
  have hne3 : ¬ len = 0 := by omega
  have hpos : (0 : Int) < (len : Int) := by omega
  have hone : (1 : Int) ≤ (len : Int) := by omega
  have h0w : 0 < ws.length := by omega
  have hmw : m3 < ws.length := by omega
  clear hA3 hm3 hc3 hp hcells hp0 hl hlen hm31
  generalize hp0v : ps[0]'(by have := HLN.out; omega) = p0 at *
  clear hp0v
  go_enter Tryd.func57, Tryd.ntmps57
  go_wp2_with (go_at_call 80; (with_reducible refine (hrow0.out _ (Below.refl _ _)).mono ?_); rintro e w2 ⟨g, rfl, hrw⟩; have HR2 := Lib.hid hrw; clear hrw)
  go_loopw [23] (fun i wr => ∃ k : Nat, k ≤ m3 ∧ i = .int .i64 (k : Int) ∧ Hid (wr.heap[g]? = some (.cells (wv (joined f ws k)).toArray 65 (0, 0)) ∧ w.heap.size ≤ g ∧ Below w.heap.size w wr)) (fun i _ => m3 - (intOf i).toNat)
  case atStart =>
    refine ⟨0, by omega, rfl, ?_, HR2.out.1, HR2.out.2.2⟩
    rw [joined_zero, List.getElem?_eq_getElem (by have := HL.out; omega)]
    exact HR2.out.2.1
  case round =>
    obtain ⟨k, hk, rfl, HW⟩ := hrel
    clear HR2 hrow0 hfst
    by_cases hlt : k < m3
    · have hA : A3 = some ⟨b, off + 1, none⟩ := HA.out (by have := HM.out; omega)
      subst hA
      have hk1 : k + 1 < ps.length := by have := HLN.out; have := HM.out; omega
      have hk2 : k + 1 < ws.length := by have := HL.out; have := HM.out; omega
      have hcp : wr.cell? ⟨b, off + 1 + k, none⟩ = some (.pointer ps[k + 1]) := by
        have h1 := (HW.out.2.2.cell (p := ⟨b, off + (k + 1), none⟩) hb).trans (HC.out (k + 1) hk1)
        rwa [show off + (k + 1) = off + 1 + k by omega] at h1
      have hrow := Lib.hid (b_row wr _ _ ((HP.out (k + 1) hk1 hk2).below HW.out.2.2))
      have hul := hws.out _ (List.getElem_mem hk2)
      have hux := Lib.hid (hwl.out _ (List.getElem_mem hk2))
      have hnext := Lib.hid (joined_succ f ws k hk2)
      have hzl := joined_len f ws hws.out h0w k (by omega)
      have hzx := Lib.hid (joined_lt f hfl ws hwl.out h0w k (by omega))
      generalize ps[k + 1] = pk at *
      generalize ws[k + 1] = us at *
      obtain ⟨zs, hzs⟩ : ∃ zs, joined f ws k = zs := ⟨_, rfl⟩
      rw [hzs] at hnext hzl hzx HW
      have HUL := Lib.hid hul
      have HZL := Lib.hid hzl
      clear hzs hul hzl hk1 hk2
      obtain ⟨wo, hwo⟩ : ∃ wo, wo = wr := ⟨_, rfl⟩
      subst hwo
      go_wp2_with (go_at_call 80; (with_reducible refine hrow.out.mono ?_); rintro e w4 ⟨g2, rfl, hrw⟩; have HR4 := Lib.hid hrw; clear hrw)
      have hgg : g ≠ g2 := by
        have h1 := (Array.getElem?_eq_some_iff.1 HW.out.1).1
        have h2 := HR4.out.1
        omega
      have hglt := (Array.getElem?_eq_some_iff.1 HW.out.1).1
      have hw4 : Hid (w4.heap[g]? = some (.cells (wv zs).toArray 65 (0, 0))) := (HR4.out.2.2.block g hglt).trans HW.out.1
      have hg24 : g2 < w4.heap.size := (Array.getElem?_eq_some_iff.1 HR4.out.2.1).1
      go_loopw [30] (fun i wr => ∃ j : Nat, j ≤ 1024 ∧ i = .int .i64 (j : Int) ∧ Hid (wr.heap[g]? = some (.cells (wv (mix f zs us j)).toArray 65 (0, 0)) ∧ ButS w4 wr (· = g))) (fun i _ => 1024 - (intOf i).toNat)
      case atStart => exact ⟨0, by omega, rfl, by rw [mix_zero]; exact hw4.out, ButS.refl _ _⟩
      case round =>
        obtain ⟨j, hj, rfl, HJ⟩ := hrel
        obtain ⟨wi, hwi⟩ : ∃ wi, wi = wr := ⟨_, rfl⟩
        subst hwi
        clear hw4
        by_cases hjl : j < 1024
        · have hj1 : j < zs.length := by rw [HZL.out]; exact hjl
          have hj2 : j < us.length := by rw [HUL.out]; exact hjl
          have ha := hzx.out _ (List.getElem_mem hj1)
          have hb2 := hux.out _ (List.getElem_mem hj2)
          have hc1 : wi.cell? ⟨g, j, none⟩ = some (.int .u64 (zs[j] : Nat)) := Row.cellR HJ.out.1 (mix_at f hj1 hj2)
          have hc2 : wi.cell? ⟨g2, j, none⟩ = some (.int .u64 (us[j] : Nat)) := Row.cellR ((HJ.out.2.block g2 hg24 (fun e => hgg e.symm)).trans HR4.out.2.1) (List.getElem?_eq_getElem hj2)
          have hfz : wi.frozen? ⟨g, j, none⟩ = false := by have := HJ.out.1; simp [World.frozen?, this]
          have hset := Lib.hid (mix_set f hj1 hj2)
          have hcall := fun W => Lib.hid (hF zs[j] us[j] W ha hb2)
          have hfx := hfl _ _ ha hb2
          have hjlI : (j : Int) < 1024 := by omega
          generalize zs[j] = za at *
          generalize us[j] = ub at *
          generalize f za ub = fx at *
          clear ha hb2 hj1 hj2
          go_wp2_with (go_at_call 58; (with_reducible refine (hcall _).out.mono ?_); rintro e w6 ⟨rfl, rfl⟩)
          go_roundw
          case rel =>
            refine ⟨j + 1, by omega, by go_num, ?_, HJ.out.2.trans (but_set' _ g j _ _ rfl)⟩
            rw [← hset.out]
            exact wv_store HJ.out.1
          case measure => simp [intOf]; omega
        · obtain rfl : j = 1024 := by omega
          have hend : Hid (mix f zs us 1024 = joined f ws (k + 1)) := by
            show _ = _
            rw [hnext.out]
            exact mix_all f (by rw [HZL.out]; exact Nat.le_refl _) (by rw [HUL.out]; exact Nat.le_refl _)
          rw [hend.out] at HJ
          clear hend
          go_wp2
          go_roundw
          case rel =>
            refine ⟨k + 1, by omega, by go_num, HJ.out.1, HW.out.2.1, ?_⟩
            have h1 := HW.out.2.2
            exact (h1.trans (HR4.out.2.2.mono h1.size)).trans (HJ.out.2.below (Nat.le_trans h1.size HR4.out.2.2.size) (fun i hi => by rw [hi]; exact HW.out.2.1))
          case measure => simp [intOf]; omega
    · obtain rfl : k = m3 := by omega
      have hrl : (joined f ws k).length = 1024 := joined_len f ws hws.out h0w k hmw
      have hrx := joined_lt f hfl ws hwl.out h0w k hmw
      have hglt := (Array.getElem?_eq_some_iff.1 HW.out.1).1
      have hof := s_of wr (some ⟨g, 0, none⟩) 1024 (joined f ws k) (fun _ => ⟨g, 0, rfl, hglt, fun i hi => by
        rw [Nat.zero_add, cell_of_row wr g i _ _ (0, 0) HW.out.1]; exact (by simp [wv, hi])⟩) hrx (by omega)
      rw [hrl] at hof
      have HOF := Lib.hid hof
      have HRL := Lib.hid hrl
      clear hof hrl hrx hglt
      obtain ⟨js, hjs⟩ : ∃ js, joined f ws k = js := ⟨_, rfl⟩
      rw [hjs] at HW HOF HRL
      have HJS := Lib.hid hjs
      clear hjs
      go_wp2_with (go_at_call 81; (with_reducible refine HOF.out.mono ?_); rintro e w7 ⟨s, h, rfl, hst, hs, hh, hb7⟩; have HST := Lib.hid hst; have HB7 := Lib.hid hb7; clear hst hb7)
      go_ret
      have hl7 := HST.out.lt
      have hb8 : Below w7.heap.size w7 (w7.alloc (.cells #[.pointer (some ⟨s, 0, none⟩)] 80)) := (Below.refl _ _).alloc (Nat.le_refl _) _
      have z1 := HW.out.2.2.size
      have z2 := HB7.out.size
      exact ⟨w7.heap.size, s, h, rfl, ⟨alloc_top _ _ rfl, by rw [HJS.out]; exact HST.out.below hb8 hl7.1 hl7.2, by rw [HJS.out]; exact HRL.out⟩, (HW.out.2.2.trans (HB7.out.mono z1)).trans (hb8.mono (by omega)), by omega, by omega, by omega⟩
set_option maxRecDepth 100000 in
set_option maxHeartbeats 4000000 in
theorem join_and (f : Nat → Nat → Nat) (hfl : ∀ a b, a < 18446744073709551616 → b < 18446744073709551616 → f a b < 18446744073709551616)
    (hF : ∀ (a b : Nat) (W : World), a < 18446744073709551616 → b < 18446744073709551616 → Calls Tryd.prog 59 #[.int .u64 (a : Int), .int .u64 (b : Int)] W fun e w' => e = .returned (.int .u64 (f a b : Nat)) ∧ W = w')
    (w : World) (A : Option Addr) (c : Nat) (ps : List (Option Addr)) (ws : List (List Nat)) (hr : Rps w A ps) (hl : ps.length = ws.length) (h0 : 0 < ps.length) (hc : ps.length ≤ c) (hn : ps.length ≤ 1000) (hp : ∀ (k : Nat) (h : k < ps.length) (h' : k < ws.length), PB w ps[k] ws[k]) :
    Calls Tryd.prog 57 #[.slice A ps.length c, .func (.func 59) #[] #[]] w fun e w' => ∃ p s h, e = .returned (.pointer (some ⟨p, 0, none⟩)) ∧ Bm w' p s h (joined f ws (ps.length - 1)) ∧ Below w.heap.size w w' ∧ w.heap.size ≤ p ∧ w.heap.size ≤ s ∧ w.heap.size ≤ h := by
  obtain ⟨b, off, rfl, hb, hcells⟩ := hr (by rintro rfl; simp at h0)
  have hfst := hcells 0 h0
  rw [Nat.add_zero] at hfst
  have hp0 := hp 0 h0 (by omega)
  have hws : Hid (∀ u ∈ ws, u.length = 1024) := fun u hu => by
    obtain ⟨k, hk, rfl⟩ := List.getElem_of_mem hu
    exact (hp k (by omega) hk).len
  have hwl : Hid (∀ u ∈ ws, ∀ x ∈ u, x < 18446744073709551616) := fun u hu => by
    obtain ⟨k, hk, rfl⟩ := List.getElem_of_mem hu
    exact (hp k (by omega) hk).lt
  have hrow0 := Lib.hid (fun W (hW : Below w.heap.size w W) => b_row W _ _ (hp0.below hW))
  obtain ⟨len, hlen⟩ : ∃ len, ps.length = len := ⟨_, rfl⟩
  rw [hlen] at h0 hc hn hl
  rw [hlen]
  obtain ⟨A3, hA3, hs1, hs2⟩ := rest_from b off len c h0 hc
  obtain ⟨m3, hm3⟩ : ∃ m3, len - 1 = m3 := ⟨_, rfl⟩
  obtain ⟨c3, hc3⟩ : ∃ c3, c - 1 = c3 := ⟨_, rfl⟩
  rw [hm3, hc3] at hs1 hs2
  rw [hm3]
  have HA := Lib.hid hA3
  have HP := Lib.hid hp
  have HC := Lib.hid hcells
  have HL := Lib.hid hl
  have HLN := Lib.hid hlen
  have hm31 : len = m3 + 1 := by omega
  have HM := Lib.hid hm31
  have hne : ((len : Int) == 0) = false := by simp; omega
  have hne2 : (len == 0) = false := by simp; omega
  have hne3 : ¬ len = 0 := by omega
  have hpos : (0 : Int) < (len : Int) := by omega
  have hone : (1 : Int) ≤ (len : Int) := by omega
  have h0w : 0 < ws.length := by omega
  have hmw : m3 < ws.length := by omega
  clear hA3 hm3 hc3 hp hcells hp0 hl hlen hm31
  generalize hp0v : ps[0]'(by have := HLN.out; omega) = p0 at *
  clear hp0v
  go_enter Tryd.func57, Tryd.ntmps57
  go_wp2_with (go_at_call 80; (with_reducible refine (hrow0.out _ (Below.refl _ _)).mono ?_); rintro e w2 ⟨g, rfl, hrw⟩; have HR2 := Lib.hid hrw; clear hrw)
  go_loopw [23] (fun i wr => ∃ k : Nat, k ≤ m3 ∧ i = .int .i64 (k : Int) ∧ Hid (wr.heap[g]? = some (.cells (wv (joined f ws k)).toArray 65 (0, 0)) ∧ w.heap.size ≤ g ∧ Below w.heap.size w wr)) (fun i _ => m3 - (intOf i).toNat)
  case atStart =>
    refine ⟨0, by omega, rfl, ?_, HR2.out.1, HR2.out.2.2⟩
    rw [joined_zero, List.getElem?_eq_getElem (by have := HL.out; omega)]
    exact HR2.out.2.1
  case round =>
    obtain ⟨k, hk, rfl, HW⟩ := hrel
    clear HR2 hrow0 hfst
    by_cases hlt : k < m3
    · have hA : A3 = some ⟨b, off + 1, none⟩ := HA.out (by have := HM.out; omega)
      subst hA
      have hk1 : k + 1 < ps.length := by have := HLN.out; have := HM.out; omega
      have hk2 : k + 1 < ws.length := by have := HL.out; have := HM.out; omega
      have hcp : wr.cell? ⟨b, off + 1 + k, none⟩ = some (.pointer ps[k + 1]) := by
        have h1 := (HW.out.2.2.cell (p := ⟨b, off + (k + 1), none⟩) hb).trans (HC.out (k + 1) hk1)
        rwa [show off + (k + 1) = off + 1 + k by omega] at h1
      have hrow := Lib.hid (b_row wr _ _ ((HP.out (k + 1) hk1 hk2).below HW.out.2.2))
      have hul := hws.out _ (List.getElem_mem hk2)
      have hux := Lib.hid (hwl.out _ (List.getElem_mem hk2))
      have hnext := Lib.hid (joined_succ f ws k hk2)
      have hzl := joined_len f ws hws.out h0w k (by omega)
      have hzx := Lib.hid (joined_lt f hfl ws hwl.out h0w k (by omega))
      generalize ps[k + 1] = pk at *
      generalize ws[k + 1] = us at *
      obtain ⟨zs, hzs⟩ : ∃ zs, joined f ws k = zs := ⟨_, rfl⟩
      rw [hzs] at hnext hzl hzx HW
      have HUL := Lib.hid hul
      have HZL := Lib.hid hzl
      clear hzs hul hzl hk1 hk2
      obtain ⟨wo, hwo⟩ : ∃ wo, wo = wr := ⟨_, rfl⟩
      subst hwo
      go_wp2_with (go_at_call 80; (with_reducible refine hrow.out.mono ?_); rintro e w4 ⟨g2, rfl, hrw⟩; have HR4 := Lib.hid hrw; clear hrw)
      have hgg : g ≠ g2 := by
        have h1 := (Array.getElem?_eq_some_iff.1 HW.out.1).1
        have h2 := HR4.out.1
        omega
      have hglt := (Array.getElem?_eq_some_iff.1 HW.out.1).1
      have hw4 : Hid (w4.heap[g]? = some (.cells (wv zs).toArray 65 (0, 0))) := (HR4.out.2.2.block g hglt).trans HW.out.1
      have hg24 : g2 < w4.heap.size := (Array.getElem?_eq_some_iff.1 HR4.out.2.1).1
      go_loopw [30] (fun i wr => ∃ j : Nat, j ≤ 1024 ∧ i = .int .i64 (j : Int) ∧ Hid (wr.heap[g]? = some (.cells (wv (mix f zs us j)).toArray 65 (0, 0)) ∧ ButS w4 wr (· = g))) (fun i _ => 1024 - (intOf i).toNat)
      case atStart => exact ⟨0, by omega, rfl, by rw [mix_zero]; exact hw4.out, ButS.refl _ _⟩
      case round =>
        obtain ⟨j, hj, rfl, HJ⟩ := hrel
        obtain ⟨wi, hwi⟩ : ∃ wi, wi = wr := ⟨_, rfl⟩
        subst hwi
        clear hw4
        by_cases hjl : j < 1024
        · have hj1 : j < zs.length := by rw [HZL.out]; exact hjl
          have hj2 : j < us.length := by rw [HUL.out]; exact hjl
          have ha := hzx.out _ (List.getElem_mem hj1)
          have hb2 := hux.out _ (List.getElem_mem hj2)
          have hc1 : wi.cell? ⟨g, j, none⟩ = some (.int .u64 (zs[j] : Nat)) := Row.cellR HJ.out.1 (mix_at f hj1 hj2)
          have hc2 : wi.cell? ⟨g2, j, none⟩ = some (.int .u64 (us[j] : Nat)) := Row.cellR ((HJ.out.2.block g2 hg24 (fun e => hgg e.symm)).trans HR4.out.2.1) (List.getElem?_eq_getElem hj2)
          have hfz : wi.frozen? ⟨g, j, none⟩ = false := by have := HJ.out.1; simp [World.frozen?, this]
          have hset := Lib.hid (mix_set f hj1 hj2)
          have hcall := fun W => Lib.hid (hF zs[j] us[j] W ha hb2)
          have hfx := hfl _ _ ha hb2
          have hjlI : (j : Int) < 1024 := by omega
          generalize zs[j] = za at *
          generalize us[j] = ub at *
          generalize f za ub = fx at *
          clear ha hb2 hj1 hj2
          go_wp2_with (go_at_call 59; (with_reducible refine (hcall _).out.mono ?_); rintro e w6 ⟨rfl, rfl⟩)
          go_roundw
          case rel =>
            refine ⟨j + 1, by omega, by go_num, ?_, HJ.out.2.trans (but_set' _ g j _ _ rfl)⟩
            rw [← hset.out]
            exact wv_store HJ.out.1
          case measure => simp [intOf]; omega
        · obtain rfl : j = 1024 := by omega
          have hend : Hid (mix f zs us 1024 = joined f ws (k + 1)) := by
            show _ = _
            rw [hnext.out]
            exact mix_all f (by rw [HZL.out]; exact Nat.le_refl _) (by rw [HUL.out]; exact Nat.le_refl _)
          rw [hend.out] at HJ
          clear hend
          go_wp2
          go_roundw
          case rel =>
            refine ⟨k + 1, by omega, by go_num, HJ.out.1, HW.out.2.1, ?_⟩
            have h1 := HW.out.2.2
            exact (h1.trans (HR4.out.2.2.mono h1.size)).trans (HJ.out.2.below (Nat.le_trans h1.size HR4.out.2.2.size) (fun i hi => by rw [hi]; exact HW.out.2.1))
          case measure => simp [intOf]; omega
    · obtain rfl : k = m3 := by omega
      have hrl : (joined f ws k).length = 1024 := joined_len f ws hws.out h0w k hmw
      have hrx := joined_lt f hfl ws hwl.out h0w k hmw
      have hglt := (Array.getElem?_eq_some_iff.1 HW.out.1).1
      have hof := s_of wr (some ⟨g, 0, none⟩) 1024 (joined f ws k) (fun _ => ⟨g, 0, rfl, hglt, fun i hi => by
        rw [Nat.zero_add, cell_of_row wr g i _ _ (0, 0) HW.out.1]; exact (by simp [wv, hi])⟩) hrx (by omega)
      rw [hrl] at hof
      have HOF := Lib.hid hof
      have HRL := Lib.hid hrl
      clear hof hrl hrx hglt
      obtain ⟨js, hjs⟩ : ∃ js, joined f ws k = js := ⟨_, rfl⟩
      rw [hjs] at HW HOF HRL
      have HJS := Lib.hid hjs
      clear hjs
      go_wp2_with (go_at_call 81; (with_reducible refine HOF.out.mono ?_); rintro e w7 ⟨s, h, rfl, hst, hs, hh, hb7⟩; have HST := Lib.hid hst; have HB7 := Lib.hid hb7; clear hst hb7)
      go_ret
      have hl7 := HST.out.lt
      have hb8 : Below w7.heap.size w7 (w7.alloc (.cells #[.pointer (some ⟨s, 0, none⟩)] 80)) := (Below.refl _ _).alloc (Nat.le_refl _) _
      have z1 := HW.out.2.2.size
      have z2 := HB7.out.size
      exact ⟨w7.heap.size, s, h, rfl, ⟨alloc_top _ _ rfl, by rw [HJS.out]; exact HST.out.below hb8 hl7.1 hl7.2, by rw [HJS.out]; exact HRL.out⟩, (HW.out.2.2.trans (HB7.out.mono z1)).trans (hb8.mono (by omega)), by omega, by omega, by omega⟩
set_option maxRecDepth 100000 in
set_option maxHeartbeats 4000000 in
theorem join_less (f : Nat → Nat → Nat) (hfl : ∀ a b, a < 18446744073709551616 → b < 18446744073709551616 → f a b < 18446744073709551616)
    (hF : ∀ (a b : Nat) (W : World), a < 18446744073709551616 → b < 18446744073709551616 → Calls Tryd.prog 60 #[.int .u64 (a : Int), .int .u64 (b : Int)] W fun e w' => e = .returned (.int .u64 (f a b : Nat)) ∧ W = w')
    (w : World) (A : Option Addr) (c : Nat) (ps : List (Option Addr)) (ws : List (List Nat)) (hr : Rps w A ps) (hl : ps.length = ws.length) (h0 : 0 < ps.length) (hc : ps.length ≤ c) (hn : ps.length ≤ 1000) (hp : ∀ (k : Nat) (h : k < ps.length) (h' : k < ws.length), PB w ps[k] ws[k]) :
    Calls Tryd.prog 57 #[.slice A ps.length c, .func (.func 60) #[] #[]] w fun e w' => ∃ p s h, e = .returned (.pointer (some ⟨p, 0, none⟩)) ∧ Bm w' p s h (joined f ws (ps.length - 1)) ∧ Below w.heap.size w w' ∧ w.heap.size ≤ p ∧ w.heap.size ≤ s ∧ w.heap.size ≤ h := by
  obtain ⟨b, off, rfl, hb, hcells⟩ := hr (by rintro rfl; simp at h0)
  have hfst := hcells 0 h0
  rw [Nat.add_zero] at hfst
  have hp0 := hp 0 h0 (by omega)
  have hws : Hid (∀ u ∈ ws, u.length = 1024) := fun u hu => by
    obtain ⟨k, hk, rfl⟩ := List.getElem_of_mem hu
    exact (hp k (by omega) hk).len
  have hwl : Hid (∀ u ∈ ws, ∀ x ∈ u, x < 18446744073709551616) := fun u hu => by
    obtain ⟨k, hk, rfl⟩ := List.getElem_of_mem hu
    exact (hp k (by omega) hk).lt
  have hrow0 := Lib.hid (fun W (hW : Below w.heap.size w W) => b_row W _ _ (hp0.below hW))
  obtain ⟨len, hlen⟩ : ∃ len, ps.length = len := ⟨_, rfl⟩
  rw [hlen] at h0 hc hn hl
  rw [hlen]
  obtain ⟨A3, hA3, hs1, hs2⟩ := rest_from b off len c h0 hc
  obtain ⟨m3, hm3⟩ : ∃ m3, len - 1 = m3 := ⟨_, rfl⟩
  obtain ⟨c3, hc3⟩ : ∃ c3, c - 1 = c3 := ⟨_, rfl⟩
  rw [hm3, hc3] at hs1 hs2
  rw [hm3]
  have HA := Lib.hid hA3
  have HP := Lib.hid hp
  have HC := Lib.hid hcells
  have HL := Lib.hid hl
  have HLN := Lib.hid hlen
  have hm31 : len = m3 + 1 := by omega
  have HM := Lib.hid hm31
  have hne : ((len : Int) == 0) = false := by simp; omega
  have hne2 : (len == 0) = false := by simp; omega
  have hne3 : ¬ len = 0 := by omega
  have hpos : (0 : Int) < (len : Int) := by omega
  have hone : (1 : Int) ≤ (len : Int) := by omega
  have h0w : 0 < ws.length := by omega
  have hmw : m3 < ws.length := by omega
  clear hA3 hm3 hc3 hp hcells hp0 hl hlen hm31
  generalize hp0v : ps[0]'(by have := HLN.out; omega) = p0 at *
  clear hp0v
  go_enter Tryd.func57, Tryd.ntmps57
  go_wp2_with (go_at_call 80; (with_reducible refine (hrow0.out _ (Below.refl _ _)).mono ?_); rintro e w2 ⟨g, rfl, hrw⟩; have HR2 := Lib.hid hrw; clear hrw)
  go_loopw [23] (fun i wr => ∃ k : Nat, k ≤ m3 ∧ i = .int .i64 (k : Int) ∧ Hid (wr.heap[g]? = some (.cells (wv (joined f ws k)).toArray 65 (0, 0)) ∧ w.heap.size ≤ g ∧ Below w.heap.size w wr)) (fun i _ => m3 - (intOf i).toNat)
  case atStart =>
    refine ⟨0, by omega, rfl, ?_, HR2.out.1, HR2.out.2.2⟩
    rw [joined_zero, List.getElem?_eq_getElem (by have := HL.out; omega)]
    exact HR2.out.2.1
  case round =>
    obtain ⟨k, hk, rfl, HW⟩ := hrel
    clear HR2 hrow0 hfst
    by_cases hlt : k < m3
    · have hA : A3 = some ⟨b, off + 1, none⟩ := HA.out (by have := HM.out; omega)
      subst hA
      have hk1 : k + 1 < ps.length := by have := HLN.out; have := HM.out; omega
      have hk2 : k + 1 < ws.length := by have := HL.out; have := HM.out; omega
      have hcp : wr.cell? ⟨b, off + 1 + k, none⟩ = some (.pointer ps[k + 1]) := by
        have h1 := (HW.out.2.2.cell (p := ⟨b, off + (k + 1), none⟩) hb).trans (HC.out (k + 1) hk1)
        rwa [show off + (k + 1) = off + 1 + k by omega] at h1
      have hrow := Lib.hid (b_row wr _ _ ((HP.out (k + 1) hk1 hk2).below HW.out.2.2))
      have hul := hws.out _ (List.getElem_mem hk2)
      have hux := Lib.hid (hwl.out _ (List.getElem_mem hk2))
      have hnext := Lib.hid (joined_succ f ws k hk2)
      have hzl := joined_len f ws hws.out h0w k (by omega)
      have hzx := Lib.hid (joined_lt f hfl ws hwl.out h0w k (by omega))
      generalize ps[k + 1] = pk at *
      generalize ws[k + 1] = us at *
      obtain ⟨zs, hzs⟩ : ∃ zs, joined f ws k = zs := ⟨_, rfl⟩
      rw [hzs] at hnext hzl hzx HW
      have HUL := Lib.hid hul
      have HZL := Lib.hid hzl
      clear hzs hul hzl hk1 hk2
      obtain ⟨wo, hwo⟩ : ∃ wo, wo = wr := ⟨_, rfl⟩
      subst hwo
      go_wp2_with (go_at_call 80; (with_reducible refine hrow.out.mono ?_); rintro e w4 ⟨g2, rfl, hrw⟩; have HR4 := Lib.hid hrw; clear hrw)
      have hgg : g ≠ g2 := by
        have h1 := (Array.getElem?_eq_some_iff.1 HW.out.1).1
        have h2 := HR4.out.1
        omega
      have hglt := (Array.getElem?_eq_some_iff.1 HW.out.1).1
      have hw4 : Hid (w4.heap[g]? = some (.cells (wv zs).toArray 65 (0, 0))) := (HR4.out.2.2.block g hglt).trans HW.out.1
      have hg24 : g2 < w4.heap.size := (Array.getElem?_eq_some_iff.1 HR4.out.2.1).1
      go_loopw [30] (fun i wr => ∃ j : Nat, j ≤ 1024 ∧ i = .int .i64 (j : Int) ∧ Hid (wr.heap[g]? = some (.cells (wv (mix f zs us j)).toArray 65 (0, 0)) ∧ ButS w4 wr (· = g))) (fun i _ => 1024 - (intOf i).toNat)
      case atStart => exact ⟨0, by omega, rfl, by rw [mix_zero]; exact hw4.out, ButS.refl _ _⟩
      case round =>
        obtain ⟨j, hj, rfl, HJ⟩ := hrel
        obtain ⟨wi, hwi⟩ : ∃ wi, wi = wr := ⟨_, rfl⟩
        subst hwi
        clear hw4
        by_cases hjl : j < 1024
        · have hj1 : j < zs.length := by rw [HZL.out]; exact hjl
          have hj2 : j < us.length := by rw [HUL.out]; exact hjl
          have ha := hzx.out _ (List.getElem_mem hj1)
          have hb2 := hux.out _ (List.getElem_mem hj2)
          have hc1 : wi.cell? ⟨g, j, none⟩ = some (.int .u64 (zs[j] : Nat)) := Row.cellR HJ.out.1 (mix_at f hj1 hj2)
          have hc2 : wi.cell? ⟨g2, j, none⟩ = some (.int .u64 (us[j] : Nat)) := Row.cellR ((HJ.out.2.block g2 hg24 (fun e => hgg e.symm)).trans HR4.out.2.1) (List.getElem?_eq_getElem hj2)
          have hfz : wi.frozen? ⟨g, j, none⟩ = false := by have := HJ.out.1; simp [World.frozen?, this]
          have hset := Lib.hid (mix_set f hj1 hj2)
          have hcall := fun W => Lib.hid (hF zs[j] us[j] W ha hb2)
          have hfx := hfl _ _ ha hb2
          have hjlI : (j : Int) < 1024 := by omega
          generalize zs[j] = za at *
          generalize us[j] = ub at *
          generalize f za ub = fx at *
          clear ha hb2 hj1 hj2
          go_wp2_with (go_at_call 60; (with_reducible refine (hcall _).out.mono ?_); rintro e w6 ⟨rfl, rfl⟩)
          go_roundw
          case rel =>
            refine ⟨j + 1, by omega, by go_num, ?_, HJ.out.2.trans (but_set' _ g j _ _ rfl)⟩
            rw [← hset.out]
            exact wv_store HJ.out.1
          case measure => simp [intOf]; omega
        · obtain rfl : j = 1024 := by omega
          have hend : Hid (mix f zs us 1024 = joined f ws (k + 1)) := by
            show _ = _
            rw [hnext.out]
            exact mix_all f (by rw [HZL.out]; exact Nat.le_refl _) (by rw [HUL.out]; exact Nat.le_refl _)
          rw [hend.out] at HJ
          clear hend
          go_wp2
          go_roundw
          case rel =>
            refine ⟨k + 1, by omega, by go_num, HJ.out.1, HW.out.2.1, ?_⟩
            have h1 := HW.out.2.2
            exact (h1.trans (HR4.out.2.2.mono h1.size)).trans (HJ.out.2.below (Nat.le_trans h1.size HR4.out.2.2.size) (fun i hi => by rw [hi]; exact HW.out.2.1))
          case measure => simp [intOf]; omega
    · obtain rfl : k = m3 := by omega
      have hrl : (joined f ws k).length = 1024 := joined_len f ws hws.out h0w k hmw
      have hrx := joined_lt f hfl ws hwl.out h0w k hmw
      have hglt := (Array.getElem?_eq_some_iff.1 HW.out.1).1
      have hof := s_of wr (some ⟨g, 0, none⟩) 1024 (joined f ws k) (fun _ => ⟨g, 0, rfl, hglt, fun i hi => by
        rw [Nat.zero_add, cell_of_row wr g i _ _ (0, 0) HW.out.1]; exact (by simp [wv, hi])⟩) hrx (by omega)
      rw [hrl] at hof
      have HOF := Lib.hid hof
      have HRL := Lib.hid hrl
      clear hof hrl hrx hglt
      obtain ⟨js, hjs⟩ : ∃ js, joined f ws k = js := ⟨_, rfl⟩
      rw [hjs] at HW HOF HRL
      have HJS := Lib.hid hjs
      clear hjs
      go_wp2_with (go_at_call 81; (with_reducible refine HOF.out.mono ?_); rintro e w7 ⟨s, h, rfl, hst, hs, hh, hb7⟩; have HST := Lib.hid hst; have HB7 := Lib.hid hb7; clear hst hb7)
      go_ret
      have hl7 := HST.out.lt
      have hb8 : Below w7.heap.size w7 (w7.alloc (.cells #[.pointer (some ⟨s, 0, none⟩)] 80)) := (Below.refl _ _).alloc (Nat.le_refl _) _
      have z1 := HW.out.2.2.size
      have z2 := HB7.out.size
      exact ⟨w7.heap.size, s, h, rfl, ⟨alloc_top _ _ rfl, by rw [HJS.out]; exact HST.out.below hb8 hl7.1 hl7.2, by rw [HJS.out]; exact HRL.out⟩, (HW.out.2.2.trans (HB7.out.mono z1)).trans (hb8.mono (by omega)), by omega, by omega, by omega⟩
set_option maxRecDepth 100000 in
set_option maxHeartbeats 4000000 in
theorem join_xor (f : Nat → Nat → Nat) (hfl : ∀ a b, a < 18446744073709551616 → b < 18446744073709551616 → f a b < 18446744073709551616)
    (hF : ∀ (a b : Nat) (W : World), a < 18446744073709551616 → b < 18446744073709551616 → Calls Tryd.prog 61 #[.int .u64 (a : Int), .int .u64 (b : Int)] W fun e w' => e = .returned (.int .u64 (f a b : Nat)) ∧ W = w')
    (w : World) (A : Option Addr) (c : Nat) (ps : List (Option Addr)) (ws : List (List Nat)) (hr : Rps w A ps) (hl : ps.length = ws.length) (h0 : 0 < ps.length) (hc : ps.length ≤ c) (hn : ps.length ≤ 1000) (hp : ∀ (k : Nat) (h : k < ps.length) (h' : k < ws.length), PB w ps[k] ws[k]) :
    Calls Tryd.prog 57 #[.slice A ps.length c, .func (.func 61) #[] #[]] w fun e w' => ∃ p s h, e = .returned (.pointer (some ⟨p, 0, none⟩)) ∧ Bm w' p s h (joined f ws (ps.length - 1)) ∧ Below w.heap.size w w' ∧ w.heap.size ≤ p ∧ w.heap.size ≤ s ∧ w.heap.size ≤ h := by
  obtain ⟨b, off, rfl, hb, hcells⟩ := hr (by rintro rfl; simp at h0)
  have hfst := hcells 0 h0
  rw [Nat.add_zero] at hfst
  have hp0 := hp 0 h0 (by omega)
  have hws : Hid (∀ u ∈ ws, u.length = 1024) := fun u hu => by
    obtain ⟨k, hk, rfl⟩ := List.getElem_of_mem hu
    exact (hp k (by omega) hk).len
  have hwl : Hid (∀ u ∈ ws, ∀ x ∈ u, x < 18446744073709551616) := fun u hu => by
    obtain ⟨k, hk, rfl⟩ := List.getElem_of_mem hu
    exact (hp k (by omega) hk).lt
  have hrow0 := Lib.hid (fun W (hW : Below w.heap.size w W) => b_row W _ _ (hp0.below hW))
  obtain ⟨len, hlen⟩ : ∃ len, ps.length = len := ⟨_, rfl⟩
  rw [hlen] at h0 hc hn hl
  rw [hlen]
  obtain ⟨A3, hA3, hs1, hs2⟩ := rest_from b off len c h0 hc
  obtain ⟨m3, hm3⟩ : ∃ m3, len - 1 = m3 := ⟨_, rfl⟩
  obtain ⟨c3, hc3⟩ : ∃ c3, c - 1 = c3 := ⟨_, rfl⟩
  rw [hm3, hc3] at hs1 hs2
  rw [hm3]
  have HA := Lib.hid hA3
  have HP := Lib.hid hp
  have HC := Lib.hid hcells
  have HL := Lib.hid hl
  have HLN := Lib.hid hlen
  have hm31 : len = m3 + 1 := by omega
  have HM := Lib.hid hm31
  have hne : ((len : Int) == 0) = false := by simp; omega
  have hne2 : (len == 0) = false := by simp; omega
  have hne3 : ¬ len = 0 := by omega
  have hpos : (0 : Int) < (len : Int) := by omega
  have hone : (1 : Int) ≤ (len : Int) := by omega
  have h0w : 0 < ws.length := by omega
  have hmw : m3 < ws.length := by omega
  clear hA3 hm3 hc3 hp hcells hp0 hl hlen hm31
  generalize hp0v : ps[0]'(by have := HLN.out; omega) = p0 at *
  clear hp0v
  go_enter Tryd.func57, Tryd.ntmps57
  go_wp2_with (go_at_call 80; (with_reducible refine (hrow0.out _ (Below.refl _ _)).mono ?_); rintro e w2 ⟨g, rfl, hrw⟩; have HR2 := Lib.hid hrw; clear hrw)
  go_loopw [23] (fun i wr => ∃ k : Nat, k ≤ m3 ∧ i = .int .i64 (k : Int) ∧ Hid (wr.heap[g]? = some (.cells (wv (joined f ws k)).toArray 65 (0, 0)) ∧ w.heap.size ≤ g ∧ Below w.heap.size w wr)) (fun i _ => m3 - (intOf i).toNat)
  case atStart =>
    refine ⟨0, by omega, rfl, ?_, HR2.out.1, HR2.out.2.2⟩
    rw [joined_zero, List.getElem?_eq_getElem (by have := HL.out; omega)]
    exact HR2.out.2.1
  case round =>
    obtain ⟨k, hk, rfl, HW⟩ := hrel
    clear HR2 hrow0 hfst
    by_cases hlt : k < m3
    · have hA : A3 = some ⟨b, off + 1, none⟩ := HA.out (by have := HM.out; omega)
      subst hA
      have hk1 : k + 1 < ps.length := by have := HLN.out; have := HM.out; omega
      have hk2 : k + 1 < ws.length := by have := HL.out; have := HM.out; omega
      have hcp : wr.cell? ⟨b, off + 1 + k, none⟩ = some (.pointer ps[k + 1]) := by
        have h1 := (HW.out.2.2.cell (p := ⟨b, off + (k + 1), none⟩) hb).trans (HC.out (k + 1) hk1)
        rwa [show off + (k + 1) = off + 1 + k by omega] at h1
      have hrow := Lib.hid (b_row wr _ _ ((HP.out (k + 1) hk1 hk2).below HW.out.2.2))
      have hul := hws.out _ (List.getElem_mem hk2)
      have hux := Lib.hid (hwl.out _ (List.getElem_mem hk2))
      have hnext := Lib.hid (joined_succ f ws k hk2)
      have hzl := joined_len f ws hws.out h0w k (by omega)
      have hzx := Lib.hid (joined_lt f hfl ws hwl.out h0w k (by omega))
      generalize ps[k + 1] = pk at *
      generalize ws[k + 1] = us at *
      obtain ⟨zs, hzs⟩ : ∃ zs, joined f ws k = zs := ⟨_, rfl⟩
      rw [hzs] at hnext hzl hzx HW
      have HUL := Lib.hid hul
      have HZL := Lib.hid hzl
      clear hzs hul hzl hk1 hk2
      obtain ⟨wo, hwo⟩ : ∃ wo, wo = wr := ⟨_, rfl⟩
      subst hwo
      go_wp2_with (go_at_call 80; (with_reducible refine hrow.out.mono ?_); rintro e w4 ⟨g2, rfl, hrw⟩; have HR4 := Lib.hid hrw; clear hrw)
      have hgg : g ≠ g2 := by
        have h1 := (Array.getElem?_eq_some_iff.1 HW.out.1).1
        have h2 := HR4.out.1
        omega
      have hglt := (Array.getElem?_eq_some_iff.1 HW.out.1).1
      have hw4 : Hid (w4.heap[g]? = some (.cells (wv zs).toArray 65 (0, 0))) := (HR4.out.2.2.block g hglt).trans HW.out.1
      have hg24 : g2 < w4.heap.size := (Array.getElem?_eq_some_iff.1 HR4.out.2.1).1
      go_loopw [30] (fun i wr => ∃ j : Nat, j ≤ 1024 ∧ i = .int .i64 (j : Int) ∧ Hid (wr.heap[g]? = some (.cells (wv (mix f zs us j)).toArray 65 (0, 0)) ∧ ButS w4 wr (· = g))) (fun i _ => 1024 - (intOf i).toNat)
      case atStart => exact ⟨0, by omega, rfl, by rw [mix_zero]; exact hw4.out, ButS.refl _ _⟩
      case round =>
        obtain ⟨j, hj, rfl, HJ⟩ := hrel
        obtain ⟨wi, hwi⟩ : ∃ wi, wi = wr := ⟨_, rfl⟩
        subst hwi
        clear hw4
        by_cases hjl : j < 1024
        · have hj1 : j < zs.length := by rw [HZL.out]; exact hjl
          have hj2 : j < us.length := by rw [HUL.out]; exact hjl
          have ha := hzx.out _ (List.getElem_mem hj1)
          have hb2 := hux.out _ (List.getElem_mem hj2)
          have hc1 : wi.cell? ⟨g, j, none⟩ = some (.int .u64 (zs[j] : Nat)) := Row.cellR HJ.out.1 (mix_at f hj1 hj2)
          have hc2 : wi.cell? ⟨g2, j, none⟩ = some (.int .u64 (us[j] : Nat)) := Row.cellR ((HJ.out.2.block g2 hg24 (fun e => hgg e.symm)).trans HR4.out.2.1) (List.getElem?_eq_getElem hj2)
          have hfz : wi.frozen? ⟨g, j, none⟩ = false := by have := HJ.out.1; simp [World.frozen?, this]
          have hset := Lib.hid (mix_set f hj1 hj2)
          have hcall := fun W => Lib.hid (hF zs[j] us[j] W ha hb2)
          have hfx := hfl _ _ ha hb2
          have hjlI : (j : Int) < 1024 := by omega
          generalize zs[j] = za at *
          generalize us[j] = ub at *
          generalize f za ub = fx at *
          clear ha hb2 hj1 hj2
          go_wp2_with (go_at_call 61; (with_reducible refine (hcall _).out.mono ?_); rintro e w6 ⟨rfl, rfl⟩)
          go_roundw
          case rel =>
            refine ⟨j + 1, by omega, by go_num, ?_, HJ.out.2.trans (but_set' _ g j _ _ rfl)⟩
            rw [← hset.out]
            exact wv_store HJ.out.1
          case measure => simp [intOf]; omega
        · obtain rfl : j = 1024 := by omega
          have hend : Hid (mix f zs us 1024 = joined f ws (k + 1)) := by
            show _ = _
            rw [hnext.out]
            exact mix_all f (by rw [HZL.out]; exact Nat.le_refl _) (by rw [HUL.out]; exact Nat.le_refl _)
          rw [hend.out] at HJ
          clear hend
          go_wp2
          go_roundw
          case rel =>
            refine ⟨k + 1, by omega, by go_num, HJ.out.1, HW.out.2.1, ?_⟩
            have h1 := HW.out.2.2
            exact (h1.trans (HR4.out.2.2.mono h1.size)).trans (HJ.out.2.below (Nat.le_trans h1.size HR4.out.2.2.size) (fun i hi => by rw [hi]; exact HW.out.2.1))
          case measure => simp [intOf]; omega
    · obtain rfl : k = m3 := by omega
      have hrl : (joined f ws k).length = 1024 := joined_len f ws hws.out h0w k hmw
      have hrx := joined_lt f hfl ws hwl.out h0w k hmw
      have hglt := (Array.getElem?_eq_some_iff.1 HW.out.1).1
      have hof := s_of wr (some ⟨g, 0, none⟩) 1024 (joined f ws k) (fun _ => ⟨g, 0, rfl, hglt, fun i hi => by
        rw [Nat.zero_add, cell_of_row wr g i _ _ (0, 0) HW.out.1]; exact (by simp [wv, hi])⟩) hrx (by omega)
      rw [hrl] at hof
      have HOF := Lib.hid hof
      have HRL := Lib.hid hrl
      clear hof hrl hrx hglt
      obtain ⟨js, hjs⟩ : ∃ js, joined f ws k = js := ⟨_, rfl⟩
      rw [hjs] at HW HOF HRL
      have HJS := Lib.hid hjs
      clear hjs
      go_wp2_with (go_at_call 81; (with_reducible refine HOF.out.mono ?_); rintro e w7 ⟨s, h, rfl, hst, hs, hh, hb7⟩; have HST := Lib.hid hst; have HB7 := Lib.hid hb7; clear hst hb7)
      go_ret
      have hl7 := HST.out.lt
      have hb8 : Below w7.heap.size w7 (w7.alloc (.cells #[.pointer (some ⟨s, 0, none⟩)] 80)) := (Below.refl _ _).alloc (Nat.le_refl _) _
      have z1 := HW.out.2.2.size
      have z2 := HB7.out.size
      exact ⟨w7.heap.size, s, h, rfl, ⟨alloc_top _ _ rfl, by rw [HJS.out]; exact HST.out.below hb8 hl7.1 hl7.2, by rw [HJS.out]; exact HRL.out⟩, (HW.out.2.2.trans (HB7.out.mono z1)).trans (hb8.mono (by omega)), by omega, by omega, by omega⟩
end Go.Proofs.YtbbnamdlfnonoaaDoor
