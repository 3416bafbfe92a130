
/- The entries of a table, rising: the list that is made and sorted; the text walked. -/
import Derived.Test.YtkpfgbcjimkfeaaHCmp2
import Derived.Test.YtkpfgbcjimkfeaaHAll2
namespace Go.Proofs.Ytkpfgbcjimkfeaa
open Go.RowKit Go.Lib Go.Sort Go.Shelf
def mkE (x : H.Key × Nat) : H.En := ⟨x.1.1, x.1.2, x.2, true⟩
theorem ekv_mkE (x : H.Key × Nat) : ekv (mkE x) = x := rfl
theorem mkE_ekv (e : H.En) (h : e.t = true) : mkE (ekv e) = e := by cases e; simp at h; subst h; rfl
/-- The taken ones. -/
def tl (ps : List H.En) : List H.En := ps.filter fun e => e.t
theorem tl_ents (ps : List H.En) : (tl ps).map ekv = H.ents ps := by
  induction ps with
  | nil => rfl
  | cons e ps ih =>
    rw [H.ents_cons, ← ih]
    unfold tl
    rw [List.filter_cons]
    by_cases h : e.t = true <;> simp [h, ekv]
theorem tl_t (ps : List H.En) : ∀ e ∈ tl ps, e.t = true := fun e he => by unfold tl at he; simpa using (List.mem_filter.1 he).2
theorem tl_back (ps : List H.En) : ((tl ps).map ekv).map mkE = tl ps := by
  rw [List.map_map]
  conv => rhs; rw [← List.map_id (tl ps)]
  exact List.map_congr_left (fun e he => mkE_ekv e (tl_t ps e he))
theorem tl_succ {ps : List H.En} {k : Nat} (h : k < ps.length) : tl (ps.take (k + 1)) = tl (ps.take k) ++ (if (H.ge ps k).t = true then [H.ge ps k] else []) := by
  rw [List.take_succ_eq_append_getElem h, H.ge_get h]
  unfold tl
  rw [List.filter_append]
  by_cases ht : ps[k].t = true <;> simp [ht]
theorem tl_take_le (ps : List H.En) (k : Nat) : (tl (ps.take k)).length ≤ (tl ps).length := by
  have : tl ps = tl (ps.take k) ++ tl (ps.drop k) := by unfold tl; rw [← List.filter_append, List.take_append_drop]
  rw [this, List.length_append]; omega
theorem ev_snoc (l : List H.En) (e : H.En) : ev (l ++ [e]) = ev l ++ [Value.int .u8 (e.l : Int), Value.int .u64 (e.p : Int), Value.int .u64 (e.v : Int), Value.bool e.t] := by simp [ev]
/-- Rising, by key. -/
def Ris (es : List (H.Key × Nat)) : Prop := es.Pairwise fun a b => klt a.1 b.1
theorem ris_key {es : List (H.Key × Nat)} (h : Ris es) : ∀ a ∈ es, ∀ b ∈ es, a.1 = b.1 → a = b := by
  induction es with
  | nil => intro a ha; cases ha
  | cons x es ih =>
    obtain ⟨h1, h2⟩ := List.pairwise_cons.1 h
    intro a ha b hb e
    rcases List.mem_cons.1 ha with rfl | ha2
    · rcases List.mem_cons.1 hb with rfl | hb2
      · rfl
      · have := h1 b hb2
        rw [← e] at this
        unfold klt at this
        omega
    · rcases List.mem_cons.1 hb with rfl | hb2
      · have := h1 a ha2
        rw [e] at this
        unfold klt at this
        omega
      · exact ih h2 a ha2 b hb2 e
theorem sorted_is {d d' : Array H.En} {ps : List H.En} {es : List (H.Key × Nat)} (hd : d.toList = tl ps) (hp : (H.ents ps).Perm es) (hr : Ris es) (h1 : PermIn 0 d.size d d') (h2 : SortedIn (ltOf cfE) 0 d.size d') : d'.toList = es.map mkE := by
  obtain ⟨hsz, _, hpm⟩ := h1
  have e1 : (d'.extract 0 d.size).toList = d'.toList := by rw [← hsz]; simp
  have e2 : (d.extract 0 d.size).toList = d.toList := by simp
  rw [e1, e2, hd] at hpm
  have hq : (tl ps).Perm (es.map mkE) := by
    have := hp.map mkE
    rw [← tl_ents, tl_back] at this
    exact this
  have hall := hpm.trans hq
  refine List.Perm.eq_of_pairwise (le := fun a b => ltOf cfE b a = false) ?_ ?_ ?_ hall
  · intro a b ha hb hab hba
    rw [cf_nlt] at hab hba
    obtain ⟨x, hx, rfl⟩ := List.mem_map.1 (hall.mem_iff.1 ha)
    obtain ⟨y, hy, rfl⟩ := List.mem_map.1 hb
    have hk : x.1 = y.1 := by
      have h3 : ¬ klt y.1 x.1 := hab
      have h4 : ¬ klt x.1 y.1 := hba
      unfold klt at h3 h4
      exact Prod.ext (by omega) (by omega)
    rw [ris_key hr x hx y hy hk]
  · rw [List.pairwise_iff_getElem]
    intro i j hi hj hij
    have hi' : i < d'.size := by simpa using hi
    have hj' : j < d'.size := by simpa using hj
    have := h2 i j (Nat.zero_le _) hij (by omega)
    rw [getElem!_pos d' j hj', getElem!_pos d' i hi'] at this
    simpa using this
  · rw [List.pairwise_map]
    refine List.Pairwise.imp (fun {a b} h => ?_) hr
    rw [cf_nlt]
    show ¬ klt b.1 a.1
    unfold klt at *
    omega
theorem but_sort (w : World) (blk n : Nat) (d : Array H.En) (os : Array Obj) : ButS w (sortWorldK encL 4 w blk 0 n d os) (· = blk) := by
  refine ⟨rfl, rfl, rfl, ?_, fun j hj hne => ?_⟩
  · show w.heap.size ≤ ((w.heap.modify blk _) ++ os).size
    simp
  · show ((w.heap.modify blk _) ++ os)[j]? = _
    rw [Array.getElem?_append_left (by simpa using hj), Array.getElem?_modify]
    have : ¬ blk = j := fun e => hne e.symm
    simp [this]
theorem er_holds {w : World} {blk : Nat} {d : Array H.En} (h : HoldsK encL 4 w blk 0 d) (hb : blk < w.heap.size) : ER w blk d.toList := by
  refine ⟨hb, fun k hk => ?_⟩
  have hk' : k < d.size := by simpa using hk
  have hc : ∀ c, c < 4 → w.cell? ⟨blk, k * 4 + c, none⟩ = some ((encL d[k])[c]!) := by
    intro c hc
    have h1 := (h (k * 4 + c) (by rw [size_flatK]; omega)).1
    rw [get_flatK _ _ _ _ (by omega)] at h1
    have e1 : (k * 4 + c) / 4 = k := by omega
    have e2 : (k * 4 + c) % 4 = c := by omega
    rw [e1, e2, Nat.zero_add, getElem!_pos d k hk'] at h1
    exact h1
  have e : d.toList[k] = d[k] := by simp
  rw [e]
  exact ⟨hc 0 (by omega), hc 1 (by omega), hc 2 (by omega), hc 3 (by omega)⟩
theorem holds_own {w : World} {base g n cap : Nat} {l : List H.En} (h : w.ownsRow base 60 4 (.slice (some ⟨g, 0, none⟩) n cap) n (ev l)) (hl : l.length = n) : HoldsK encL 4 w g 0 l.toArray := by
  intro t ht
  rw [size_flatK] at ht
  have ht' : t < l.length * 4 := by simpa using ht
  refine ⟨?_, by rw [Nat.zero_add]; exact h.frozenAt t⟩
  rw [Nat.zero_add, h.cellAt t (by omega), get_flatK _ _ _ _ ht]
  have hk : t / 4 < l.length := by omega
  have ha := ev_at l (t / 4) hk
  have eg : l.toArray[t / 4]! = l[t / 4] := by rw [getElem!_pos l.toArray (t / 4) (by simpa using hk)]; simp
  rw [eg]
  have hm : t % 4 = 0 ∨ t % 4 = 1 ∨ t % 4 = 2 ∨ t % 4 = 3 := by omega
  rcases hm with e | e | e | e
  · have et : t = t / 4 * 4 := by omega
    conv => lhs; rw [et]
    rw [ha.1, e]; rfl
  · have et : t = t / 4 * 4 + 1 := by omega
    conv => lhs; rw [et]
    rw [ha.2.1, e]; rfl
  · have et : t = t / 4 * 4 + 2 := by omega
    conv => lhs; rw [et]
    rw [ha.2.2.1, e]; rfl
  · have et : t = t / 4 * 4 + 3 := by omega
    conv => lhs; rw [et]
    rw [ha.2.2.2, e]; rfl
theorem mk_cap (c : Nat) (hn : c ≤ 2199023255552) (w : World) : (Instr.makeSlice 37 (.int .i64 0) (.int .i64 (c : Int))).run Try.prog w = .ok (.slice (some ⟨w.heap.size, 0, none⟩) 0 c) (w.alloc (.cells (ev (List.replicate c H.z)).toArray 60)) := by
  obtain ⟨ti, hi, hb, hz, hsz⟩ : ∃ ti, Try.prog.info? 60 = some ti ∧ ti.bytes = 32 ∧ ti.zero = some (.agg #[.int .u8 0, .int .u64 0, .int .u64 0, .bool false]) ∧ ti.size = 4 := ⟨_, rfl, rfl, rfl, rfl⟩
  have := run_make (P := Try.prog) w 37 60 ti _ (by kernel_rfl) hi hz .i64 .i64 0 (c : Int) (by omega) (by omega) (by rw [hb]; omega) (by omega)
  rw [← made_ev]
  simpa [hsz, Value.cells] using this
theorem own_cap0 (w : World) (c : Nat) (hc : c ≤ 1000000) (W : World) (hW : W.heap[w.heap.size]? = some (.cells (ev (List.replicate c H.z)).toArray 60 (0, 0))) : W.ownsRow w.heap.size 60 4 (.slice (some ⟨w.heap.size, 0, none⟩) 0 c) 0 (ev []) :=
  ⟨rfl, .inr ⟨w.heap.size, c, _, rfl, Nat.le_refl _, hW, Nat.zero_le _, by unfold maxLen; omega, by simp [ev_len], by simp [ev]⟩⟩
theorem entry_info : (Try.prog.info? 60).map (fun i => (i.zero, i.size, i.bytes)) = some (some (.agg #[.int .u8 0, .int .u64 0, .int .u64 0, .bool false]), 4, 32) := by kernel_rfl
theorem news4 (W : World) (g : Nat) (hg : g = W.heap.size) (a b c d : Value) (T : TypeId) : ∀ j u, [a, b, c, d][j]? = some u → (W.alloc (.cells #[a, b, c, d] T)).cell? ((⟨g, 0, none⟩ : Addr).add j) = some u := by
  subst hg
  intro j u hu
  rw [add_off]
  have h := cell_of_row (W.alloc (.cells #[a, b, c, d] T)) W.heap.size j _ _ (0, 0) (alloc_topI W (.cells #[a, b, c, d] T))
  rw [h]
  match j, hu with
  | 0, hu => simpa using hu
  | 1, hu => simpa using hu
  | 2, hu => simpa using hu
  | 3, hu => simpa using hu
set_option maxHeartbeats 2000000 in
theorem rising_tab (w : World) (P Q M seed n pr cl : Nat) (es : List (H.Key × Nat)) (a : Tab w P Q M seed n es pr cl) (hr : Ris es) (hl : es.length ≤ 1000000) :
    Calls Try.prog 28 #[.pointer (some ⟨P, 0, none⟩)] w (RisP w (es.map mkE)) := by
  obtain ⟨ps, t, p, h1, h2, h3, h4, h5, h6, h7, h8⟩ := a
  obtain ⟨i0, hi, hz0, hz1, hz2⟩ := info_parts3 entry_info
  have hPl := h1.row.lt
  have hQl := h1.qlt
  have hc3 := h1.row.c3
  have hl8 := h1.len
  have hmk := mk_cap es.length (by omega)
  have htl : (tl ps).length = es.length := by rw [← h4.length_eq, ← tl_ents, List.length_map]
  have HT := Lib.hid h1
  have H2 := Lib.hid h2
  have H4 := Lib.hid h4
  have HR := Lib.hid hr
  have HTL := Lib.hid htl
  have ho0 := own_cap0 w es.length hl
  have hb0 : Below w.heap.size w (w.alloc (.cells (ev (List.replicate es.length H.z)).toArray 60)) := (Below.refl _ w).alloc (Nat.le_refl _) _
  have ho1 := Lib.hid (ho0 _ (alloc_topI w (.cells (ev (List.replicate es.length H.z)).toArray 60)))
  have HB0 := Lib.hid hb0
  have hT0 := h1.below hb0 (Nat.le_refl _)
  have hc2 := hT0.row.c2
  rw [h2] at hc2
  clear h1 h2 h3 h4 h5 h6 h7 h8 hr htl ho0 hb0 hT0
  generalize hcl : es.length = c at *
  have HCL := Lib.hid hcl
  clear hcl
  go_enter Try.func28, Try.ntmps28
  go_wp2
  generalize hW0 : w.alloc (.cells (ev (List.replicate c H.z)).toArray 60) = W0 at *
  have HW0 := Lib.hid hW0
  clear hW0 hc2
  have hg0 : w.heap.size < W0.heap.size := by
    rw [← HW0.out]; simp
  generalize hg : w.heap.size = g at *
  have HG := Lib.hid hg
  clear hg
  go_loopw [3, 18] (fun uv ui wr => ∃ k j : Nat, ui = .int .i64 (k : Int) ∧ k ≤ n ∧ uv = .slice (some ⟨g, 0, none⟩) j c ∧ Hid ((tl (ps.take k)).length = j) ∧ Hid (wr.ownsRow g 60 4 (.slice (some ⟨g, 0, none⟩) j c) j (ev (tl (ps.take k)))) ∧ Hid (Below g w wr))
    (fun _ ui _ => n - (intOf ui).toNat)
  case atStart => exact ⟨0, 0, rfl, by omega, rfl, Lib.hid rfl, ho1, HB0⟩
  case round =>
    obtain ⟨k, j, rfl, hk, rfl, HJ, HO, HB⟩ := hrel
    clear ho1 HB0
    have hTr := HT.out.below HB.out (Nat.le_of_eq HG.out)
    have hgw : g < wr.heap.size := (own_lt HO.out rfl).1
    by_cases hlt : k < n
    · have hkl : k < ps.length := by rw [H2.out]; exact hlt
      have hT1 : decide ((k : Int) < (n : Int)) = true := decide_eq_true (by omega)
      have hT2 : decide (k < n) = true := decide_eq_true hlt
      obtain ⟨x0, x1, x2, x3⟩ := hTr.cellg k hkl
      have hsu := tl_succ hkl
      have hle := tl_take_le ps (k + 1)
      rw [HTL.out] at hle
      clear hTr
      cases ht : (H.ge ps k).t with
      | false =>
        rw [ht] at x3 hsu
        have HS := Lib.hid (show tl (ps.take (k + 1)) = tl (ps.take k) by simpa using hsu)
        clear hsu ht hle
        go_wp2
        exact ⟨⟨k + 1, j, by go_num, by omega, rfl, Lib.hid (by rw [HS.out]; exact HJ.out), Lib.hid (by rw [HS.out]; exact HO.out.alloc _), Lib.hid (HB.out.alloc (by have := HB.out.size; omega) _)⟩, by simp [intOf]; omega⟩
      | true =>
        rw [ht] at x3
        rw [if_pos ht] at hsu
        have hjc : j + 1 ≤ c := by
          rw [hsu, List.length_append, HJ.out] at hle
          exact hle
        generalize hee : H.ge ps k = e at *
        have HS := Lib.hid hsu
        have HTt := Lib.hid ht
        clear hsu ht hle hee
        go_wp2_with (first
          | (at_builtin; refine wpList_append_fits _ rfl _ _ 37 rfl g 60 i0 4 Try.underlying37 hi hz1 g j c (ev (tl (ps.take k))) rfl ((HO.out.alloc _).alloc _) ⟨wr.heap.size + 1, 0, none⟩ 1 1 [.int .u8 (e.l : Int), .int .u64 (e.p : Int), .int .u64 (e.v : Int), .bool true] rfl rfl (news4 _ _ (by simp) _ _ _ _ _) (by intro u hu; simp at hu; rcases hu with rfl | rfl | rfl | rfl <;> rfl) hjc ?_; intro w2 hown2 hgrow2
             have HO2 := Lib.hid hown2
             have HG2 := Lib.hid hgrow2
             clear hown2 hgrow2))
        have hb2 : Below g w w2 := ((HB.out.alloc (by have := HB.out.size; omega) _).alloc (by have := HB.out.size; simp; omega) _).grown HG2.out (by have := HB.out.size; simp; omega) (fun j e => by cases e; exact Nat.le_refl _)
        have hrow : w2.ownsRow g 60 4 (.slice (some ⟨g, 0, none⟩) (j + 1) c) (j + 1) (ev (tl (ps.take (k + 1)))) := by
          rw [HS.out, ev_snoc, HTt.out]
          exact HO2.out
        exact ⟨⟨k + 1, j + 1, by go_num, by omega, rfl, Lib.hid (by rw [HS.out, List.length_append, HJ.out]; rfl), Lib.hid hrow, Lib.hid hb2⟩, by simp [intOf]; omega⟩
    · obtain rfl : k = n := by omega
      have hT1 : decide ((k : Int) < (k : Int)) = false := decide_eq_false (by omega)
      have hT2 : decide (k < k) = false := decide_eq_false (by omega)
      have hfull : tl (ps.take k) = tl ps := by rw [List.take_of_length_le (Nat.le_of_eq H2.out)]
      have hO := HO.out
      have hJ := HJ.out
      rw [hfull] at hO hJ
      have hH := holds_own hO hJ
      have hsz : (tl ps).toArray.size = j := by simpa using hJ
      have hso := sort_entries g c (tl ps).toArray wr hH hgw (by rw [hsz]; have := HTL.out; omega)
      rw [hsz] at hso
      have HSO := Lib.hid hso
      have HH := Lib.hid hH
      have HF := Lib.hid hfull
      have HSZ := Lib.hid hsz
      have hjle : j ≤ 1000000 := by have := HTL.out; omega
      clear hO hJ hH hso hfull hsz hTr
      go_wp2_with (first
        | (go_at_call 34; (with_reducible refine HSO.out.mono ?_); rintro e w5 ⟨rfl, d', q, os, hp5, hs5, hw5⟩
           have HW5 := Lib.hid hw5
           have HP5 := Lib.hid hp5
           have HS5 := Lib.hid hs5
           clear hp5 hs5 hw5))
      refine bodyPost_ret (results_tmp (t := 2) rfl _ _ _) rfl ?_
      have hd' := sorted_is (d := (tl ps).toArray) (by simp) H4.out HR.out (by rw [HSZ.out]; exact HP5.out) (by rw [HSZ.out]; exact HS5.out)
      have hds : d'.size = (tl ps).toArray.size := by rw [HSZ.out]; exact HP5.out.1.trans HSZ.out
      have hbs := but_sort wr g q d' os
      have hER := er_holds (holdsK_sortWorldK_c encL 4 wr g 0 (tl ps).toArray d' q os HH.out hgw hds) (Nat.lt_of_lt_of_le hgw hbs.size)
      rw [hd', ← HW5.out] at hER
      rw [← HW5.out] at hbs
      have hlen : (es.map mkE).length = j := by rw [← hd']; simp; rw [hds, HSZ.out]
      rw [← hlen]
      refine ⟨some ⟨g, 0, none⟩, c, rfl, ?_, .inr ⟨g, rfl, Nat.le_of_eq HG.out, hER⟩⟩
      rw [HG.out]
      exact HB.out.trans (hbs.below (by omega) (fun j h => by omega))
end Go.Proofs.Ytkpfgbcjimkfeaa
