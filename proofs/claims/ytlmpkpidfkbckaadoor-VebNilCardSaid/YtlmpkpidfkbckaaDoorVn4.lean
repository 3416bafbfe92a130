
/- A pool of nodes: Alloc, Free, Clear, New; the texts walked. -/
import Derived.Test.YtlmpkpidfkbckaaDoorVn3
namespace Go.Proofs.YtlmpkpidfkbckaaDoor
set_option maxRecDepth 40000
open Go.RowKit
theorem chg_set6 (w : World) (g i : Nat) (y : Nd) (b : Bool) (O : Nat → Prop) (h : O g) : K.Chg w (set6 w g i y b) O := (chg_set5 w g i y O h).same (chg_set _ g _ _ O h)
theorem chg_six (w : World) (g : Nat) (i0 i1 i2 i3 i4 i5 : Nat) (a b c d e zl : Value) (O : Nat → Prop) (h : O g) : K.Chg w ((((((w.setCell ⟨g, i0, none⟩ a).setCell ⟨g, i1, none⟩ b).setCell ⟨g, i2, none⟩ c).setCell ⟨g, i3, none⟩ d).setCell ⟨g, i4, none⟩ e).setCell ⟨g, i5, none⟩ zl) O :=
  (chg_five w g i0 i1 i2 i3 i4 a b c d e O h).same (chg_set _ g _ _ O h)
theorem size_set (w : World) (p : Addr) (u : Value) : (w.setCell p u).heap.size = w.heap.size := by simp [World.setCell]
theorem QStep.from {w0 w w' : World} {Q M lim : Nat} {An Af : Option Addr} {ns' : List (Nd × Bool)} {fs' : List Nat} (hb : Below w0.heap.size w0 w) (h : QStep w Q M lim An Af ns' fs' w') : QStep w0 Q M lim An Af ns' fs' w' := by
  obtain ⟨An', cn', Af', cf', h1, h2, h3⟩ := h
  refine ⟨An', cn', Af', cf', h1, (K.Chg.of_below hb).same h2, fun j hj => ?_⟩
  rcases h3 j hj with h | h
  · exact .inl h
  · exact .inr (Nat.le_trans hb.size h)
section
variable (w : World) (Q M lim cn cf : Nat) (An Af : Option Addr) (ns : List (Nd × Bool)) (fs : List Nat)
set_option maxHeartbeats 2000000 in
theorem q_alloc_by (a : Qo w Q M lim An cn Af cf ns fs) (level : Int) (word : Nat) (least : Nat) (greatest : Nat) (summary : Int) (i : Nat) (ns' : List (Nd × Bool)) (fs' : List Nat) (hf : ns.length - fs.length < lim) (hi : i < ns'.length) (hif : i ∉ fs') 
    (hn : ∀ V, Qo V Q M lim An cn Af cf ns fs → Calls Tryd.prog 83 #[.pointer (some ⟨Q, 0, none⟩)] V fun e w' => e = .returned (.int .i64 (i : Int)) ∧ QStep V Q M lim An Af ns' fs' w') :
    Calls Tryd.prog 63 #[.pointer (some ⟨Q, 0, none⟩), ndv level word least greatest summary] w fun e w' => e = .returned (.tuple #[.int .i64 (i : Int), .bool true]) ∧ QStep w Q M lim An Af (ns'.set i (⟨level, word, least, greatest, summary⟩, true)) fs' w' := by
  have hb : Below w.heap.size w (w.alloc (ndo level word least greatest summary)) := (Below.refl _ w).alloc (Nat.le_refl _) _
  have a1 := a.chg (K.Chg.of_below (O := fun _ => False) hb) (fun _ _ h => h)
  have hr := Lib.hid (q_room _ Q M lim cn cf An Af ns fs a1 1)
  have d : decide ((1 : Int) ≤ (lim : Int) - ((ns.length - fs.length : Nat) : Int)) = true := decide_eq_true (by omega)
  rw [d] at hr
  have hnH := Lib.hid (fun N => hn _ (a1.drew N))
  have hqb := Lib.hid (fun j (h : QB Q An Af j) => a.qb h)
  have HB := Lib.hid hb
  have HI := Lib.hid hif
  have hrow := Lib.hid (K.alloc_top w (ndo level word least greatest summary))
  clear a a1 d hf hn hb hif
  go_enter Tryd.func63, Tryd.ntmps63
  go_wp2_with (first
    | (go_at_call 39; (with_reducible refine hr.out.mono ?_); rintro e w' ⟨rfl, N, rfl⟩)
    | (go_at_call 83; (with_reducible refine (hnH.out _).mono ?_); rintro e w1 ⟨rfl, An', cn', Af', cf', hP, hBu, hIn⟩
       have hc2 := hP.c2
       obtain ⟨g, rfl, x0, x1, x2, x3, x4, x5, hfr⟩ := hP.at hi
       have hrow1 := (hBu.block w.heap.size (by show w.heap.size < (w.heap.push _).size; simp) (fun h => by have := hqb.out _ h; omega)).trans hrow.out
       obtain ⟨y0, y1, y2, y3, y4⟩ := nd_cells hrow1
       have hPH := Lib.hid (hP.place hi HI.out ⟨level, word, least, greatest, summary⟩ true)
       have hBH := Lib.hid hBu
       have hIH := Lib.hid hIn
       have hf0 := hfr (i * 6)
       have hf1 := hfr (i * 6 + 1)
       have hf2 := hfr (i * 6 + 2)
       have hf3 := hfr (i * 6 + 3)
       have hf4 := hfr (i * 6 + 4)
       have hf5 := hfr (i * 6 + 5)
       clear hfr hP hBu hIn hrow1
       have k1 : (i : Int) < (ns'.length : Int) := (by omega)))
  go_region
  all_goals
    go_wp2
    go_ret2
    have b0 : K.Chg w w1 (QB Q An Af) := (K.Chg.of_below HB.out).same ⟨hBH.out.os, hBH.out.tape, hBH.out.output, hBH.out.size, hBH.out.block⟩
    have hs : w.heap.size ≤ (w.alloc (ndo level word least greatest summary)).heap.size := HB.out.size
    refine ⟨rfl, _, cn', Af', cf', hPH.out.drew 1, (b0.trans (chg_set6 w1 g (i * 6) ⟨level, word, least, greatest, summary⟩ true (· = g) rfl) (fun j e => ?_)).drewN 1, fun j hj => ?_⟩
    · subst e
      rcases hIH.out _ (.inr (.inl rfl)) with h | h
      · exact .inl h
      · exact .inr (Nat.le_trans hs h)
    · rcases hIH.out _ hj with h | h
      · exact .inl h
      · exact .inr (Nat.le_trans hs h)
/-- A place that may be taken next. -/
theorem q_alloc (a : Qo w Q M lim An cn Af cf ns fs) (level : Int) (word : Nat) (least : Nat) (greatest : Nat) (summary : Int) (hf : ns.length - fs.length < lim) :
    ∃ (i : Nat) (ns' : List (Nd × Bool)) (fs' : List Nat), (i < ns'.length) ∧ ((∃ h : i < ns.length, ns[i].2 = false) ∨ ns.length ≤ i) ∧ ns'[i]? = some (⟨level, word, least, greatest, summary⟩, true) ∧ (∀ j, j ≠ i → ns'[j]? = ns[j]?) ∧ ns'.length - fs'.length = ns.length - fs.length + 1 ∧ (fs = [] → i = ns.length ∧ fs' = [] ∧ ns'.length = ns.length + 1) ∧
      Calls Tryd.prog 63 #[.pointer (some ⟨Q, 0, none⟩), ndv level word least greatest summary] w fun e w' => e = .returned (.tuple #[.int .i64 (i : Int), .bool true]) ∧ QStep w Q M lim An Af ns' fs' w' := by
  have hl := a.ns_le
  have hl2 := a.lim_le
  rcases List.eq_nil_or_concat fs with rfl | ⟨f0, i, rfl⟩
  · refine ⟨ns.length, ns ++ [(⟨level, word, least, greatest, summary⟩, true)], [], by simp, .inr (Nat.le_refl _), by simp, fun j hj => ?_, by simp, fun _ => ⟨rfl, rfl, by simp⟩, ?_⟩
    · rcases Nat.lt_or_ge j ns.length with h | h
      · rw [List.getElem?_append_left h]
      · rw [List.getElem?_eq_none (by simp; omega), List.getElem?_eq_none h]
    · have h0 : ns.length < lim := by simpa using hf
      have := q_alloc_by w Q M lim cn cf An Af ns [] a level word least greatest summary ns.length (ns ++ [(Nd.z, false)]) [] hf (by simp) (by simp) (fun V aV => q_next_new V Q M lim cn cf An Af ns aV h0)
      have e : (ns ++ [(Nd.z, false)]).set ns.length (⟨level, word, least, greatest, summary⟩, true) = ns ++ [(⟨level, word, least, greatest, summary⟩, true)] := by
        rw [List.set_append_right _ _ (Nat.le_refl _)]
        simp
      rw [e] at this
      exact this
  · rw [List.concat_eq_append] at a hf
    obtain ⟨hi, ht⟩ := a.inr i (by simp)
    have hnd := List.nodup_append.1 a.nod
    have hfl := a.fs_le
    simp at hfl
    refine ⟨i, ns.set i (⟨level, word, least, greatest, summary⟩, true), f0, by simpa using hi, .inl ⟨hi, ht⟩, by simp [hi], fun j hj => by rw [List.getElem?_set_ne (Ne.symm hj)], by simp; omega, fun e => by simp at e, ?_⟩
    exact q_alloc_by w Q M lim cn cf An Af ns (f0 ++ [i]) a level word least greatest summary i ns f0 hf hi (fun hm => hnd.2.2 i hm i (by simp) rfl) (fun V aV => q_next_pop V Q M lim cn cf An Af ns f0 i f0.length aV rfl)
theorem q_alloc_no (a : Qo w Q M lim An cn Af cf ns fs) (level : Int) (word : Nat) (least : Nat) (greatest : Nat) (summary : Int) (hf : ¬ ns.length - fs.length < lim) :
    Calls Tryd.prog 63 #[.pointer (some ⟨Q, 0, none⟩), ndv level word least greatest summary] w fun e w' => e = .returned (.tuple #[.int .i64 0, .bool false]) ∧ Below w.heap.size w w' := by
  have hb : Below w.heap.size w (w.alloc (ndo level word least greatest summary)) := (Below.refl _ w).alloc (Nat.le_refl _) _
  have a1 := a.chg (K.Chg.of_below (O := fun _ => False) hb) (fun _ _ h => h)
  have hr := Lib.hid (q_room _ Q M lim cn cf An Af ns fs a1 1)
  have d : decide ((1 : Int) ≤ (lim : Int) - ((ns.length - fs.length : Nat) : Int)) = false := decide_eq_false (by omega)
  rw [d] at hr
  have HB := Lib.hid hb
  clear a a1 d hf hb
  go_enter Tryd.func63, Tryd.ntmps63
  go_wp2_with (go_at_call 39; (with_reducible refine hr.out.mono ?_); rintro e w' ⟨rfl, N, rfl⟩)
  go_ret2
  exact ⟨rfl, ⟨HB.out.os, HB.out.tape, HB.out.output, HB.out.size, HB.out.block⟩⟩
set_option maxHeartbeats 2000000 in
theorem q_free (a : Qo w Q M lim An cn Af cf ns fs) (k : Nat) (hk : k < ns.length) (ht : ns[k].2 = true) :
    Calls Tryd.prog 67 #[.pointer (some ⟨Q, 0, none⟩), .int .i64 (k : Int)] w fun e w' => e = .returned (.bool true) ∧ QStep w Q M lim An Af (ns.set k (Nd.z, false)) (fs ++ [k]) w' := by
  have hl := Lib.hid (q_live w Q M lim cn cf An Af ns fs a k)
  rw [lvq_yes hk ht] at hl
  obtain ⟨i0, hi, hz0, hz1, hz2⟩ := info_parts int_info
  obtain ⟨hkf, hfl⟩ := a.fs_lt hk ht
  have hc2 := a.c2
  have hQlt := a.lt
  obtain ⟨g, rfl, x0, x1, x2, x3, x4, x5, hfr⟩ := a.at hk
  have f0 := hfr (k * 6)
  have f1 := hfr (k * 6 + 1)
  have f2 := hfr (k * 6 + 2)
  have f3 := hfr (k * 6 + 3)
  have f4 := hfr (k * 6 + 4)
  have f5 := hfr (k * 6 + 5)
  have k1 : (k : Int) < (ns.length : Int) := by omega
  have hp : Qo ((((((w.setCell ⟨g, k * 6, none⟩ (.int .i64 0)).setCell ⟨g, k * 6 + 1, none⟩ (.int .u64 0)).setCell ⟨g, k * 6 + 2, none⟩ (.int .u64 0)).setCell ⟨g, k * 6 + 3, none⟩ (.int .u64 0)).setCell ⟨g, k * 6 + 4, none⟩ (.int .i64 0)).setCell ⟨g, k * 6 + 5, none⟩ (.bool false)) Q M lim (some ⟨g, 0, none⟩) cn Af cf (ns.set k (Nd.z, false)) fs := by
    have := a.place hk hkf Nd.z false
    exact this
  have hb0 : K.Chg w ((((((w.setCell ⟨g, k * 6, none⟩ (.int .i64 0)).setCell ⟨g, k * 6 + 1, none⟩ (.int .u64 0)).setCell ⟨g, k * 6 + 2, none⟩ (.int .u64 0)).setCell ⟨g, k * 6 + 3, none⟩ (.int .u64 0)).setCell ⟨g, k * 6 + 4, none⟩ (.int .i64 0)).setCell ⟨g, k * 6 + 5, none⟩ (.bool false)) (QB Q (some ⟨g, 0, none⟩) Af) := chg_six w g _ _ _ _ _ _ _ _ _ _ _ _ _ (.inr (.inl rfl))
  have hz : ((((((w.setCell ⟨g, k * 6, none⟩ (.int .i64 0)).setCell ⟨g, k * 6 + 1, none⟩ (.int .u64 0)).setCell ⟨g, k * 6 + 2, none⟩ (.int .u64 0)).setCell ⟨g, k * 6 + 3, none⟩ (.int .u64 0)).setCell ⟨g, k * 6 + 4, none⟩ (.int .i64 0)).setCell ⟨g, k * 6 + 5, none⟩ (.bool false)).heap.size = w.heap.size := by simp only [size_set]
  obtain ⟨w2, hw2⟩ : ∃ w2, ((((((w.setCell ⟨g, k * 6, none⟩ (.int .i64 0)).setCell ⟨g, k * 6 + 1, none⟩ (.int .u64 0)).setCell ⟨g, k * 6 + 2, none⟩ (.int .u64 0)).setCell ⟨g, k * 6 + 3, none⟩ (.int .u64 0)).setCell ⟨g, k * 6 + 4, none⟩ (.int .i64 0)).setCell ⟨g, k * 6 + 5, none⟩ (.bool false)) = w2 := ⟨_, rfl⟩
  rw [hw2] at hp hb0 hz
  have hc3 := hp.c3
  rw [← hw2] at hc3
  have hw2H := Lib.hid hw2
  have hown := Lib.hid (hp.freed.alloc (.cells #[.int .i64 (k : Int)] 3))
  have hrd : Hid (Reads (w2.alloc (.cells #[.int .i64 (k : Int)] 3)) (w2.heap.size + 1) 1 (some ⟨w2.heap.size, 0, none⟩) 1 [.int .i64 (k : Int)]) := by
    refine ⟨rfl, fun _ => ⟨_, rfl, by show w2.heap.size < _; omega, fun j u hu => ?_⟩⟩
    match j, hu with
    | 0, hu => simp at hu; subst hu; simp [Addr.add]
  rw [hz] at hrd
  have hB : Hid (0 ≤ (w2.alloc (.cells #[.int .i64 (k : Int)] 3)).heap.size) := Nat.zero_le _
  have hfm : fs.length ≤ 1048576 := by have := a.ns_le; have := a.lim_le; omega
  have hpH := Lib.hid hp
  have hb0H := Lib.hid hb0
  have HT := Lib.hid ht
  have HKF := Lib.hid hkf
  clear a ht hfr hp hb0 hw2 hkf
  generalize hfn : fs.length = m at *
  have hfnH := Lib.hid hfn
  clear hfn
  go_enter Tryd.func67, Tryd.ntmps67
  go_wp2_with (first
    | (go_at_call 61; (with_reducible refine hl.out.mono ?_); rintro e w' ⟨rfl, rfl⟩)
    | (at_builtin; rw [hw2H.out]; refine wpList_append_any _ rfl _ _ 44 rfl 0 3 i0 _ 1 8 Tryd.underlying44 hi hz0 hz1 hz2 rfl (by decide) _ _ _ rfl hown.out (w.heap.size + 1) _ 1 1 _ rfl hrd.out ?c1 ?c2 ?c3 hB.out ?_))
  case c2 => unfold maxLen; omega
  case c3 => omega
  all_goals try (case c1 => intro u hu; simp at hu; subst hu; rfl)
  intro v' w1 hown' hgrow hblk
  obtain ⟨A', c', rfl⟩ := K.own_form hown'
  have hsl : (w2.alloc (.cells #[.int .i64 (k : Int)] 3)).heap.size = w.heap.size + 1 := by simp [hz]
  have b1 : K.Chg w2 w1 (fun j => Af.map (·.block) = some j) := (chg_alloc w2 _ _).grown hgrow (fun j e => .inl (own_of_map e))
  have hrow2 := (b1.block Q hpH.out.lt (fun e => hpH.out.ne_freed e rfl)).trans hpH.out.row
  have hcP : w1.cell? ⟨Q, 3, none⟩ = some (.slice Af m cf) := by
    have := cell_of_row w1 Q 3 _ _ (0, 0) hrow2
    rw [hfnH.out] at this
    exact this
  have hfP : w1.frozen? ⟨Q, 3, none⟩ = false := frozen_of_row w1 Q 3 _ _ hrow2
  have hA1 : ∀ j, A'.map (·.block) = some j → Af.map (·.block) = some j ∨ j = w.heap.size + 1 := by
    intro j e
    cases A' with
    | none => cases e
    | some a =>
      cases e
      rcases hblk with h | h
      · exact .inl (own_of_map h.symm)
      · right
        simp [Value.ownBlock] at h
        show a.block = _
        omega
  have hlen : (fs ++ [k]).length = m + 1 := by simp [hfnH.out]
  have hown2 : w1.ownsRow 0 3 1 (.slice A' (fs ++ [k]).length c') (fs ++ [k]).length (iw (fs ++ [k])) := by
    rw [hlen, iw, List.map_append]
    exact hown'
  have hnod : w1.ownsRow 0 101 6 (.slice (some ⟨g, 0, none⟩) (ns.set k (Nd.z, false)).length cn) (ns.set k (Nd.z, false)).length (nv (ns.set k (Nd.z, false))) := b1.own hpH.out.nodes (fun j hj e => hpH.out.ne_both (own_of_map hj) e rfl)
  have hp : Qo (w1.setCell ⟨Q, 3, none⟩ (.slice A' (fs ++ [k]).length c')) Q M lim (some ⟨g, 0, none⟩) cn A' c' (ns.set k (Nd.z, false)) (fs ++ [k]) := by
    refine hpH.out.setf hrow2 hnod hown2 (fun i hi => ?_) (List.nodup_append.2 ⟨hpH.out.nod, by simp, fun x hx y hy e => ?_⟩) ?_
    · rcases List.mem_append.1 hi with h | h
      · exact hpH.out.inr i h
      · simp at h; subst h
        exact ⟨by simpa using hk, by simp⟩
    · simp at hy; subst hy; subst e; exact HKF.out hx
    · rw [hlen, List.length_set]; omega
  have hb2 := Lib.hid ((hb0H.out.same (b1.mono (O' := QB Q (some ⟨g, 0, none⟩) Af) (fun j h => .inr (.inr h)))).same (chg_set w1 Q 3 (.slice A' (m + 1) c') (QB Q (some ⟨g, 0, none⟩) Af) (.inl rfl)))
  rw [hlen] at hp
  have hpH2 := Lib.hid hp
  have hA1H := Lib.hid hA1
  clear hp hown' hgrow hblk b1 hrow2 hA1 hlen hown2 hnod
  go_wp2
  go_ret
  refine ⟨rfl, _, cn, A', c', hpH2.out, hb2.out, fun j hj => ?_⟩
  rcases hj with rfl | hj | hj
  · exact .inl (.inl rfl)
  · exact .inl (.inr (.inl hj))
  · rcases hA1H.out j hj with h | h
    · exact .inl (.inr (.inr h))
    · right; omega
end
end Go.Proofs.YtlmpkpidfkbckaaDoor
