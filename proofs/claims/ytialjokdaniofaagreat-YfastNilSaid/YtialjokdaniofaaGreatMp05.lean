/- A pool of nodes: Alloc, Free, Clear, New; the texts walked. A pool of nodes is cleared; the text walked. Links are joined: what becomes of a link, where it is changed; the texts walked. A link is changed by what one says of it; the text walked. -/
import Derived.Lib.SliceRun
import Derived.Deep.RegionHeld3
import Derived.Test.YtialjokdaniofaaGreatMp04
section
namespace Go.Proofs.YtialjokdaniofaaGreat
set_option maxRecDepth 20000
open Go.RowKit
set_option linter.unusedSectionVars false
variable [Gh]
theorem chg_set6 (w : World) (g i : Nat) (y : Nd) (b : Bool) (O : Nat → Prop) (h : O g) : K.Chg w (set6 w g i y b) O := (chg_set5 w g i y O h).same (chg_set _ g _ _ O h)
theorem chg_six (w : World) (g : Nat) (i0 i1 i2 i3 : Nat) (a b c zl : Value) (O : Nat → Prop) (h : O g) : K.Chg w ((((w.setCell ⟨g, i0, none⟩ a).setCell ⟨g, i1, none⟩ b).setCell ⟨g, i2, none⟩ c).setCell ⟨g, i3, none⟩ zl) O :=
  (chg_five w g i0 i1 i2 a b c O h).same (chg_set _ g _ _ O h)
theorem size_set (w : World) (p : Addr) (u : Value) : (w.setCell p u).heap.size = w.heap.size := by simp [World.setCell]
theorem QStep.from {w0 w w' : World} {Q M lim : Nat} {An Af : Option Addr} {ns' : List (Nd × Bool)} {fs' : List Nat} (hb : Below w0.heap.size w0 w) (h : QStep w Q M lim An Af ns' fs' w') : QStep w0 Q M lim An Af ns' fs' w' := by
  obtain ⟨An', cn', Af', cf', h1, h2, h3⟩ := h
  refine ⟨An', cn', Af', cf', h1, (K.Chg.of_below hb).same h2, fun j hj => ?_⟩
  rcases h3 j hj with h | h
  · exact .inl h
  · exact .inr (Nat.le_trans hb.size h)
section
variable (w : World) (Q M lim cn cf : Nat) (An Af : Option Addr) (ns : List (Nd × Bool)) (fs : List Nat)
set_option maxHeartbeats 2000000 in
theorem q_alloc_by (a : Qo w Q M lim An cn Af cf ns fs) (key : Nat) (ah : Int) (be : Int) (i : Nat) (ns' : List (Nd × Bool)) (fs' : List Nat) (hf : ns.length - fs.length < lim) (hi : i < ns'.length) (hif : i ∉ fs') 
    (hn : ∀ V, Qo V Q M lim An cn Af cf ns fs → Calls Tryz.prog 176 #[.pointer (some ⟨Q, 0, none⟩)] V fun e w' => e = .returned (.int .i64 (i : Int)) ∧ QStep V Q M lim An Af ns' fs' w') :
    Calls Tryz.prog 160 #[.pointer (some ⟨Q, 0, none⟩), ndv key ah be] w fun e w' => e = .returned (.tuple #[.int .i64 (i : Int), .bool true]) ∧ QStep w Q M lim An Af (ns'.set i (⟨key, ah, be⟩, true)) fs' w' := by
  have hb : Below w.heap.size w (w.alloc (ndo key ah be)) := (Below.refl _ w).alloc (Nat.le_refl _) _
  have a1 := a.chg (K.Chg.of_below (O := fun _ => False) hb) (fun _ _ h => h)
  have hr := Lib.hid (q_room _ Q M lim cn cf An Af ns fs a1 1)
  have d : decide ((1 : Int) ≤ (lim : Int) - ((ns.length - fs.length : Nat) : Int)) = true := decide_eq_true (by omega)
  rw [d] at hr
  have hnH := Lib.hid (fun N => hn _ (a1.drew N))
  have hqb := Lib.hid (fun j (h : QB Q An Af j) => a.qb h)
  have HB := Lib.hid hb
  have HI := Lib.hid hif
  have hrow := Lib.hid (K.alloc_top w (ndo key ah be))
  clear a a1 d hf hn hb hif
  go_enter Tryz.func160, Tryz.ntmps160
  go_wp2_with (first
    | (go_at_call 175; (with_reducible refine hr.out.mono ?_); rintro e w' ⟨rfl, N, rfl⟩)
    | (go_at_call 176; (with_reducible refine (hnH.out _).mono ?_); rintro e w1 ⟨rfl, An', cn', Af', cf', hP, hBu, hIn⟩
       have hc2 := hP.c2
       obtain ⟨g, rfl, x0, x1, x2, x3, hfr⟩ := hP.at hi
       have hrow1 := (hBu.block w.heap.size (by show w.heap.size < (w.heap.push _).size; simp) (fun h => by have := hqb.out _ h; omega)).trans hrow.out
       obtain ⟨y0, y1, y2⟩ := nd_cells hrow1
       have hPH := Lib.hid (hP.place hi HI.out ⟨key, ah, be⟩ true)
       have hBH := Lib.hid hBu
       have hIH := Lib.hid hIn
       have hf0 := hfr (i * 4)
       have hf1 := hfr (i * 4 + 1)
       have hf2 := hfr (i * 4 + 2)
       have hf3 := hfr (i * 4 + 3)
       clear hfr hP hBu hIn hrow1
       have k1 : (i : Int) < (ns'.length : Int) := (by omega)))
  go_region
  all_goals
    go_wp2
    go_ret2
    have b0 : K.Chg w w1 (QB Q An Af) := (K.Chg.of_below HB.out).same ⟨hBH.out.os, hBH.out.tape, hBH.out.output, hBH.out.size, hBH.out.block⟩
    have hs : w.heap.size ≤ (w.alloc (ndo key ah be)).heap.size := HB.out.size
    refine ⟨rfl, _, cn', Af', cf', hPH.out.drew 1, (b0.trans (chg_set6 w1 g (i * 4) ⟨key, ah, be⟩ true (· = g) rfl) (fun j e => ?_)).drewN 1, fun j hj => ?_⟩
    · subst e
      rcases hIH.out _ (.inr (.inl rfl)) with h | h
      · exact .inl h
      · exact .inr (Nat.le_trans hs h)
    · rcases hIH.out _ hj with h | h
      · exact .inl h
      · exact .inr (Nat.le_trans hs h)
/-- A place that may be taken next. -/
theorem q_alloc (a : Qo w Q M lim An cn Af cf ns fs) (key : Nat) (ah : Int) (be : Int) (hf : ns.length - fs.length < lim) :
    ∃ (i : Nat) (ns' : List (Nd × Bool)) (fs' : List Nat), (i < ns'.length) ∧ ((∃ h : i < ns.length, ns[i].2 = false) ∨ ns.length ≤ i) ∧ ns'[i]? = some (⟨key, ah, be⟩, true) ∧ (∀ j, j ≠ i → ns'[j]? = ns[j]?) ∧ ns'.length - fs'.length = ns.length - fs.length + 1 ∧ (fs = [] → i = ns.length ∧ fs' = [] ∧ ns'.length = ns.length + 1) ∧
      Calls Tryz.prog 160 #[.pointer (some ⟨Q, 0, none⟩), ndv key ah be] w fun e w' => e = .returned (.tuple #[.int .i64 (i : Int), .bool true]) ∧ QStep w Q M lim An Af ns' fs' w' := by
  have hl := a.ns_le
  have hl2 := a.lim_le
  rcases List.eq_nil_or_concat fs with rfl | ⟨f0, i, rfl⟩
  · refine ⟨ns.length, ns ++ [(⟨key, ah, be⟩, true)], [], by simp, .inr (Nat.le_refl _), by simp, fun j hj => ?_, by simp, fun _ => ⟨rfl, rfl, by simp⟩, ?_⟩
    · rcases Nat.lt_or_ge j ns.length with h | h
      · rw [List.getElem?_append_left h]
      · rw [List.getElem?_eq_none (by simp; omega), List.getElem?_eq_none h]
    · have h0 : ns.length < lim := by simpa using hf
      have := q_alloc_by w Q M lim cn cf An Af ns [] a key ah be ns.length (ns ++ [(Nd.z, false)]) [] hf (by simp) (by simp) (fun V aV => q_next_new V Q M lim cn cf An Af ns aV h0)
      have e : (ns ++ [(Nd.z, false)]).set ns.length (⟨key, ah, be⟩, true) = ns ++ [(⟨key, ah, be⟩, true)] := by
        rw [List.set_append_right _ _ (Nat.le_refl _)]
        simp
      rw [e] at this
      exact this
  · rw [List.concat_eq_append] at a hf
    obtain ⟨hi, ht⟩ := a.inr i (by simp)
    have hnd := List.nodup_append.1 a.nod
    have hfl := a.fs_le
    simp at hfl
    refine ⟨i, ns.set i (⟨key, ah, be⟩, true), f0, by simpa using hi, .inl ⟨hi, ht⟩, by simp [hi], fun j hj => by rw [List.getElem?_set_ne (Ne.symm hj)], by simp; omega, fun e => by simp at e, ?_⟩
    exact q_alloc_by w Q M lim cn cf An Af ns (f0 ++ [i]) a key ah be i ns f0 hf hi (fun hm => hnd.2.2 i hm i (by simp) rfl) (fun V aV => q_next_pop V Q M lim cn cf An Af ns f0 i f0.length aV rfl)
theorem q_alloc_no (a : Qo w Q M lim An cn Af cf ns fs) (key : Nat) (ah : Int) (be : Int) (hf : ¬ ns.length - fs.length < lim) :
    Calls Tryz.prog 160 #[.pointer (some ⟨Q, 0, none⟩), ndv key ah be] w fun e w' => e = .returned (.tuple #[.int .i64 0, .bool false]) ∧ Below w.heap.size w w' := by
  have hb : Below w.heap.size w (w.alloc (ndo key ah be)) := (Below.refl _ w).alloc (Nat.le_refl _) _
  have a1 := a.chg (K.Chg.of_below (O := fun _ => False) hb) (fun _ _ h => h)
  have hr := Lib.hid (q_room _ Q M lim cn cf An Af ns fs a1 1)
  have d : decide ((1 : Int) ≤ (lim : Int) - ((ns.length - fs.length : Nat) : Int)) = false := decide_eq_false (by omega)
  rw [d] at hr
  have HB := Lib.hid hb
  clear a a1 d hf hb
  go_enter Tryz.func160, Tryz.ntmps160
  go_wp2_with (go_at_call 175; (with_reducible refine hr.out.mono ?_); rintro e w' ⟨rfl, N, rfl⟩)
  go_ret2
  exact ⟨rfl, ⟨HB.out.os, HB.out.tape, HB.out.output, HB.out.size, HB.out.block⟩⟩
set_option maxHeartbeats 2000000 in
theorem q_free (a : Qo w Q M lim An cn Af cf ns fs) (k : Nat) (hk : k < ns.length) (ht : ns[k].2 = true) :
    Calls Tryz.prog 173 #[.pointer (some ⟨Q, 0, none⟩), .int .i64 (k : Int)] w fun e w' => e = .returned (.bool true) ∧ QStep w Q M lim An Af (ns.set k (Nd.z, false)) (fs ++ [k]) w' := by
  have hl := Lib.hid (q_live w Q M lim cn cf An Af ns fs a k)
  rw [lvq_yes hk ht] at hl
  obtain ⟨i0, hi, hz0, hz1, hz2⟩ := info_parts int_info
  obtain ⟨hkf, hfl⟩ := a.fs_lt hk ht
  have hc2 := a.c2
  have hQlt := a.lt
  obtain ⟨g, rfl, x0, x1, x2, x3, hfr⟩ := a.at hk
  have f0 := hfr (k * 4)
  have f1 := hfr (k * 4 + 1)
  have f2 := hfr (k * 4 + 2)
  have f3 := hfr (k * 4 + 3)
  have k1 : (k : Int) < (ns.length : Int) := by omega
  have hp : Qo ((((w.setCell ⟨g, k * 4, none⟩ (.int .u64 0)).setCell ⟨g, k * 4 + 1, none⟩ (.int .i64 0)).setCell ⟨g, k * 4 + 2, none⟩ (.int .i64 0)).setCell ⟨g, k * 4 + 3, none⟩ (.bool false)) Q M lim (some ⟨g, 0, none⟩) cn Af cf (ns.set k (Nd.z, false)) fs := by
    have := a.place hk hkf Nd.z false
    exact this
  have hb0 : K.Chg w ((((w.setCell ⟨g, k * 4, none⟩ (.int .u64 0)).setCell ⟨g, k * 4 + 1, none⟩ (.int .i64 0)).setCell ⟨g, k * 4 + 2, none⟩ (.int .i64 0)).setCell ⟨g, k * 4 + 3, none⟩ (.bool false)) (QB Q (some ⟨g, 0, none⟩) Af) := chg_six w g _ _ _ _ _ _ _ _ _ (.inr (.inl rfl))
  have hz : ((((w.setCell ⟨g, k * 4, none⟩ (.int .u64 0)).setCell ⟨g, k * 4 + 1, none⟩ (.int .i64 0)).setCell ⟨g, k * 4 + 2, none⟩ (.int .i64 0)).setCell ⟨g, k * 4 + 3, none⟩ (.bool false)).heap.size = w.heap.size := by simp only [size_set]
  obtain ⟨w2, hw2⟩ : ∃ w2, ((((w.setCell ⟨g, k * 4, none⟩ (.int .u64 0)).setCell ⟨g, k * 4 + 1, none⟩ (.int .i64 0)).setCell ⟨g, k * 4 + 2, none⟩ (.int .i64 0)).setCell ⟨g, k * 4 + 3, none⟩ (.bool false)) = w2 := ⟨_, rfl⟩
  rw [hw2] at hp hb0 hz
  have hc3 := hp.c3
  rw [← hw2] at hc3
  have hw2H := Lib.hid hw2
  have hown := Lib.hid (hp.freed.alloc (.cells #[.int .i64 (k : Int)] 3))
  have hrd : Hid (Reads (w2.alloc (.cells #[.int .i64 (k : Int)] 3)) (w2.heap.size + 1) 1 (some ⟨w2.heap.size, 0, none⟩) 1 [.int .i64 (k : Int)]) := by
    refine ⟨rfl, fun _ => ⟨_, rfl, by show w2.heap.size < _; omega, fun j u hu => ?_⟩⟩
    match j, hu with
    | 0, hu => simp at hu; subst hu; simp [Addr.add]
  rw [hz] at hrd
  have hB : Hid (0 ≤ (w2.alloc (.cells #[.int .i64 (k : Int)] 3)).heap.size) := Nat.zero_le _
  have hfm : fs.length ≤ 1048576 := by have := a.ns_le; have := a.lim_le; omega
  have hpH := Lib.hid hp
  have hb0H := Lib.hid hb0
  have HT := Lib.hid ht
  have HKF := Lib.hid hkf
  clear a ht hfr hp hb0 hw2 hkf
  generalize hfn : fs.length = m at *
  have hfnH := Lib.hid hfn
  clear hfn
  go_enter Tryz.func173, Tryz.ntmps173
  go_wp2_with (first
    | (go_at_call 156; (with_reducible refine hl.out.mono ?_); rintro e w' ⟨rfl, rfl⟩)
    | (at_builtin; rw [hw2H.out]; refine wpList_append_any _ rfl _ _ 76 rfl 0 3 i0 _ 1 8 Tryz.underlying76 hi hz0 hz1 hz2 rfl (by decide) _ _ _ rfl hown.out (w.heap.size + 1) _ 1 1 _ rfl hrd.out ?c1 ?c2 ?c3 hB.out ?_))
  case c2 => unfold maxLen; omega
  case c3 => omega
  all_goals try (case c1 => intro u hu; simp at hu; subst hu; rfl)
  intro v' w1 hown' hgrow hblk
  obtain ⟨A', c', rfl⟩ := K.own_form hown'
  have hsl : (w2.alloc (.cells #[.int .i64 (k : Int)] 3)).heap.size = w.heap.size + 1 := by simp [hz]
  have b1 : K.Chg w2 w1 (fun j => Af.map (·.block) = some j) := (chg_alloc w2 _ _).grown hgrow (fun j e => .inl (own_of_map e))
  have hrow2 := (b1.block Q hpH.out.lt (fun e => hpH.out.ne_freed e rfl)).trans hpH.out.row
  have hcP : w1.cell? ⟨Q, 3, none⟩ = some (.slice Af m cf) := by
    have := cell_of_row w1 Q 3 _ _ (0, 0) hrow2
    rw [hfnH.out] at this
    exact this
  have hfP : w1.frozen? ⟨Q, 3, none⟩ = false := frozen_of_row w1 Q 3 _ _ hrow2
  have hA1 : ∀ j, A'.map (·.block) = some j → Af.map (·.block) = some j ∨ j = w.heap.size + 1 := by
    intro j e
    cases A' with
    | none => cases e
    | some a =>
      cases e
      rcases hblk with h | h
      · exact .inl (own_of_map h.symm)
      · right
        simp [Value.ownBlock] at h
        show a.block = _
        omega
  have hlen : (fs ++ [k]).length = m + 1 := by simp [hfnH.out]
  have hown2 : w1.ownsRow 0 3 1 (.slice A' (fs ++ [k]).length c') (fs ++ [k]).length (iw (fs ++ [k])) := by
    rw [hlen, iw, List.map_append]
    exact hown'
  have hnod : w1.ownsRow 0 186 4 (.slice (some ⟨g, 0, none⟩) (ns.set k (Nd.z, false)).length cn) (ns.set k (Nd.z, false)).length (nv (ns.set k (Nd.z, false))) := b1.own hpH.out.nodes (fun j hj e => hpH.out.ne_both (own_of_map hj) e rfl)
  have hp : Qo (w1.setCell ⟨Q, 3, none⟩ (.slice A' (fs ++ [k]).length c')) Q M lim (some ⟨g, 0, none⟩) cn A' c' (ns.set k (Nd.z, false)) (fs ++ [k]) := by
    refine hpH.out.setf hrow2 hnod hown2 (fun i hi => ?_) (List.nodup_append.2 ⟨hpH.out.nod, by simp, fun x hx y hy e => ?_⟩) ?_
    · rcases List.mem_append.1 hi with h | h
      · exact hpH.out.inr i h
      · simp at h; subst h
        exact ⟨by simpa using hk, by simp⟩
    · simp at hy; subst hy; subst e; exact HKF.out hx
    · rw [hlen, List.length_set]; omega
  have hb2 := Lib.hid ((hb0H.out.same (b1.mono (O' := QB Q (some ⟨g, 0, none⟩) Af) (fun j h => .inr (.inr h)))).same (chg_set w1 Q 3 (.slice A' (m + 1) c') (QB Q (some ⟨g, 0, none⟩) Af) (.inl rfl)))
  rw [hlen] at hp
  have hpH2 := Lib.hid hp
  have hA1H := Lib.hid hA1
  clear hp hown' hgrow hblk b1 hrow2 hA1 hlen hown2 hnod
  go_wp2
  go_ret
  refine ⟨rfl, _, cn, A', c', hpH2.out, hb2.out, fun j hj => ?_⟩
  rcases hj with rfl | hj | hj
  · exact .inl (.inl rfl)
  · exact .inl (.inr (.inl hj))
  · rcases hA1H.out j hj with h | h
    · exact .inl (.inr (.inr h))
    · right; omega
end
end Go.Proofs.YtialjokdaniofaaGreat
end
section
namespace Go.Proofs.YtialjokdaniofaaGreat
set_option maxRecDepth 20000
open Go.RowKit
set_option linter.unusedSectionVars false
variable [Gh]
section
variable {P : Program}
end
abbrev pzv : Value := .agg #[.int .u64 0, .int .i64 0, .int .i64 0, .bool false]
section
variable {w : World} {Q M lim cn cf : Nat} {An Af : Option Addr} {ns : List (Nd × Bool)} {fs : List Nat} {x y : Value}
end
end Go.Proofs.YtialjokdaniofaaGreat
end
section
namespace Go.Proofs.YtialjokdaniofaaGreat
set_option maxRecDepth 20000
open Go.RowKit
set_option linter.unusedSectionVars false
variable [Gh]
theorem nd_res1 {fn : Func} {u : Tmp} (h : fn.results = #[.cell u 145]) (tmps : Array Value) (w : World) (g : Nat) (a b c : Value) (hu : tmps.getD u undef = .pointer (some ⟨g, 0, none⟩))
    (hc : w.heap[g]? = some (.cells #[a, b, c] 145 (0, 0))) : (results fn tmps).run Tryz.prog w = .ok (.agg #[a, b, c]) w := by
  have hp' : tmps[u]?.getD undef = .pointer (some ⟨g, 0, none⟩) := by simpa using hu
  have hr := run_loadVar_row (P := Tryz.prog) w g 145 145 _ (0, 0) _ hc Tryz.underlying145 (by kernel_rfl) (by kernel_rfl)
  simp [results, h, hp', asAddr, hr]
theorem c_clos1 (w : World) (key : Nat) (ah be : Int) (B : Nat) (b : Int) (hb : w.cell? ⟨B, 0, none⟩ = some (.int .i64 b)) (hB : B < w.heap.size) :
    Calls Tryz.prog 178 #[ndv key ah be, .pointer (some ⟨B, 0, none⟩)] w fun e w' => e = .returned (ndv key ah b) ∧ Below w.heap.size w w' := by
  have hb2 : ((w.alloc (ndo key ah be)).alloc ndzo).cell? ⟨B, 0, none⟩ = some (.int .i64 b) := by
    rw [World.cell?_alloc_lt _ _ _ (by simp; omega), World.cell?_alloc_lt _ _ _ (by simpa using hB)]; exact hb
  go_enter Tryz.func178, Tryz.ntmps178
  go_wp2
  refine bodyPost_ret (nd_res1 rfl _ _ (w.heap.size + 1) _ _ _ rfl ?_) rfl ⟨rfl, ((Below.refl _ w).alloc (Nat.le_refl _) _).alloc (by simp) _⟩
  have := K.alloc_top (w.alloc (ndo key ah b)) (ndo key ah b)
  rw [World.size_alloc] at this
  exact this
theorem c_clos2 (w : World) (key : Nat) (ah be : Int) (B : Nat) (b : Int) (hb : w.cell? ⟨B, 0, none⟩ = some (.int .i64 b)) (hB : B < w.heap.size) :
    Calls Tryz.prog 179 #[ndv key ah be, .pointer (some ⟨B, 0, none⟩)] w fun e w' => e = .returned (ndv key b be) ∧ Below w.heap.size w w' := by
  have hb2 : ((w.alloc (ndo key ah be)).alloc ndzo).cell? ⟨B, 0, none⟩ = some (.int .i64 b) := by
    rw [World.cell?_alloc_lt _ _ _ (by simp; omega), World.cell?_alloc_lt _ _ _ (by simpa using hB)]; exact hb
  go_enter Tryz.func179, Tryz.ntmps179
  go_wp2
  refine bodyPost_ret (nd_res1 rfl _ _ (w.heap.size + 1) _ _ _ rfl ?_) rfl ⟨rfl, ((Below.refl _ w).alloc (Nat.le_refl _) _).alloc (by simp) _⟩
  have := K.alloc_top (w.alloc (ndo key b be)) (ndo key b be)
  rw [World.size_alloc] at this
  exact this
end Go.Proofs.YtialjokdaniofaaGreat
end
section
namespace Go.Proofs.YtialjokdaniofaaGreat
set_option maxRecDepth 20000
open Go.RowKit
set_option linter.unusedSectionVars false
variable [Gh]
/-- Block C is a chain's struct: its meter, its links, the ends. -/
structure Cb (w : World) (C Q M : Nat) (fi la : Int) : Prop where
  row : w.heap[C]? = some (.cells #[.pointer (some ⟨M, 0, none⟩), .pointer (some ⟨Q, 0, none⟩), .int .i64 fi, .int .i64 la] 112 (0, 0))
section
variable {w w' : World} {C Q M : Nat} {fi la : Int}
theorem Cb.c0 (h : Cb w C Q M fi la) : w.cell? ⟨C, 0, none⟩ = some (.pointer (some ⟨M, 0, none⟩)) := cell_of_row w C 0 _ _ (0, 0) h.row
theorem Cb.c1 (h : Cb w C Q M fi la) : w.cell? ⟨C, 1, none⟩ = some (.pointer (some ⟨Q, 0, none⟩)) := cell_of_row w C 1 _ _ (0, 0) h.row
theorem Cb.c2 (h : Cb w C Q M fi la) : w.cell? ⟨C, 2, none⟩ = some (.int .i64 fi) := cell_of_row w C 2 _ _ (0, 0) h.row
theorem Cb.c3 (h : Cb w C Q M fi la) : w.cell? ⟨C, 3, none⟩ = some (.int .i64 la) := cell_of_row w C 3 _ _ (0, 0) h.row
theorem Cb.lt (h : Cb w C Q M fi la) : C < w.heap.size := row_lt h.row
theorem Cb.fr (h : Cb w C Q M fi la) (k : Nat) : w.frozen? ⟨C, k, none⟩ = false := frozen_of_row w C k _ _ h.row
theorem Cb.chg {O : Nat → Prop} (h : Cb w C Q M fi la) (b : K.Chg w w' O) (hO : ¬ O C) : Cb w' C Q M fi la := ⟨(b.block C h.lt hO).trans h.row⟩
theorem Cb.set2 (h : Cb w C Q M fi la) (x : Int) : Cb (w.setCell ⟨C, 2, none⟩ (.int .i64 x)) C Q M x la := ⟨by
  have := row_set h.row 2 (.int .i64 x)
  simpa using this⟩
theorem Cb.set3 (h : Cb w C Q M fi la) (x : Int) : Cb (w.setCell ⟨C, 3, none⟩ (.int .i64 x)) C Q M fi x := ⟨by
  have := row_set h.row 3 (.int .i64 x)
  simpa using this⟩
theorem Cb.qb {lim cn cf : Nat} {An Af : Option Addr} {ns : List (Nd × Bool)} {fs : List Nat} (h : Cb w C Q M fi la) (a : Qo w Q M lim An cn Af cf ns fs) : ¬ QB Q An Af C := by
  rintro (e | e | e)
  · exact row_ne h.row a.row (by decide) e
  · obtain ⟨_, cur, hc⟩ := own_block_lt a.nodes e
    exact row_ne hc h.row (by decide) rfl
  · obtain ⟨_, cur, hc⟩ := own_block_lt a.freed e
    exact row_ne hc h.row (by decide) rfl
end
section
variable (w : World) (C Q M lim cn cf : Nat) (fi la : Int) (An Af : Option Addr) (ns : List (Nd × Bool)) (fs : List Nat)
theorem c_change_no (h : Cb w C Q M fi la) (a : Qo w Q M lim An cn Af cf ns fs) (i : Int) (f : Value) (hi : lvq ns i = false) :
    Calls Tryz.prog 177 #[.pointer (some ⟨C, 0, none⟩), .int .i64 i, f] w fun e w' => e = .returned (.bool false) ∧ Below w.heap.size w w' := by
  have hp := Lib.hid (q_peek_no w Q M lim cn cf An Af ns fs a i hi)
  have h1 := h.c1
  clear h a hi
  go_enter Tryz.func177, Tryz.ntmps177
  go_wp2_with (go_at_call 141; (with_reducible refine hp.out.mono ?_); rintro e w1 ⟨rfl, hb1⟩; have HB1 := Lib.hid hb1; clear hb1)
  go_quiet (fail)
  go_wp2
  go_ret
  refine ⟨rfl, below_drewN ((HB1.out).alloc HB1.out.size _) _⟩
set_option maxHeartbeats 1000000 in
theorem c_change1 (h : Cb w C Q M fi la) (a : Qo w Q M lim An cn Af cf ns fs) (k : Nat) (hk : k < ns.length) (key : Nat) (ah be : Int) (hx : ns[k] = (⟨key, ah, be⟩, true)) (B : Nat) (b : Int) (hB : w.cell? ⟨B, 0, none⟩ = some (.int .i64 b)) (hBl : B < w.heap.size) :
    Calls Tryz.prog 177 #[.pointer (some ⟨C, 0, none⟩), .int .i64 (k : Int), .func (.func 178) #[] #[.pointer (some ⟨B, 0, none⟩)]] w fun e w' => e = .returned (.bool true) ∧ QStep w Q M lim An Af (ns.set k (⟨key, ah, b⟩, true)) fs w' := by
  have ht : ns[k].2 = true := by rw [hx]
  have hp := q_peek_yes w Q M lim cn cf An Af ns fs a k hk ht
  rw [hx] at hp
  have hp : Hid (Calls _ _ _ _ (PeekP w (ndv key ah be) true)) := hp
  have hA := Lib.hid a
  have hH := Lib.hid h
  have hBH := Lib.hid hB
  have hT := Lib.hid ht
  have h1 := h.c1
  have hlt := h.lt
  have hmf : ∀ (fn : Fn) (first cap : Array Value) (w : World), (Instr.makeFunc fn first cap).run Tryz.prog w = .ok (.func fn first cap) w := fun _ _ _ _ => rfl
  clear h a hB ht hx
  go_enter Tryz.func177, Tryz.ntmps177
  go_wp2_with (go_at_call 141; (with_reducible refine hp.out.mono ?_); rintro e w1 ⟨rfl, hb1⟩
               have hs1 := hb1.size
               have HB1 := Lib.hid hb1
               have hb2 : Below w.heap.size w (w1.alloc (ndo key ah be)).drew := below_drewN (hb1.alloc hs1 _) 1
               have hrow : (w1.alloc (ndo key ah be)).drew.heap[w1.heap.size]? = some (ndo key ah be) := K.alloc_top w1 (ndo key ah be)
               have hC0 : (w1.alloc (ndo key ah be)).drew.cell? ⟨C, 1, none⟩ = some (.pointer (some ⟨Q, 0, none⟩)) := (hb2.cell (p := ⟨C, 1, none⟩) hlt).trans h1
               have HS0 := Lib.hid (And.intro hC0 (nd_cells hrow))
               have HB0 := Lib.hid hb2
               have HCl := Lib.hid (c_clos1 (w1.alloc (ndo key ah be)).drew key ah be B b ((hb2.cell (p := ⟨B, 0, none⟩) hBl).trans hBH.out) (Nat.lt_of_lt_of_le hBl hb2.size))
               have hz : (w1.alloc (ndo key ah be)).drew.heap.size = w1.heap.size + 1 := by show (w1.heap.push _).size = _; simp
               have HZ := Lib.hid hz
               clear hb1 hb2 hrow hC0 hz)
  go_region_held3 (fun X => X.cell? ⟨C, 1, none⟩ = some (.pointer (some ⟨Q, 0, none⟩)) ∧ X.cell? ⟨w1.heap.size, 0, none⟩ = some (.int .u64 (key : Int)) ∧ X.cell? ⟨w1.heap.size, 1, none⟩ = some (.int .i64 ah) ∧ X.cell? ⟨w1.heap.size, 2, none⟩ = some (.int .i64 be)) (first | (with_reducible exact HS0.out) | (with_reducible exact HS3.out) | (with_reducible exact HS4.out) | go_keep) (first
    | (go_at_call 178; (with_reducible refine HCl.out.mono ?_); rintro e w3 ⟨rfl, hb3⟩
       have hs3 := hb3.size
       rw [HZ.out] at hs3
       have HB3 := Lib.hid hb3
       have HBw := Lib.hid (HB0.out.trans (hb3.mono HB0.out.size))
       have HS3 := Lib.hid (And.intro ((hb3.cell (p := ⟨C, 1, none⟩) (by rw [HZ.out]; show C < _; omega)).trans HS0.out.1) (And.intro ((hb3.cell (p := ⟨w1.heap.size, 0, none⟩) (by rw [HZ.out]; show w1.heap.size < _; omega)).trans HS0.out.2.1) (And.intro ((hb3.cell (p := ⟨w1.heap.size, 1, none⟩) (by rw [HZ.out]; show w1.heap.size < _; omega)).trans HS0.out.2.2.1) ((hb3.cell (p := ⟨w1.heap.size, 2, none⟩) (by rw [HZ.out]; show w1.heap.size < _; omega)).trans HS0.out.2.2.2))))
       clear hb3)
    | (go_at_call 185; (with_reducible refine (q_put w3 Q M lim cn cf An Af ns fs (hA.out.chg (K.Chg.of_below (O := fun _ => False) HBw.out) (fun _ _ h => h)) k hk hT.out key ah b _ rfl).mono ?_); rintro e w4 ⟨rfl, hq⟩
       have HQ := Lib.hid hq
       have HS4 : Hid (w4.cell? ⟨C, 1, none⟩ = some (.pointer (some ⟨Q, 0, none⟩)) ∧ w4.cell? ⟨w1.heap.size, 0, none⟩ = some (.int .u64 (key : Int)) ∧ w4.cell? ⟨w1.heap.size, 1, none⟩ = some (.int .i64 ah) ∧ w4.cell? ⟨w1.heap.size, 2, none⟩ = some (.int .i64 be)) := by
         obtain ⟨_, _, _, _, _, hc, _⟩ := hq
         have hnq : ¬ QB Q An Af w1.heap.size := fun hj => by have := hA.out.qb hj; omega
         have hnc := hH.out.qb hA.out
         exact ⟨(hc.cell (by omega) hnc 1).trans HS3.out.1, (hc.cell (by omega) hnq 0).trans HS3.out.2.1, (hc.cell (by omega) hnq 1).trans HS3.out.2.2.1, (hc.cell (by omega) hnq 2).trans HS3.out.2.2.2⟩
       clear hq))
  all_goals
    go_wp2
    go_ret
    exact ⟨rfl, HQ.out.from HBw.out⟩
set_option maxHeartbeats 1000000 in
theorem c_change2 (h : Cb w C Q M fi la) (a : Qo w Q M lim An cn Af cf ns fs) (k : Nat) (hk : k < ns.length) (key : Nat) (ah be : Int) (hx : ns[k] = (⟨key, ah, be⟩, true)) (B : Nat) (b : Int) (hB : w.cell? ⟨B, 0, none⟩ = some (.int .i64 b)) (hBl : B < w.heap.size) :
    Calls Tryz.prog 177 #[.pointer (some ⟨C, 0, none⟩), .int .i64 (k : Int), .func (.func 179) #[] #[.pointer (some ⟨B, 0, none⟩)]] w fun e w' => e = .returned (.bool true) ∧ QStep w Q M lim An Af (ns.set k (⟨key, b, be⟩, true)) fs w' := by
  have ht : ns[k].2 = true := by rw [hx]
  have hp := q_peek_yes w Q M lim cn cf An Af ns fs a k hk ht
  rw [hx] at hp
  have hp : Hid (Calls _ _ _ _ (PeekP w (ndv key ah be) true)) := hp
  have hA := Lib.hid a
  have hH := Lib.hid h
  have hBH := Lib.hid hB
  have hT := Lib.hid ht
  have h1 := h.c1
  have hlt := h.lt
  have hmf : ∀ (fn : Fn) (first cap : Array Value) (w : World), (Instr.makeFunc fn first cap).run Tryz.prog w = .ok (.func fn first cap) w := fun _ _ _ _ => rfl
  clear h a hB ht hx
  go_enter Tryz.func177, Tryz.ntmps177
  go_wp2_with (go_at_call 141; (with_reducible refine hp.out.mono ?_); rintro e w1 ⟨rfl, hb1⟩
               have hs1 := hb1.size
               have HB1 := Lib.hid hb1
               have hb2 : Below w.heap.size w (w1.alloc (ndo key ah be)).drew := below_drewN (hb1.alloc hs1 _) 1
               have hrow : (w1.alloc (ndo key ah be)).drew.heap[w1.heap.size]? = some (ndo key ah be) := K.alloc_top w1 (ndo key ah be)
               have hC0 : (w1.alloc (ndo key ah be)).drew.cell? ⟨C, 1, none⟩ = some (.pointer (some ⟨Q, 0, none⟩)) := (hb2.cell (p := ⟨C, 1, none⟩) hlt).trans h1
               have HS0 := Lib.hid (And.intro hC0 (nd_cells hrow))
               have HB0 := Lib.hid hb2
               have HCl := Lib.hid (c_clos2 (w1.alloc (ndo key ah be)).drew key ah be B b ((hb2.cell (p := ⟨B, 0, none⟩) hBl).trans hBH.out) (Nat.lt_of_lt_of_le hBl hb2.size))
               have hz : (w1.alloc (ndo key ah be)).drew.heap.size = w1.heap.size + 1 := by show (w1.heap.push _).size = _; simp
               have HZ := Lib.hid hz
               clear hb1 hb2 hrow hC0 hz)
  go_region_held3 (fun X => X.cell? ⟨C, 1, none⟩ = some (.pointer (some ⟨Q, 0, none⟩)) ∧ X.cell? ⟨w1.heap.size, 0, none⟩ = some (.int .u64 (key : Int)) ∧ X.cell? ⟨w1.heap.size, 1, none⟩ = some (.int .i64 ah) ∧ X.cell? ⟨w1.heap.size, 2, none⟩ = some (.int .i64 be)) (first | (with_reducible exact HS0.out) | (with_reducible exact HS3.out) | (with_reducible exact HS4.out) | go_keep) (first
    | (go_at_call 179; (with_reducible refine HCl.out.mono ?_); rintro e w3 ⟨rfl, hb3⟩
       have hs3 := hb3.size
       rw [HZ.out] at hs3
       have HB3 := Lib.hid hb3
       have HBw := Lib.hid (HB0.out.trans (hb3.mono HB0.out.size))
       have HS3 := Lib.hid (And.intro ((hb3.cell (p := ⟨C, 1, none⟩) (by rw [HZ.out]; show C < _; omega)).trans HS0.out.1) (And.intro ((hb3.cell (p := ⟨w1.heap.size, 0, none⟩) (by rw [HZ.out]; show w1.heap.size < _; omega)).trans HS0.out.2.1) (And.intro ((hb3.cell (p := ⟨w1.heap.size, 1, none⟩) (by rw [HZ.out]; show w1.heap.size < _; omega)).trans HS0.out.2.2.1) ((hb3.cell (p := ⟨w1.heap.size, 2, none⟩) (by rw [HZ.out]; show w1.heap.size < _; omega)).trans HS0.out.2.2.2))))
       clear hb3)
    | (go_at_call 185; (with_reducible refine (q_put w3 Q M lim cn cf An Af ns fs (hA.out.chg (K.Chg.of_below (O := fun _ => False) HBw.out) (fun _ _ h => h)) k hk hT.out key b be _ rfl).mono ?_); rintro e w4 ⟨rfl, hq⟩
       have HQ := Lib.hid hq
       have HS4 : Hid (w4.cell? ⟨C, 1, none⟩ = some (.pointer (some ⟨Q, 0, none⟩)) ∧ w4.cell? ⟨w1.heap.size, 0, none⟩ = some (.int .u64 (key : Int)) ∧ w4.cell? ⟨w1.heap.size, 1, none⟩ = some (.int .i64 ah) ∧ w4.cell? ⟨w1.heap.size, 2, none⟩ = some (.int .i64 be)) := by
         obtain ⟨_, _, _, _, _, hc, _⟩ := hq
         have hnq : ¬ QB Q An Af w1.heap.size := fun hj => by have := hA.out.qb hj; omega
         have hnc := hH.out.qb hA.out
         exact ⟨(hc.cell (by omega) hnc 1).trans HS3.out.1, (hc.cell (by omega) hnq 0).trans HS3.out.2.1, (hc.cell (by omega) hnq 1).trans HS3.out.2.2.1, (hc.cell (by omega) hnq 2).trans HS3.out.2.2.2⟩
       clear hq))
  all_goals
    go_wp2
    go_ret
    exact ⟨rfl, HQ.out.from HBw.out⟩
end
end Go.Proofs.YtialjokdaniofaaGreat
end
