
/- Words, Of, Copy and Equal of a strip, the text walked. -/
import Derived.Test.YtbbnamdlfnonoaaDoorObjA
import Derived.Test.YtbbnamdlfnonoaaDoorRefsK
import Derived.Laws.CopyOwn
namespace Go.Proofs.YtbbnamdlfnonoaaDoor
open Go.RowKit
theorem below_grown {w w' : World} (g : w.grownBy w' none) : Below w.heap.size w w' := ⟨g.os, g.tape, g.output, g.size, fun k hk => g.block k hk (by simp)⟩
theorem wv_one (ws : List Nat) : ∀ v ∈ wv ws, v.oneCell' = true := by
  intro v hv
  obtain ⟨a, _, rfl⟩ := List.mem_map.1 hv
  rfl
theorem splice_all {α : Type} (L cs : List α) (h : L.length = cs.length) : splice L 0 cs = cs := by
  unfold splice
  rw [List.take_zero, List.nil_append, Nat.zero_add, List.drop_of_length_le (by omega), List.append_nil]
theorem St.from_ {w : World} {s h : Nat} {ws : List Nat} (a : St w s h ws) : ∀ j v, (wv ws)[j]? = some v → w.cell? ((⟨h, 0, none⟩ : Addr).add j) = some v := by
  intro j v hv
  rw [add_off]
  by_cases hj : j < ws.length
  · rw [a.cell j hj]
    simpa [wv, hj] using hv
  · rw [List.getElem?_eq_none (by simp [wv]; omega)] at hv; cases hv
/-- copy into a row of one's own, the world behind it written out. -/
theorem wpList_copy_at {P : Program} {w : World} {ops : Array Oper} {rest : List Oper} {o : Oper} {a : Act} {Q : Exit → Act → World → Prop} (hgd : o.guard = none) (d s : Operand) (dT sT : TypeId)
    (ho : o.op = .call { callee := .builtin .copy, args := #[d, s], argTypes := #[dT, sT] }) (elem : TypeId) (hu : P.underlying dT = some (.slice elem)) (hsz : (P.info? elem).map (·.size) = some 1)
    (dp sp : Option Addr) (dLen dCap sLen sCap : Nat) (hd : a.eval d = .slice dp dLen dCap) (hs : a.eval s = .slice sp sLen sCap)
    (g off : Nat) (cur : List Value) (t : TypeId) (hg : w.heap[g]? = some (.cells cur.toArray t (0, 0))) (cs : List Value) (hn : cs.length = Nat.min sLen dLen)
    (hpos : 0 < cs.length → dp = some ⟨g, off, none⟩ ∧ ∃ ad, sp = some ad ∧ ∀ j v, cs[j]? = some v → w.cell? (ad.add j) = some v)
    (hfit : off + cs.length ≤ cur.length) (h1 : ∀ v ∈ cs, v.oneCell' = true)
    (h : wpList P ops Q rest (a.put o.dst (goInt cs.length)) (w.setRow g (splice cur off cs).toArray)) :
    wpList P ops Q (o :: rest) a w := by
  by_cases h0 : cs.length = 0
  · obtain rfl : cs = [] := List.eq_nil_of_length_eq_zero h0
    refine wpList_copy_nothing hgd d s dT sT ho elem hu hsz dp sp dLen dCap sLen sCap hd hs (by simpa using hn.symm) ?_
    have e : splice cur off [] = cur := by simp [splice]
    rw [e, setRow_self w g cur.toArray t (0, 0) hg] at h
    exact h
  · obtain ⟨rfl, ad, rfl, hsrc⟩ := hpos (by omega)
    refine wpList_copy_own hgd d s dT sT ho elem hu hsz g off dLen dCap ad sLen sCap hd hs cur.toArray t hg cs hn hsrc (by simpa using hfit) h1 ?_
    simpa [splice] using h
theorem s_words (w : World) (s h : Nat) (ws : List Nat) (a : St w s h ws) :
    Calls Tryd.prog 45 #[.pointer (some ⟨s, 0, none⟩)] w fun e w' => ∃ h', e = .returned (.slice (some ⟨h', 0, none⟩) ws.length ws.length) ∧ w.heap.size ≤ h' ∧ w'.heap[h']? = some (.cells (wv ws).toArray 65 (0, 0)) ∧ Below w.heap.size w w' := by
  have hc := a.head
  have hle := a.2.2.2
  have hfr := Lib.hid a.from_
  have hlt := a.lt
  have h1 := Lib.hid (wv_one ws)
  obtain ⟨ti, hi, hb, hz, hsz⟩ : ∃ ti, Tryd.prog.info? 65 = some ti ∧ ti.bytes = 8 ∧ ti.zero = some (.int .u64 0) ∧ ti.size = 1 := ⟨_, rfl, rfl, rfl, rfl⟩
  have hinf : (Tryd.prog.info? 65).map (·.size) = some 1 := by rw [hi]; exact congrArg some hsz
  have hlen : Hid ((wv ws).length = ws.length) := List.length_map ..
  have hmk : ∀ w : World, (Instr.makeSlice 66 (.int .i64 (ws.length : Int)) (.int .i64 (ws.length : Int))).run Tryd.prog w = .ok (.slice (some ⟨w.heap.size, 0, none⟩) ws.length ws.length) (w.alloc (.cells (madeCells (Value.int .u64 0).cells ws.length) 65)) := by
    intro w
    have := run_make (P := Tryd.prog) w 66 65 ti _ (by kernel_rfl) hi hz .i64 .i64 (ws.length : Int) (ws.length : Int) (by omega) (by omega) (by rw [hb]; omega) (by omega)
    simpa [hsz] using this
  have hmade : Hid (madeCells #[Value.int .u64 0] ws.length = (wv (List.replicate ws.length 0)).toArray) := made_zero ws.length
  have hspl : Hid (splice (wv (List.replicate ws.length 0)) 0 (wv ws) = wv ws) := splice_all _ _ (by simp [wv])
  have hl2 : Hid ((wv (List.replicate ws.length 0)).length = ws.length) := by show _ = _; simp [wv]
  clear hi hz hsz hb a
  generalize wv ws = cs at *
  generalize ws.length = n at *
  generalize wv (List.replicate n 0) = zs at *
  go_enter Tryd.func45, Tryd.ntmps45
  go_wp2_with (with_reducible refine wpList_copy_splice rfl (.tmp 12) (.tmp 16) 66 66 rfl 65 rfl hinf (some ⟨w.heap.size, 0, none⟩) (some ⟨h, 0, none⟩) n n n n rfl rfl w.heap.size 0 zs 65 ?c1 cs ?c2 ?c3 ?c4 h1.out w.heap.size w ?c5 (Nat.le_refl _) ?_)
  case c1 => rw [hmade.out]; exact alloc_top _ _ rfl
  case c2 => rw [hlen.out]; simp
  case c3 =>
    intro _ j v hv
    have := hfr.out j v hv
    rwa [add_off] at this
  case c4 => rw [hlen.out, hl2.out]; omega
  case c5 => exact (Below.refl _ w).alloc (Nat.le_refl _) _
  intro w2 hg2 hb2
  rw [hspl.out] at hg2
  go_wp2
  go_ret
  exact ⟨_, rfl, Nat.le_refl _, hg2.out, hb2⟩
theorem s_of (w : World) (A : Option Addr) (c : Nat) (ws : List Nat) (hr : Rw w w.heap.size A ws) (hx : ∀ x ∈ ws, x < 18446744073709551616) (hn : ws.length ≤ 4096) :
    Calls Tryd.prog 81 #[.slice A ws.length c] w fun e w' => ∃ s h, e = .returned (.tuple #[.pointer (some ⟨s, 0, none⟩), .int .i64 0]) ∧ St w' s h ws ∧ w.heap.size ≤ s ∧ w.heap.size ≤ h ∧ Below w.heap.size w w' := by
  have hnew := Lib.hid (s_new w ws.length hn)
  have h1 := Lib.hid (wv_one ws)
  obtain ⟨ti, hi, hsz⟩ : ∃ ti, Tryd.prog.info? 65 = some ti ∧ ti.size = 1 := ⟨_, rfl, rfl⟩
  have hinf : (Tryd.prog.info? 65).map (·.size) = some 1 := by rw [hi]; exact congrArg some hsz
  have hlen : Hid ((wv ws).length = ws.length) := List.length_map ..
  have hspl : Hid (splice (wv (List.replicate ws.length 0)) 0 (wv ws) = wv ws) := splice_all _ _ (by simp [wv])
  have hl2 : Hid ((wv (List.replicate ws.length 0)).length = ws.length) := by show _ = _; simp [wv]
  have hlr : Hid ((List.replicate ws.length 0).length = ws.length) := List.length_replicate
  have hrd : Hid (∀ w', Below w.heap.size w w' → 0 < (wv ws).length → ∃ ad, A = some ad ∧ ∀ j v, (wv ws)[j]? = some v → w'.cell? (ad.add j) = some v) := by
    intro w' hb hp
    obtain ⟨b, off, rfl, hlt, hc⟩ := hr (by rintro rfl; simp [wv] at hp)
    refine ⟨_, rfl, fun j v hv => ?_⟩
    have hj : j < ws.length := by
      rcases Nat.lt_or_ge j ws.length with hx | hx
      · exact hx
      · rw [List.getElem?_eq_none (by simp [wv]; omega)] at hv; cases hv
    have e : (⟨b, off, none⟩ : Addr).add j = ⟨b, off + j, none⟩ := by
      by_cases h : j = 0
      · subst h; rfl
      · simp [Addr.add, h]
    rw [e, hb.cell (p := ⟨b, off + j, none⟩) hlt, hc j hj]
    simpa [wv, hj] using hv
  clear hi hsz hr
  have hxH := Lib.hid hx
  clear hx
  generalize hcs : wv ws = cs at *
  have hcsH := Lib.hid hcs
  clear hcs
  generalize hzs : wv (List.replicate ws.length 0) = zs at *
  have hzsH := Lib.hid hzs
  clear hzs
  generalize hnn : ws.length = n at *
  have hnH := Lib.hid hnn
  clear hnn
  go_enter Tryd.func81, Tryd.ntmps81
  go_wp2_with (first
    | (go_at_call 62; (with_reducible refine hnew.out.mono ?_); rintro e w1 ⟨s, h, rfl, hst, hg, hs1, hh1⟩; have hhd := hst.head; rw [hlr.out] at hhd; have hstH := Lib.hid hst; clear hst; have hb1 := Lib.hid (below_grown hg); clear hg)
    | (with_reducible refine wpList_copy_at rfl (.tmp 18) (.tmp 19) 66 66 rfl 65 rfl hinf (some ⟨h, 0, none⟩) A n n n c rfl rfl h 0 zs 65 ?c1 cs ?c2 ?c3 ?c4 h1.out ?_))
  case c1 => rw [← hzsH.out]; exact hstH.out.2.1
  case c2 => rw [hlen.out]; simp
  case c3 => exact fun hp => hrd.out _ hb1.out hp
  case c4 => rw [hlen.out, hl2.out]; omega
  go_wp2
  go_ret2
  have hst := hstH.out
  refine ⟨s, h, rfl, ⟨?_, ?_, ?_, ?_⟩, hs1, hh1, ?_⟩
  · rw [setRow_other _ _ _ _ hst.ne, hst.1, hlr.out, hnH.out]
  · rw [setRow_heap _ _ _ _ _ _ hst.2.1, hspl.out, ← hcsH.out]
  · exact hxH.out
  · rw [hnH.out]; exact hn
  · exact below_setRow hb1.out hh1 _
end Go.Proofs.YtbbnamdlfnonoaaDoor
