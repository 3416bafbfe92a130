
/- The document's pairs without a key, apart; the text walked. -/
import Derived.Test.YtihhkdcgnnfkkaaSlP1
namespace Go.Proofs.Ytihhkdcgnnfkkaa
open Go.RowKit
theorem pair_info : (Try.prog.info? 39).map (fun i => (i.zero, i.size, i.bytes)) = some (some (.agg #[.int .u64 0, .int .u64 0]), 2, 16) := by kernel_rfl
namespace Pr
theorem own_empty {w : World} {g : Nat} (h : w.heap[g]? = some (.cells #[] 39 (0, 0))) : w.ownsRow g 39 2 (.slice (some ⟨g, 0, none⟩) 0 0) 0 [] :=
  ⟨rfl, .inr ⟨g, 0, #[], rfl, Nat.le_refl _, h, Nat.le_refl _, by decide, rfl, rfl⟩⟩
theorem px_of {w : World} {base n : Nat} {v : Value} {xs : L} (h : w.ownsRow base 39 2 v n (pv xs)) (hn : n = xs.length) : PX w v xs := by
  subst hn
  exact K.own_base h (Nat.zero_le _)
/-- The front of a list, and its rest, as slices of it read. -/
theorem front {w : World} {g c : Nat} {xs : L} (h : PX w (.slice (some ⟨g, 0, none⟩) xs.length c) xs) {k : Nat} (hk : k ≤ xs.length) : Reads w w.heap.size 2 (some ⟨g, 0, none⟩) k (pv (xs.take k)) := by
  refine ⟨by rw [pv_len, List.length_take, Nat.min_eq_left hk], fun h0 => ⟨_, rfl, ?_, fun j u hu => ?_⟩⟩
  · rcases h.form with ⟨e, _⟩ | ⟨g', c', e, _, hg, _⟩
    · simp at e
    · injection e with e; injection e with e; injection e with e; subst e; exact hg
  · refine World.ownsRow.cells h (g := g) rfl j u ?_
    have e : pv xs = pv (xs.take k) ++ pv (xs.drop k) := by rw [← pv_app, List.take_append_drop]
    rw [e]
    rw [List.getElem?_append_left]
    · exact hu
    · rcases Nat.lt_or_ge j (pv (xs.take k)).length with h1 | h1
      · exact h1
      · rw [List.getElem?_eq_none h1] at hu; cases hu
theorem rest {w : World} {g c : Nat} {xs : L} (h : PX w (.slice (some ⟨g, 0, none⟩) xs.length c) xs) {k : Nat} (hk : k ≤ xs.length) (A : Option Addr) (hA : k < xs.length → A = some ⟨g, k * 2, none⟩) : Reads w w.heap.size 2 A (xs.length - k) (pv (xs.drop k)) := by
  refine ⟨by rw [pv_len, List.length_drop], fun h0 => ?_⟩
  rw [hA (by omega)]
  refine ⟨_, rfl, ?_, fun j u hu => ?_⟩
  · rcases h.form with ⟨e, _⟩ | ⟨g', c', e, _, hg, _⟩
    · simp at e
    · injection e with e; injection e with e; injection e with e; subst e; exact hg
  · have h1 : (pv xs)[k * 2 + j]? = some u := by
      have e : pv xs = pv (xs.take k) ++ pv (xs.drop k) := by rw [← pv_app, List.take_append_drop]
      have hl : (pv (xs.take k)).length = k * 2 := by rw [pv_len, List.length_take, Nat.min_eq_left hk]
      rw [e, List.getElem?_append_right (by omega), hl, Nat.add_sub_cancel_left]
      exact hu
    have h2 := World.ownsRow.cells h (g := g) rfl _ u h1
    have e2 : (⟨g, k * 2, none⟩ : Addr).add j = ⟨g, k * 2 + j, none⟩ := by unfold Addr.add; split <;> simp_all
    rw [add_off] at h2
    rw [e2]
    exact h2
theorem slice_from (g len c k : Nat) (i : Int) (hi : i = (k : Int)) (hk : k ≤ len) (hc : len ≤ c) : ∃ A3, (k < len → A3 = some ⟨g, k * 2, none⟩) ∧
    (∀ w, (Instr.sliceAt 29 (.slice (some ⟨g, 0, none⟩) len c) (some (.int .i64 i)) none none).run Try.prog w = .ok (.slice A3 (len - k) (c - k)) w) ∧
    (∀ w, (Instr.slice 29 (.slice (some ⟨g, 0, none⟩) len c) (some (.int .i64 i)) none none).run Try.prog w = .ok (.slice A3 (len - k) (c - k)) w) := by
  subst hi
  have hu : Try.prog.underlying 29 = some (.slice (Try.prog.elem 29)) := by kernel_rfl
  have hz : ∀ w, (Go.sizeOf (Try.prog.elem 29)).run Try.prog w = .ok 2 w := fun w => Try.sizeOf39 w
  have h2 : ∀ w, (Instr.slice 29 (.slice (some ⟨g, 0, none⟩) len c) (some (.int .i64 (k : Int))) none none).run Try.prog w = .ok (sliced (some ⟨g, 0, none⟩) k len c 2) w := fun w => by
    have h := run_slice_l (P := Try.prog) (w := w) (t := 29) (a := some ⟨g, 0, none⟩) (len := len) (cap := c) (ht := hu) (kl := .i64) (l := (k : Int)) (h0 := by omega) (h1 := by omega)
    rw [h, hz]
    simp [Result.andThen]
  refine ⟨if c = k then some ⟨g, 0, none⟩ else (some (⟨g, 0, none⟩ : Addr)).map (·.add (k * 2)), fun h => ?_, fun w => ?_, fun w => (h2 w).trans rfl⟩
  · rw [if_neg (by omega)]
    simp [add_off]
  · exact (run_sliceAt_slice (w := w) (h := hu) ..).trans ((h2 w).trans rfl)
end Pr
/-- What is answered: a list, in a block that was there or a new one. -/
def PLP (w : World) (v0 : Value) (xs : Pr.L) (e : Ending) (w' : World) : Prop :=
  ∃ v, e = .returned v ∧ PX w' v xs ∧ Below w.heap.size w w' ∧ (v = v0 ∨ ∀ g, v.ownBlock = some g → w.heap.size ≤ g)
theorem pr_drop_no (w : World) (v : Value) (xs : Pr.L) (h : PX w v xs) (hl : xs.length ≤ 4611686018427387904) (k : Nat) (hG : Pr.fo xs k = false) :
    Calls Try.prog 10 #[v, .int .u64 (k : Int)] w (PLP w v xs) := by
  have hfd := Lib.hid (pr_find w v xs h hl k)
  rw [hG] at hfd
  have hH := Lib.hid h
  clear h hG
  generalize Pr.fi xs k = F at *
  go_enter Try.func10, Try.ntmps10
  go_wp2_with (go_at_call 8; (with_reducible refine hfd.out.mono ?_); rintro e w2 ⟨rfl, hD⟩; have HB := Lib.hid hD; clear hD)
  go_ret
  exact ⟨v, rfl, hH.out.below HB.out, HB.out, .inl rfl⟩
set_option maxRecDepth 100000 in
set_option maxHeartbeats 1000000 in
theorem pr_drop_yes (w : World) (v : Value) (xs : Pr.L) (h : PX w v xs) (hl : xs.length ≤ 1000000) (k : Nat) (hG : Pr.fo xs k = true) :
    Calls Try.prog 10 #[v, .int .u64 (k : Int)] w (PLP w v (xs.take (Pr.fi xs k) ++ xs.drop (Pr.fi xs k + 1))) := by
  have hfd := Lib.hid (pr_find w v xs h (by omega) k)
  obtain ⟨hF, _⟩ := Pr.fo_lt hG
  rw [hG] at hfd
  obtain ⟨i0, hi, hz0, hz1, hz2⟩ := info_parts pair_info
  have hH := Lib.hid h
  clear hG
  generalize Pr.fi xs k = F at *
  rcases h.form with ⟨rfl, rfl⟩ | ⟨g, c, rfl, hc, hg, hcells⟩
  · simp at hF
  · clear hcells h
    have hFc : (F : Int) ≤ (c : Int) := by omega
    have hFc2 : F ≤ c := by omega
    have w1 : IntKind.i64.wrap ((F : Int) + 1) = (F : Int) + 1 := by simp [IntKind.wrap, IntKind.signed, IntKind.bits]; omega
    obtain ⟨A3, hA3, hs1, hs2⟩ := Pr.slice_from g xs.length c (F + 1) ((F : Int) + 1) (by omega) (by omega) hc
    obtain ⟨m3, hm3⟩ : ∃ m3, xs.length - (F + 1) = m3 := ⟨_, rfl⟩
    obtain ⟨c3, hc3⟩ : ∃ c3, c - (F + 1) = c3 := ⟨_, rfl⟩
    rw [hm3, hc3] at hs1 hs2
    have HA := Lib.hid hA3
    have HM := Lib.hid hm3
    clear hA3 hm3 hc3
    have hmF : F + m3 ≤ 1000000 := by have := HM.out; omega
    have hmE : Hid (F + m3 = (xs.take F ++ xs.drop (F + 1)).length) := by
      show _ = _
      rw [List.length_append, List.length_take, List.length_drop, HM.out, Nat.min_eq_left (by omega)]
    have hap : Hid (Pr.pv (xs.take F ++ xs.drop (F + 1)) = Pr.pv (xs.take F) ++ Pr.pv (xs.drop (F + 1))) := Pr.pv_app _ _
    have o1 := Lib.hid (Pr.pv_one (xs.take F))
    have o3 := Lib.hid (Pr.pv_one (xs.drop (F + 1)))
    have hf1 := Lib.hid (fun (w2 X : World) (HD : PX w2 (.slice (some ⟨g, 0, none⟩) xs.length c) xs) (hX : Below w2.heap.size w2 X) => ((Pr.front HD (k := F) (by omega)).below hX))
    have hf3 := Lib.hid (fun (w2 X : World) (HD : PX w2 (.slice (some ⟨g, 0, none⟩) xs.length c) xs) (hX : Below w2.heap.size w2 X) => ((HM.out ▸ Pr.rest HD (k := F + 1) (by omega) A3 HA.out : Reads w2 w2.heap.size 2 A3 m3 (Pr.pv (xs.drop (F + 1)))).below hX))
    clear HA HM
    generalize Pr.pv (xs.take F) = x1 at *
    generalize Pr.pv (xs.drop (F + 1)) = x3 at *
    go_enter Try.func10, Try.ntmps10
    go_wp2_with (go_at_call 8; (with_reducible refine hfd.out.mono ?_); rintro e w2 ⟨rfl, hD⟩; have HB := Lib.hid hD; clear hD)
    have HX := Lib.hid (hH.out.below HB.out)
    have R1 : Hid (∀ X, Below w2.heap.size w2 X → Reads X w2.heap.size 2 (some ⟨g, 0, none⟩) F x1) := fun X hX => hf1.out w2 X HX.out hX
    have R3 : Hid (∀ X, Below w2.heap.size w2 X → Reads X w2.heap.size 2 A3 m3 x3) := fun X hX => hf3.out w2 X HX.out hX
    have hb1 : Hid (Below w2.heap.size w2 (w2.alloc (.cells #[] 39)).drew) := below_drewN ((Below.refl _ _).alloc (Nat.le_refl _) _) 1
    have ho1 := Lib.hid (Pr.own_empty (w := (w2.alloc (.cells #[] 39)).drew) (g := w2.heap.size) (K.alloc_top w2 _))
    go_region_held3 (fun _ => True) (trivial) (first
      | (refine step_append_any _ rfl (.tmp 16) (.tmp 19) 29 rfl w2.heap.size 39 i0 _ 2 16 Try.underlying29 hi hz0 hz1 hz2 rfl (by decide) (.slice (some ⟨w2.heap.size, 0, none⟩) 0 0) 0 [] (by rfl) ho1.out w2.heap.size (some ⟨g, 0, none⟩) F c x1 (by rfl) (R1.out _ hb1.out) o1.out (by unfold maxLen; omega) (by omega) hb1.out.size ?_
         intro v1 w3 hv1 hg1 _
         rw [Nat.zero_add, List.nil_append] at hv1
         obtain ⟨A1, c1, rfl⟩ := K.own_form hv1
         have hb3 : Hid (Below w2.heap.size w2 w3) := by
           exact K.grown_next hb1.out hg1 (fun g e => by simp [Value.ownBlock] at e; omega)
         have HV1 := Lib.hid hv1
         clear hv1 hg1)
      | (refine step_append_any _ rfl (.tmp 20) (.tmp 24) 29 rfl w2.heap.size 39 i0 _ 2 16 Try.underlying29 hi hz0 hz1 hz2 rfl (by decide) (.slice A1 F c1) F x1 (by rfl) HV1.out w2.heap.size A3 m3 c3 x3 (by rfl) (R3.out _ hb3.out) o3.out (by unfold maxLen; omega) (by omega) hb3.out.size ?_
         intro v2 w4 hv2 hg2 _
         have hb4 : Hid (Below w2.heap.size w2 w4) := by
           exact K.grown_next hb3.out hg2 (fun g e => (K.own_lt HV1.out e).2)
         have HV2 := Lib.hid hv2
         clear hv2 hg2))
    all_goals
      go_wp2
      go_ret
      exact ⟨v2, rfl, Pr.px_of (by rw [hap.out]; exact HV2.out) hmE.out, HB.out.trans (hb4.out.mono HB.out.size), .inr fun g e => Nat.le_trans HB.out.size (K.own_lt HV2.out e).2⟩
theorem pr_drop (w : World) (v : Value) (xs : Pr.L) (h : PX w v xs) (hl : xs.length ≤ 1000000) (k : Nat) :
    Calls Try.prog 10 #[v, .int .u64 (k : Int)] w (PLP w v (Pr.drop xs k)) := by
  by_cases hG : Pr.fo xs k = true
  · unfold Pr.drop
    rw [if_pos hG]
    exact pr_drop_yes w v xs h hl k hG
  · unfold Pr.drop
    rw [if_neg hG]
    exact pr_drop_no w v xs h (by omega) k (by simpa using hG)
end Go.Proofs.Ytihhkdcgnnfkkaa
