
/- What the document's Do answers, and the list then; the text walked. -/
import Derived.Test.YtkpfgbcjimkfeaaHRef
import Derived.Deep.QuietTactic
import Derived.BigQuiet
namespace Go.Proofs.Ytkpfgbcjimkfeaa
open Go.RowKit
abbrev hactv (d l p x : Nat) : Value := .agg #[.int .u8 (d : Int), .int .u8 (l : Int), .int .u64 (p : Int), .int .u64 (x : Int)]
abbrev hacto (d l p x : Nat) : Obj := .cells #[.int .u8 (d : Int), .int .u8 (l : Int), .int .u64 (p : Int), .int .u64 (x : Int)] 31
def hput (es : List (H.Key × Nat)) (k : H.Key) (x : Nat) : List (H.Key × Nat) := es.take (fi es k) ++ (k, x) :: es.drop (if fo es k then fi es k + 1 else fi es k)
def hdrop (es : List (H.Key × Nat)) (k : H.Key) : List (H.Key × Nat) := if fo es k then es.take (fi es k) ++ es.drop (fi es k + 1) else es
def hget (es : List (H.Key × Nat)) (k : H.Key) : Nat := if fo es k then ((es[fi es k]?).map (·.2)).getD 0 else 0
theorem fo_lt {es : List (H.Key × Nat)} {k : H.Key} (h : fo es k = true) : fi es k < es.length := by
  unfold fo at h
  rcases Nat.lt_or_ge (fi es k) es.length with h1 | h1
  · exact h1
  · rw [List.getElem?_eq_none h1] at h; simp at h
/-- What is found behind the search. -/
structure HD (w w2 : World) (v : Value) (es : List (H.Key × Nat)) (d l p x : Nat) : Prop where
  c0 : w2.cell? ⟨w.heap.size, 0, none⟩ = some (.int .u8 (d : Int))
  c1 : w2.cell? ⟨w.heap.size, 1, none⟩ = some (.int .u8 (l : Int))
  c2 : w2.cell? ⟨w.heap.size, 2, none⟩ = some (.int .u64 (p : Int))
  c3 : w2.cell? ⟨w.heap.size, 3, none⟩ = some (.int .u64 (x : Int))
  lx : LX w2 v es
  low : Below w.heap.size w w2
theorem h_find (w : World) (v : Value) (es : List (H.Key × Nat)) (h : LX w v es) (hl : es.length ≤ 4611686018427387904) (d l p x : Nat) :
    Calls Try.prog 25 #[v, .int .u8 (l : Int), .int .u64 (p : Int)] (w.alloc (hacto d l p x)) fun e w' => e = .returned (.tuple #[.int .i64 (fi es (l, p) : Nat), .bool (fo es (l, p))]) ∧ HD w w' v es d l p x := by
  have b1 : Below w.heap.size w (w.alloc (hacto d l p x)) := (Below.refl _ w).alloc (Nat.le_refl _) _
  have b1' : Below w.heap.size w (w.alloc (hacto d l p x)) := b1
  refine (f_find _ v es (h.below b1) hl l p).mono fun e w' ⟨h1, h2⟩ => ⟨h1, ?_⟩
  have h3 := (h2.block w.heap.size (by simp)).trans (alloc_topI w (hacto d l p x))
  exact ⟨cell_of_row _ _ 0 _ _ (0, 0) h3, cell_of_row _ _ 1 _ _ (0, 0) h3, cell_of_row _ _ 2 _ _ (0, 0) h3, cell_of_row _ _ 3 _ _ (0, 0) h3, (h.below b1).below h2, b1.trans (h2.mono (by simp))⟩
theorem mod4 (d : Nat) (hd : d < 256) (k : Nat) (hk : d % 4 = k) : (d : Int).tmod 4 = (k : Int) ∧ (d : Int) % 4 = (k : Int) := by
  constructor
  · rw [Int.tmod_eq_emod_of_nonneg (by omega)]; omega
  · omega
def DoP (w : World) (v0 : Value) (es : List (H.Key × Nat)) (x : Nat) (b : Bool) (e : Ending) (w' : World) : Prop :=
  ∃ v, e = .returned (.tuple #[v, .int .u64 (x : Int), .bool b]) ∧ LX w' v es ∧ Below w.heap.size w w' ∧ (v = v0 ∨ ∀ g, v.ownBlock = some g → w.heap.size ≤ g)
set_option maxHeartbeats 1000000 in
theorem h_get (w : World) (v : Value) (es : List (H.Key × Nat)) (h : LX w v es) (hl : es.length ≤ 4611686018427387904) (d l p x : Nat) (hd : d < 256) (hk : d % 4 = 3) :
    Calls Try.prog 18 #[v, hactv d l p x] w (DoP w v es (hget es (l, p)) (fo es (l, p))) := by
  have hfd := Lib.hid (h_find w v es h hl d l p x)
  obtain ⟨e1, e2⟩ := mod4 d hd 3 hk
  have hget := Lib.hid (show hget es (l, p) = if fo es (l, p) then ((es[fi es (l, p)]?).map (·.2)).getD 0 else 0 from rfl)
  have hflt := Lib.hid (fun h => fo_lt (es := es) (k := (l, p)) h)
  clear h hk hd
  generalize fi es (l, p) = F at *
  generalize fo es (l, p) = G at *
  generalize HDo_get : Go.Proofs.Ytkpfgbcjimkfeaa.hget es (l, p) = X at *
  cases G with
  | false =>
    have hX : X = 0 := by have := hget.out; simpa using this
    subst hX
    go_enter Try.func18, Try.ntmps18
    go_wp2_with (go_at_call 25; (with_reducible refine hfd.out.mono ?_); rintro e w2 ⟨rfl, hD⟩; have HD2 := Lib.hid hD; have c0 := hD.c0; have c1 := hD.c1; have c2 := hD.c2; have c3 := hD.c3; clear hD)
    refine bodyPost_ret (results_tmp3 rfl _ _ _) rfl ?_
    exact ⟨v, rfl, HD2.out.lx, HD2.out.low, .inl rfl⟩
  | true =>
    have hF := hflt.out rfl
    go_enter Try.func18, Try.ntmps18
    go_wp2_with (go_at_call 25; (with_reducible refine hfd.out.mono ?_); rintro e w2 ⟨rfl, hD⟩; have HD2 := Lib.hid hD; have c0 := hD.c0; have c1 := hD.c1; have c2 := hD.c2; have c3 := hD.c3; clear hD)
    rcases HD2.out.lx.form with ⟨rfl, rfl⟩ | ⟨g, c, rfl, hc, hg, hcells⟩
    · simp at hF
    · obtain ⟨y0, y1, y2⟩ := hcells F hF
      have hX : X = es[F].2 := by have := hget.out; simpa [hF] using this
      rw [← hX] at y2
      clear y0 y1 hcells hX
      go_quiet (fail)
      go_wp2
      refine bodyPost_ret (results_tmp3 rfl _ _ _) rfl ?_
      exact ⟨_, rfl, HD2.out.lx.below (below_drewN (Below.refl _ _) _), below_drewN HD2.out.low _, .inl rfl⟩
theorem xv_append (a b : List (H.Key × Nat)) : xv (a ++ b) = xv a ++ xv b := by simp [xv]
theorem xv_one (es : List (H.Key × Nat)) : ∀ u ∈ xv es, u.oneCell' = true := by
  intro u hu
  unfold xv at hu
  obtain ⟨x, _, hx⟩ := List.mem_flatMap.1 hu
  simp at hx
  rcases hx with rfl | rfl | rfl <;> rfl
/-- The front of a list, and its rest, as slices of it read. -/
theorem LX.front {w : World} {g c : Nat} {es : List (H.Key × Nat)} (h : LX w (.slice (some ⟨g, 0, none⟩) es.length c) es) {k : Nat} (hk : k ≤ es.length) : Reads w w.heap.size 3 (some ⟨g, 0, none⟩) k (xv (es.take k)) := by
  refine ⟨by rw [xv_len, List.length_take, Nat.min_eq_left hk], fun h0 => ⟨_, rfl, ?_, fun j u hu => ?_⟩⟩
  · rcases h.form with ⟨e, _⟩ | ⟨g', c', e, _, hg, _⟩
    · simp at e
    · injection e with e; injection e with e; injection e with e; subst e; exact hg
  · refine h.cells (g := g) rfl j u ?_
    have e : xv es = xv (es.take k) ++ xv (es.drop k) := by rw [← xv_append, List.take_append_drop]
    rw [e]
    rw [List.getElem?_append_left]
    · exact hu
    · rcases Nat.lt_or_ge j (xv (es.take k)).length with h1 | h1
      · exact h1
      · rw [List.getElem?_eq_none h1] at hu; cases hu
theorem LX.rest {w : World} {g c : Nat} {es : List (H.Key × Nat)} (h : LX w (.slice (some ⟨g, 0, none⟩) es.length c) es) {k : Nat} (hk : k ≤ es.length) (A : Option Addr) (hA : k < es.length → A = some ⟨g, k * 3, none⟩) : Reads w w.heap.size 3 A (es.length - k) (xv (es.drop k)) := by
  refine ⟨by rw [xv_len, List.length_drop], fun h0 => ?_⟩
  rw [hA (by omega)]
  refine ⟨_, rfl, ?_, fun j u hu => ?_⟩
  · rcases h.form with ⟨e, _⟩ | ⟨g', c', e, _, hg, _⟩
    · simp at e
    · injection e with e; injection e with e; injection e with e; subst e; exact hg
  · have h1 : (xv es)[k * 3 + j]? = some u := by
      have e : xv es = xv (es.take k) ++ xv (es.drop k) := by rw [← xv_append, List.take_append_drop]
      have hl : (xv (es.take k)).length = k * 3 := by rw [xv_len, List.length_take, Nat.min_eq_left hk]
      rw [e, List.getElem?_append_right (by omega), hl, Nat.add_sub_cancel_left]
      exact hu
    have h2 := h.cells (g := g) rfl _ u h1
    have e2 : (⟨g, k * 3, none⟩ : Addr).add j = ⟨g, k * 3 + j, none⟩ := by unfold Addr.add; split <;> simp_all
    rw [add_off] at h2
    rw [e2]
    exact h2
theorem slice_from (g len c k : Nat) (i : Int) (hi : i = (k : Int)) (hk : k ≤ len) (hc : len ≤ c) : ∃ A3, (k < len → A3 = some ⟨g, k * 3, none⟩) ∧
    (∀ w, (Instr.sliceAt 29 (.slice (some ⟨g, 0, none⟩) len c) (some (.int .i64 i)) none none).run Try.prog w = .ok (.slice A3 (len - k) (c - k)) w) ∧
    (∀ w, (Instr.slice 29 (.slice (some ⟨g, 0, none⟩) len c) (some (.int .i64 i)) none none).run Try.prog w = .ok (.slice A3 (len - k) (c - k)) w) := by
  subst hi
  have hu : Try.prog.underlying 29 = some (.slice (Try.prog.elem 29)) := by kernel_rfl
  have hz : ∀ w, (Go.sizeOf (Try.prog.elem 29)).run Try.prog w = .ok 3 w := fun w => Try.sizeOf53 w
  have h2 : ∀ w, (Instr.slice 29 (.slice (some ⟨g, 0, none⟩) len c) (some (.int .i64 (k : Int))) none none).run Try.prog w = .ok (sliced (some ⟨g, 0, none⟩) k len c 3) w := fun w => by
    have h := run_slice_l (P := Try.prog) (w := w) (t := 29) (a := some ⟨g, 0, none⟩) (len := len) (cap := c) (ht := hu) (kl := .i64) (l := (k : Int)) (h0 := by omega) (h1 := by omega)
    rw [h, hz]
    simp [Result.andThen]
  refine ⟨if c = k then some ⟨g, 0, none⟩ else (some (⟨g, 0, none⟩ : Addr)).map (·.add (k * 3)), fun h => ?_, fun w => ?_, fun w => (h2 w).trans rfl⟩
  · rw [if_neg (by omega)]
    simp [add_off]
  · exact (run_sliceAt_slice (w := w) (h := hu) ..).trans ((h2 w).trans rfl)
theorem own_empty {w : World} {g : Nat} (h : w.heap[g]? = some (.cells #[] 53 (0, 0))) : w.ownsRow g 53 3 (.slice (some ⟨g, 0, none⟩) 0 0) 0 [] :=
  ⟨rfl, .inr ⟨g, 0, #[], rfl, Nat.le_refl _, h, Nat.le_refl _, by decide, rfl, rfl⟩⟩
theorem grown_next {w W W' : World} {row : Option Nat} (hb : Below w.heap.size w W) (hg : W.grownBy W' row) (h : ∀ g, row = some g → w.heap.size ≤ g) : Below w.heap.size w W' := hb.grown hg hb.size h
theorem lx_of {w : World} {base n : Nat} {v : Value} {es : List (H.Key × Nat)} (h : w.ownsRow base 53 3 v n (xv es)) (hn : n = es.length) : LX w v es := by
  subst hn
  exact own_baseI h (Nat.zero_le _)
set_option maxRecDepth 100000 in
set_option maxHeartbeats 1000000 in
theorem h_drop_yes (w : World) (v : Value) (es : List (H.Key × Nat)) (h : LX w v es) (hl : es.length ≤ 1000000) (d l p x : Nat) (hd : d < 256) (hk : d % 4 = 2) (hG : fo es (l, p) = true) :
    Calls Try.prog 18 #[v, hactv d l p x] w (DoP w v (es.take (fi es (l, p)) ++ es.drop (fi es (l, p) + 1)) 0 true) := by
  have hfd := Lib.hid (h_find w v es h (by omega) d l p x)
  obtain ⟨e1, e2⟩ := mod4 d hd 2 hk
  have hF := fo_lt hG
  rw [hG] at hfd
  obtain ⟨i0, hi, hz0, hz1, hz2⟩ := info_parts3 ref_info
  clear h hk hd hG
  generalize fi es (l, p) = F at *
  go_enter Try.func18, Try.ntmps18
  go_wp2_with (go_at_call 25; (with_reducible refine hfd.out.mono ?_); rintro e w2 ⟨rfl, hD⟩; have HD2 := Lib.hid hD; have c0 := hD.c0; have c1 := hD.c1; have c2 := hD.c2; have c3 := hD.c3; clear hD)
  rcases HD2.out.lx.form with ⟨rfl, rfl⟩ | ⟨g, c, rfl, hc, hg, hcells⟩
  · simp at hF
  · clear hcells
    have hFc : (F : Int) ≤ (c : Int) := by omega
    have hFc2 : F ≤ c := by omega
    have w1 : IntKind.i64.wrap ((F : Int) + 1) = (F : Int) + 1 := by simp [IntKind.wrap, IntKind.signed, IntKind.bits]; omega
    obtain ⟨A3, hA3, hs1, hs2⟩ := slice_from g es.length c (F + 1) ((F : Int) + 1) (by omega) (by omega) hc
    obtain ⟨m3, hm3⟩ : ∃ m3, es.length - (F + 1) = m3 := ⟨_, rfl⟩
    obtain ⟨c3, hc3⟩ : ∃ c3, c - (F + 1) = c3 := ⟨_, rfl⟩
    rw [hm3, hc3] at hs1 hs2
    have HA := Lib.hid hA3
    have HM := Lib.hid hm3
    clear hA3 hm3 hc3
    have R1 : Hid (∀ X, Below w2.heap.size w2 X → Reads X w2.heap.size 3 (some ⟨g, 0, none⟩) F (xv (es.take F))) := fun X hX => (HD2.out.lx.front (k := F) (by omega)).below hX
    have R3 : Hid (∀ X, Below w2.heap.size w2 X → Reads X w2.heap.size 3 A3 m3 (xv (es.drop (F + 1)))) := fun X hX => by
      rw [← HM.out]
      exact (HD2.out.lx.rest (k := F + 1) (by omega) A3 HA.out).below hX
    have hmF : F + m3 ≤ 1000000 := by have := HM.out; omega
    have hmE : Hid (F + m3 = (es.take F ++ es.drop (F + 1)).length) := by
      show _ = _
      rw [List.length_append, List.length_take, List.length_drop, HM.out, Nat.min_eq_left (by omega)]
    have hap : Hid (xv (es.take F ++ es.drop (F + 1)) = xv (es.take F) ++ xv (es.drop (F + 1))) := xv_append _ _
    have o1 := Lib.hid (xv_one (es.take F))
    have o3 := Lib.hid (xv_one (es.drop (F + 1)))
    clear HA HM
    generalize xv (es.take F) = x1 at *
    generalize xv (es.drop (F + 1)) = x3 at *
    have hb1 : Hid (Below w2.heap.size w2 (w2.alloc (.cells #[] 53)).drew) := below_drewN ((Below.refl _ _).alloc (Nat.le_refl _) _) 1
    have ho1 := Lib.hid (own_empty (w := (w2.alloc (.cells #[] 53)).drew) (g := w2.heap.size) (alloc_topI w2 _))
    go_region_held3 (fun _ => True) (trivial) (first
      | (refine step_append_any _ rfl (.tmp 38) (.tmp 41) 29 rfl w2.heap.size 53 i0 _ 3 24 Try.underlying29 hi hz0 hz1 hz2 rfl (by decide) (.slice (some ⟨w2.heap.size, 0, none⟩) 0 0) 0 [] (by rfl) ho1.out w2.heap.size (some ⟨g, 0, none⟩) F c x1 (by rfl) (R1.out _ hb1.out) o1.out (by unfold maxLen; omega) (by omega) hb1.out.size ?_
         intro v1 w3 hv1 hg1 _
         rw [Nat.zero_add, List.nil_append] at hv1
         obtain ⟨A1, c1, rfl⟩ := own_form hv1
         have hb3 : Hid (Below w2.heap.size w2 w3) := by
           exact grown_next hb1.out hg1 (fun g e => by simp [Value.ownBlock] at e; omega)
         have HV1 := Lib.hid hv1
         clear hv1 hg1)
      | (refine step_append_any _ rfl (.tmp 42) (.tmp 46) 29 rfl w2.heap.size 53 i0 _ 3 24 Try.underlying29 hi hz0 hz1 hz2 rfl (by decide) (.slice A1 F c1) F x1 (by rfl) HV1.out w2.heap.size A3 m3 c3 x3 (by rfl) (R3.out _ hb3.out) o3.out (by unfold maxLen; omega) (by omega) hb3.out.size ?_
         intro v2 w4 hv2 hg2 _
         have hb4 : Hid (Below w2.heap.size w2 w4) := by
           exact grown_next hb3.out hg2 (fun g e => (own_lt HV1.out e).2)
         have HV2 := Lib.hid hv2
         clear hv2 hg2))
    all_goals
      go_wp2
      refine bodyPost_ret (results_tmp3 rfl _ _ _) rfl ?_
      exact ⟨v2, rfl, lx_of (by rw [hap.out]; exact HV2.out) hmE.out, HD2.out.low.trans (hb4.out.mono HD2.out.low.size), .inr fun g e => Nat.le_trans HD2.out.low.size (own_lt HV2.out e).2⟩
end Go.Proofs.Ytkpfgbcjimkfeaa
