
/- The document's pairs with one more, or a new value, apart; the text of Put walked. -/
import Derived.Test.YtihhkdcgnnfkkaaSlP2
namespace Go.Proofs.Ytihhkdcgnnfkkaa
open Go.RowKit
theorem Pr.two_cell (w : World) (a b : Value) (t : TypeId) : ∀ (j : Nat) (u : Value), [a, b][j]? = some u → (w.alloc (.cells #[a, b] t)).cell? ((⟨w.heap.size, 0, none⟩ : Addr).add j) = some u := by
  intro j u h
  rw [add_off]
  have hr : (w.alloc (.cells #[a, b] t)).heap[w.heap.size]? = some (.cells #[a, b] t) := K.alloc_top w _
  match j, h with
  | 0, h => 
    have := cell_of_row _ w.heap.size 0 _ _ (0, 0) hr
    simpa using this.trans h
  | 1, h => 
    have := cell_of_row _ w.heap.size 1 _ _ (0, 0) hr
    simpa using this.trans h
set_option maxRecDepth 100000 in
set_option maxHeartbeats 2000000 in
theorem pr_put_nil (w : World) (xs : Pr.L) (h : PX w (.slice none 0 0) xs) (hes : xs = []) (k v0 : Nat) :
    Calls Try.prog 14 #[.slice none 0 0, .int .u64 (k : Int), .int .u64 (v0 : Int)] w (PLP w (.slice none 0 0) [(k, v0)]) := by
  subst hes
  have hfd := Lib.hid (pr_find w _ [] h (by simp) k)
  obtain ⟨i0, hi, hz0, hz1, hz2⟩ := info_parts pair_info
  clear h
  go_enter Try.func14, Try.ntmps14
  go_wp2_with (first
    | (go_at_call 8; (with_reducible refine hfd.out.mono ?_); rintro e w2 ⟨rfl, hD⟩; have HB := Lib.hid hD; clear hD; have R1 : Hid (∀ X : World, Reads X w2.heap.size 2 none 0 []) := (fun X => Reads.none_); have hb1 : Hid (Below w2.heap.size w2 (w2.alloc (.cells #[] 39))) := ((Below.refl _ _).alloc (Nat.le_refl _) _); have ho1 := Lib.hid (Pr.own_empty (w := (w2.alloc (.cells #[] 39))) (g := w2.heap.size) (K.alloc_top w2 _)))
    | (at_builtin; refine wpList_append_any _ rfl (.tmp 16) (.tmp 19) 29 rfl w2.heap.size 39 i0 _ 2 16 Try.underlying29 hi hz0 hz1 hz2 rfl (by decide) (.slice (some ⟨w2.heap.size, 0, none⟩) 0 0) 0 [] (by rfl) ho1.out w2.heap.size none 0 0 [] (by rfl) (R1.out _) (by simp) (by unfold maxLen; omega) (by omega) hb1.out.size ?_; intro v1 w3 hv1 hg1 _; rw [Nat.zero_add, List.nil_append] at hv1; obtain ⟨A1, cc1, rfl⟩ := K.own_form hv1; have hb3 : Hid (Below w2.heap.size w2 w3) := (K.grown_next hb1.out hg1 (fun g e => (by simp [Value.ownBlock] at e; omega))); have HV1 := Lib.hid hv1; clear hv1 hg1; have hsz3 := hb3.out.size; have hrn : Hid (Reads (w3.alloc (.cells #[.int .u64 (k : Int), .int .u64 (v0 : Int)] 39)) (w3.heap.size + 1) 2 (some ⟨w3.heap.size, 0, none⟩) 1 [.int .u64 (k : Int), .int .u64 (v0 : Int)]) := ⟨rfl, fun _ => ⟨_, rfl, Nat.lt_succ_self _, Pr.two_cell w3 _ _ _⟩⟩)
    | (at_builtin; refine wpList_append_any _ rfl (.tmp 21) (.tmp 25) 29 rfl w2.heap.size 39 i0 _ 2 16 Try.underlying29 hi hz0 hz1 hz2 rfl (by decide) (.slice A1 0 cc1) 0 [] (by rfl) (HV1.out.alloc _) (w3.heap.size + 1) (some ⟨w3.heap.size, 0, none⟩) 1 1 [.int .u64 (k : Int), .int .u64 (v0 : Int)] (by rfl) hrn.out (by intro u hu; simp at hu; rcases hu with rfl | rfl <;> rfl) (by unfold maxLen; omega) (by omega) (Nat.le_trans hsz3 (by simp)) ?_; intro v2 w4 hv2 hg2 _; rw [Nat.zero_add, List.nil_append] at hv2; obtain ⟨A2, cc2, rfl⟩ := K.own_form hv2; have hb4 : Hid (Below w2.heap.size w2 w4) := (K.grown_next (hb3.out.alloc hsz3 _) hg2 (fun g e => (K.own_lt HV1.out e).2)); have HV2 := Lib.hid hv2; have hsz4 := hb4.out.size; clear hv2 hg2)
    | (at_builtin; refine wpList_append_any _ rfl (.tmp 30) (.tmp 33) 29 rfl w2.heap.size 39 i0 _ 2 16 Try.underlying29 hi hz0 hz1 hz2 rfl (by decide) (.slice A2 1 cc2) 1 [.int .u64 (k : Int), .int .u64 (v0 : Int)] (by rfl) HV2.out w2.heap.size none 0 0 [] (by rfl) (R1.out _) (by simp) (by unfold maxLen; omega) (by omega) hsz4 ?_; intro v3 w5 hv3 hg3 _; have hb5 : Hid (Below w2.heap.size w2 w5) := (K.grown_next hb4.out hg3 (fun g e => (K.own_lt HV2.out e).2)); have HV3 := Lib.hid hv3; clear hv3 hg3))
  go_ret
  exact ⟨v3, rfl, Pr.px_of (n := 1) HV3.out rfl, HB.out.trans (hb5.out.mono HB.out.size), .inr fun g e => Nat.le_trans HB.out.size (K.own_lt HV3.out e).2⟩
set_option maxRecDepth 100000 in
set_option maxHeartbeats 2000000 in
theorem pr_put_new (w : World) (g c : Nat) (xs : Pr.L) (h : PX w (.slice (some ⟨g, 0, none⟩) xs.length c) xs) (hl : xs.length ≤ 1000000) (k v0 : Nat) (hG : Pr.fo xs k = false) :
    Calls Try.prog 14 #[.slice (some ⟨g, 0, none⟩) xs.length c, .int .u64 (k : Int), .int .u64 (v0 : Int)] w (PLP w (.slice (some ⟨g, 0, none⟩) xs.length c) (xs.take (Pr.fi xs k) ++ (k, v0) :: xs.drop (Pr.fi xs k))) := by
  have hfd := Lib.hid (pr_find w _ xs h (by omega) k)
  have hF := Pr.fi_le xs k
  rw [hG] at hfd
  obtain ⟨i0, hi, hz0, hz1, hz2⟩ := info_parts pair_info
  have hH := Lib.hid h
  clear hG
  generalize Pr.fi xs k = F at *
  have hc : xs.length ≤ c := by
    rcases h.form with ⟨e, _⟩ | ⟨g', c', e, hc, _⟩
    · simp at e
    · injection e with _ _ e; omega
  have hFc : (F : Int) ≤ (c : Int) := by omega
  have hFc2 : F ≤ c := by omega
  obtain ⟨A3, hA3, hs1, hs2⟩ := Pr.slice_from g xs.length c F (F : Int) (by omega) (by omega) hc
  obtain ⟨m3, hm3⟩ : ∃ m3, xs.length - F = m3 := ⟨_, rfl⟩
  obtain ⟨c3, hc3⟩ : ∃ c3, c - F = c3 := ⟨_, rfl⟩
  rw [hm3, hc3] at hs1 hs2
  have HA := Lib.hid hA3
  have HM := Lib.hid hm3
  clear hA3 hm3 hc3 h
  have hmF : F + 1 + m3 ≤ 1000001 := by have := HM.out; omega
  have hmE : Hid (F + 1 + m3 = (xs.take F ++ (k, v0) :: xs.drop F).length) := by
    show _ = _
    rw [List.length_append, List.length_cons, List.length_take, List.length_drop, HM.out, Nat.min_eq_left (by omega)]
    omega
  have hap : Hid (Pr.pv (xs.take F ++ (k, v0) :: xs.drop F) = Pr.pv (xs.take F) ++ [.int .u64 (k : Int), .int .u64 (v0 : Int)] ++ Pr.pv (xs.drop F)) := by
    show _ = _
    simp [Pr.pv]
  have o1 := Lib.hid (Pr.pv_one (xs.take F))
  have o3 := Lib.hid (Pr.pv_one (xs.drop F))
  have hf1 := Lib.hid (fun (w2 X : World) (HD : PX w2 (.slice (some ⟨g, 0, none⟩) xs.length c) xs) (hX : Below w2.heap.size w2 X) => ((Pr.front HD (k := F) (by omega)).below hX))
  have hf3 := Lib.hid (fun (w2 X : World) (HD : PX w2 (.slice (some ⟨g, 0, none⟩) xs.length c) xs) (hX : Below w2.heap.size w2 X) => ((HM.out ▸ Pr.rest HD (k := F) (by omega) A3 HA.out : Reads w2 w2.heap.size 2 A3 m3 (Pr.pv (xs.drop F))).below hX))
  clear HA HM
  generalize Pr.pv (xs.take F) = x1 at *
  generalize Pr.pv (xs.drop F) = x3 at *
  go_enter Try.func14, Try.ntmps14
  go_wp2_with (first
    | (go_at_call 8; (with_reducible refine hfd.out.mono ?_); rintro e w2 ⟨rfl, hD⟩; have HB := Lib.hid hD; clear hD; have HX := Lib.hid (hH.out.below HB.out); have R1 : Hid (∀ X, Below w2.heap.size w2 X → Reads X w2.heap.size 2 (some ⟨g, 0, none⟩) F x1) := (fun X hX => hf1.out w2 X HX.out hX); have R3 : Hid (∀ X, Below w2.heap.size w2 X → Reads X w2.heap.size 2 A3 m3 x3) := (fun X hX => hf3.out w2 X HX.out hX); have hb1 : Hid (Below w2.heap.size w2 (w2.alloc (.cells #[] 39))) := ((Below.refl _ _).alloc (Nat.le_refl _) _); have ho1 := Lib.hid (Pr.own_empty (w := (w2.alloc (.cells #[] 39))) (g := w2.heap.size) (K.alloc_top w2 _)))
    | (at_builtin; refine wpList_append_any _ rfl (.tmp 16) (.tmp 19) 29 rfl w2.heap.size 39 i0 _ 2 16 Try.underlying29 hi hz0 hz1 hz2 rfl (by decide) (.slice (some ⟨w2.heap.size, 0, none⟩) 0 0) 0 [] (by rfl) ho1.out w2.heap.size (some ⟨g, 0, none⟩) F c x1 (by rfl) (R1.out _ hb1.out) o1.out (by unfold maxLen; omega) (by omega) hb1.out.size ?_; intro v1 w3 hv1 hg1 _; rw [Nat.zero_add, List.nil_append] at hv1; obtain ⟨A1, cc1, rfl⟩ := K.own_form hv1; have hb3 : Hid (Below w2.heap.size w2 w3) := (K.grown_next hb1.out hg1 (fun g e => (by simp [Value.ownBlock] at e; omega))); have HV1 := Lib.hid hv1; clear hv1 hg1; have hsz3 := hb3.out.size; have hrn : Hid (Reads (w3.alloc (.cells #[.int .u64 (k : Int), .int .u64 (v0 : Int)] 39)) (w3.heap.size + 1) 2 (some ⟨w3.heap.size, 0, none⟩) 1 [.int .u64 (k : Int), .int .u64 (v0 : Int)]) := ⟨rfl, fun _ => ⟨_, rfl, Nat.lt_succ_self _, Pr.two_cell w3 _ _ _⟩⟩)
    | (at_builtin; refine wpList_append_any _ rfl (.tmp 21) (.tmp 25) 29 rfl w2.heap.size 39 i0 _ 2 16 Try.underlying29 hi hz0 hz1 hz2 rfl (by decide) (.slice A1 F cc1) F x1 (by rfl) (HV1.out.alloc _) (w3.heap.size + 1) (some ⟨w3.heap.size, 0, none⟩) 1 1 [.int .u64 (k : Int), .int .u64 (v0 : Int)] (by rfl) hrn.out (by intro u hu; simp at hu; rcases hu with rfl | rfl <;> rfl) (by unfold maxLen; omega) (by omega) (Nat.le_trans hsz3 (by simp)) ?_; intro v2 w4 hv2 hg2 _; obtain ⟨A2, cc2, rfl⟩ := K.own_form hv2; have hb4 : Hid (Below w2.heap.size w2 w4) := (K.grown_next (hb3.out.alloc hsz3 _) hg2 (fun g e => (K.own_lt HV1.out e).2)); have HV2 := Lib.hid hv2; have hsz4 := hb4.out.size; clear hv2 hg2)
    | (at_builtin; refine wpList_append_any _ rfl (.tmp 30) (.tmp 33) 29 rfl w2.heap.size 39 i0 _ 2 16 Try.underlying29 hi hz0 hz1 hz2 rfl (by decide) (.slice A2 (F + 1) cc2) (F + 1) (x1 ++ [.int .u64 (k : Int), .int .u64 (v0 : Int)]) (by rfl) HV2.out w2.heap.size A3 m3 c3 x3 (by rfl) (R3.out _ hb4.out) (o3.out) (by unfold maxLen; omega) (by omega) hsz4 ?_; intro v3 w5 hv3 hg3 _; have hb5 : Hid (Below w2.heap.size w2 w5) := (K.grown_next hb4.out hg3 (fun g e => (K.own_lt HV2.out e).2)); have HV3 := Lib.hid hv3; clear hv3 hg3))
  go_ret
  exact ⟨v3, rfl, Pr.px_of (by rw [hap.out]; exact HV3.out) hmE.out, HB.out.trans (hb5.out.mono HB.out.size), .inr fun g e => Nat.le_trans HB.out.size (K.own_lt HV3.out e).2⟩
set_option maxRecDepth 100000 in
set_option maxHeartbeats 2000000 in
theorem pr_put_old (w : World) (g c : Nat) (xs : Pr.L) (h : PX w (.slice (some ⟨g, 0, none⟩) xs.length c) xs) (hl : xs.length ≤ 1000000) (k v0 : Nat) (hG : Pr.fo xs k = true) :
    Calls Try.prog 14 #[.slice (some ⟨g, 0, none⟩) xs.length c, .int .u64 (k : Int), .int .u64 (v0 : Int)] w (PLP w (.slice (some ⟨g, 0, none⟩) xs.length c) (xs.take (Pr.fi xs k) ++ (k, v0) :: xs.drop (Pr.fi xs k + 1))) := by
  have hfd := Lib.hid (pr_find w _ xs h (by omega) k)
  obtain ⟨hF, _⟩ := Pr.fo_lt hG
  rw [hG] at hfd
  obtain ⟨i0, hi, hz0, hz1, hz2⟩ := info_parts pair_info
  have hH := Lib.hid h
  clear hG
  generalize Pr.fi xs k = F at *
  have hc : xs.length ≤ c := by
    rcases h.form with ⟨e, _⟩ | ⟨g', c', e, hc, _⟩
    · simp at e
    · injection e with _ _ e; omega
  have hFc : (F : Int) ≤ (c : Int) := by omega
  have hFc2 : F ≤ c := by omega
  have w1 : IntKind.i64.wrap ((F : Int) + 1) = (F : Int) + 1 := by simp [IntKind.wrap, IntKind.signed, IntKind.bits]; omega
  obtain ⟨A3, hA3, hs1, hs2⟩ := Pr.slice_from g xs.length c (F + 1) ((F : Int) + 1) (by omega) (by omega) hc
  obtain ⟨m3, hm3⟩ : ∃ m3, xs.length - (F + 1) = m3 := ⟨_, rfl⟩
  obtain ⟨c3, hc3⟩ : ∃ c3, c - (F + 1) = c3 := ⟨_, rfl⟩
  rw [hm3, hc3] at hs1 hs2
  have HA := Lib.hid hA3
  have HM := Lib.hid hm3
  clear hA3 hm3 hc3 h
  have hmF : F + 1 + m3 ≤ 1000001 := by have := HM.out; omega
  have hmE : Hid (F + 1 + m3 = (xs.take F ++ (k, v0) :: xs.drop (F + 1)).length) := by
    show _ = _
    rw [List.length_append, List.length_cons, List.length_take, List.length_drop, HM.out, Nat.min_eq_left (by omega)]
    omega
  have hap : Hid (Pr.pv (xs.take F ++ (k, v0) :: xs.drop (F + 1)) = Pr.pv (xs.take F) ++ [.int .u64 (k : Int), .int .u64 (v0 : Int)] ++ Pr.pv (xs.drop (F + 1))) := by
    show _ = _
    simp [Pr.pv]
  have o1 := Lib.hid (Pr.pv_one (xs.take F))
  have o3 := Lib.hid (Pr.pv_one (xs.drop (F + 1)))
  have hf1 := Lib.hid (fun (w2 X : World) (HD : PX w2 (.slice (some ⟨g, 0, none⟩) xs.length c) xs) (hX : Below w2.heap.size w2 X) => ((Pr.front HD (k := F) (by omega)).below hX))
  have hf3 := Lib.hid (fun (w2 X : World) (HD : PX w2 (.slice (some ⟨g, 0, none⟩) xs.length c) xs) (hX : Below w2.heap.size w2 X) => ((HM.out ▸ Pr.rest HD (k := F + 1) (by omega) A3 HA.out : Reads w2 w2.heap.size 2 A3 m3 (Pr.pv (xs.drop (F + 1)))).below hX))
  clear HA HM
  generalize Pr.pv (xs.take F) = x1 at *
  generalize Pr.pv (xs.drop (F + 1)) = x3 at *
  go_enter Try.func14, Try.ntmps14
  go_wp2_with (first
    | (go_at_call 8; (with_reducible refine hfd.out.mono ?_); rintro e w2 ⟨rfl, hD⟩; have HB := Lib.hid hD; clear hD; have HX := Lib.hid (hH.out.below HB.out); have R1 : Hid (∀ X, Below w2.heap.size w2 X → Reads X w2.heap.size 2 (some ⟨g, 0, none⟩) F x1) := (fun X hX => hf1.out w2 X HX.out hX); have R3 : Hid (∀ X, Below w2.heap.size w2 X → Reads X w2.heap.size 2 A3 m3 x3) := (fun X hX => hf3.out w2 X HX.out hX); have hb1 : Hid (Below w2.heap.size w2 (w2.alloc (.cells #[] 39))) := ((Below.refl _ _).alloc (Nat.le_refl _) _); have ho1 := Lib.hid (Pr.own_empty (w := (w2.alloc (.cells #[] 39))) (g := w2.heap.size) (K.alloc_top w2 _)))
    | (at_builtin; refine wpList_append_any _ rfl (.tmp 16) (.tmp 19) 29 rfl w2.heap.size 39 i0 _ 2 16 Try.underlying29 hi hz0 hz1 hz2 rfl (by decide) (.slice (some ⟨w2.heap.size, 0, none⟩) 0 0) 0 [] (by rfl) ho1.out w2.heap.size (some ⟨g, 0, none⟩) F c x1 (by rfl) (R1.out _ hb1.out) o1.out (by unfold maxLen; omega) (by omega) hb1.out.size ?_; intro v1 w3 hv1 hg1 _; rw [Nat.zero_add, List.nil_append] at hv1; obtain ⟨A1, cc1, rfl⟩ := K.own_form hv1; have hb3 : Hid (Below w2.heap.size w2 w3) := (K.grown_next hb1.out hg1 (fun g e => (by simp [Value.ownBlock] at e; omega))); have HV1 := Lib.hid hv1; clear hv1 hg1; have hsz3 := hb3.out.size; have hrn : Hid (Reads (w3.alloc (.cells #[.int .u64 (k : Int), .int .u64 (v0 : Int)] 39)) (w3.heap.size + 1) 2 (some ⟨w3.heap.size, 0, none⟩) 1 [.int .u64 (k : Int), .int .u64 (v0 : Int)]) := ⟨rfl, fun _ => ⟨_, rfl, Nat.lt_succ_self _, Pr.two_cell w3 _ _ _⟩⟩)
    | (at_builtin; refine wpList_append_any _ rfl (.tmp 21) (.tmp 25) 29 rfl w2.heap.size 39 i0 _ 2 16 Try.underlying29 hi hz0 hz1 hz2 rfl (by decide) (.slice A1 F cc1) F x1 (by rfl) (HV1.out.alloc _) (w3.heap.size + 1) (some ⟨w3.heap.size, 0, none⟩) 1 1 [.int .u64 (k : Int), .int .u64 (v0 : Int)] (by rfl) hrn.out (by intro u hu; simp at hu; rcases hu with rfl | rfl <;> rfl) (by unfold maxLen; omega) (by omega) (Nat.le_trans hsz3 (by simp)) ?_; intro v2 w4 hv2 hg2 _; obtain ⟨A2, cc2, rfl⟩ := K.own_form hv2; have hb4 : Hid (Below w2.heap.size w2 w4) := (K.grown_next (hb3.out.alloc hsz3 _) hg2 (fun g e => (K.own_lt HV1.out e).2)); have HV2 := Lib.hid hv2; have hsz4 := hb4.out.size; clear hv2 hg2)
    | (at_builtin; refine wpList_append_any _ rfl (.tmp 30) (.tmp 33) 29 rfl w2.heap.size 39 i0 _ 2 16 Try.underlying29 hi hz0 hz1 hz2 rfl (by decide) (.slice A2 (F + 1) cc2) (F + 1) (x1 ++ [.int .u64 (k : Int), .int .u64 (v0 : Int)]) (by rfl) HV2.out w2.heap.size A3 m3 c3 x3 (by rfl) (R3.out _ hb4.out) (o3.out) (by unfold maxLen; omega) (by omega) hsz4 ?_; intro v3 w5 hv3 hg3 _; have hb5 : Hid (Below w2.heap.size w2 w5) := (K.grown_next hb4.out hg3 (fun g e => (K.own_lt HV2.out e).2)); have HV3 := Lib.hid hv3; clear hv3 hg3))
  go_ret
  exact ⟨v3, rfl, Pr.px_of (by rw [hap.out]; exact HV3.out) hmE.out, HB.out.trans (hb5.out.mono HB.out.size), .inr fun g e => Nat.le_trans HB.out.size (K.own_lt HV3.out e).2⟩
theorem pr_put (w : World) (v : Value) (xs : Pr.L) (h : PX w v xs) (hl : xs.length ≤ 1000000) (k v0 : Nat) :
    Calls Try.prog 14 #[v, .int .u64 (k : Int), .int .u64 (v0 : Int)] w (PLP w v (Pr.put xs k v0)) := by
  unfold Pr.put
  rcases h.form with ⟨rfl, rfl⟩ | ⟨g, c, rfl, _⟩
  · have e : Pr.fo [] k = false := rfl
    rw [e]
    exact pr_put_nil w [] h rfl k v0
  · by_cases hG : Pr.fo xs k = true
    · rw [if_pos hG]
      exact pr_put_old w g c xs h hl k v0 hG
    · rw [if_neg hG]
      exact pr_put_new w g c xs h hl k v0 (by simpa using hG)
end Go.Proofs.Ytihhkdcgnnfkkaa
