
/- The document's lists of keys (stepstoneref11): a list with a key, apart; the text walked. -/
import Derived.Test.YtclaejaicjmohaaK3
namespace Go.Proofs.Ytclaejaicjmohaa
set_option maxRecDepth 4000
open Go.RowKit
theorem k_add_no (w : World) (v : Value) (xs : List Nat) (h : KX w v xs) (hl : xs.length ≤ 4611686018427387904) (k : Nat) (hG : K.fo xs k = true) :
    Calls Try.prog 17 #[v, .int .u64 (k : Int)] w (KLP w v xs) := by
  have hfd := Lib.hid (k_find w v xs h hl k)
  rw [hG] at hfd
  have hH := Lib.hid h
  clear h hG
  generalize K.fi xs k = F at *
  go_enter Try.func17, Try.ntmps17
  go_wp2_with (go_at_call 28; (with_reducible refine hfd.out.mono ?_); rintro e w2 ⟨rfl, hD⟩; have HB := Lib.hid hD; clear hD)
  go_ret
  exact ⟨v, rfl, hH.out.below HB.out, HB.out, .inl rfl⟩
set_option maxRecDepth 100000 in
set_option maxHeartbeats 2000000 in
theorem k_add_nil (w : World) (xs : List Nat) (h : KX w (.slice none 0 0) xs) (hes : xs = []) (k : Nat) :
    Calls Try.prog 17 #[.slice none 0 0, .int .u64 (k : Int)] w (KLP w (.slice none 0 0) [k]) := by
  subst hes
  have hfd := Lib.hid (k_find w _ [] h (by simp) k)
  obtain ⟨i0, hi, hz0, hz1, hz2⟩ := info_parts u64_info
  clear h
  go_enter Try.func17, Try.ntmps17
  go_wp2_with (first
    | (go_at_call 28; (with_reducible refine hfd.out.mono ?_); rintro e w2 ⟨rfl, hD⟩; have HB := Lib.hid hD; clear hD; have R1 : Hid (∀ X : World, Reads X w2.heap.size 1 none 0 []) := (fun X => Reads.none_); have hb1 : Hid (Below w2.heap.size w2 (w2.alloc (.cells #[] 22))) := ((Below.refl _ _).alloc (Nat.le_refl _) _); have ho1 := Lib.hid (K.own_empty (w := (w2.alloc (.cells #[] 22))) (g := w2.heap.size) (K.alloc_top w2 _)))
    | (at_builtin; refine wpList_append_any _ rfl (.tmp 16) (.tmp 19) 24 rfl w2.heap.size 22 i0 _ 1 8 Try.underlying24 hi hz0 hz1 hz2 rfl (by decide) (.slice (some ⟨w2.heap.size, 0, none⟩) 0 0) 0 [] (by rfl) ho1.out w2.heap.size none 0 0 [] (by rfl) (R1.out _) (by simp) (by unfold maxLen; omega) (by omega) hb1.out.size ?_; intro v1 w3 hv1 hg1 _; rw [Nat.zero_add, List.nil_append] at hv1; obtain ⟨A1, cc1, rfl⟩ := K.own_form hv1; have hb3 : Hid (Below w2.heap.size w2 w3) := (K.grown_next hb1.out hg1 (fun g e => (by simp [Value.ownBlock] at e; omega))); have HV1 := Lib.hid hv1; clear hv1 hg1; have hsz3 := hb3.out.size; have hrn : Hid (Reads (w3.alloc (.cells #[.int .u64 (k : Int)] 22)) (w3.heap.size + 1) 1 (some ⟨w3.heap.size, 0, none⟩) 1 [.int .u64 (k : Int)]) := ⟨rfl, fun _ => ⟨_, rfl, Nat.lt_succ_self _, K.one_cell w3 _ _⟩⟩)
    | (at_builtin; refine wpList_append_any _ rfl (.tmp 21) (.tmp 23) 24 rfl w2.heap.size 22 i0 _ 1 8 Try.underlying24 hi hz0 hz1 hz2 rfl (by decide) (.slice A1 0 cc1) 0 [] (by rfl) (HV1.out.alloc _) (w3.heap.size + 1) (some ⟨w3.heap.size, 0, none⟩) 1 1 [.int .u64 (k : Int)] (by rfl) hrn.out (by intro u hu; simp at hu; rcases hu with rfl; rfl) (by unfold maxLen; omega) (by omega) (Nat.le_trans hsz3 (by simp)) ?_; intro v2 w4 hv2 hg2 _; rw [Nat.zero_add, List.nil_append] at hv2; obtain ⟨A2, cc2, rfl⟩ := K.own_form hv2; have hb4 : Hid (Below w2.heap.size w2 w4) := (K.grown_next (hb3.out.alloc hsz3 _) hg2 (fun g e => (K.own_lt HV1.out e).2)); have HV2 := Lib.hid hv2; have hsz4 := hb4.out.size; clear hv2 hg2)
    | (at_builtin; refine wpList_append_any _ rfl (.tmp 25) (.tmp 28) 24 rfl w2.heap.size 22 i0 _ 1 8 Try.underlying24 hi hz0 hz1 hz2 rfl (by decide) (.slice A2 1 cc2) 1 [.int .u64 (k : Int)] (by rfl) HV2.out w2.heap.size none 0 0 [] (by rfl) (R1.out _) (by simp) (by unfold maxLen; omega) (by omega) hsz4 ?_; intro v3 w5 hv3 hg3 _; have hb5 : Hid (Below w2.heap.size w2 w5) := (K.grown_next hb4.out hg3 (fun g e => (K.own_lt HV2.out e).2)); have HV3 := Lib.hid hv3; clear hv3 hg3))
  go_ret
  exact ⟨v3, rfl, K.kx_of (n := 1) HV3.out rfl, HB.out.trans (hb5.out.mono HB.out.size), .inr fun g e => Nat.le_trans HB.out.size (K.own_lt HV3.out e).2⟩
set_option maxRecDepth 100000 in
set_option maxHeartbeats 2000000 in
theorem k_add_some (w : World) (g c : Nat) (xs : List Nat) (h : KX w (.slice (some ⟨g, 0, none⟩) xs.length c) xs) (hl : xs.length ≤ 1000000) (k : Nat) (hG : K.fo xs k = false) :
    Calls Try.prog 17 #[.slice (some ⟨g, 0, none⟩) xs.length c, .int .u64 (k : Int)] w (KLP w (.slice (some ⟨g, 0, none⟩) xs.length c) (xs.take (K.fi xs k) ++ k :: xs.drop (K.fi xs k))) := by
  have hfd := Lib.hid (k_find w _ xs h (by omega) k)
  have hF := K.fi_le xs k
  rw [hG] at hfd
  obtain ⟨i0, hi, hz0, hz1, hz2⟩ := info_parts u64_info
  have hH := Lib.hid h
  clear hG
  generalize K.fi xs k = F at *
  have hc : xs.length ≤ c := by
    rcases h.form with ⟨e, _⟩ | ⟨g', c', e, hc, _⟩
    · simp at e
    · injection e with _ _ e; omega
  have hFc : (F : Int) ≤ (c : Int) := by omega
  have hFc2 : F ≤ c := by omega
  obtain ⟨A3, hA3, hs1, hs2⟩ := K.slice_from g xs.length c F (F : Int) (by omega) (by omega) hc
  obtain ⟨m3, hm3⟩ : ∃ m3, xs.length - F = m3 := ⟨_, rfl⟩
  obtain ⟨c3, hc3⟩ : ∃ c3, c - F = c3 := ⟨_, rfl⟩
  rw [hm3, hc3] at hs1 hs2
  have HA := Lib.hid hA3
  have HM := Lib.hid hm3
  clear hA3 hm3 hc3 h
  have hmF : F + 1 + m3 ≤ 1000001 := by have := HM.out; omega
  have hmE : Hid (F + 1 + m3 = (xs.take F ++ k :: xs.drop F).length) := by
    show _ = _
    rw [List.length_append, List.length_cons, List.length_take, List.length_drop, HM.out, Nat.min_eq_left (by omega)]
    omega
  have hap : Hid (wv (xs.take F ++ k :: xs.drop F) = wv (xs.take F) ++ [.int .u64 (k : Int)] ++ wv (xs.drop F)) := by
    show _ = _
    simp [wv]
  have o1 := Lib.hid (K.wv_one (xs.take F))
  have o3 := Lib.hid (K.wv_one (xs.drop F))
  have hf1 := Lib.hid (fun (w2 X : World) (HD : KX w2 (.slice (some ⟨g, 0, none⟩) xs.length c) xs) (hX : Below w2.heap.size w2 X) => ((K.front HD (k := F) (by omega)).below hX))
  have hf3 := Lib.hid (fun (w2 X : World) (HD : KX w2 (.slice (some ⟨g, 0, none⟩) xs.length c) xs) (hX : Below w2.heap.size w2 X) => ((HM.out ▸ K.rest HD (k := F) (by omega) A3 HA.out : Reads w2 w2.heap.size 1 A3 m3 (wv (xs.drop F))).below hX))
  clear HA HM
  generalize wv (xs.take F) = x1 at *
  generalize wv (xs.drop F) = x3 at *
  go_enter Try.func17, Try.ntmps17
  go_wp2_with (first
    | (go_at_call 28; (with_reducible refine hfd.out.mono ?_); rintro e w2 ⟨rfl, hD⟩; have HB := Lib.hid hD; clear hD; have HX := Lib.hid (hH.out.below HB.out); have R1 : Hid (∀ X, Below w2.heap.size w2 X → Reads X w2.heap.size 1 (some ⟨g, 0, none⟩) F x1) := (fun X hX => hf1.out w2 X HX.out hX); have R3 : Hid (∀ X, Below w2.heap.size w2 X → Reads X w2.heap.size 1 A3 m3 x3) := (fun X hX => hf3.out w2 X HX.out hX); have hb1 : Hid (Below w2.heap.size w2 (w2.alloc (.cells #[] 22))) := ((Below.refl _ _).alloc (Nat.le_refl _) _); have ho1 := Lib.hid (K.own_empty (w := (w2.alloc (.cells #[] 22))) (g := w2.heap.size) (K.alloc_top w2 _)))
    | (at_builtin; refine wpList_append_any _ rfl (.tmp 16) (.tmp 19) 24 rfl w2.heap.size 22 i0 _ 1 8 Try.underlying24 hi hz0 hz1 hz2 rfl (by decide) (.slice (some ⟨w2.heap.size, 0, none⟩) 0 0) 0 [] (by rfl) ho1.out w2.heap.size (some ⟨g, 0, none⟩) F c x1 (by rfl) (R1.out _ hb1.out) o1.out (by unfold maxLen; omega) (by omega) hb1.out.size ?_; intro v1 w3 hv1 hg1 _; rw [Nat.zero_add, List.nil_append] at hv1; obtain ⟨A1, cc1, rfl⟩ := K.own_form hv1; have hb3 : Hid (Below w2.heap.size w2 w3) := (K.grown_next hb1.out hg1 (fun g e => (by simp [Value.ownBlock] at e; omega))); have HV1 := Lib.hid hv1; clear hv1 hg1; have hsz3 := hb3.out.size; have hrn : Hid (Reads (w3.alloc (.cells #[.int .u64 (k : Int)] 22)) (w3.heap.size + 1) 1 (some ⟨w3.heap.size, 0, none⟩) 1 [.int .u64 (k : Int)]) := ⟨rfl, fun _ => ⟨_, rfl, Nat.lt_succ_self _, K.one_cell w3 _ _⟩⟩)
    | (at_builtin; refine wpList_append_any _ rfl (.tmp 21) (.tmp 23) 24 rfl w2.heap.size 22 i0 _ 1 8 Try.underlying24 hi hz0 hz1 hz2 rfl (by decide) (.slice A1 F cc1) F x1 (by rfl) (HV1.out.alloc _) (w3.heap.size + 1) (some ⟨w3.heap.size, 0, none⟩) 1 1 [.int .u64 (k : Int)] (by rfl) hrn.out (by intro u hu; simp at hu; rcases hu with rfl; rfl) (by unfold maxLen; omega) (by omega) (Nat.le_trans hsz3 (by simp)) ?_; intro v2 w4 hv2 hg2 _; obtain ⟨A2, cc2, rfl⟩ := K.own_form hv2; have hb4 : Hid (Below w2.heap.size w2 w4) := (K.grown_next (hb3.out.alloc hsz3 _) hg2 (fun g e => (K.own_lt HV1.out e).2)); have HV2 := Lib.hid hv2; have hsz4 := hb4.out.size; clear hv2 hg2)
    | (at_builtin; refine wpList_append_any _ rfl (.tmp 25) (.tmp 28) 24 rfl w2.heap.size 22 i0 _ 1 8 Try.underlying24 hi hz0 hz1 hz2 rfl (by decide) (.slice A2 (F + 1) cc2) (F + 1) (x1 ++ [.int .u64 (k : Int)]) (by rfl) HV2.out w2.heap.size A3 m3 c3 x3 (by rfl) (R3.out _ hb4.out) (o3.out) (by unfold maxLen; omega) (by omega) hsz4 ?_; intro v3 w5 hv3 hg3 _; have hb5 : Hid (Below w2.heap.size w2 w5) := (K.grown_next hb4.out hg3 (fun g e => (K.own_lt HV2.out e).2)); have HV3 := Lib.hid hv3; clear hv3 hg3))
  go_ret
  exact ⟨v3, rfl, K.kx_of (by rw [hap.out]; exact HV3.out) hmE.out, HB.out.trans (hb5.out.mono HB.out.size), .inr fun g e => Nat.le_trans HB.out.size (K.own_lt HV3.out e).2⟩
theorem k_add (w : World) (v : Value) (xs : List Nat) (h : KX w v xs) (hl : xs.length ≤ 1000000) (k : Nat) :
    Calls Try.prog 17 #[v, .int .u64 (k : Int)] w (KLP w v (K.add xs k)) := by
  by_cases hG : K.fo xs k = true
  · unfold K.add
    rw [if_pos hG]
    exact k_add_no w v xs h (by omega) k hG
  · unfold K.add
    rw [if_neg hG]
    rcases h.form with ⟨rfl, rfl⟩ | ⟨g, c, rfl, _⟩
    · exact k_add_nil w [] h rfl k
    · exact k_add_some w g c xs h hl k (by simpa using hG)
end Go.Proofs.Ytclaejaicjmohaa
