
/- The document's Do: what changes nothing, and what puts; the text walked. -/
import Derived.Test.YtkpfgbcjimkfeaaHDo
namespace Go.Proofs.Ytkpfgbcjimkfeaa
open Go.RowKit
theorem HD.lt {w w2 : World} {v : Value} {es : List (H.Key × Nat)} {d l p x : Nat} (h : HD w w2 v es d l p x) : w.heap.size < w2.heap.size := by
  have := h.c0
  rcases Nat.lt_or_ge w.heap.size w2.heap.size with h1 | h1
  · exact h1
  · simp [World.cell?, Array.getElem?_eq_none h1] at this
set_option maxHeartbeats 1000000 in
theorem h_drop_no (w : World) (v : Value) (es : List (H.Key × Nat)) (h : LX w v es) (hl : es.length ≤ 4611686018427387904) (d l p x : Nat) (hd : d < 256) (hk : d % 4 = 2) (hG : fo es (l, p) = false) :
    Calls Try.prog 18 #[v, hactv d l p x] w (DoP w v es 0 false) := by
  have hfd := Lib.hid (h_find w v es h hl d l p x)
  obtain ⟨e1, e2⟩ := mod4 d hd 2 hk
  rw [hG] at hfd
  clear h hk hd hG
  generalize fi es (l, p) = F at *
  go_enter Try.func18, Try.ntmps18
  go_wp2_with (go_at_call 25; (with_reducible refine hfd.out.mono ?_); rintro e w2 ⟨rfl, hD⟩; have HD2 := Lib.hid hD; have c0 := hD.c0; have c1 := hD.c1; have c2 := hD.c2; have c3 := hD.c3; clear hD)
  refine bodyPost_ret (results_tmp3 rfl _ _ _) rfl ?_
  exact ⟨v, rfl, HD2.out.lx, HD2.out.low, .inl rfl⟩
set_option maxRecDepth 100000 in
set_option maxHeartbeats 2000000 in
theorem h_put_s1_0 (w : World) (g c : Nat) (es : List (H.Key × Nat)) (h : LX w (.slice (some ⟨g, 0, none⟩) es.length c) es) (hl : es.length ≤ 1000000) (d l p x : Nat) (hd : d < 256) (hk : d % 4 = 0) (hG : fo es (l, p) = true) :
    Calls Try.prog 18 #[.slice (some ⟨g, 0, none⟩) es.length c, hactv d l p x] w (DoP w (.slice (some ⟨g, 0, none⟩) es.length c) (es.take (fi es (l, p)) ++ ((l, p), x) :: es.drop (fi es (l, p) + 1)) 0 false) := by
  have hfd := Lib.hid (h_find w _ es h (by omega) d l p x)
  obtain ⟨e1, e2⟩ := mod4 d hd 0 hk
  have hF := fo_lt hG
  rw [hG] at hfd
  obtain ⟨i0, hi, hz0, hz1, hz2⟩ := info_parts3 ref_info
  clear hk hd hG
  generalize fi es (l, p) = F at *
  have hc : es.length ≤ c := by
    rcases h.form with ⟨e, _⟩ | ⟨g', c', e, hc, _⟩
    · simp at e
    · injection e with _ _ e; omega
  have hFc : (F : Int) ≤ (c : Int) := by omega
  have hFc2 : F ≤ c := by omega
  have w1 : IntKind.i64.wrap ((F : Int) + 1) = (F : Int) + 1 := by simp [IntKind.wrap, IntKind.signed, IntKind.bits]; omega
  obtain ⟨A3, hA3, hs1, hs2⟩ := slice_from g es.length c (F + 1) ((F : Int) + 1) (by omega) (by omega) hc
  obtain ⟨m3, hm3⟩ : ∃ m3, es.length - (F + 1) = m3 := ⟨_, rfl⟩
  obtain ⟨c3, hc3⟩ : ∃ c3, c - (F + 1) = c3 := ⟨_, rfl⟩
  rw [hm3, hc3] at hs1 hs2
  have HA := Lib.hid hA3
  have HM := Lib.hid hm3
  clear hA3 hm3 hc3 h
  obtain ⟨x1, hx1⟩ : ∃ x1, xv (es.take F) = x1 := ⟨_, rfl⟩
  obtain ⟨x3, hx3⟩ : ∃ x3, xv (es.drop (F + 1)) = x3 := ⟨_, rfl⟩
  have hmF : F + 1 + m3 ≤ 1000001 := by have := HM.out; omega
  have hmE : Hid (F + 1 + m3 = (es.take F ++ ((l, p), x) :: es.drop (F + 1)).length) := by
    show _ = _
    rw [List.length_append, List.length_cons, List.length_take, List.length_drop, HM.out, Nat.min_eq_left (by omega)]
    omega
  have hap : Hid (xv (es.take F ++ ((l, p), x) :: es.drop (F + 1)) = x1 ++ [.int .u8 (l : Int), .int .u64 (p : Int), .int .u64 (x : Int)] ++ x3) := by
    show _ = _
    rw [xv_append, List.append_assoc, hx1]
    have e : xv (((l, p), x) :: es.drop (F + 1)) = [.int .u8 (l : Int), .int .u64 (p : Int), .int .u64 (x : Int)] ++ xv (es.drop (F + 1)) := rfl
    rw [e, hx3]
  have o1 : Hid (∀ u ∈ x1, u.oneCell' = true) := by rw [← hx1]; exact xv_one _
  have o3 : Hid (∀ u ∈ x3, u.oneCell' = true) := by rw [← hx3]; exact xv_one _
  replace hx1 := Lib.hid hx1
  replace hx3 := Lib.hid hx3
  go_enter Try.func18, Try.ntmps18
  go_wp2_with (first
    | (go_at_call 25; (with_reducible refine hfd.out.mono ?_); rintro e w2 ⟨rfl, hD⟩; have HD2 := Lib.hid hD; have c0 := hD.c0; clear hD; have R1 : Hid (∀ X, Below w2.heap.size w2 X → Reads X w2.heap.size 3 (some ⟨g, 0, none⟩) F x1) := (fun X hX => hx1.out ▸ (HD2.out.lx.front (k := F) (by omega)).below hX); have R3 : Hid (∀ X, Below w2.heap.size w2 X → Reads X w2.heap.size 3 A3 m3 x3) := (fun X hX => hx3.out ▸ HM.out ▸ (HD2.out.lx.rest (k := F + 1) (by omega) A3 HA.out).below hX); have hb1 : Hid (Below w2.heap.size w2 (w2.alloc (.cells #[] 53))) := ((Below.refl _ _).alloc (Nat.le_refl _) _); have ho1 := Lib.hid (own_empty (w := (w2.alloc (.cells #[] 53))) (g := w2.heap.size) (alloc_topI w2 _)); have hlw := HD2.out.low.size; have hlt : w.heap.size < w2.heap.size := HD2.out.lt)
    | (at_builtin; refine wpList_append_any _ rfl (.tmp 48) (.tmp 51) 29 rfl w2.heap.size 53 i0 _ 3 24 Try.underlying29 hi hz0 hz1 hz2 rfl (by decide) (.slice (some ⟨w2.heap.size, 0, none⟩) 0 0) 0 [] (by rfl) ho1.out w2.heap.size (some ⟨g, 0, none⟩) F c x1 (by rfl) (R1.out _ hb1.out) (o1.out) (by unfold maxLen; omega) (by omega) hb1.out.size ?_; intro v1 w3 hv1 hg1 _; rw [Nat.zero_add, List.nil_append] at hv1; obtain ⟨A1, cc1, rfl⟩ := own_form hv1; have hb3 : Hid (Below w2.heap.size w2 w3) := (grown_next hb1.out hg1 (fun g e => (by simp [Value.ownBlock] at e; omega))); have HV1 := Lib.hid hv1; clear hv1 hg1; have d1 : w3.cell? ⟨w.heap.size, 1, none⟩ = some (.int .u8 (l : Int)) := (hb3.out.cell (p := ⟨w.heap.size, 1, none⟩) hlt).trans HD2.out.c1; have d2 : w3.cell? ⟨w.heap.size, 2, none⟩ = some (.int .u64 (p : Int)) := (hb3.out.cell (p := ⟨w.heap.size, 2, none⟩) hlt).trans HD2.out.c2; have d3 : w3.cell? ⟨w.heap.size, 3, none⟩ = some (.int .u64 (x : Int)) := (hb3.out.cell (p := ⟨w.heap.size, 3, none⟩) hlt).trans HD2.out.c3; clear c0; have hsz3 := hb3.out.size; have hrn : Hid (Reads (w3.alloc (.cells #[.int .u8 (l : Int), .int .u64 (p : Int), .int .u64 (x : Int)] 53)) (w3.heap.size + 1) 3 (some ⟨w3.heap.size, 0, none⟩) 1 [.int .u8 (l : Int), .int .u64 (p : Int), .int .u64 (x : Int)]) := ⟨rfl, fun _ => ⟨_, rfl, Nat.lt_succ_self _, news3 w3 _ _ _ _⟩⟩)
    | (at_builtin; refine wpList_append_any _ rfl (.tmp 53) (.tmp 61) 29 rfl w2.heap.size 53 i0 _ 3 24 Try.underlying29 hi hz0 hz1 hz2 rfl (by decide) (.slice A1 F cc1) F x1 (by rfl) (HV1.out.alloc _) (w3.heap.size + 1) (some ⟨w3.heap.size, 0, none⟩) 1 1 [.int .u8 (l : Int), .int .u64 (p : Int), .int .u64 (x : Int)] (by rfl) hrn.out (by intro u hu; simp at hu; rcases hu with rfl | rfl | rfl <;> rfl) (by unfold maxLen; omega) (by omega) (Nat.le_trans hsz3 (by simp)) ?_; intro v2 w4 hv2 hg2 _; obtain ⟨A2, cc2, rfl⟩ := own_form hv2; have hb4 : Hid (Below w2.heap.size w2 w4) := (grown_next (hb3.out.alloc hsz3 _) hg2 (fun g e => (own_lt HV1.out e).2)); have HV2 := Lib.hid hv2; have hsz4 := hb4.out.size; clear hv2 hg2 d1 d2 d3)
    | (at_builtin; refine wpList_append_any _ rfl (.tmp 66) (.tmp 69) 29 rfl w2.heap.size 53 i0 _ 3 24 Try.underlying29 hi hz0 hz1 hz2 rfl (by decide) (.slice A2 (F + 1) cc2) (F + 1) (x1 ++ [.int .u8 (l : Int), .int .u64 (p : Int), .int .u64 (x : Int)]) (by rfl) HV2.out w2.heap.size A3 m3 c3 x3 (by rfl) (R3.out _ hb4.out) (o3.out) (by unfold maxLen; omega) (by omega) hsz4 ?_; intro v3 w5 hv3 hg3 _; have hb5 : Hid (Below w2.heap.size w2 w5) := (grown_next hb4.out hg3 (fun g e => (own_lt HV2.out e).2)); have HV3 := Lib.hid hv3; clear hv3 hg3))
  refine bodyPost_ret (results_tmp3 rfl _ _ _) rfl ?_
  exact ⟨v3, rfl, lx_of (by rw [hap.out]; exact HV3.out) hmE.out, HD2.out.low.trans (hb5.out.mono hlw), .inr fun g e => Nat.le_trans hlw (own_lt HV3.out e).2⟩
set_option maxRecDepth 100000 in
set_option maxHeartbeats 2000000 in
theorem h_put_s0_0 (w : World) (g c : Nat) (es : List (H.Key × Nat)) (h : LX w (.slice (some ⟨g, 0, none⟩) es.length c) es) (hl : es.length ≤ 1000000) (d l p x : Nat) (hd : d < 256) (hk : d % 4 = 0) (hG : fo es (l, p) = false) :
    Calls Try.prog 18 #[.slice (some ⟨g, 0, none⟩) es.length c, hactv d l p x] w (DoP w (.slice (some ⟨g, 0, none⟩) es.length c) (es.take (fi es (l, p)) ++ ((l, p), x) :: es.drop (fi es (l, p))) 0 true) := by
  have hfd := Lib.hid (h_find w _ es h (by omega) d l p x)
  obtain ⟨e1, e2⟩ := mod4 d hd 0 hk
  have hF := fi_le es (l, p)
  rw [hG] at hfd
  obtain ⟨i0, hi, hz0, hz1, hz2⟩ := info_parts3 ref_info
  clear hk hd hG
  generalize fi es (l, p) = F at *
  have hc : es.length ≤ c := by
    rcases h.form with ⟨e, _⟩ | ⟨g', c', e, hc, _⟩
    · simp at e
    · injection e with _ _ e; omega
  have hFc : (F : Int) ≤ (c : Int) := by omega
  have hFc2 : F ≤ c := by omega
  have w1 : IntKind.i64.wrap ((F : Int) + 1) = (F : Int) + 1 := by simp [IntKind.wrap, IntKind.signed, IntKind.bits]; omega
  obtain ⟨A3, hA3, hs1, hs2⟩ := slice_from g es.length c (F) (F : Int) (by omega) (by omega) hc
  obtain ⟨m3, hm3⟩ : ∃ m3, es.length - (F) = m3 := ⟨_, rfl⟩
  obtain ⟨c3, hc3⟩ : ∃ c3, c - (F) = c3 := ⟨_, rfl⟩
  rw [hm3, hc3] at hs1 hs2
  have HA := Lib.hid hA3
  have HM := Lib.hid hm3
  clear hA3 hm3 hc3 h
  obtain ⟨x1, hx1⟩ : ∃ x1, xv (es.take F) = x1 := ⟨_, rfl⟩
  obtain ⟨x3, hx3⟩ : ∃ x3, xv (es.drop (F)) = x3 := ⟨_, rfl⟩
  have hmF : F + 1 + m3 ≤ 1000001 := by have := HM.out; omega
  have hmE : Hid (F + 1 + m3 = (es.take F ++ ((l, p), x) :: es.drop (F)).length) := by
    show _ = _
    rw [List.length_append, List.length_cons, List.length_take, List.length_drop, HM.out, Nat.min_eq_left (by omega)]
    omega
  have hap : Hid (xv (es.take F ++ ((l, p), x) :: es.drop (F)) = x1 ++ [.int .u8 (l : Int), .int .u64 (p : Int), .int .u64 (x : Int)] ++ x3) := by
    show _ = _
    rw [xv_append, List.append_assoc, hx1]
    have e : xv (((l, p), x) :: es.drop (F)) = [.int .u8 (l : Int), .int .u64 (p : Int), .int .u64 (x : Int)] ++ xv (es.drop (F)) := rfl
    rw [e, hx3]
  have o1 : Hid (∀ u ∈ x1, u.oneCell' = true) := by rw [← hx1]; exact xv_one _
  have o3 : Hid (∀ u ∈ x3, u.oneCell' = true) := by rw [← hx3]; exact xv_one _
  replace hx1 := Lib.hid hx1
  replace hx3 := Lib.hid hx3
  go_enter Try.func18, Try.ntmps18
  go_wp2_with (first
    | (go_at_call 25; (with_reducible refine hfd.out.mono ?_); rintro e w2 ⟨rfl, hD⟩; have HD2 := Lib.hid hD; have c0 := hD.c0; clear hD; have R1 : Hid (∀ X, Below w2.heap.size w2 X → Reads X w2.heap.size 3 (some ⟨g, 0, none⟩) F x1) := (fun X hX => hx1.out ▸ (HD2.out.lx.front (k := F) (by omega)).below hX); have R3 : Hid (∀ X, Below w2.heap.size w2 X → Reads X w2.heap.size 3 A3 m3 x3) := (fun X hX => hx3.out ▸ HM.out ▸ (HD2.out.lx.rest (k := F) (by omega) A3 HA.out).below hX); have hb1 : Hid (Below w2.heap.size w2 (w2.alloc (.cells #[] 53))) := ((Below.refl _ _).alloc (Nat.le_refl _) _); have ho1 := Lib.hid (own_empty (w := (w2.alloc (.cells #[] 53))) (g := w2.heap.size) (alloc_topI w2 _)); have hlw := HD2.out.low.size; have hlt : w.heap.size < w2.heap.size := HD2.out.lt)
    | (at_builtin; refine wpList_append_any _ rfl (.tmp 48) (.tmp 51) 29 rfl w2.heap.size 53 i0 _ 3 24 Try.underlying29 hi hz0 hz1 hz2 rfl (by decide) (.slice (some ⟨w2.heap.size, 0, none⟩) 0 0) 0 [] (by rfl) ho1.out w2.heap.size (some ⟨g, 0, none⟩) F c x1 (by rfl) (R1.out _ hb1.out) (o1.out) (by unfold maxLen; omega) (by omega) hb1.out.size ?_; intro v1 w3 hv1 hg1 _; rw [Nat.zero_add, List.nil_append] at hv1; obtain ⟨A1, cc1, rfl⟩ := own_form hv1; have hb3 : Hid (Below w2.heap.size w2 w3) := (grown_next hb1.out hg1 (fun g e => (by simp [Value.ownBlock] at e; omega))); have HV1 := Lib.hid hv1; clear hv1 hg1; have d1 : w3.cell? ⟨w.heap.size, 1, none⟩ = some (.int .u8 (l : Int)) := (hb3.out.cell (p := ⟨w.heap.size, 1, none⟩) hlt).trans HD2.out.c1; have d2 : w3.cell? ⟨w.heap.size, 2, none⟩ = some (.int .u64 (p : Int)) := (hb3.out.cell (p := ⟨w.heap.size, 2, none⟩) hlt).trans HD2.out.c2; have d3 : w3.cell? ⟨w.heap.size, 3, none⟩ = some (.int .u64 (x : Int)) := (hb3.out.cell (p := ⟨w.heap.size, 3, none⟩) hlt).trans HD2.out.c3; clear c0; have hsz3 := hb3.out.size; have hrn : Hid (Reads (w3.alloc (.cells #[.int .u8 (l : Int), .int .u64 (p : Int), .int .u64 (x : Int)] 53)) (w3.heap.size + 1) 3 (some ⟨w3.heap.size, 0, none⟩) 1 [.int .u8 (l : Int), .int .u64 (p : Int), .int .u64 (x : Int)]) := ⟨rfl, fun _ => ⟨_, rfl, Nat.lt_succ_self _, news3 w3 _ _ _ _⟩⟩)
    | (at_builtin; refine wpList_append_any _ rfl (.tmp 53) (.tmp 61) 29 rfl w2.heap.size 53 i0 _ 3 24 Try.underlying29 hi hz0 hz1 hz2 rfl (by decide) (.slice A1 F cc1) F x1 (by rfl) (HV1.out.alloc _) (w3.heap.size + 1) (some ⟨w3.heap.size, 0, none⟩) 1 1 [.int .u8 (l : Int), .int .u64 (p : Int), .int .u64 (x : Int)] (by rfl) hrn.out (by intro u hu; simp at hu; rcases hu with rfl | rfl | rfl <;> rfl) (by unfold maxLen; omega) (by omega) (Nat.le_trans hsz3 (by simp)) ?_; intro v2 w4 hv2 hg2 _; obtain ⟨A2, cc2, rfl⟩ := own_form hv2; have hb4 : Hid (Below w2.heap.size w2 w4) := (grown_next (hb3.out.alloc hsz3 _) hg2 (fun g e => (own_lt HV1.out e).2)); have HV2 := Lib.hid hv2; have hsz4 := hb4.out.size; clear hv2 hg2 d1 d2 d3)
    | (at_builtin; refine wpList_append_any _ rfl (.tmp 66) (.tmp 69) 29 rfl w2.heap.size 53 i0 _ 3 24 Try.underlying29 hi hz0 hz1 hz2 rfl (by decide) (.slice A2 (F + 1) cc2) (F + 1) (x1 ++ [.int .u8 (l : Int), .int .u64 (p : Int), .int .u64 (x : Int)]) (by rfl) HV2.out w2.heap.size A3 m3 c3 x3 (by rfl) (R3.out _ hb4.out) (o3.out) (by unfold maxLen; omega) (by omega) hsz4 ?_; intro v3 w5 hv3 hg3 _; have hb5 : Hid (Below w2.heap.size w2 w5) := (grown_next hb4.out hg3 (fun g e => (own_lt HV2.out e).2)); have HV3 := Lib.hid hv3; clear hv3 hg3))
  refine bodyPost_ret (results_tmp3 rfl _ _ _) rfl ?_
  exact ⟨v3, rfl, lx_of (by rw [hap.out]; exact HV3.out) hmE.out, HD2.out.low.trans (hb5.out.mono hlw), .inr fun g e => Nat.le_trans hlw (own_lt HV3.out e).2⟩
set_option maxRecDepth 100000 in
set_option maxHeartbeats 2000000 in
theorem h_put_n0_0 (w : World)  (es : List (H.Key × Nat)) (h : LX w (.slice none 0 0) es) (hl : es.length ≤ 1000000) (d l p x : Nat) (hd : d < 256) (hk : d % 4 = 0) (hG : fo es (l, p) = false) (hes : es = []) :
    Calls Try.prog 18 #[.slice none 0 0, hactv d l p x] w (DoP w (.slice none 0 0) (es.take (fi es (l, p)) ++ ((l, p), x) :: es.drop (fi es (l, p))) 0 true) := by
  have hfd := Lib.hid (h_find w _ es h (by omega) d l p x)
  obtain ⟨e1, e2⟩ := mod4 d hd 0 hk
  have hF := fi_le es (l, p)
  rw [hG] at hfd
  obtain ⟨i0, hi, hz0, hz1, hz2⟩ := info_parts3 ref_info
  clear hk hd hG
  generalize fi es (l, p) = F at *
  obtain rfl : F = 0 := by rw [hes] at hF; simpa using hF
  have HE := Lib.hid hes
  clear hes h
  have hmE : Hid (1 + 0 = (es.take 0 ++ ((l, p), x) :: es.drop 0).length) := by
    show _ = _
    rw [HE.out]; rfl
  have hap : Hid (xv (es.take 0 ++ ((l, p), x) :: es.drop 0) = [.int .u8 (l : Int), .int .u64 (p : Int), .int .u64 (x : Int)] ++ []) := by
    show _ = _
    rw [HE.out]; rfl
  go_enter Try.func18, Try.ntmps18
  go_wp2_with (first
    | (go_at_call 25; (with_reducible refine hfd.out.mono ?_); rintro e w2 ⟨rfl, hD⟩; have HD2 := Lib.hid hD; have c0 := hD.c0; clear hD; have R1 : Hid (∀ X : World, Reads X w2.heap.size 3 none 0 []) := (fun X => Reads.none_); have hb1 : Hid (Below w2.heap.size w2 (w2.alloc (.cells #[] 53))) := ((Below.refl _ _).alloc (Nat.le_refl _) _); have ho1 := Lib.hid (own_empty (w := (w2.alloc (.cells #[] 53))) (g := w2.heap.size) (alloc_topI w2 _)); have hlw := HD2.out.low.size; have hlt : w.heap.size < w2.heap.size := HD2.out.lt)
    | (at_builtin; refine wpList_append_any _ rfl (.tmp 48) (.tmp 51) 29 rfl w2.heap.size 53 i0 _ 3 24 Try.underlying29 hi hz0 hz1 hz2 rfl (by decide) (.slice (some ⟨w2.heap.size, 0, none⟩) 0 0) 0 [] (by rfl) ho1.out w2.heap.size none 0 0 [] (by rfl) (R1.out _) (by simp) (by unfold maxLen; omega) (by omega) hb1.out.size ?_; intro v1 w3 hv1 hg1 _; rw [Nat.zero_add, List.nil_append] at hv1; obtain ⟨A1, cc1, rfl⟩ := own_form hv1; have hb3 : Hid (Below w2.heap.size w2 w3) := (grown_next hb1.out hg1 (fun g e => (by simp [Value.ownBlock] at e; omega))); have HV1 := Lib.hid hv1; clear hv1 hg1; have d1 : w3.cell? ⟨w.heap.size, 1, none⟩ = some (.int .u8 (l : Int)) := (hb3.out.cell (p := ⟨w.heap.size, 1, none⟩) hlt).trans HD2.out.c1; have d2 : w3.cell? ⟨w.heap.size, 2, none⟩ = some (.int .u64 (p : Int)) := (hb3.out.cell (p := ⟨w.heap.size, 2, none⟩) hlt).trans HD2.out.c2; have d3 : w3.cell? ⟨w.heap.size, 3, none⟩ = some (.int .u64 (x : Int)) := (hb3.out.cell (p := ⟨w.heap.size, 3, none⟩) hlt).trans HD2.out.c3; clear c0; have hsz3 := hb3.out.size; have hrn : Hid (Reads (w3.alloc (.cells #[.int .u8 (l : Int), .int .u64 (p : Int), .int .u64 (x : Int)] 53)) (w3.heap.size + 1) 3 (some ⟨w3.heap.size, 0, none⟩) 1 [.int .u8 (l : Int), .int .u64 (p : Int), .int .u64 (x : Int)]) := ⟨rfl, fun _ => ⟨_, rfl, Nat.lt_succ_self _, news3 w3 _ _ _ _⟩⟩)
    | (at_builtin; refine wpList_append_any _ rfl (.tmp 53) (.tmp 61) 29 rfl w2.heap.size 53 i0 _ 3 24 Try.underlying29 hi hz0 hz1 hz2 rfl (by decide) (.slice A1 0 cc1) 0 [] (by rfl) (HV1.out.alloc _) (w3.heap.size + 1) (some ⟨w3.heap.size, 0, none⟩) 1 1 [.int .u8 (l : Int), .int .u64 (p : Int), .int .u64 (x : Int)] (by rfl) hrn.out (by intro u hu; simp at hu; rcases hu with rfl | rfl | rfl <;> rfl) (by unfold maxLen; omega) (by omega) (Nat.le_trans hsz3 (by simp)) ?_; intro v2 w4 hv2 hg2 _; rw [Nat.zero_add, List.nil_append] at hv2; obtain ⟨A2, cc2, rfl⟩ := own_form hv2; have hb4 : Hid (Below w2.heap.size w2 w4) := (grown_next (hb3.out.alloc hsz3 _) hg2 (fun g e => (own_lt HV1.out e).2)); have HV2 := Lib.hid hv2; have hsz4 := hb4.out.size; clear hv2 hg2 d1 d2 d3)
    | (at_builtin; refine wpList_append_any _ rfl (.tmp 66) (.tmp 69) 29 rfl w2.heap.size 53 i0 _ 3 24 Try.underlying29 hi hz0 hz1 hz2 rfl (by decide) (.slice A2 (1) cc2) (1) ([.int .u8 (l : Int), .int .u64 (p : Int), .int .u64 (x : Int)]) (by rfl) HV2.out w2.heap.size none 0 0 [] (by rfl) (R1.out _) (by simp) (by unfold maxLen; omega) (by omega) hsz4 ?_; intro v3 w5 hv3 hg3 _; have hb5 : Hid (Below w2.heap.size w2 w5) := (grown_next hb4.out hg3 (fun g e => (own_lt HV2.out e).2)); have HV3 := Lib.hid hv3; clear hv3 hg3))
  refine bodyPost_ret (results_tmp3 rfl _ _ _) rfl ?_
  exact ⟨v3, rfl, lx_of (by rw [hap.out]; exact HV3.out) hmE.out, HD2.out.low.trans (hb5.out.mono hlw), .inr fun g e => Nat.le_trans hlw (own_lt HV3.out e).2⟩
set_option maxRecDepth 100000 in
set_option maxHeartbeats 2000000 in
theorem h_put_s1_1 (w : World) (g c : Nat) (es : List (H.Key × Nat)) (h : LX w (.slice (some ⟨g, 0, none⟩) es.length c) es) (hl : es.length ≤ 1000000) (d l p x : Nat) (hd : d < 256) (hk : d % 4 = 1) (hG : fo es (l, p) = true) :
    Calls Try.prog 18 #[.slice (some ⟨g, 0, none⟩) es.length c, hactv d l p x] w (DoP w (.slice (some ⟨g, 0, none⟩) es.length c) (es.take (fi es (l, p)) ++ ((l, p), x) :: es.drop (fi es (l, p) + 1)) 0 false) := by
  have hfd := Lib.hid (h_find w _ es h (by omega) d l p x)
  obtain ⟨e1, e2⟩ := mod4 d hd 1 hk
  have hF := fo_lt hG
  rw [hG] at hfd
  obtain ⟨i0, hi, hz0, hz1, hz2⟩ := info_parts3 ref_info
  clear hk hd hG
  generalize fi es (l, p) = F at *
  have hc : es.length ≤ c := by
    rcases h.form with ⟨e, _⟩ | ⟨g', c', e, hc, _⟩
    · simp at e
    · injection e with _ _ e; omega
  have hFc : (F : Int) ≤ (c : Int) := by omega
  have hFc2 : F ≤ c := by omega
  have w1 : IntKind.i64.wrap ((F : Int) + 1) = (F : Int) + 1 := by simp [IntKind.wrap, IntKind.signed, IntKind.bits]; omega
  obtain ⟨A3, hA3, hs1, hs2⟩ := slice_from g es.length c (F + 1) ((F : Int) + 1) (by omega) (by omega) hc
  obtain ⟨m3, hm3⟩ : ∃ m3, es.length - (F + 1) = m3 := ⟨_, rfl⟩
  obtain ⟨c3, hc3⟩ : ∃ c3, c - (F + 1) = c3 := ⟨_, rfl⟩
  rw [hm3, hc3] at hs1 hs2
  have HA := Lib.hid hA3
  have HM := Lib.hid hm3
  clear hA3 hm3 hc3 h
  obtain ⟨x1, hx1⟩ : ∃ x1, xv (es.take F) = x1 := ⟨_, rfl⟩
  obtain ⟨x3, hx3⟩ : ∃ x3, xv (es.drop (F + 1)) = x3 := ⟨_, rfl⟩
  have hmF : F + 1 + m3 ≤ 1000001 := by have := HM.out; omega
  have hmE : Hid (F + 1 + m3 = (es.take F ++ ((l, p), x) :: es.drop (F + 1)).length) := by
    show _ = _
    rw [List.length_append, List.length_cons, List.length_take, List.length_drop, HM.out, Nat.min_eq_left (by omega)]
    omega
  have hap : Hid (xv (es.take F ++ ((l, p), x) :: es.drop (F + 1)) = x1 ++ [.int .u8 (l : Int), .int .u64 (p : Int), .int .u64 (x : Int)] ++ x3) := by
    show _ = _
    rw [xv_append, List.append_assoc, hx1]
    have e : xv (((l, p), x) :: es.drop (F + 1)) = [.int .u8 (l : Int), .int .u64 (p : Int), .int .u64 (x : Int)] ++ xv (es.drop (F + 1)) := rfl
    rw [e, hx3]
  have o1 : Hid (∀ u ∈ x1, u.oneCell' = true) := by rw [← hx1]; exact xv_one _
  have o3 : Hid (∀ u ∈ x3, u.oneCell' = true) := by rw [← hx3]; exact xv_one _
  replace hx1 := Lib.hid hx1
  replace hx3 := Lib.hid hx3
  go_enter Try.func18, Try.ntmps18
  go_wp2_with (first
    | (go_at_call 25; (with_reducible refine hfd.out.mono ?_); rintro e w2 ⟨rfl, hD⟩; have HD2 := Lib.hid hD; have c0 := hD.c0; clear hD; have R1 : Hid (∀ X, Below w2.heap.size w2 X → Reads X w2.heap.size 3 (some ⟨g, 0, none⟩) F x1) := (fun X hX => hx1.out ▸ (HD2.out.lx.front (k := F) (by omega)).below hX); have R3 : Hid (∀ X, Below w2.heap.size w2 X → Reads X w2.heap.size 3 A3 m3 x3) := (fun X hX => hx3.out ▸ HM.out ▸ (HD2.out.lx.rest (k := F + 1) (by omega) A3 HA.out).below hX); have hb1 : Hid (Below w2.heap.size w2 (w2.alloc (.cells #[] 53))) := ((Below.refl _ _).alloc (Nat.le_refl _) _); have ho1 := Lib.hid (own_empty (w := (w2.alloc (.cells #[] 53))) (g := w2.heap.size) (alloc_topI w2 _)); have hlw := HD2.out.low.size; have hlt : w.heap.size < w2.heap.size := HD2.out.lt)
    | (at_builtin; refine wpList_append_any _ rfl (.tmp 48) (.tmp 51) 29 rfl w2.heap.size 53 i0 _ 3 24 Try.underlying29 hi hz0 hz1 hz2 rfl (by decide) (.slice (some ⟨w2.heap.size, 0, none⟩) 0 0) 0 [] (by rfl) ho1.out w2.heap.size (some ⟨g, 0, none⟩) F c x1 (by rfl) (R1.out _ hb1.out) (o1.out) (by unfold maxLen; omega) (by omega) hb1.out.size ?_; intro v1 w3 hv1 hg1 _; rw [Nat.zero_add, List.nil_append] at hv1; obtain ⟨A1, cc1, rfl⟩ := own_form hv1; have hb3 : Hid (Below w2.heap.size w2 w3) := (grown_next hb1.out hg1 (fun g e => (by simp [Value.ownBlock] at e; omega))); have HV1 := Lib.hid hv1; clear hv1 hg1; have d1 : w3.cell? ⟨w.heap.size, 1, none⟩ = some (.int .u8 (l : Int)) := (hb3.out.cell (p := ⟨w.heap.size, 1, none⟩) hlt).trans HD2.out.c1; have d2 : w3.cell? ⟨w.heap.size, 2, none⟩ = some (.int .u64 (p : Int)) := (hb3.out.cell (p := ⟨w.heap.size, 2, none⟩) hlt).trans HD2.out.c2; have d3 : w3.cell? ⟨w.heap.size, 3, none⟩ = some (.int .u64 (x : Int)) := (hb3.out.cell (p := ⟨w.heap.size, 3, none⟩) hlt).trans HD2.out.c3; clear c0; have hsz3 := hb3.out.size; have hrn : Hid (Reads (w3.alloc (.cells #[.int .u8 (l : Int), .int .u64 (p : Int), .int .u64 (x : Int)] 53)) (w3.heap.size + 1) 3 (some ⟨w3.heap.size, 0, none⟩) 1 [.int .u8 (l : Int), .int .u64 (p : Int), .int .u64 (x : Int)]) := ⟨rfl, fun _ => ⟨_, rfl, Nat.lt_succ_self _, news3 w3 _ _ _ _⟩⟩)
    | (at_builtin; refine wpList_append_any _ rfl (.tmp 53) (.tmp 61) 29 rfl w2.heap.size 53 i0 _ 3 24 Try.underlying29 hi hz0 hz1 hz2 rfl (by decide) (.slice A1 F cc1) F x1 (by rfl) (HV1.out.alloc _) (w3.heap.size + 1) (some ⟨w3.heap.size, 0, none⟩) 1 1 [.int .u8 (l : Int), .int .u64 (p : Int), .int .u64 (x : Int)] (by rfl) hrn.out (by intro u hu; simp at hu; rcases hu with rfl | rfl | rfl <;> rfl) (by unfold maxLen; omega) (by omega) (Nat.le_trans hsz3 (by simp)) ?_; intro v2 w4 hv2 hg2 _; obtain ⟨A2, cc2, rfl⟩ := own_form hv2; have hb4 : Hid (Below w2.heap.size w2 w4) := (grown_next (hb3.out.alloc hsz3 _) hg2 (fun g e => (own_lt HV1.out e).2)); have HV2 := Lib.hid hv2; have hsz4 := hb4.out.size; clear hv2 hg2 d1 d2 d3)
    | (at_builtin; refine wpList_append_any _ rfl (.tmp 66) (.tmp 69) 29 rfl w2.heap.size 53 i0 _ 3 24 Try.underlying29 hi hz0 hz1 hz2 rfl (by decide) (.slice A2 (F + 1) cc2) (F + 1) (x1 ++ [.int .u8 (l : Int), .int .u64 (p : Int), .int .u64 (x : Int)]) (by rfl) HV2.out w2.heap.size A3 m3 c3 x3 (by rfl) (R3.out _ hb4.out) (o3.out) (by unfold maxLen; omega) (by omega) hsz4 ?_; intro v3 w5 hv3 hg3 _; have hb5 : Hid (Below w2.heap.size w2 w5) := (grown_next hb4.out hg3 (fun g e => (own_lt HV2.out e).2)); have HV3 := Lib.hid hv3; clear hv3 hg3))
  refine bodyPost_ret (results_tmp3 rfl _ _ _) rfl ?_
  exact ⟨v3, rfl, lx_of (by rw [hap.out]; exact HV3.out) hmE.out, HD2.out.low.trans (hb5.out.mono hlw), .inr fun g e => Nat.le_trans hlw (own_lt HV3.out e).2⟩
set_option maxRecDepth 100000 in
set_option maxHeartbeats 2000000 in
theorem h_put_s0_1 (w : World) (g c : Nat) (es : List (H.Key × Nat)) (h : LX w (.slice (some ⟨g, 0, none⟩) es.length c) es) (hl : es.length ≤ 1000000) (d l p x : Nat) (hd : d < 256) (hk : d % 4 = 1) (hG : fo es (l, p) = false) :
    Calls Try.prog 18 #[.slice (some ⟨g, 0, none⟩) es.length c, hactv d l p x] w (DoP w (.slice (some ⟨g, 0, none⟩) es.length c) (es.take (fi es (l, p)) ++ ((l, p), x) :: es.drop (fi es (l, p))) 0 true) := by
  have hfd := Lib.hid (h_find w _ es h (by omega) d l p x)
  obtain ⟨e1, e2⟩ := mod4 d hd 1 hk
  have hF := fi_le es (l, p)
  rw [hG] at hfd
  obtain ⟨i0, hi, hz0, hz1, hz2⟩ := info_parts3 ref_info
  clear hk hd hG
  generalize fi es (l, p) = F at *
  have hc : es.length ≤ c := by
    rcases h.form with ⟨e, _⟩ | ⟨g', c', e, hc, _⟩
    · simp at e
    · injection e with _ _ e; omega
  have hFc : (F : Int) ≤ (c : Int) := by omega
  have hFc2 : F ≤ c := by omega
  have w1 : IntKind.i64.wrap ((F : Int) + 1) = (F : Int) + 1 := by simp [IntKind.wrap, IntKind.signed, IntKind.bits]; omega
  obtain ⟨A3, hA3, hs1, hs2⟩ := slice_from g es.length c (F) (F : Int) (by omega) (by omega) hc
  obtain ⟨m3, hm3⟩ : ∃ m3, es.length - (F) = m3 := ⟨_, rfl⟩
  obtain ⟨c3, hc3⟩ : ∃ c3, c - (F) = c3 := ⟨_, rfl⟩
  rw [hm3, hc3] at hs1 hs2
  have HA := Lib.hid hA3
  have HM := Lib.hid hm3
  clear hA3 hm3 hc3 h
  obtain ⟨x1, hx1⟩ : ∃ x1, xv (es.take F) = x1 := ⟨_, rfl⟩
  obtain ⟨x3, hx3⟩ : ∃ x3, xv (es.drop (F)) = x3 := ⟨_, rfl⟩
  have hmF : F + 1 + m3 ≤ 1000001 := by have := HM.out; omega
  have hmE : Hid (F + 1 + m3 = (es.take F ++ ((l, p), x) :: es.drop (F)).length) := by
    show _ = _
    rw [List.length_append, List.length_cons, List.length_take, List.length_drop, HM.out, Nat.min_eq_left (by omega)]
    omega
  have hap : Hid (xv (es.take F ++ ((l, p), x) :: es.drop (F)) = x1 ++ [.int .u8 (l : Int), .int .u64 (p : Int), .int .u64 (x : Int)] ++ x3) := by
    show _ = _
    rw [xv_append, List.append_assoc, hx1]
    have e : xv (((l, p), x) :: es.drop (F)) = [.int .u8 (l : Int), .int .u64 (p : Int), .int .u64 (x : Int)] ++ xv (es.drop (F)) := rfl
    rw [e, hx3]
  have o1 : Hid (∀ u ∈ x1, u.oneCell' = true) := by rw [← hx1]; exact xv_one _
  have o3 : Hid (∀ u ∈ x3, u.oneCell' = true) := by rw [← hx3]; exact xv_one _
  replace hx1 := Lib.hid hx1
  replace hx3 := Lib.hid hx3
  go_enter Try.func18, Try.ntmps18
  go_wp2_with (first
    | (go_at_call 25; (with_reducible refine hfd.out.mono ?_); rintro e w2 ⟨rfl, hD⟩; have HD2 := Lib.hid hD; have c0 := hD.c0; clear hD; have R1 : Hid (∀ X, Below w2.heap.size w2 X → Reads X w2.heap.size 3 (some ⟨g, 0, none⟩) F x1) := (fun X hX => hx1.out ▸ (HD2.out.lx.front (k := F) (by omega)).below hX); have R3 : Hid (∀ X, Below w2.heap.size w2 X → Reads X w2.heap.size 3 A3 m3 x3) := (fun X hX => hx3.out ▸ HM.out ▸ (HD2.out.lx.rest (k := F) (by omega) A3 HA.out).below hX); have hb1 : Hid (Below w2.heap.size w2 (w2.alloc (.cells #[] 53))) := ((Below.refl _ _).alloc (Nat.le_refl _) _); have ho1 := Lib.hid (own_empty (w := (w2.alloc (.cells #[] 53))) (g := w2.heap.size) (alloc_topI w2 _)); have hlw := HD2.out.low.size; have hlt : w.heap.size < w2.heap.size := HD2.out.lt)
    | (at_builtin; refine wpList_append_any _ rfl (.tmp 48) (.tmp 51) 29 rfl w2.heap.size 53 i0 _ 3 24 Try.underlying29 hi hz0 hz1 hz2 rfl (by decide) (.slice (some ⟨w2.heap.size, 0, none⟩) 0 0) 0 [] (by rfl) ho1.out w2.heap.size (some ⟨g, 0, none⟩) F c x1 (by rfl) (R1.out _ hb1.out) (o1.out) (by unfold maxLen; omega) (by omega) hb1.out.size ?_; intro v1 w3 hv1 hg1 _; rw [Nat.zero_add, List.nil_append] at hv1; obtain ⟨A1, cc1, rfl⟩ := own_form hv1; have hb3 : Hid (Below w2.heap.size w2 w3) := (grown_next hb1.out hg1 (fun g e => (by simp [Value.ownBlock] at e; omega))); have HV1 := Lib.hid hv1; clear hv1 hg1; have d1 : w3.cell? ⟨w.heap.size, 1, none⟩ = some (.int .u8 (l : Int)) := (hb3.out.cell (p := ⟨w.heap.size, 1, none⟩) hlt).trans HD2.out.c1; have d2 : w3.cell? ⟨w.heap.size, 2, none⟩ = some (.int .u64 (p : Int)) := (hb3.out.cell (p := ⟨w.heap.size, 2, none⟩) hlt).trans HD2.out.c2; have d3 : w3.cell? ⟨w.heap.size, 3, none⟩ = some (.int .u64 (x : Int)) := (hb3.out.cell (p := ⟨w.heap.size, 3, none⟩) hlt).trans HD2.out.c3; clear c0; have hsz3 := hb3.out.size; have hrn : Hid (Reads (w3.alloc (.cells #[.int .u8 (l : Int), .int .u64 (p : Int), .int .u64 (x : Int)] 53)) (w3.heap.size + 1) 3 (some ⟨w3.heap.size, 0, none⟩) 1 [.int .u8 (l : Int), .int .u64 (p : Int), .int .u64 (x : Int)]) := ⟨rfl, fun _ => ⟨_, rfl, Nat.lt_succ_self _, news3 w3 _ _ _ _⟩⟩)
    | (at_builtin; refine wpList_append_any _ rfl (.tmp 53) (.tmp 61) 29 rfl w2.heap.size 53 i0 _ 3 24 Try.underlying29 hi hz0 hz1 hz2 rfl (by decide) (.slice A1 F cc1) F x1 (by rfl) (HV1.out.alloc _) (w3.heap.size + 1) (some ⟨w3.heap.size, 0, none⟩) 1 1 [.int .u8 (l : Int), .int .u64 (p : Int), .int .u64 (x : Int)] (by rfl) hrn.out (by intro u hu; simp at hu; rcases hu with rfl | rfl | rfl <;> rfl) (by unfold maxLen; omega) (by omega) (Nat.le_trans hsz3 (by simp)) ?_; intro v2 w4 hv2 hg2 _; obtain ⟨A2, cc2, rfl⟩ := own_form hv2; have hb4 : Hid (Below w2.heap.size w2 w4) := (grown_next (hb3.out.alloc hsz3 _) hg2 (fun g e => (own_lt HV1.out e).2)); have HV2 := Lib.hid hv2; have hsz4 := hb4.out.size; clear hv2 hg2 d1 d2 d3)
    | (at_builtin; refine wpList_append_any _ rfl (.tmp 66) (.tmp 69) 29 rfl w2.heap.size 53 i0 _ 3 24 Try.underlying29 hi hz0 hz1 hz2 rfl (by decide) (.slice A2 (F + 1) cc2) (F + 1) (x1 ++ [.int .u8 (l : Int), .int .u64 (p : Int), .int .u64 (x : Int)]) (by rfl) HV2.out w2.heap.size A3 m3 c3 x3 (by rfl) (R3.out _ hb4.out) (o3.out) (by unfold maxLen; omega) (by omega) hsz4 ?_; intro v3 w5 hv3 hg3 _; have hb5 : Hid (Below w2.heap.size w2 w5) := (grown_next hb4.out hg3 (fun g e => (own_lt HV2.out e).2)); have HV3 := Lib.hid hv3; clear hv3 hg3))
  refine bodyPost_ret (results_tmp3 rfl _ _ _) rfl ?_
  exact ⟨v3, rfl, lx_of (by rw [hap.out]; exact HV3.out) hmE.out, HD2.out.low.trans (hb5.out.mono hlw), .inr fun g e => Nat.le_trans hlw (own_lt HV3.out e).2⟩
set_option maxRecDepth 100000 in
set_option maxHeartbeats 2000000 in
theorem h_put_n0_1 (w : World)  (es : List (H.Key × Nat)) (h : LX w (.slice none 0 0) es) (hl : es.length ≤ 1000000) (d l p x : Nat) (hd : d < 256) (hk : d % 4 = 1) (hG : fo es (l, p) = false) (hes : es = []) :
    Calls Try.prog 18 #[.slice none 0 0, hactv d l p x] w (DoP w (.slice none 0 0) (es.take (fi es (l, p)) ++ ((l, p), x) :: es.drop (fi es (l, p))) 0 true) := by
  have hfd := Lib.hid (h_find w _ es h (by omega) d l p x)
  obtain ⟨e1, e2⟩ := mod4 d hd 1 hk
  have hF := fi_le es (l, p)
  rw [hG] at hfd
  obtain ⟨i0, hi, hz0, hz1, hz2⟩ := info_parts3 ref_info
  clear hk hd hG
  generalize fi es (l, p) = F at *
  obtain rfl : F = 0 := by rw [hes] at hF; simpa using hF
  have HE := Lib.hid hes
  clear hes h
  have hmE : Hid (1 + 0 = (es.take 0 ++ ((l, p), x) :: es.drop 0).length) := by
    show _ = _
    rw [HE.out]; rfl
  have hap : Hid (xv (es.take 0 ++ ((l, p), x) :: es.drop 0) = [.int .u8 (l : Int), .int .u64 (p : Int), .int .u64 (x : Int)] ++ []) := by
    show _ = _
    rw [HE.out]; rfl
  go_enter Try.func18, Try.ntmps18
  go_wp2_with (first
    | (go_at_call 25; (with_reducible refine hfd.out.mono ?_); rintro e w2 ⟨rfl, hD⟩; have HD2 := Lib.hid hD; have c0 := hD.c0; clear hD; have R1 : Hid (∀ X : World, Reads X w2.heap.size 3 none 0 []) := (fun X => Reads.none_); have hb1 : Hid (Below w2.heap.size w2 (w2.alloc (.cells #[] 53))) := ((Below.refl _ _).alloc (Nat.le_refl _) _); have ho1 := Lib.hid (own_empty (w := (w2.alloc (.cells #[] 53))) (g := w2.heap.size) (alloc_topI w2 _)); have hlw := HD2.out.low.size; have hlt : w.heap.size < w2.heap.size := HD2.out.lt)
    | (at_builtin; refine wpList_append_any _ rfl (.tmp 48) (.tmp 51) 29 rfl w2.heap.size 53 i0 _ 3 24 Try.underlying29 hi hz0 hz1 hz2 rfl (by decide) (.slice (some ⟨w2.heap.size, 0, none⟩) 0 0) 0 [] (by rfl) ho1.out w2.heap.size none 0 0 [] (by rfl) (R1.out _) (by simp) (by unfold maxLen; omega) (by omega) hb1.out.size ?_; intro v1 w3 hv1 hg1 _; rw [Nat.zero_add, List.nil_append] at hv1; obtain ⟨A1, cc1, rfl⟩ := own_form hv1; have hb3 : Hid (Below w2.heap.size w2 w3) := (grown_next hb1.out hg1 (fun g e => (by simp [Value.ownBlock] at e; omega))); have HV1 := Lib.hid hv1; clear hv1 hg1; have d1 : w3.cell? ⟨w.heap.size, 1, none⟩ = some (.int .u8 (l : Int)) := (hb3.out.cell (p := ⟨w.heap.size, 1, none⟩) hlt).trans HD2.out.c1; have d2 : w3.cell? ⟨w.heap.size, 2, none⟩ = some (.int .u64 (p : Int)) := (hb3.out.cell (p := ⟨w.heap.size, 2, none⟩) hlt).trans HD2.out.c2; have d3 : w3.cell? ⟨w.heap.size, 3, none⟩ = some (.int .u64 (x : Int)) := (hb3.out.cell (p := ⟨w.heap.size, 3, none⟩) hlt).trans HD2.out.c3; clear c0; have hsz3 := hb3.out.size; have hrn : Hid (Reads (w3.alloc (.cells #[.int .u8 (l : Int), .int .u64 (p : Int), .int .u64 (x : Int)] 53)) (w3.heap.size + 1) 3 (some ⟨w3.heap.size, 0, none⟩) 1 [.int .u8 (l : Int), .int .u64 (p : Int), .int .u64 (x : Int)]) := ⟨rfl, fun _ => ⟨_, rfl, Nat.lt_succ_self _, news3 w3 _ _ _ _⟩⟩)
    | (at_builtin; refine wpList_append_any _ rfl (.tmp 53) (.tmp 61) 29 rfl w2.heap.size 53 i0 _ 3 24 Try.underlying29 hi hz0 hz1 hz2 rfl (by decide) (.slice A1 0 cc1) 0 [] (by rfl) (HV1.out.alloc _) (w3.heap.size + 1) (some ⟨w3.heap.size, 0, none⟩) 1 1 [.int .u8 (l : Int), .int .u64 (p : Int), .int .u64 (x : Int)] (by rfl) hrn.out (by intro u hu; simp at hu; rcases hu with rfl | rfl | rfl <;> rfl) (by unfold maxLen; omega) (by omega) (Nat.le_trans hsz3 (by simp)) ?_; intro v2 w4 hv2 hg2 _; rw [Nat.zero_add, List.nil_append] at hv2; obtain ⟨A2, cc2, rfl⟩ := own_form hv2; have hb4 : Hid (Below w2.heap.size w2 w4) := (grown_next (hb3.out.alloc hsz3 _) hg2 (fun g e => (own_lt HV1.out e).2)); have HV2 := Lib.hid hv2; have hsz4 := hb4.out.size; clear hv2 hg2 d1 d2 d3)
    | (at_builtin; refine wpList_append_any _ rfl (.tmp 66) (.tmp 69) 29 rfl w2.heap.size 53 i0 _ 3 24 Try.underlying29 hi hz0 hz1 hz2 rfl (by decide) (.slice A2 (1) cc2) (1) ([.int .u8 (l : Int), .int .u64 (p : Int), .int .u64 (x : Int)]) (by rfl) HV2.out w2.heap.size none 0 0 [] (by rfl) (R1.out _) (by simp) (by unfold maxLen; omega) (by omega) hsz4 ?_; intro v3 w5 hv3 hg3 _; have hb5 : Hid (Below w2.heap.size w2 w5) := (grown_next hb4.out hg3 (fun g e => (own_lt HV2.out e).2)); have HV3 := Lib.hid hv3; clear hv3 hg3))
  refine bodyPost_ret (results_tmp3 rfl _ _ _) rfl ?_
  exact ⟨v3, rfl, lx_of (by rw [hap.out]; exact HV3.out) hmE.out, HD2.out.low.trans (hb5.out.mono hlw), .inr fun g e => Nat.le_trans hlw (own_lt HV3.out e).2⟩
/-- The list behind an act. -/
def hdo (es : List (H.Key × Nat)) (d : Nat) (k : H.Key) (x : Nat) : List (H.Key × Nat) := if d % 4 = 3 then es else if d % 4 = 2 then hdrop es k else hput es k x
theorem h_drop (w : World) (v : Value) (es : List (H.Key × Nat)) (h : LX w v es) (hl : es.length ≤ 1000000) (d l p x : Nat) (hd : d < 256) (hk : d % 4 = 2) :
    Calls Try.prog 18 #[v, hactv d l p x] w (DoP w v (hdrop es (l, p)) 0 (fo es (l, p))) := by
  unfold hdrop
  cases hG : fo es (l, p) with
  | true => simpa using h_drop_yes w v es h hl d l p x hd hk hG
  | false => simpa using h_drop_no w v es h (by omega) d l p x hd hk hG
theorem h_put (w : World) (v : Value) (es : List (H.Key × Nat)) (h : LX w v es) (hl : es.length ≤ 1000000) (d l p x : Nat) (hd : d < 256) (hk : d % 4 < 2) :
    Calls Try.prog 18 #[v, hactv d l p x] w (DoP w v (hput es (l, p) x) 0 (!fo es (l, p))) := by
  unfold hput
  have hq : d % 4 = 0 ∨ d % 4 = 1 := by omega
  rcases h.form with ⟨rfl, hes⟩ | ⟨g, c, rfl, _⟩
  · have hG : fo es (l, p) = false := by subst hes; rfl
    rw [hG]
    rcases hq with hq | hq
    · simpa using h_put_n0_0 w es h hl d l p x hd hq hG hes
    · simpa using h_put_n0_1 w es h hl d l p x hd hq hG hes
  · cases hG : fo es (l, p) with
    | true =>
      rcases hq with hq | hq
      · simpa using h_put_s1_0 w g c es h hl d l p x hd hq hG
      · simpa using h_put_s1_1 w g c es h hl d l p x hd hq hG
    | false =>
      rcases hq with hq | hq
      · simpa using h_put_s0_0 w g c es h hl d l p x hd hq hG
      · simpa using h_put_s0_1 w g c es h hl d l p x hd hq hG
end Go.Proofs.Ytkpfgbcjimkfeaa
