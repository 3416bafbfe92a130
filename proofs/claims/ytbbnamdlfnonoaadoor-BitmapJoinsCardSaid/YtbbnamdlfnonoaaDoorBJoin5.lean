
/- Or, And, Less, Xor, Copy of bitmaps; the lists of joined bitmaps are those of the document's joined sets. -/
import Derived.Test.YtbbnamdlfnonoaaDoorBNil
namespace Go.Proofs.YtbbnamdlfnonoaaDoor
open Go.RowKit Go.Shelf
def fl (a b : Nat) : Nat := (BitVec.ofNat 64 a &&& ~~~(BitVec.ofNat 64 b)).toNat
theorem ofI (a : Nat) : BitVec.ofInt 64 (a : Int) = BitVec.ofNat 64 a := by simp
theorem wrapN (x : Nat) (h : x < 18446744073709551616) : IntKind.u64.wrap (x : Int) = (x : Int) := by
  simp [IntKind.wrap, IntKind.signed, IntKind.bits]; omega
theorem or_ltJ (a b : Nat) (ha : a < 18446744073709551616) (hb : b < 18446744073709551616) : a ||| b < 18446744073709551616 := Nat.or_lt_two_pow (n := 64) ha hb
theorem and_ltJ (a b : Nat) (ha : a < 18446744073709551616) (_hb : b < 18446744073709551616) : a &&& b < 18446744073709551616 := Nat.lt_of_le_of_lt Nat.and_le_left ha
theorem xor_ltJ (a b : Nat) (ha : a < 18446744073709551616) (hb : b < 18446744073709551616) : a ^^^ b < 18446744073709551616 := Nat.xor_lt_two_pow (n := 64) ha hb
theorem fl_lt (a b : Nat) (_ha : a < 18446744073709551616) (_hb : b < 18446744073709551616) : fl a b < 18446744073709551616 := BitVec.isLt _
theorem natOf (a : Nat) (ha : a < 18446744073709551616) : (BitVec.ofNat 64 a).toNat = a := by simp; omega
theorem bits_or64 (a b : Nat) (ha : a < 18446744073709551616) (hb : b < 18446744073709551616) : bits .or .u64 (a : Int) (b : Int) = ((a ||| b : Nat) : Int) := by
  show IntKind.u64.wrap ((BitVec.ofInt 64 (a : Int) ||| BitVec.ofInt 64 (b : Int)).toNat : Int) = _
  rw [ofI, ofI, BitVec.toNat_or, natOf a ha, natOf b hb, wrapN _ (or_ltJ a b ha hb)]
theorem bits_and64 (a b : Nat) (ha : a < 18446744073709551616) (hb : b < 18446744073709551616) : bits .and .u64 (a : Int) (b : Int) = ((a &&& b : Nat) : Int) := by
  show IntKind.u64.wrap ((BitVec.ofInt 64 (a : Int) &&& BitVec.ofInt 64 (b : Int)).toNat : Int) = _
  rw [ofI, ofI, BitVec.toNat_and, natOf a ha, natOf b hb, wrapN _ (and_ltJ a b ha hb)]
theorem bits_xor64 (a b : Nat) (ha : a < 18446744073709551616) (hb : b < 18446744073709551616) : bits .xor .u64 (a : Int) (b : Int) = ((a ^^^ b : Nat) : Int) := by
  show IntKind.u64.wrap ((BitVec.ofInt 64 (a : Int) ^^^ BitVec.ofInt 64 (b : Int)).toNat : Int) = _
  rw [ofI, ofI, BitVec.toNat_xor, natOf a ha, natOf b hb, wrapN _ (xor_ltJ a b ha hb)]
theorem bits_less64 (a b : Nat) (ha : a < 18446744073709551616) (hb : b < 18446744073709551616) : bits .andNot .u64 (a : Int) (b : Int) = ((fl a b : Nat) : Int) := by
  show IntKind.u64.wrap ((BitVec.ofInt 64 (a : Int) &&& ~~~(BitVec.ofInt 64 (b : Int))).toNat : Int) = _
  rw [ofI, ofI]
  exact wrapN _ (fl_lt a b ha hb)
theorem fl_bit (a b i : Nat) (hi : i < 64) : (fl a b).testBit i = (a.testBit i && !b.testBit i) := by
  unfold fl
  rw [BitVec.testBit_toNat, BitVec.getLsbD_and, BitVec.getLsbD_not, BitVec.getLsbD_ofNat, BitVec.getLsbD_ofNat]
  simp [hi]
theorem cl_or (a b : Nat) (W : World) (ha : a < 18446744073709551616) (hb : b < 18446744073709551616) : Calls Tryd.prog 58 #[.int .u64 (a : Int), .int .u64 (b : Int)] W fun e w' => e = .returned (.int .u64 (a ||| b : Nat)) ∧ W = w' := by
  have hx := bits_or64 a b ha hb
  skip
  go_enter Tryd.func58, Tryd.ntmps58
  go_wp2
  go_ret
  exact ⟨rfl, rfl⟩
theorem cl_and (a b : Nat) (W : World) (ha : a < 18446744073709551616) (hb : b < 18446744073709551616) : Calls Tryd.prog 59 #[.int .u64 (a : Int), .int .u64 (b : Int)] W fun e w' => e = .returned (.int .u64 (a &&& b : Nat)) ∧ W = w' := by
  have hx := bits_and64 a b ha hb
  skip
  go_enter Tryd.func59, Tryd.ntmps59
  go_wp2
  go_ret
  exact ⟨rfl, rfl⟩
theorem cl_less (a b : Nat) (W : World) (ha : a < 18446744073709551616) (hb : b < 18446744073709551616) : Calls Tryd.prog 60 #[.int .u64 (a : Int), .int .u64 (b : Int)] W fun e w' => e = .returned (.int .u64 (fl a b : Nat)) ∧ W = w' := by
  have hx := bits_less64 a b ha hb
  generalize fl a b = r at *
  go_enter Tryd.func60, Tryd.ntmps60
  go_wp2
  go_ret
  exact ⟨rfl, rfl⟩
theorem cl_xor (a b : Nat) (W : World) (ha : a < 18446744073709551616) (hb : b < 18446744073709551616) : Calls Tryd.prog 61 #[.int .u64 (a : Int), .int .u64 (b : Int)] W fun e w' => e = .returned (.int .u64 (a ^^^ b : Nat)) ∧ W = w' := by
  have hx := bits_xor64 a b ha hb
  skip
  go_enter Tryd.func61, Tryd.ntmps61
  go_wp2
  go_ret
  exact ⟨rfl, rfl⟩
/-- A bitmap made anew. -/
def JQ (w : World) (js : List Nat) (e : Ending) (w' : World) : Prop := ∃ p s h, e = .returned (.pointer (some ⟨p, 0, none⟩)) ∧ Bm w' p s h js ∧ Below w.heap.size w w' ∧ w.heap.size ≤ p ∧ w.heap.size ≤ s ∧ w.heap.size ≤ h
theorem list_or (w : World) (A : Option Addr) (c : Nat) (ps : List (Option Addr)) (ws : List (List Nat)) (len : Nat) (hlen : ps.length = len) (hr : Rps w A ps) (hl : ps.length = ws.length) (h0 : 0 < ps.length) (hc : ps.length ≤ c) (hn : ps.length ≤ 1000) (hp : ∀ (k : Nat) (h : k < ps.length) (h' : k < ws.length), PB w ps[k] ws[k]) :
    Calls Tryd.prog 31 #[.slice A len c] w (JQ w (joined (fun a b => a ||| b) ws (len - 1))) := by
  have hj := Lib.hid (join_or (fun a b => a ||| b) or_ltJ cl_or w A c ps ws hr hl h0 hc hn hp)
  rw [hlen] at hj
  generalize joined (fun a b => a ||| b) ws (len - 1) = js at *
  clear hp hr hl h0 hc hn hlen
  go_enter Tryd.func31, Tryd.ntmps31
  go_wp2_with (go_at_call 57; (with_reducible refine hj.out.mono ?_); rintro e w2 ⟨p, s, h, rfl, h1, h2, h3, h4, h5⟩; have H1 := Lib.hid h1; have H2 := Lib.hid h2; clear h1 h2)
  go_ret
  exact ⟨p, s, h, rfl, H1.out, H2.out, h3, h4, h5⟩
theorem none_or (w : World) : Calls Tryd.prog 31 #[.slice none 0 0] w (JQ w (List.replicate 1024 0)) := by
  have hj : Hid (Calls Tryd.prog 57 #[.slice none 0 0, .func (.func 58) #[] #[]] w (JQ w (List.replicate 1024 0))) := by
    have hn := fun W => Lib.hid (b_new W)
    obtain ⟨rs, hrs⟩ : ∃ rs, List.replicate 1024 0 = rs := ⟨_, rfl⟩
    rw [hrs] at hn ⊢
    clear hrs
    show Calls _ _ _ _ _
    go_enter Tryd.func57, Tryd.ntmps57
    go_wp2_with (go_at_call 39; (with_reducible refine (hn _).out.mono ?_); rintro e w2 ⟨p, s, h, rfl, h1, h2, h3, h4, h5⟩; have H1 := Lib.hid h1; have H2 := Lib.hid h2; clear h1 h2)
    go_ret
    exact ⟨p, s, h, rfl, H1.out, H2.out, h3, h4, h5⟩
  obtain ⟨rs, hrs⟩ : ∃ rs, List.replicate 1024 0 = rs := ⟨_, rfl⟩
  rw [hrs] at hj ⊢
  clear hrs
  go_enter Tryd.func31, Tryd.ntmps31
  go_wp2_with (go_at_call 57; (with_reducible refine hj.out.mono ?_); rintro e w2 ⟨p, s, h, rfl, h1, h2, h3, h4, h5⟩; have H1 := Lib.hid h1; have H2 := Lib.hid h2; clear h1 h2)
  go_ret
  exact ⟨p, s, h, rfl, H1.out, H2.out, h3, h4, h5⟩
theorem list_and (w : World) (A : Option Addr) (c : Nat) (ps : List (Option Addr)) (ws : List (List Nat)) (len : Nat) (hlen : ps.length = len) (hr : Rps w A ps) (hl : ps.length = ws.length) (h0 : 0 < ps.length) (hc : ps.length ≤ c) (hn : ps.length ≤ 1000) (hp : ∀ (k : Nat) (h : k < ps.length) (h' : k < ws.length), PB w ps[k] ws[k]) :
    Calls Tryd.prog 33 #[.slice A len c] w (JQ w (joined (fun a b => a &&& b) ws (len - 1))) := by
  have hj := Lib.hid (join_and (fun a b => a &&& b) and_ltJ cl_and w A c ps ws hr hl h0 hc hn hp)
  rw [hlen] at hj
  generalize joined (fun a b => a &&& b) ws (len - 1) = js at *
  clear hp hr hl h0 hc hn hlen
  go_enter Tryd.func33, Tryd.ntmps33
  go_wp2_with (go_at_call 57; (with_reducible refine hj.out.mono ?_); rintro e w2 ⟨p, s, h, rfl, h1, h2, h3, h4, h5⟩; have H1 := Lib.hid h1; have H2 := Lib.hid h2; clear h1 h2)
  go_ret
  exact ⟨p, s, h, rfl, H1.out, H2.out, h3, h4, h5⟩
theorem none_and (w : World) : Calls Tryd.prog 33 #[.slice none 0 0] w (JQ w (List.replicate 1024 0)) := by
  have hj : Hid (Calls Tryd.prog 57 #[.slice none 0 0, .func (.func 59) #[] #[]] w (JQ w (List.replicate 1024 0))) := by
    have hn := fun W => Lib.hid (b_new W)
    obtain ⟨rs, hrs⟩ : ∃ rs, List.replicate 1024 0 = rs := ⟨_, rfl⟩
    rw [hrs] at hn ⊢
    clear hrs
    show Calls _ _ _ _ _
    go_enter Tryd.func57, Tryd.ntmps57
    go_wp2_with (go_at_call 39; (with_reducible refine (hn _).out.mono ?_); rintro e w2 ⟨p, s, h, rfl, h1, h2, h3, h4, h5⟩; have H1 := Lib.hid h1; have H2 := Lib.hid h2; clear h1 h2)
    go_ret
    exact ⟨p, s, h, rfl, H1.out, H2.out, h3, h4, h5⟩
  obtain ⟨rs, hrs⟩ : ∃ rs, List.replicate 1024 0 = rs := ⟨_, rfl⟩
  rw [hrs] at hj ⊢
  clear hrs
  go_enter Tryd.func33, Tryd.ntmps33
  go_wp2_with (go_at_call 57; (with_reducible refine hj.out.mono ?_); rintro e w2 ⟨p, s, h, rfl, h1, h2, h3, h4, h5⟩; have H1 := Lib.hid h1; have H2 := Lib.hid h2; clear h1 h2)
  go_ret
  exact ⟨p, s, h, rfl, H1.out, H2.out, h3, h4, h5⟩
theorem rps_new (w : World) (ps : List (Option Addr)) : Rps (w.alloc (.cells (ps.map Value.pointer).toArray 24)) (some ⟨w.heap.size, 0, none⟩) ps := fun _ => by
  refine ⟨w.heap.size, 0, rfl, by simp, fun k hk => ?_⟩
  rw [Nat.zero_add, cell_of_row _ w.heap.size k _ _ (0, 0) (alloc_top w _ rfl)]
  simp [hk]
theorem jq_alloc {w : World} {o : Obj} {js : List Nat} {e : Ending} {w' : World} (h : JQ (w.alloc o) js e w') : JQ w js e w' := by
  obtain ⟨p, s, h', rfl, h1, h2, h3, h4, h5⟩ := h
  have ha : Below w.heap.size w (w.alloc o) := (Below.refl _ w).alloc (Nat.le_refl _) o
  have hz : (w.alloc o).heap.size = w.heap.size + 1 := by simp
  exact ⟨p, s, h', rfl, h1, ha.trans (h2.mono (by omega)), by omega, by omega, by omega⟩
theorem pb_alloc {w : World} {po : Option Addr} {ws : List Nat} (a : PB w po ws) (o : Obj) : PB (w.alloc o) po ws := a.below ((Below.refl _ w).alloc (Nat.le_refl _) o)
theorem b_copy (w : World) (pa : Option Addr) (us : List Nat) (a : PB w pa us) : Calls Tryd.prog 26 #[.pointer pa] w (JQ w us) := by
  have hl := Lib.hid (list_or (w.alloc (.cells #[.pointer pa] 24)) (some ⟨w.heap.size, 0, none⟩) 1 [pa] [us] 1 rfl (rps_new w [pa]) rfl (by simp) (by simp) (by simp) (fun k h h' => by
    have : k = 0 := by simpa using h
    subst this
    exact pb_alloc a _))
  have e : joined (fun a b => a ||| b) [us] (1 - 1) = us := rfl
  rw [e] at hl
  clear e
  go_enter Tryd.func26, Tryd.ntmps26
  go_wp2_with (go_at_call 31; (with_reducible refine hl.out.mono ?_); intro e w2 hq; obtain ⟨p, s, h, rfl, h1, h2, h3, h4, h5⟩ := jq_alloc hq; have H1 := Lib.hid h1; have H2 := Lib.hid h2; clear h1 h2 hq)
  go_ret
  exact ⟨p, s, h, rfl, H1.out, H2.out, h3, h4, h5⟩
theorem b_less (w : World) (pa pb : Option Addr) (us vs : List Nat) (a : PB w pa us) (b : PB w pb vs) : Calls Tryd.prog 34 #[.pointer pa, .pointer pb] w (JQ w (List.zipWith (fl) us vs)) := by
  have hj : Hid (Calls Tryd.prog 57 #[.slice (some ⟨w.heap.size, 0, none⟩) 2 2, .func (.func 60) #[] #[]] (w.alloc (.cells #[.pointer pa, .pointer pb] 24)) (JQ (w.alloc (.cells #[.pointer pa, .pointer pb] 24)) (joined (fl) [us, vs] ([pa, pb].length - 1)))) := (join_less (fl) fl_lt cl_less (w.alloc (.cells #[.pointer pa, .pointer pb] 24)) (some ⟨w.heap.size, 0, none⟩) 2 [pa, pb] [us, vs] (rps_new w [pa, pb]) rfl (by simp) (by simp) (by simp) (fun k h h' => by
    have h2 : k < 2 := by simpa using h
    match k, h2 with
    | 0, _ => exact pb_alloc a _
    | 1, _ => exact pb_alloc b _))
  have e : joined (fl) [us, vs] ([pa, pb].length - 1) = List.zipWith (fl) us vs := rfl
  rw [e] at hj
  clear e
  generalize List.zipWith (fl) us vs = js at *
  go_enter Tryd.func34, Tryd.ntmps34
  go_wp2_with (go_at_call 57; (with_reducible refine hj.out.mono ?_); intro e w2 hq; obtain ⟨p, s, h, rfl, h1, h2, h3, h4, h5⟩ := jq_alloc hq; have H1 := Lib.hid h1; have H2 := Lib.hid h2; clear h1 h2 hq)
  go_ret
  exact ⟨p, s, h, rfl, H1.out, H2.out, h3, h4, h5⟩
theorem b_xor (w : World) (pa pb : Option Addr) (us vs : List Nat) (a : PB w pa us) (b : PB w pb vs) : Calls Tryd.prog 35 #[.pointer pa, .pointer pb] w (JQ w (List.zipWith (fun a b => a ^^^ b) us vs)) := by
  have hj : Hid (Calls Tryd.prog 57 #[.slice (some ⟨w.heap.size, 0, none⟩) 2 2, .func (.func 61) #[] #[]] (w.alloc (.cells #[.pointer pa, .pointer pb] 24)) (JQ (w.alloc (.cells #[.pointer pa, .pointer pb] 24)) (joined (fun a b => a ^^^ b) [us, vs] ([pa, pb].length - 1)))) := (join_xor (fun a b => a ^^^ b) xor_ltJ cl_xor (w.alloc (.cells #[.pointer pa, .pointer pb] 24)) (some ⟨w.heap.size, 0, none⟩) 2 [pa, pb] [us, vs] (rps_new w [pa, pb]) rfl (by simp) (by simp) (by simp) (fun k h h' => by
    have h2 : k < 2 := by simpa using h
    match k, h2 with
    | 0, _ => exact pb_alloc a _
    | 1, _ => exact pb_alloc b _))
  have e : joined (fun a b => a ^^^ b) [us, vs] ([pa, pb].length - 1) = List.zipWith (fun a b => a ^^^ b) us vs := rfl
  rw [e] at hj
  clear e
  generalize List.zipWith (fun a b => a ^^^ b) us vs = js at *
  go_enter Tryd.func35, Tryd.ntmps35
  go_wp2_with (go_at_call 57; (with_reducible refine hj.out.mono ?_); intro e w2 hq; obtain ⟨p, s, h, rfl, h1, h2, h3, h4, h5⟩ := jq_alloc hq; have H1 := Lib.hid h1; have H2 := Lib.hid h2; clear h1 h2 hq)
  go_ret
  exact ⟨p, s, h, rfl, H1.out, H2.out, h3, h4, h5⟩
theorem sl_zip (f : Nat → Nat → Nat) (fb : Bool → Bool → Bool) (hbit : ∀ a b i, i < 64 → (f a b).testBit i = fb (a.testBit i) (b.testBit i)) {us vs : List Nat} (hu : us.length = 1024) (hv : vs.length = 1024) {y : Int} :
    y ∈ sl (List.zipWith f us vs) ↔ 0 ≤ y ∧ y < 65536 ∧ fb (sbit us y.toNat) (sbit vs y.toNat) = true := by
  have hl : (List.zipWith f us vs).length = 1024 := by rw [List.length_zipWith, hu, hv]; rfl
  rw [sl_in, hl]
  constructor
  · rintro ⟨h0, h1, h2⟩
    refine ⟨h0, by omega, ?_⟩
    unfold sbit at h2 ⊢
    have h3 : y.toNat / 64 < 1024 := by omega
    rw [List.getElem?_eq_getElem (by omega), List.getElem_zipWith] at h2
    rw [List.getElem?_eq_getElem (by omega), List.getElem?_eq_getElem (by omega)]
    simpa [hbit _ _ _ (Nat.mod_lt y.toNat (show 0 < 64 by decide))] using h2
  · rintro ⟨h0, h1, h2⟩
    refine ⟨h0, by omega, ?_⟩
    unfold sbit at h2 ⊢
    have h3 : y.toNat / 64 < 1024 := by omega
    rw [List.getElem?_eq_getElem (by omega), List.getElem?_eq_getElem (by omega)] at h2
    rw [List.getElem?_eq_getElem (by omega), List.getElem_zipWith]
    simpa [hbit _ _ _ (Nat.mod_lt y.toNat (show 0 < 64 by decide))] using h2
theorem L_zip (fb : Bool → Bool → Bool) {bs cs : List Bool} (hb : bs.length = 65536) (hc : cs.length = 65536) {y : Int} :
    y ∈ M.L (List.zipWith fb bs cs) ↔ 0 ≤ y ∧ y < 65536 ∧ fb (bs[y.toNat]?.getD false) (cs[y.toNat]?.getD false) = true := by
  rw [M.L_in]
  constructor
  · rintro ⟨h0, h1⟩
    have hlt : y.toNat < (List.zipWith fb bs cs).length := by
      rcases Nat.lt_or_ge y.toNat (List.zipWith fb bs cs).length with h | h
      · exact h
      · rw [List.getElem?_eq_none h] at h1; cases h1
    rw [List.length_zipWith, hb, hc] at hlt
    have hlt2 : y.toNat < 65536 := by omega
    refine ⟨h0, by omega, ?_⟩
    rw [List.getElem?_eq_getElem (by rw [List.length_zipWith]; omega), List.getElem_zipWith] at h1
    rw [List.getElem?_eq_getElem (by omega), List.getElem?_eq_getElem (by omega)]
    simpa using h1
  · rintro ⟨h0, h1, h2⟩
    refine ⟨h0, ?_⟩
    have hlt2 : y.toNat < 65536 := by omega
    rw [List.getElem?_eq_getElem (by omega), List.getElem?_eq_getElem (by omega)] at h2
    rw [List.getElem?_eq_getElem (by rw [List.length_zipWith]; omega), List.getElem_zipWith]
    simpa using h2
theorem bit_same {us : List Nat} {bs : List Bool} (hu : us.length = 1024) (h : sl us = M.L bs) (i : Nat) (hi : i < 65536) : sbit us i = bs[i]?.getD false := by
  have h1 : ((i : Int) ∈ sl us) ↔ ((i : Int) ∈ M.L bs) := by rw [h]
  rw [sl_in, M.L_in, hu] at h1
  simp only [Int.toNat_natCast] at h1
  rw [Bool.eq_iff_iff]
  constructor
  · intro h2
    have := (h1.1 ⟨by omega, by omega, h2⟩).2
    rw [this]; rfl
  · intro h2
    refine (h1.2 ⟨by omega, ?_⟩).2.2
    cases hb : bs[i]? with
    | none => rw [hb] at h2; cases h2
    | some b => rw [hb] at h2; simp at h2; rw [h2]
theorem join_lists (f : Nat → Nat → Nat) (fb : Bool → Bool → Bool) (hbit : ∀ a b i, i < 64 → (f a b).testBit i = fb (a.testBit i) (b.testBit i)) {us vs : List Nat} {bs cs : List Bool} (hu : us.length = 1024) (hv : vs.length = 1024) (hb : bs.length = 65536) (hc : cs.length = 65536) (h1 : sl us = M.L bs) (h2 : sl vs = M.L cs) :
    sl (List.zipWith f us vs) = M.L (List.zipWith fb bs cs) := by
  refine M.sorted_ext (sl_up _) (M.L_up _) fun y => ?_
  rw [sl_zip f fb hbit hu hv, L_zip fb hb hc]
  refine and_congr_right fun h0 => and_congr_right fun h3 => ?_
  rw [bit_same hu h1 y.toNat (by omega), bit_same hv h2 y.toNat (by omega)]
theorem bit_or (a b i : Nat) (_h : i < 64) : (a ||| b).testBit i = (a.testBit i || b.testBit i) := Nat.testBit_or ..
theorem bit_and (a b i : Nat) (_h : i < 64) : (a &&& b).testBit i = (a.testBit i && b.testBit i) := Nat.testBit_and ..
theorem bit_xor (a b i : Nat) (_h : i < 64) : (a ^^^ b).testBit i = (a.testBit i != b.testBit i) := by rw [Nat.testBit_xor]
theorem zip_and_and (us vs : List Nat) : List.zipWith (fun a b => a &&& b) (List.zipWith (fun a b => a &&& b) us vs) us = List.zipWith (fun a b => a &&& b) us vs := by
  induction us generalizing vs with
  | nil => cases vs <;> rfl
  | cons x us ih =>
    cases vs with
    | nil => rfl
    | cons y vs =>
      simp only [List.zipWith_cons_cons, ih]
      congr 1
      rw [Nat.and_assoc, Nat.and_comm y x, ← Nat.and_assoc, Nat.and_self]
theorem zip_or_zero (us : List Nat) (n : Nat) (h : us.length = n) : List.zipWith (fun a b => a ||| b) us (List.replicate n 0) = us := by
  induction us generalizing n with
  | nil => simp
  | cons x us ih =>
    obtain ⟨m, rfl⟩ : ∃ m, n = m + 1 := ⟨us.length, by simp at h; omega⟩
    rw [List.replicate_succ, List.zipWith_cons_cons, ih m (by simpa using h), Nat.or_zero]
theorem zip_and_zero (us : List Nat) (n : Nat) (h : us.length = n) : List.zipWith (fun a b => a &&& b) us (List.replicate n 0) = List.replicate n 0 := by
  induction us generalizing n with
  | nil =>
    have : n = 0 := by simpa using h.symm
    subst this; rfl
  | cons x us ih =>
    obtain ⟨m, rfl⟩ : ∃ m, n = m + 1 := ⟨us.length, by simp at h; omega⟩
    rw [List.replicate_succ, List.zipWith_cons_cons, ih m (by simpa using h), Nat.and_zero]
theorem sl_noneJ (n : Nat) : sl (List.replicate n 0) = [] := by
  unfold sl
  rw [List.map_eq_nil_iff, List.filter_eq_nil_iff]
  intro b _
  unfold sbit
  by_cases h : b / 64 < n
  · simp [h]
  · simp [h]
end Go.Proofs.YtbbnamdlfnonoaaDoor
