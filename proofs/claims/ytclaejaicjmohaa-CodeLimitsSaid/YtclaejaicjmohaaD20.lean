
/- Parse of the document's reference; the text walked. -/
import Derived.Test.YtclaejaicjmohaaD19
import Derived.Test.YtclaejaicjmohaaD8
namespace Go.Proofs.Ytclaejaicjmohaa
set_option maxRecDepth 20000
open Go.RowKit
namespace E
theorem rd_ex (p : List Nat) : ∃ n k, Rd p n k := by
  by_cases h : ∃ m, m < 2 ^ 64 ∧ enc m <+: p
  · obtain ⟨m, hm, r, hr⟩ := h
    exact ⟨m, (enc m).length, by rw [← hr]; exact Rd.enc hm r⟩
  · exact ⟨0, 0, .inr ⟨rfl, rfl, fun m hm h1 => h ⟨m, hm, h1⟩⟩⟩
theorem nxt_last {items : List (Nat × Nat)} {i : Nat} (h : items.length = i + 1) (hlt : i < items.length) : nxt 0 items = items[i].1 + 1 := by
  have e := take_snocP hlt
  rw [List.take_of_length_le (by omega)] at e
  exact (congrArg (nxt 0) e).trans (nxt_snoc _ _ _)
theorem rd_tag {bs : List Nat} {two : Bool} (h : bs[0]? = some (if two then 1 else 0)) : Rd bs (if two then 1 else 0) 1 := by
  cases bs with
  | nil => simp at h
  | cons x t =>
    simp at h
    subst h
    have := Rd.enc (n := if two then 1 else 0) (by cases two <;> decide) t
    rw [← tag_enc] at this
    exact this
theorem nope_ps {bs : List Nat} {f a n : Nat} {two : Bool} (h1 : Rd bs f 1) (h2 : Rd (bs.drop 1) n a) (hf : f = if two then 1 else 0) (h : Nope two ((bs.drop 1).drop a) n) : Ps bs none := fun l two' h3 h4 h5 e => by
  obtain ⟨g1, _, g3, _, g5⟩ := ps_head h1 h2 h4 e
  have e2 : two' = two := by
    rw [hf] at g1
    cases two <;> cases two' <;> simp at g1 <;> rfl
  subst e2
  exact h l [] h3 h5 g3.symm (by rw [g5, List.append_nil])
theorem rest_ps {bs rest : List Nat} {f a n : Nat} {two : Bool} {items : List (Nat × Nat)} (h1 : Rd bs f 1) (h2 : Rd (bs.drop 1) n a) (hf : f = if two then 1 else 0) (he : (bs.drop 1).drop a = body two 0 items ++ rest) (hu : Rs 0 items) (hv : Vd two items) (hn : items.length = n) (hr : rest ≠ []) : Ps bs none := fun l two' h3 h4 h5 e => by
  obtain ⟨g1, _, g3, _, g5⟩ := ps_head h1 h2 h4 e
  have e2 : two' = two := by
    rw [hf] at g1
    cases two <;> cases two' <;> simp at g1 <;> rfl
  subst e2
  exact hr (body_one two' items l 0 rest [] hu h3 hv h5 (by omega) (by rw [← he, g5, List.append_nil])).2
theorem short_ps {bs : List Nat} (h : bs.length < 2) : Ps bs none := fun l two _ _ _ e => by
  have := congrArg List.length e
  rw [bts] at this
  simp at this
  have := enc_pos l.length
  omega
theorem tag_ps {bs : List Nat} {f : Nat} (h : bs[0]? = some f) (hf : 1 < f) : Ps bs none := fun l two _ _ _ e => by
  rw [e, bts] at h
  simp at h
  cases two <;> simp at h <;> omega
theorem set_same {w : World} {g : Nat} {cs : Array Value} {T : TypeId} (h : w.heap[g]? = some (.cells cs T (0, 0))) (i : Nat) (u : Value) (hv : cs.setIfInBounds i u = cs) : w.setCell ⟨g, i, none⟩ u = w := by
  have e : (w.setCell ⟨g, i, none⟩ u).heap = w.heap := by
    apply Array.ext_getElem?
    intro j
    by_cases hj : j = g
    · subst hj
      rw [row_set h i u, hv, h]
    · exact Below.heap_setCell w ⟨g, i, none⟩ u j hj
  cases w
  simp only [World.setCell] at e ⊢
  rw [e]
/-- What the loop keeps. -/
structure LG (w wr : World) (two : Bool) (bs : List Nat) (i : Nat) (vl : Value) (items : List (Nat × Nat)) (A : Option Addr) (l c : Nat) (rest : List Nat) : Prop where
  rb : Rb w w.heap.size A rest
  len : rest.length = l
  cap : l ≤ c
  eq : bs = body two 0 items ++ rest
  up : Rs 0 items
  vd : Vd two items
  cnt : items.length = i
  own : wr.ownsRow w.heap.size 39 2 vl i (pv items)
/-- The world in which the next pair lies at X. -/
structure UN (wr U : World) (X key val : Nat) : Prop where
  row : U.heap[X]? = some (.cells #[.int .u64 (key : Int), .int .u64 (val : Int)] 39 (0, 0))
  but : ButS wr U (fun _ => False)
  new : wr.heap.size ≤ X
section
variable {w wr U : World} {X key val : Nat}
theorem UN.call {U' : World} (h : UN wr U X key val) (hb : Below U.heap.size U U') : UN wr U' X key val := by
  have hs : ButS U U' (fun _ => False) := ButS.of_below hb (Nat.le_refl _)
  exact ⟨(hs.block X (row_lt h.row) (fun e => e)).trans h.row, h.but.trans hs, h.new⟩
theorem UN.set0 (h : UN wr U X key val) (k : Nat) : UN wr (U.setCell ⟨X, 0, none⟩ (.int .u64 (k : Int))) X k val := by
  have hb := ButS.of_chg (chg_set U X 0 (.int .u64 (k : Int)) (· = X) rfl)
  have h1 := row_set h.row 0 (.int .u64 (k : Int))
  exact ⟨by simpa using h1, h.but.then hb (fun j e => .inr (by have e2 : j = X := e; have := h.new; omega)), h.new⟩
theorem UN.set1 (h : UN wr U X key val) (k : Nat) : UN wr (U.setCell ⟨X, 1, none⟩ (.int .u64 (k : Int))) X key k := by
  have hb := ButS.of_chg (chg_set U X 1 (.int .u64 (k : Int)) (· = X) rfl)
  have h1 := row_set h.row 1 (.int .u64 (k : Int))
  exact ⟨by simpa using h1, h.but.then hb (fun j e => .inr (by have e2 : j = X := e; have := h.new; omega)), h.new⟩
theorem UN.c0 (h : UN wr U X key val) : U.cell? ⟨X, 0, none⟩ = some (.int .u64 (key : Int)) := cell_of_row U X 0 _ _ (0, 0) h.row
theorem UN.c1 (h : UN wr U X key val) : U.cell? ⟨X, 1, none⟩ = some (.int .u64 (val : Int)) := cell_of_row U X 1 _ _ (0, 0) h.row
theorem UN.bel {B : Nat} {v : World} (h : UN wr U X key val) (hb : Below B v wr) (hB : B ≤ wr.heap.size) : Below B v U := hb.trans (h.but.below hB (fun _ e => e.elim))
theorem UN.grow {W9 : World} {vl : Value} {n : Nat} {xs : List Value} {o : Obj} (h : UN wr U X key val) (hw : Below w.heap.size w wr) (ho : wr.ownsRow w.heap.size 39 2 vl n xs) (hg : (U.alloc o).grownBy W9 vl.ownBlock) : Below w.heap.size w W9 := by
  have hs := hw.size
  have hu := h.but.size
  exact (((h.bel hw hs).alloc (by omega) o).grown hg (by simp; omega) (fun g e => (ho.lt g e).1))
end
set_option maxRecDepth 100000 in
set_option maxHeartbeats 8000000 in
theorem refparse_any (w : World) (A : Option Addr) (l c : Nat) (bs : List Nat) (hl : bs.length = l) (hlc : l ≤ c) (hl2 : l ≤ 100000000) (hr : Rb w w.heap.size A bs) :
    Calls Try.prog 23 #[.slice A l c] w (PA w bs) := by
  obtain ⟨i0, hi, hz0, hz1, hz2⟩ := info_parts3 pair_info
  by_cases hs : l < 2
  · have d0 : decide ((l : Int) < 2) = true := decide_eq_true (by omega)
    have HNO := Lib.hid (short_ps (bs := bs) (by omega))
    clear hl hr
    go_enter Try.func23, Try.ntmps23
    go_wp2
    go_ret3
    exact ⟨Below.refl _ _, .inr ⟨HNO.out, rfl⟩⟩
  have d0 : decide ((l : Int) < 2) = false := decide_eq_false (by omega)
  have h0l : 0 < bs.length := by omega
  obtain ⟨b0, o0, rfl, hb0, hp0⟩ := hr.at h0l
  rw [Nat.add_zero] at hp0
  have hf0 : bs[0]? = some bs[0] := List.getElem?_eq_getElem h0l
  have HR := Lib.hid hr
  have HL := Lib.hid hl
  generalize bs[0] = f at *
  by_cases hf : 1 < f
  · have d1 : decide ((1 : Int) < (f : Int)) = true := decide_eq_true (by omega)
    have d2 : decide (1 < f) = true := decide_eq_true hf
    have HNO := Lib.hid (tag_ps hf0 hf)
    clear hl hr hf0
    go_enter Try.func23, Try.ntmps23
    go_wp2
    go_ret3
    exact ⟨Below.refl _ _, .inr ⟨HNO.out, rfl⟩⟩
  obtain ⟨two, htw⟩ : ∃ two : Bool, f = if two then 1 else 0 := by
    rcases Nat.eq_zero_or_pos f with h | h
    · exact ⟨false, by simpa using h⟩
    · exact ⟨true, by simp; omega⟩
  obtain ⟨fv, hfv⟩ : ∃ v : Int, (f : Int) = v := ⟨_, rfl⟩
  have HFT : Hid ((fv == 1) = two) := Lib.hid (by rw [← hfv, htw]; cases two <;> rfl)
  have d1 : decide ((1 : Int) < fv) = false := decide_eq_false (by omega)
  rw [hfv] at hp0
  have HR1 : Hid (Rd bs f 1) := Lib.hid (by rw [htw]; exact rd_tag (by rw [← htw]; exact hf0))
  have HTW := Lib.hid htw
  have hdl : (bs.drop 1).length = l - 1 := by rw [List.length_drop, hl]
  have hRB1 := hr.drop (l := 1) hl hlc
  obtain ⟨cu1, cu2⟩ := cutb_l (some ⟨b0, o0, none⟩) l c 1 1 rfl (by omega)
  have HN1 := Lib.hid (refread_any w (cutA (some ⟨b0, o0, none⟩) 1 c) (c - 1) (bs.drop 1) (l - 1) hdl (by omega) (by omega) hRB1)
  clear hl hr hf0 hRB1 htw hfv
  go_enter Try.func23, Try.ntmps23
  go_wp2_with (fail)
  refine HN1.out.mono ?_
  rintro e w1 ⟨n, a, rfl, hrd, hb1⟩
  have hal := hrd.le
  rw [hdl] at hal
  have HRD1 := Lib.hid hrd
  have HB1 := Lib.hid hb1
  have hnlt := hrd.lt
  clear hrd hb1 HN1
  by_cases ha : a = 0
  · have e1 : decide (a = 0) = true := decide_eq_true ha
    have e2 : decide ((a : Int) = 0) = true := decide_eq_true (by omega)
    have e3 : ((a : Int) == 0) = true := e2
    have HNO : Hid (Ps bs none) := Lib.hid fun items two _ h2 _ h => by
      obtain ⟨_, _, _, h3, _⟩ := ps_head HR1.out HRD1.out h2 h
      omega
    clear ha
    go_wp2
    go_ret3
    exact ⟨HB1.out, .inr ⟨HNO.out, rfl⟩⟩
  have e1 : decide (a = 0) = false := decide_eq_false ha
  have e2 : decide ((a : Int) = 0) = false := decide_eq_false (by omega)
  have e3 : ((a : Int) == 0) = false := e2
  by_cases hn : 262144 < n
  · have e4 : decide (262144 < n) = true := decide_eq_true hn
    have e5 : decide ((262144 : Int) < (n : Int)) = true := decide_eq_true (by omega)
    have HNO : Hid (Ps bs none) := Lib.hid fun items two _ h2 _ h => by
      obtain ⟨_, _, h3, _⟩ := ps_head HR1.out HRD1.out h2 h
      omega
    clear ha hn
    go_wp2
    go_ret3
    exact ⟨HB1.out, .inr ⟨HNO.out, rfl⟩⟩
  have e4 : decide (262144 < n) = false := decide_eq_false hn
  have e5 : decide ((262144 : Int) < (n : Int)) = false := decide_eq_false (by omega)
  have x1 : IntKind.i64.wrap (1 + (a : Int)) = 1 + (a : Int) := IntWalk.i64_in _ (by omega)
  obtain ⟨cu3, cu4⟩ := cutb_l (some ⟨b0, o0, none⟩) l c (1 + a) (1 + (a : Int)) (by omega) (by omega)
  have HNP : Hid (Nope two ((bs.drop 1).drop a) n → Ps bs none) := Lib.hid (fun h => nope_ps HR1.out HRD1.out HTW.out h)
  have HRP : Hid (∀ items rest, (bs.drop 1).drop a = body two 0 items ++ rest → Rs 0 items → Vd two items → items.length = n → rest ≠ [] → Ps bs none) := Lib.hid (fun items rest h1 h2 h3 h4 h5 => rest_ps HR1.out HRD1.out HTW.out h1 h2 h3 h4 h5)
  have HYS : Hid (∀ items, (bs.drop 1).drop a = body two 0 items → Rs 0 items → Vd two items → items.length = n → Ps bs (some (items, two))) := Lib.hid (fun items h1 h2 h3 h4 => ⟨ps_join HR1.out HRD1.out (by omega) (by omega) HTW.out h4 h1, h2, by omega, h3⟩)
  have hdd : (bs.drop 1).drop a = bs.drop (1 + a) := by rw [List.drop_drop]
  have HG0 : Hid (LG w w1 two ((bs.drop 1).drop a) 0 (.slice none 0 0) [] (cutA (some ⟨b0, o0, none⟩) (1 + a) c) (l - (1 + a)) (c - (1 + a)) ((bs.drop 1).drop a)) := Lib.hid ⟨by rw [hdd]; exact HR.out.drop HL.out hlc, by rw [hdd, List.length_drop, HL.out], by omega, rfl, trivial, (fun _ x hx => by cases hx), rfl, World.ownsRow_nil _ _ _ _⟩
  have hql : ((bs.drop 1).drop a).length ≤ 100000000 := by rw [hdd, List.length_drop, HL.out]; omega
  have hn9 : n ≤ 262144 := by omega
  clear hdd hdl ha hn HTW HR1
  generalize (bs.drop 1).drop a = qs at *
  go_wp2
  go_loopw [7, 8, 9] (fun rv vl j wr => ∃ i : Nat, i ≤ n ∧ j = .int .u64 i ∧ Hid (Below w.heap.size w wr) ∧ Hid (∃ items A1 l1 c1 rest, rv = .slice A1 l1 c1 ∧ LG w wr two qs i vl items A1 l1 c1 rest)) (fun _ _ j _ => n - (intOf j).toNat)
  case atStart => exact ⟨0, by omega, rfl, HB1, Lib.hid ⟨_, _, _, _, _, rfl, HG0.out⟩⟩
  case round =>
    obtain ⟨i, hin, rfl, HBW, HE⟩ := hrel
    obtain ⟨items, A1, l1, c1, rest, hrv, hG⟩ := HE.out
    obtain ⟨vl, hvl⟩ : ∃ v, v = u8 := ⟨_, rfl⟩
    subst hvl
    subst hrv
    have HG := Lib.hid hG
    have hcp := hG.cap
    have hl1 : l1 ≤ 100000000 := by
      have h1 := congrArg List.length hG.eq
      rw [List.length_append, hG.len] at h1
      omega
    by_cases hlt : i < n
    · have d3 : decide ((i : Int) < (n : Int)) = true := decide_eq_true (by omega)
      have wi : IntKind.u64.wrap ((i : Int) + 1) = (i : Int) + 1 := by rw [IntKind.wrap_u64]; omega
      have HN := Lib.hid (refread_any wr A1 c1 rest l1 hG.len hG.cap (by omega) ((hG.rb.below HBW.out (Nat.le_refl _)).more HBW.out.size))
      clear hG HE
      go_wp2_with (fail)
      refine HN.out.mono ?_
      rintro e w2 ⟨d, k, rfl, hrd, hb2⟩
      have hkl := hrd.le
      rw [HG.out.len] at hkl
      have hdlt := hrd.lt
      have HRD := Lib.hid hrd
      have HB2 := Lib.hid hb2
      have HBW2 := Lib.hid (HBW.out.trans (hb2.mono HBW.out.size))
      have hnxt : 0 < i → ∃ last, last < 18446744073709551616 ∧ nxt 0 items = last + 1 ∧ ∃ A9 c9, vl = .slice A9 i c9 ∧ ∃ b9 o9, A9 = some ⟨b9, o9, none⟩ ∧ b9 < wr.heap.size ∧ wr.cell? ⟨b9, o9 + (i - 1) * 2, none⟩ = some (.int .u64 (last : Int)) := fun h => by
        obtain ⟨i', rfl⟩ : ∃ i', i = i' + 1 := ⟨i - 1, by omega⟩
        have hc := HG.out.cnt
        have hlt' : i' < items.length := by omega
        have ho := HG.out.own
        rw [← hc] at ho
        obtain ⟨A9, c9, hv, hq, _⟩ := Pq.of_own ho
        obtain ⟨b9, o9, hA, hb, g0, _⟩ := hq.at hlt'
        refine ⟨items[i'].1, ?_, nxt_last hc hlt', A9, c9, by rw [← hc]; exact hv, b9, o9, hA, hb, by simpa using g0⟩
        have := HG.out.up
        rw [← List.take_append_drop i' items, rs_app] at this
        obtain ⟨_, h2⟩ := this
        rw [List.drop_eq_getElem_cons hlt'] at h2
        exact h2.2.1
      obtain ⟨v2, k3, hex⟩ := rd_ex (rest.drop k)
      have HEX := Lib.hid hex
      clear hrd hb2 HN hex
      by_cases hk : k = 0
      · have dk : decide (k = 0) = true := decide_eq_true hk
        have dk2 : decide ((k : Int) = 0) = true := decide_eq_true (by omega)
        have dk3 : ((k : Int) == 0) = true := dk2
        have HNO : Hid (Ps bs none) := Lib.hid (HNP.out (step_no (two := two) (v2 := v2) (k2 := k3) (ah := if i = 0 then 18446744073709551615 else nxt 0 items - 1) HG.out.eq HG.out.up HG.out.vd HG.out.cnt (fun h => if_pos h) (fun h => by rw [if_neg (by omega)]; obtain ⟨_, _, h2, _⟩ := hnxt h; omega) hlt HRD.out rfl (by
          split
          · omega
          · obtain ⟨_, _, h2, _⟩ := hnxt (by omega); omega) (fun _ => HEX.out) (.inl hk)))
        clear hk hnxt
        go_wp2
        go_ret3
        exact ⟨HBW2.out, .inr ⟨HNO.out, rfl⟩⟩
      have dk : decide (k = 0) = false := decide_eq_false hk
      have dk2 : decide ((k : Int) = 0) = false := decide_eq_false (by omega)
      have dk3 : ((k : Int) == 0) = false := dk2
      have hk0 : 0 < k := by omega
      obtain ⟨cv1, cv2⟩ := cutb_l A1 l1 c1 k k rfl hkl
      have HC : Hid (Rb w w.heap.size (cutA A1 k c1) (rest.drop k) ∧ (rest.drop k).length = l1 - k ∧ l1 - k ≤ c1 - k) := Lib.hid ⟨HG.out.rb.drop HG.out.len HG.out.cap, by rw [List.length_drop, HG.out.len], by omega⟩
      obtain ⟨W3, hW3⟩ : ∃ W, w2.alloc (.cells #[.int .u64 (d : Int), .int .u64 0] 39) = W := ⟨_, rfl⟩
      obtain ⟨X, hX⟩ : ∃ X, w2.heap.size = X := ⟨_, rfl⟩
      have HU3 : Hid (UN wr W3 X d 0) := Lib.hid (by
        rw [← hW3, ← hX]
        exact ⟨heap_alloc_new w2 _, (ButS.of_below HB2.out (Nat.le_refl _)).trans (but_alloc' w2 _ (fun _ => False)), HB2.out.size⟩)
      have gs0 := HU3.out.c0
      have gf0 := frozen_of_row W3 X 0 _ _ HU3.out.row
      have gs1 := HU3.out.c1
      have gf1 := frozen_of_row W3 X 1 _ _ HU3.out.row
      have hst : W3.setCell ⟨X, 1, none⟩ (.int .u64 0) = W3 := set_same HU3.out.row 1 _ (by simp)
      by_cases hi0 : i = 0
      · obtain ⟨ah, hahe⟩ : ∃ ah, ah = 18446744073709551615 := ⟨_, rfl⟩
        have HAF : Hid (i = 0 → ah = 18446744073709551615) := Lib.hid (fun _ => hahe)
        have HAN : Hid (0 < i → nxt 0 items = ah + 1) := Lib.hid (fun h => by omega)
        have hah : ah < 18446744073709551616 := by omega
        have HORD : Hid (¬ (0 < i ∧ d ≤ ah)) := Lib.hid (fun h => by omega)
        have HKEY : Hid (((ah + 1) % 18446744073709551616 + d) % 18446744073709551616 = d) := Lib.hid (by rw [hahe]; omega)
        have d5 : decide ((0 : Int) < (i : Int)) = false := decide_eq_false (by omega)
        have d6 : decide (0 < i) = false := decide_eq_false (by omega)
        have HU := HU3
        clear hi0 hahe hnxt gs0 gf0
        have hp1 : W3.cell? ⟨b0, o0, none⟩ = some (.int .u8 fv) := ((HU.out.bel HBW.out HBW.out.size).cell (p := ⟨b0, o0, none⟩) hb0).trans hp0
        have gx0 := HU.out.c0
        have gx1 := HU.out.c1
        have gz1 := frozen_of_row W3 X 1 _ _ HU.out.row
        cases htwo : two with
        | false =>
          have hft : (fv == 1) = false := by rw [HFT.out, htwo]
          have hft2 : decide (fv = 1) = false := by rw [← hft]; rfl
          have q1 : qs = body false 0 items ++ rest := by have := HG.out.eq; rw [htwo] at this; exact this
          have q2 : Vd false items := by have := HG.out.vd; rw [htwo] at this; exact this
          have HYP := Lib.hid (step_yes (two := false) (rest2 := rest.drop k) (val := 0) q1 HG.out.up q2 HG.out.cnt HAF.out HAN.out HRD.out hk0 HKEY.out HORD.out hah (by omega) (fun _ => rfl) (by simp))
          clear gx0 gx1 gz1
          have cx0 := HU.out.c0
          have cx1 := HU.out.c1
          have HOW := Lib.hid (HU.out.but.own HG.out.own (fun _ _ e => e))
          have HSZ := Lib.hid (Nat.le_trans HBW.out.size HU.out.but.size)
          go_wp2_with (at_builtin; refine wpList_append_own _ rfl _ _ 37 rfl w.heap.size 39 i0 (.agg #[.int .u64 0, .int .u64 0]) 2 16 Try.underlying37 hi hz0 hz1 hz2 rfl (by decide) _ _ _ rfl (HOW.out.alloc _) ⟨_, 0, none⟩ 1 1 [.int .u64 (d : Int), .int .u64 (0 : Int)] rfl rfl ?ta1 ?ta2 ?ta3 ?ta4 ?ta5 ?_)
          case ta1 => exact newsP _ _ (by simp) _ _ _
          case ta2 => exact fun u hu => int_oneP hu
          case ta3 => unfold maxLen; omega
          case ta4 => omega
          case ta5 => have := HSZ.out; simp at this ⊢; omega
          intro v' w9 hown' hgrow _
          have HO9 := Lib.hid (own_more hown')
          have HB9 := Lib.hid (HU.out.grow HBW.out HG.out.own hgrow)
          clear hown' hgrow cx0 cx1
          go_wp2
          go_roundw
          case rel => exact ⟨i + 1, by omega, by go_num, HB9, Lib.hid ⟨_, _, _, _, _, rfl, HC.out.1, HC.out.2.1, HC.out.2.2, by rw [htwo]; exact HYP.out.1, HYP.out.2.1, by rw [htwo]; exact HYP.out.2.2.1, by rw [List.length_append, HG.out.cnt]; rfl, HO9.out⟩⟩
          case measure => simp [intOf]; omega
        | true =>
          have hft : (fv == 1) = true := by rw [HFT.out, htwo]
          have hft2 : decide (fv = 1) = true := by rw [← hft]; rfl
          have HN2 := Lib.hid (refread_any W3 (cutA A1 k c1) (c1 - k) (rest.drop k) (l1 - k) HC.out.2.1 HC.out.2.2 (by omega) ((HC.out.1.below (HU.out.bel HBW.out HBW.out.size) (Nat.le_refl _)).more (Nat.le_trans HBW.out.size HU.out.but.size)))
          go_wp2_with (fail)
          refine HN2.out.mono ?_
          rintro e w3 ⟨val, k2, rfl, hrd2, hb3⟩
          have hk2l := hrd2.le
          rw [HC.out.2.1] at hk2l
          have HU3 := Lib.hid (HU.out.call hb3)
          have gz3 := frozen_of_row w3 X 1 _ _ HU3.out.row
          have gc3 := HU3.out.c1
          have hvlt := hrd2.lt
          obtain ⟨U4, hU4⟩ : ∃ W, w3.setCell ⟨X, 1, none⟩ (.int .u64 (val : Int)) = W := ⟨_, rfl⟩
          have HU4 : Hid (UN wr U4 X d val) := Lib.hid (by rw [← hU4]; exact HU3.out.set1 val)
          have HRD2 := Lib.hid hrd2
          clear hrd2 hb3 gx0 gx1 gz1 hp1
          by_cases hk2 : k2 = 0
          · have dk : decide (k2 = 0) = true := decide_eq_true hk2
            have dk2 : decide ((k2 : Int) = 0) = true := decide_eq_true (by omega)
            have dk3 : ((k2 : Int) == 0) = true := dk2
            have HNO : Hid (Ps bs none) := Lib.hid (HNP.out (step_no (two := two) (v2 := val) (k2 := k2) HG.out.eq HG.out.up HG.out.vd HG.out.cnt HAF.out HAN.out hlt HRD.out HKEY.out hah (fun _ => HRD2.out) (.inr (.inl ⟨htwo, hk2⟩))))
            clear hk2
            go_wp2
            go_ret3
            exact ⟨HU4.out.bel HBW.out HBW.out.size, .inr ⟨HNO.out, rfl⟩⟩
          · have dk : decide (k2 = 0) = false := decide_eq_false hk2
            have dk2 : decide ((k2 : Int) = 0) = false := decide_eq_false (by omega)
            have dk3 : ((k2 : Int) == 0) = false := dk2
            obtain ⟨cut1, cut2⟩ := cutb_l (cutA A1 k c1) (l1 - k) (c1 - k) k2 k2 rfl hk2l
            have HC2 : Hid (Rb w w.heap.size (cutA (cutA A1 k c1) k2 (c1 - k)) ((rest.drop k).drop k2) ∧ ((rest.drop k).drop k2).length = l1 - k - k2 ∧ l1 - k - k2 ≤ c1 - k - k2) := Lib.hid ⟨HC.out.1.drop HC.out.2.1 HC.out.2.2, by rw [List.length_drop, HC.out.2.1], by have := HC.out.2.2; omega⟩
            have q1 : qs = body true 0 items ++ rest := by have := HG.out.eq; rw [htwo] at this; exact this
            have q2 : Vd true items := by have := HG.out.vd; rw [htwo] at this; exact this
            have HYP := Lib.hid (step_yes (two := true) (rest2 := (rest.drop k).drop k2) (val := val) q1 HG.out.up q2 HG.out.cnt HAF.out HAN.out HRD.out hk0 HKEY.out HORD.out hah (by omega) (fun h => by cases h) (by simp only [if_true]; exact HRD2.out.rest (by omega)))
            clear HU HU3
            have HU := HU4
            have cx0 := HU.out.c0
            have cx1 := HU.out.c1
            have HOW := Lib.hid (HU.out.but.own HG.out.own (fun _ _ e => e))
            have HSZ := Lib.hid (Nat.le_trans HBW.out.size HU.out.but.size)
            go_wp2_with (at_builtin; refine wpList_append_own _ rfl _ _ 37 rfl w.heap.size 39 i0 (.agg #[.int .u64 0, .int .u64 0]) 2 16 Try.underlying37 hi hz0 hz1 hz2 rfl (by decide) _ _ _ rfl (HOW.out.alloc _) ⟨_, 0, none⟩ 1 1 [.int .u64 (d : Int), .int .u64 (val : Int)] rfl rfl ?tb1 ?tb2 ?tb3 ?tb4 ?tb5 ?_)
            case tb1 => exact newsP _ _ (by simp) _ _ _
            case tb2 => exact fun u hu => int_oneP hu
            case tb3 => unfold maxLen; omega
            case tb4 => omega
            case tb5 => have := HSZ.out; simp at this ⊢; omega
            intro v' w9 hown' hgrow _
            have HO9 := Lib.hid (own_more hown')
            have HB9 := Lib.hid (HU.out.grow HBW.out HG.out.own hgrow)
            clear hown' hgrow cx0 cx1
            go_wp2
            go_roundw
            case rel => exact ⟨i + 1, by omega, by go_num, HB9, Lib.hid ⟨_, _, _, _, _, rfl, HC2.out.1, HC2.out.2.1, HC2.out.2.2, by rw [htwo]; exact HYP.out.1, HYP.out.2.1, by rw [htwo]; exact HYP.out.2.2.1, by rw [List.length_append, HG.out.cnt]; rfl, HO9.out⟩⟩
            case measure => simp [intOf]; omega
      · obtain ⟨last, hll, hnl, A9, c9, rfl, b9, o9, rfl, hb9, hc9⟩ := hnxt (by omega)
        obtain ⟨i1, hi1⟩ : ∃ i1, i = i1 + 1 := ⟨i - 1, by omega⟩
        have d5 : decide ((0 : Int) < (i : Int)) = true := decide_eq_true (by omega)
        have d6 : decide (0 < i) = true := decide_eq_true (by omega)
        have x3 : IntKind.u64.wrap ((i : Int) - 1) = (i1 : Int) := by rw [IntKind.wrap_u64]; omega
        have hi2 : (i1 : Int) < (i : Int) := by omega
        have e9 : i - 1 = i1 := by omega
        rw [e9] at hc9
        have hc3 : W3.cell? ⟨b9, o9 + i1 * 2, none⟩ = some (.int .u64 (last : Int)) := (HU3.out.but.cell hb9 (fun e => e) _).trans hc9
        have hip : 0 < i := by omega
        obtain ⟨ky, hky⟩ : ∃ ky, ((last + 1) % 18446744073709551616 + d) % 18446744073709551616 = ky := ⟨_, rfl⟩
        have HNO : Hid (ky ≤ last → Ps bs none) := Lib.hid (fun h => HNP.out (step_no (two := two) (v2 := v2) (k2 := k3) (ah := last) HG.out.eq HG.out.up HG.out.vd HG.out.cnt (fun h => by omega) (fun _ => hnl) hlt HRD.out hky hll (fun _ => HEX.out) (.inr (.inr ⟨hip, h⟩))))
        clear hnxt hi1 e9 hc9
        by_cases hm : last = 18446744073709551615
        · have m1 : decide (last = 18446744073709551615) = true := decide_eq_true hm
          have m2 : decide ((last : Int) = 18446744073709551615) = true := decide_eq_true (by omega)
          have m3 : ((last : Int) == 18446744073709551615) = true := m2
          have HNO2 := Lib.hid (HNO.out (by subst hm; omega))
          clear hm hky
          go_wp2
          go_ret3
          exact ⟨HU3.out.bel HBW.out HBW.out.size, .inr ⟨HNO2.out, rfl⟩⟩
        have m1 : decide (last = 18446744073709551615) = false := decide_eq_false hm
        have m2 : decide ((last : Int) = 18446744073709551615) = false := decide_eq_false (by omega)
        have m3 : ((last : Int) == 18446744073709551615) = false := m2
        have x4 : IntKind.u64.wrap (18446744073709551615 - (last : Int)) = 18446744073709551615 - (last : Int) := by rw [IntKind.wrap_u64]; omega
        by_cases hd : 18446744073709551615 - last ≤ d
        · have m4 : decide (18446744073709551615 - (last : Int) ≤ (d : Int)) = true := decide_eq_true (by omega)
          have HNO2 := Lib.hid (HNO.out (by omega))
          clear hm hky hd
          go_wp2
          go_ret3
          exact ⟨HU3.out.bel HBW.out HBW.out.size, .inr ⟨HNO2.out, rfl⟩⟩
        have m4 : decide (18446744073709551615 - (last : Int) ≤ (d : Int)) = false := decide_eq_false (by omega)
        have hkk : ky = last + 1 + d := by omega
        have x5 : IntKind.u64.wrap ((last : Int) + 1) = (last : Int) + 1 := by rw [IntKind.wrap_u64]; omega
        have x6 : IntKind.u64.wrap ((last : Int) + 1 + (d : Int)) = (ky : Int) := by rw [IntKind.wrap_u64]; omega
        have HAF : Hid (i = 0 → last = 18446744073709551615) := Lib.hid (fun h => by omega)
        have HAN : Hid (0 < i → nxt 0 items = last + 1) := Lib.hid (fun _ => hnl)
        have hah := hll
        have HORD : Hid (¬ (0 < i ∧ ky ≤ last)) := Lib.hid (fun h => by omega)
        have HKEY := Lib.hid hky
        obtain ⟨W4, hW4⟩ : ∃ W, W3.setCell ⟨X, 0, none⟩ (.int .u64 (ky : Int)) = W := ⟨_, rfl⟩
        have HU : Hid (UN wr W4 X ky 0) := Lib.hid (by rw [← hW4]; exact HU3.out.set0 ky)
        clear hm hky hd hkk HNO hnl HU3
        have hp1 : W4.cell? ⟨b0, o0, none⟩ = some (.int .u8 fv) := ((HU.out.bel HBW.out HBW.out.size).cell (p := ⟨b0, o0, none⟩) hb0).trans hp0
        have gx0 := HU.out.c0
        have gx1 := HU.out.c1
        have gz1 := frozen_of_row W4 X 1 _ _ HU.out.row
        cases htwo : two with
        | false =>
          have hft : (fv == 1) = false := by rw [HFT.out, htwo]
          have hft2 : decide (fv = 1) = false := by rw [← hft]; rfl
          have q1 : qs = body false 0 items ++ rest := by have := HG.out.eq; rw [htwo] at this; exact this
          have q2 : Vd false items := by have := HG.out.vd; rw [htwo] at this; exact this
          have HYP := Lib.hid (step_yes (two := false) (rest2 := rest.drop k) (val := 0) q1 HG.out.up q2 HG.out.cnt HAF.out HAN.out HRD.out hk0 HKEY.out HORD.out hah (by omega) (fun _ => rfl) (by simp))
          clear gx0 gx1 gz1
          have cx0 := HU.out.c0
          have cx1 := HU.out.c1
          have HOW := Lib.hid (HU.out.but.own HG.out.own (fun _ _ e => e))
          have HSZ := Lib.hid (Nat.le_trans HBW.out.size HU.out.but.size)
          go_wp2_with (at_builtin; refine wpList_append_own _ rfl _ _ 37 rfl w.heap.size 39 i0 (.agg #[.int .u64 0, .int .u64 0]) 2 16 Try.underlying37 hi hz0 hz1 hz2 rfl (by decide) _ _ _ rfl (HOW.out.alloc _) ⟨_, 0, none⟩ 1 1 [.int .u64 (ky : Int), .int .u64 (0 : Int)] rfl rfl ?sa1 ?sa2 ?sa3 ?sa4 ?sa5 ?_)
          case sa1 => exact newsP _ _ (by simp) _ _ _
          case sa2 => exact fun u hu => int_oneP hu
          case sa3 => unfold maxLen; omega
          case sa4 => omega
          case sa5 => have := HSZ.out; simp at this ⊢; omega
          intro v' w9 hown' hgrow _
          have HO9 := Lib.hid (own_more hown')
          have HB9 := Lib.hid (HU.out.grow HBW.out HG.out.own hgrow)
          clear hown' hgrow cx0 cx1
          go_wp2
          go_roundw
          case rel => exact ⟨i + 1, by omega, by go_num, HB9, Lib.hid ⟨_, _, _, _, _, rfl, HC.out.1, HC.out.2.1, HC.out.2.2, by rw [htwo]; exact HYP.out.1, HYP.out.2.1, by rw [htwo]; exact HYP.out.2.2.1, by rw [List.length_append, HG.out.cnt]; rfl, HO9.out⟩⟩
          case measure => simp [intOf]; omega
        | true =>
          have hft : (fv == 1) = true := by rw [HFT.out, htwo]
          have hft2 : decide (fv = 1) = true := by rw [← hft]; rfl
          have HN2 := Lib.hid (refread_any W4 (cutA A1 k c1) (c1 - k) (rest.drop k) (l1 - k) HC.out.2.1 HC.out.2.2 (by omega) ((HC.out.1.below (HU.out.bel HBW.out HBW.out.size) (Nat.le_refl _)).more (Nat.le_trans HBW.out.size HU.out.but.size)))
          go_wp2_with (fail)
          refine HN2.out.mono ?_
          rintro e w3 ⟨val, k2, rfl, hrd2, hb3⟩
          have hk2l := hrd2.le
          rw [HC.out.2.1] at hk2l
          have HU3 := Lib.hid (HU.out.call hb3)
          have gz3 := frozen_of_row w3 X 1 _ _ HU3.out.row
          have gc3 := HU3.out.c1
          have hvlt := hrd2.lt
          obtain ⟨U4, hU4⟩ : ∃ W, w3.setCell ⟨X, 1, none⟩ (.int .u64 (val : Int)) = W := ⟨_, rfl⟩
          have HU4 : Hid (UN wr U4 X ky val) := Lib.hid (by rw [← hU4]; exact HU3.out.set1 val)
          have HRD2 := Lib.hid hrd2
          clear hrd2 hb3 gx0 gx1 gz1 hp1
          by_cases hk2 : k2 = 0
          · have dk : decide (k2 = 0) = true := decide_eq_true hk2
            have dk2 : decide ((k2 : Int) = 0) = true := decide_eq_true (by omega)
            have dk3 : ((k2 : Int) == 0) = true := dk2
            have HNO : Hid (Ps bs none) := Lib.hid (HNP.out (step_no (two := two) (v2 := val) (k2 := k2) HG.out.eq HG.out.up HG.out.vd HG.out.cnt HAF.out HAN.out hlt HRD.out HKEY.out hah (fun _ => HRD2.out) (.inr (.inl ⟨htwo, hk2⟩))))
            clear hk2
            go_wp2
            go_ret3
            exact ⟨HU4.out.bel HBW.out HBW.out.size, .inr ⟨HNO.out, rfl⟩⟩
          · have dk : decide (k2 = 0) = false := decide_eq_false hk2
            have dk2 : decide ((k2 : Int) = 0) = false := decide_eq_false (by omega)
            have dk3 : ((k2 : Int) == 0) = false := dk2
            obtain ⟨cut1, cut2⟩ := cutb_l (cutA A1 k c1) (l1 - k) (c1 - k) k2 k2 rfl hk2l
            have HC2 : Hid (Rb w w.heap.size (cutA (cutA A1 k c1) k2 (c1 - k)) ((rest.drop k).drop k2) ∧ ((rest.drop k).drop k2).length = l1 - k - k2 ∧ l1 - k - k2 ≤ c1 - k - k2) := Lib.hid ⟨HC.out.1.drop HC.out.2.1 HC.out.2.2, by rw [List.length_drop, HC.out.2.1], by have := HC.out.2.2; omega⟩
            have q1 : qs = body true 0 items ++ rest := by have := HG.out.eq; rw [htwo] at this; exact this
            have q2 : Vd true items := by have := HG.out.vd; rw [htwo] at this; exact this
            have HYP := Lib.hid (step_yes (two := true) (rest2 := (rest.drop k).drop k2) (val := val) q1 HG.out.up q2 HG.out.cnt HAF.out HAN.out HRD.out hk0 HKEY.out HORD.out hah (by omega) (fun h => by cases h) (by simp only [if_true]; exact HRD2.out.rest (by omega)))
            clear HU HU3
            have HU := HU4
            have cx0 := HU.out.c0
            have cx1 := HU.out.c1
            have HOW := Lib.hid (HU.out.but.own HG.out.own (fun _ _ e => e))
            have HSZ := Lib.hid (Nat.le_trans HBW.out.size HU.out.but.size)
            go_wp2_with (at_builtin; refine wpList_append_own _ rfl _ _ 37 rfl w.heap.size 39 i0 (.agg #[.int .u64 0, .int .u64 0]) 2 16 Try.underlying37 hi hz0 hz1 hz2 rfl (by decide) _ _ _ rfl (HOW.out.alloc _) ⟨_, 0, none⟩ 1 1 [.int .u64 (ky : Int), .int .u64 (val : Int)] rfl rfl ?sb1 ?sb2 ?sb3 ?sb4 ?sb5 ?_)
            case sb1 => exact newsP _ _ (by simp) _ _ _
            case sb2 => exact fun u hu => int_oneP hu
            case sb3 => unfold maxLen; omega
            case sb4 => omega
            case sb5 => have := HSZ.out; simp at this ⊢; omega
            intro v' w9 hown' hgrow _
            have HO9 := Lib.hid (own_more hown')
            have HB9 := Lib.hid (HU.out.grow HBW.out HG.out.own hgrow)
            clear hown' hgrow cx0 cx1
            go_wp2
            go_roundw
            case rel => exact ⟨i + 1, by omega, by go_num, HB9, Lib.hid ⟨_, _, _, _, _, rfl, HC2.out.1, HC2.out.2.1, HC2.out.2.2, by rw [htwo]; exact HYP.out.1, HYP.out.2.1, by rw [htwo]; exact HYP.out.2.2.1, by rw [List.length_append, HG.out.cnt]; rfl, HO9.out⟩⟩
            case measure => simp [intOf]; omega
    · have hin2 : i = n := by omega
      have d3 : decide ((i : Int) < (n : Int)) = false := decide_eq_false (by omega)
      subst hin2
      have hp1 : wr.cell? ⟨b0, o0, none⟩ = some (.int .u8 fv) := (HBW.out.cell (p := ⟨b0, o0, none⟩) hb0).trans hp0
      have hft := HFT.out
      have ho := hG.own
      obtain ⟨A9, c9, rfl⟩ := own_formP ho
      clear hG HE
      by_cases hz : l1 = 0
      · have z1 : decide ((0 : Int) < (l1 : Int)) = false := decide_eq_false (by omega)
        have z2 : decide (0 < l1) = false := decide_eq_false (by omega)
        have hre : rest = [] := List.eq_nil_of_length_eq_zero (by rw [HG.out.len]; exact hz)
        have HPS := Lib.hid (HYS.out items (by have := HG.out.eq; rwa [hre, List.append_nil] at this) HG.out.up HG.out.vd HG.out.cnt)
        have HCN := Lib.hid HG.out.cnt
        clear ho hre hz
        go_wp2
        go_quiet (fail)
        go_wp2
        go_ret3
        exact ⟨below_drewN HBW.out _, .inl ⟨items, two, A9, c9, HPS.out, (by rw [HCN.out]; rfl), (by rw [HCN.out]; exact HG.out.own)⟩⟩
      · have z1 : decide ((0 : Int) < (l1 : Int)) = true := decide_eq_true (by omega)
        have z2 : decide (0 < l1) = true := decide_eq_true (by omega)
        have HPS := Lib.hid (HRP.out items rest HG.out.eq HG.out.up HG.out.vd HG.out.cnt (fun e => by have := HG.out.len; rw [e] at this; simp at this; omega))
        clear ho hz
        go_wp2
        go_ret3
        exact ⟨HBW.out, .inr ⟨HPS.out, rfl⟩⟩
end E
end Go.Proofs.Ytclaejaicjmohaa
