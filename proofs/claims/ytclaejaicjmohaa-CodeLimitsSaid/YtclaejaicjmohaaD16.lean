
/- The pairs that a reader reads: pairs; the text walked. -/
import Derived.Test.YtclaejaicjmohaaD15
namespace Go.Proofs.Ytclaejaicjmohaa
set_option maxRecDepth 20000
open Go.RowKit
namespace E
theorem pair_info : (Try.prog.info? 39).map (fun i => (i.zero, i.size, i.bytes)) = some (some (.agg #[.int .u64 0, .int .u64 0]), 2, 16) := by kernel_rfl
theorem info_parts3 {o : Option TypeInfo} {z : Option Value} {s b : Nat} (h : o.map (fun i => (i.zero, i.size, i.bytes)) = some (z, s, b)) : ∃ i, o = some i ∧ i.zero = z ∧ i.size = s ∧ i.bytes = b := by
  cases o with
  | none => simp at h
  | some i =>
    simp only [Option.map_some, Option.some.injEq, Prod.mk.injEq] at h
    exact ⟨i, rfl, h.1, h.2.1, h.2.2⟩
theorem newsP (W : World) (g : Nat) (hg : g = W.heap.size) (a b : Value) (T : TypeId) : ∀ j u, [a, b][j]? = some u → (W.alloc (.cells #[a, b] T)).cell? ((⟨g, 0, none⟩ : Addr).add j) = some u := by
  subst hg
  intro j u h
  rw [add_off]
  match j, h with
  | 0, h => simp at h; subst h; simp
  | 1, h => simp at h; subst h; simp
theorem int_oneP {u : Value} {a b : Int} (h : u ∈ [Value.int .u64 a, Value.int .u64 b]) : u.oneCell' = true := by
  simp at h
  rcases h with rfl | rfl <;> rfl
/-- The loop goes well so far. -/
structure PG (w wr : World) (two : Bool) (B R : Nat) (bs : List Nat) (i ah : Nat) (vl : Value) (items : List (Nat × Nat)) (A : Option Addr) (l c : Nat) (rest : List Nat) : Prop where
  rs : RS wr R A l c false
  rb : Rb wr B A rest
  len : rest.length = l
  cap : l ≤ c
  eq : bs = body two 0 items ++ rest
  up : Rs 0 items
  vd : Vd two items
  cnt : items.length = i
  first : i = 0 → ah = 18446744073709551615
  next : 0 < i → nxt 0 items = ah + 1
  own : wr.ownsRow w.heap.size 39 2 vl i (pv items)
def PBd (wr : World) (two : Bool) (R : Nat) (bs : List Nat) (n : Nat) : Prop := (∃ A l c, RS wr R A l c true) ∧ Nope two bs n
theorem own_more {w : World} {base n : Nat} {v : Value} {gs : List (Nat × Nat)} {a b : Nat} (h : w.ownsRow base 39 2 v (n + 1) (pv gs ++ [.int .u64 (a : Int), .int .u64 (b : Int)])) : w.ownsRow base 39 2 v (n + 1) (pv (gs ++ [(a, b)])) := by
  rw [pv_append]
  exact h
theorem nxt_zero {items : List (Nat × Nat)} (h : items.length = 0) : nxt 0 items = 0 := by
  have : items = [] := List.eq_nil_of_length_eq_zero h
  subst this
  rfl
/-- What the next number (and value) says of what stands behind. -/
theorem step_yes {two : Bool} {bs rest rest2 : List Nat} {items : List (Nat × Nat)} {i ah d k key val : Nat} (hb : bs = body two 0 items ++ rest) (hu : Rs 0 items) (hv : Vd two items) (hc : items.length = i) (hf : i = 0 → ah = 18446744073709551615) (hn : 0 < i → nxt 0 items = ah + 1)
    (hrd : Rd rest d k) (hk : 0 < k) (hkey : ((ah + 1) % 18446744073709551616 + d) % 18446744073709551616 = key) (hord : ¬ (0 < i ∧ key ≤ ah)) (hah : ah < 18446744073709551616)
    (hval : val < 18446744073709551616) (h0 : two = false → val = 0) (hr : rest.drop k = (if two then enc val else []) ++ rest2) :
    bs = body two 0 (items ++ [(key, val)]) ++ rest2 ∧ Rs 0 (items ++ [(key, val)]) ∧ Vd two (items ++ [(key, val)]) ∧ nxt 0 (items ++ [(key, val)]) = key + 1 := by
  have hd := hrd.lt
  have hrest := hrd.rest hk
  have hkl : key < 18446744073709551616 := by rw [← hkey]; exact Nat.mod_lt _ (by omega)
  have e : nxt 0 items ≤ key ∧ key - nxt 0 items = d := by
    rcases Nat.eq_zero_or_pos i with h | h
    · have h1 := hf h
      rw [nxt_zero (by omega)]
      omega
    · rw [hn h]
      have : ¬ key ≤ ah := fun h2 => hord ⟨h, h2⟩
      omega
  obtain ⟨h1, h2, h3⟩ := more (x := (key, val)) (r := rest2) hb hu hv e.1 (by simpa using hkl) (by simpa using hval) h0 (by rw [e.2]; rw [← hr]; exact hrest)
  exact ⟨h1, h2, h3, nxt_snoc _ _ _⟩
theorem step_no {two : Bool} {bs rest : List Nat} {items : List (Nat × Nat)} {n i ah d k key v2 k2 : Nat} (hb : bs = body two 0 items ++ rest) (hu : Rs 0 items) (hv : Vd two items) (hc : items.length = i) (_hf : i = 0 → ah = 18446744073709551615) (hn : 0 < i → nxt 0 items = ah + 1) (hlt : i < n)
    (hrd : Rd rest d k) (hkey : ((ah + 1) % 18446744073709551616 + d) % 18446744073709551616 = key) (hah : ah < 18446744073709551616)
    (hrd2 : two = true → Rd (rest.drop k) v2 k2) (hno : k = 0 ∨ (two = true ∧ k2 = 0) ∨ (0 < i ∧ key ≤ ah)) : Nope two bs n := by
  intro l r h1 h2 h3 h
  obtain ⟨x, r', m1, m2, m3, m4⟩ := must hb hu hv (by omega) h1 h2 h3 h
  have hr1 := Rd.enc (n := x.1 - nxt 0 items) (by omega) ((if two then enc x.2 else []) ++ r')
  rw [← m4] at hr1
  obtain ⟨rfl, rfl⟩ := hrd.one hr1
  have hp := enc_pos (x.1 - nxt 0 items)
  rcases hno with h5 | ⟨h5, h6⟩ | ⟨h5, h6⟩
  · omega
  · subst h5
    have h7 := hrd2 rfl
    rw [m4, List.drop_left] at h7
    simp only [if_true] at h7
    have h8 := Rd.enc m3 r'
    obtain ⟨_, h9⟩ := h7.one h8
    have := enc_pos x.2
    omega
  · have := hn h5
    omega
/-- The world ahead of what is said of the pair at X. -/
structure UU (wr U : World) (B R X : Nat) (A : Option Addr) (l c : Nat) (bad : Bool) (key val : Nat) (rest : List Nat) : Prop where
  rs : RS U R A l c bad
  rb : Rb U B A rest
  row : U.heap[X]? = some (.cells #[.int .u64 (key : Int), .int .u64 (val : Int)] 39 (0, 0))
  but : ButS wr U (· = R)
  new : wr.heap.size ≤ X
  old : R < wr.heap.size
  low : B ≤ R
section
variable {w wr U : World} {B R X l c : Nat} {A : Option Addr} {bad : Bool} {key val : Nat} {rest : List Nat}
theorem UU.set (h : UU wr U B R X A l c bad key val rest) (b : Bool) : UU wr (U.setCell ⟨R, 1, none⟩ (.bool b)) B R X A l c b key val rest := by
  have hb := ButS.of_chg (chg_set U R 1 (.bool b) (· = R) rfl)
  have h1 := row_set h.rs 1 (.bool b)
  have hne : X ≠ R := by have := h.new; have := h.old; omega
  refine ⟨by simpa [RS] using h1, h.rb.but (Nat.le_trans h.low (by have := h.old; have := h.but.size; omega)) hb (fun j e => by have e2 : j = R := e; have := h.low; omega), (hb.block X (row_lt h.row) hne).trans h.row, h.but.trans hb, h.new, h.old, h.low⟩
theorem UU.c0 (h : UU wr U B R X A l c bad key val rest) : U.cell? ⟨X, 0, none⟩ = some (.int .u64 (key : Int)) := cell_of_row U X 0 _ _ (0, 0) h.row
theorem UU.c1 (h : UU wr U B R X A l c bad key val rest) : U.cell? ⟨X, 1, none⟩ = some (.int .u64 (val : Int)) := cell_of_row U X 1 _ _ (0, 0) h.row
theorem UU.grow {W9 : World} {vl : Value} {n : Nat} {xs : List Value} {o : Obj} (h : UU wr U B R X A l c bad key val rest) (hw : ButS w wr (· = R)) (hRw : R < w.heap.size) (ho : wr.ownsRow w.heap.size 39 2 vl n xs) (hg : (U.alloc o).grownBy W9 vl.ownBlock) :
    W9.cell? ⟨X, 0, none⟩ = some (.int .u64 (key : Int)) ∧ RS W9 R A l c bad ∧ ButS w W9 (· = R) ∧ Rb W9 B A rest := by
  have ha := but_alloc' U o (· = R)
  have hsz := h.but.size
  have hne : ∀ j, vl.ownBlock = some j → w.heap.size ≤ j ∧ j < wr.heap.size := fun j e => ho.lt j e
  have hgb : ButS (U.alloc o) W9 (fun j => vl.ownBlock = some j) := ButS.of_grown hg (fun j e => e)
  have hX : W9.heap[X]? = U.heap[X]? := by
    have h1 := ha.block X (row_lt h.row) (by have := h.new; have := h.old; intro e; have e2 : X = R := e; omega)
    have h2 := hgb.block X (Nat.lt_of_lt_of_le (row_lt h.row) ha.size) (fun e => by have := (hne X e).2; have := h.new; omega)
    exact h2.trans h1
  have hRr : W9.heap[R]? = U.heap[R]? := by
    have hlt := row_lt h.rs
    have h1 : (U.alloc o).heap[R]? = U.heap[R]? := (but_alloc' U o (fun _ => False)).block R hlt (fun e => e)
    have h2 := hgb.block R (Nat.lt_of_lt_of_le hlt ha.size) (fun e => by have := (hne R e).1; omega)
    exact h2.trans h1
  have hrow : ∀ S : Nat → Prop, (∀ j, w.heap.size ≤ j → j < wr.heap.size → S j) → ButS U W9 S := fun S hS => (but_alloc' U o S).trans (hgb.mono (fun j _ e => hS j (hne j e).1 (hne j e).2))
  have hbig : ButS w W9 (· = R) := (hw.trans h.but).then (hrow (fun j => w.heap.size ≤ j) (fun j h1 _ => h1)) (fun j hj => .inr hj)
  refine ⟨(cell_of_row W9 X 0 _ _ (0, 0) (hX.trans h.row)), hRr.trans h.rs, hbig, h.rb.but (Nat.le_trans h.low (by have := h.old; omega)) (hrow (fun j => w.heap.size ≤ j) (fun j h1 _ => h1)) (fun j hj => by have := h.low; have hj2 : w.heap.size ≤ j := hj; omega)⟩
end
set_option maxRecDepth 100000 in
set_option maxHeartbeats 8000000 in
theorem pairs_keys (w : World) (B R : Nat) (A : Option Addr) (l c : Nat) (bs : List Nat) (n : Nat) (hR : RS w R A l c false) (hBR : B ≤ R) (hr : Rb w B A bs) (hl : bs.length = l) (hlc : l ≤ c) (hl2 : l ≤ 100000000) (hb : ∀ x ∈ bs, x < 256) (hn : n ≤ 262144) :
    Calls Try.prog 32 #[.pointer (some ⟨R, 0, none⟩), .int .i64 (n : Int), .bool false] w fun e w' => ∃ v, e = .returned v ∧ ButS w w' (· = R) ∧ (((∃ A l c, RS w' R A l c true) ∧ Nope false bs n) ∨
      ∃ items rest A l c, RS w' R A l c false ∧ rest.length = l ∧ bs = body false 0 items ++ rest ∧ Rs 0 items ∧ Vd false items ∧ items.length = n ∧ w'.ownsRow w.heap.size 39 2 v n (pv items)) := by
  obtain ⟨i0, hi, hz0, hz1, hz2⟩ := info_parts3 pair_info
  have HBY := Lib.hid hb
  have hRw := row_lt hR
  have HLB := Lib.hid hl
  have HG0 := Lib.hid (PG.mk (w := w) (wr := w) (two := false) (B := B) (R := R) (bs := bs) (i := 0) (ah := 18446744073709551615) (vl := .slice none 0 0) (items := []) hR hr hl hlc rfl trivial (fun _ x hx => by cases hx) rfl (fun _ => rfl) (fun h => by omega) (World.ownsRow_nil _ _ _ _))
  clear hb hl hr hR
  go_enter Try.func32, Try.ntmps32
  go_wp2
  go_loopw [7, 8, 9] (fun vl a j wr => ∃ (i ah : Nat), i ≤ n ∧ j = .int .i64 i ∧ a = .int .u64 ah ∧ ah < 18446744073709551616 ∧ Hid (ButS w wr (· = R)) ∧ Hid ((∃ items A l c rest, PG w wr false B R bs i ah vl items A l c rest) ∨ PBd wr false R bs n)) (fun _ _ j _ => n - (intOf j).toNat)
  case atStart => exact ⟨0, 18446744073709551615, by omega, rfl, rfl, by omega, Lib.hid (ButS.refl _ _), Lib.hid (.inl ⟨[], A, l, c, bs, HG0.out⟩)⟩
  case round =>
    obtain ⟨i, ah, hin, rfl, rfl, hah, HBW, HE⟩ := hrel
    obtain ⟨vl, hvl⟩ : ∃ v, v = u7 := ⟨_, rfl⟩
    subst hvl
    rcases HE.out with ⟨items, A1, l1, c1, rest, hG⟩ | hBd
    · have HG := Lib.hid hG
      clear HE
      have hwr := HBW.out.size
      have f1 := cell_of_row wr R 1 _ _ (0, 0) hG.rs
      simp at f1
      have fz1 := frozen_of_row wr R 1 _ _ hG.rs
      by_cases hlt : i < n
      · have d0 : decide ((i : Int) < (n : Int)) = true := decide_eq_true (by omega)
        have wi : IntKind.i64.wrap ((i : Int) + 1) = (i : Int) + 1 := IntWalk.i64_in _ (by omega)
        have hlen1 : l1 ≤ 100000000 := by
          have h1 := congrArg List.length hG.eq
          rw [List.length_append, HLB.out, hG.len] at h1
          omega
        have hby1 : ∀ x ∈ rest, x < 256 := fun x hx => HBY.out x (by rw [hG.eq]; exact List.mem_append.2 (.inr hx))
        have HN := Lib.hid (rnum_any wr B R A1 l1 c1 false rest hG.rs hBR hG.rb hG.len hG.cap (by omega) hby1)
        have HBY1 := Lib.hid hby1
        have HOS : Hid (∀ k, vl.ownBlock = some k → ¬ k = R) := Lib.hid (fun k hk e => by have := (hG.own.lt k hk).1; omega)
        have hRr := row_lt hG.rs
        obtain ⟨a', ha'⟩ : ∃ a, (ah + 1) % 18446744073709551616 = a := ⟨_, rfl⟩
        have y0 : IntKind.u64.wrap ((ah : Int) + 1) = (a' : Int) := by rw [IntKind.wrap_u64]; omega
        clear hG hby1
        go_wp2_with (fail)
        refine HN.out.mono ?_
        rintro e w1 ⟨d, k, rfl, hrd, hrs1, hrb1, hbut1⟩
        simp only [Bool.false_or] at hrs1
        obtain ⟨key, hkey⟩ : ∃ key, (a' + d) % 18446744073709551616 = key := ⟨_, rfl⟩
        have y1 : IntKind.u64.wrap ((a' : Int) + (d : Int)) = (key : Int) := by rw [IntKind.wrap_u64]; omega
        have hkl := hrd.le
        rw [HG.out.len] at hkl
        have HKEY : Hid (((ah + 1) % 18446744073709551616 + d) % 18446744073709551616 = key) := Lib.hid (by rw [ha', hkey])
        have hkeylt : key < 18446744073709551616 := by rw [← hkey]; exact Nat.mod_lt _ (by omega)
        have HRD := Lib.hid hrd
        have hs1 := hbut1.size
        have ha1 := but_alloc' w1 (.cells #[.int .u64 (key : Int), .int .u64 0] 39) (· = R)
        have ha0 := but_alloc' w1 (.cells #[.int .u64 (key : Int), .int .u64 0] 39) (fun _ => False)
        obtain ⟨b2, hb2⟩ : ∃ b, decide (k = 0) = b := ⟨_, rfl⟩
        rw [hb2] at hrs1
        have hkp : b2 = false → 0 < k := fun h => by
          rw [h] at hb2
          have := of_decide_eq_false hb2
          omega
        have HU : Hid (UU wr (w1.alloc (.cells #[.int .u64 (key : Int), .int .u64 0] 39)) B R w1.heap.size (cutA A1 k c1) (l1 - k) (c1 - k) b2 key 0 (rest.drop k)) := Lib.hid ⟨hrs1.but ha0 (fun e => e), hrb1.but (by omega) ha0 (fun j e => e.elim), heap_alloc_new w1 _, hbut1.trans ha1, hs1, hRr, hBR⟩
        have HLR : Hid ((rest.drop k).length = l1 - k ∧ l1 - k ≤ c1 - k) := Lib.hid ⟨by rw [List.length_drop, HG.out.len], by have := HG.out.cap; omega⟩
        have HNO : Hid (b2 = true ∨ (0 < i ∧ key ≤ ah) → Nope false bs n) := Lib.hid (fun h => step_no (v2 := 0) (k2 := 0) HG.out.eq HG.out.up HG.out.vd HG.out.cnt HG.out.first HG.out.next hlt HRD.out HKEY.out hah (fun h => by cases h) (by
          rcases h with h | h
          · exact .inl (of_decide_eq_true (by rw [hb2]; exact h))
          · exact .inr (.inr h)))
        have HYE : Hid (b2 = false → ¬ (0 < i ∧ key ≤ ah) → bs = body false 0 (items ++ [(key, 0)]) ++ rest.drop k ∧ Rs 0 (items ++ [(key, 0)]) ∧ Vd false (items ++ [(key, 0)]) ∧ nxt 0 (items ++ [(key, 0)]) = key + 1) := Lib.hid (fun h1 h2 => step_yes HG.out.eq HG.out.up HG.out.vd HG.out.cnt HG.out.first HG.out.next HRD.out (hkp h1) HKEY.out h2 hah (by omega) (fun _ => rfl) (by simp))
        have g1 : (w1.alloc (.cells #[.int .u64 (key : Int), .int .u64 0] 39)).cell? ⟨R, 1, none⟩ = some (.bool b2) := cell_of_row _ R 1 _ _ (0, 0) HU.out.rs
        have gz := frozen_of_row _ R 1 _ _ HU.out.rs
        clear hrd hrs1 hrb1 hbut1 ha1 ha0 hb2 hkp hkey ha'
        cases b2
        · by_cases h0 : 0 < i
          · have e1 : decide ((0 : Int) < (i : Int)) = true := decide_eq_true (by omega)
            have e2 : decide (0 < i) = true := decide_eq_true h0
            by_cases h1 : key ≤ ah
            · have e3 : decide ((key : Int) ≤ (ah : Int)) = true := decide_eq_true (by omega)
              have e4 : decide (key ≤ ah) = true := decide_eq_true h1
              have HNP := Lib.hid (HNO.out (.inr ⟨h0, h1⟩))
              have HV := Lib.hid (HU.out.set true)
              have cx0 := HV.out.c0
              have cx1 := HV.out.c1
              have HOW := Lib.hid (HV.out.but.own HG.out.own HOS.out)
              have HSZ := Lib.hid (Nat.le_trans HBW.out.size HV.out.but.size)
              go_wp2_with (at_builtin; refine wpList_append_own _ rfl _ _ 37 rfl w.heap.size 39 i0 (.agg #[.int .u64 0, .int .u64 0]) 2 16 Try.underlying37 hi hz0 hz1 hz2 rfl (by decide) _ _ _ rfl (HOW.out.alloc _) ⟨_, 0, none⟩ 1 1 [.int .u64 (key : Int), .int .u64 0] rfl rfl ?a1 ?a2 ?a3 ?a4 ?a5 ?_)
              case a1 => exact newsP _ _ (by simp) _ _ _
              case a2 => exact fun u hu => int_oneP hu
              case a3 => unfold maxLen; omega
              case a4 => omega
              case a5 => have := HSZ.out; simp at this ⊢; omega
              intro v' w9 hown' hgrow _
              have HO9 := Lib.hid (own_more hown')
              obtain ⟨cy0, hR9, hb9, hrb9⟩ := HV.out.grow HBW.out hRw HG.out.own hgrow
              have HB9 := Lib.hid hb9
              have HR9 := Lib.hid hR9
              have HRB9 := Lib.hid hrb9
              clear hown' hgrow hb9 hR9 hrb9 cx0 cx1
              go_wp2
              go_roundw
              case rel => exact ⟨i + 1, key, by omega, by go_num, rfl, hkeylt, HB9, Lib.hid (.inr ⟨⟨_, _, _, HR9.out⟩, HNP.out⟩)⟩
              case measure => simp [intOf]; omega
            · have e3 : decide ((key : Int) ≤ (ah : Int)) = false := decide_eq_false (by omega)
              have e4 : decide (key ≤ ah) = false := decide_eq_false h1
              have HYP := Lib.hid (HYE.out rfl (fun h => h1 h.2))
              have HV := Lib.hid (HU.out.set false)
              have cx0 := HV.out.c0
              have cx1 := HV.out.c1
              have HOW := Lib.hid (HV.out.but.own HG.out.own HOS.out)
              have HSZ := Lib.hid (Nat.le_trans HBW.out.size HV.out.but.size)
              go_wp2_with (at_builtin; refine wpList_append_own _ rfl _ _ 37 rfl w.heap.size 39 i0 (.agg #[.int .u64 0, .int .u64 0]) 2 16 Try.underlying37 hi hz0 hz1 hz2 rfl (by decide) _ _ _ rfl (HOW.out.alloc _) ⟨_, 0, none⟩ 1 1 [.int .u64 (key : Int), .int .u64 0] rfl rfl ?b1 ?b2 ?b3 ?b4 ?b5 ?_)
              case b1 => exact newsP _ _ (by simp) _ _ _
              case b2 => exact fun u hu => int_oneP hu
              case b3 => unfold maxLen; omega
              case b4 => omega
              case b5 => have := HSZ.out; simp at this ⊢; omega
              intro v' w9 hown' hgrow _
              have HO9 := Lib.hid (own_more hown')
              obtain ⟨cy0, hR9, hb9, hrb9⟩ := HV.out.grow HBW.out hRw HG.out.own hgrow
              have HB9 := Lib.hid hb9
              have HR9 := Lib.hid hR9
              have HRB9 := Lib.hid hrb9
              clear hown' hgrow hb9 hR9 hrb9 cx0 cx1
              go_wp2
              go_roundw
              case rel => exact ⟨i + 1, key, by omega, by go_num, rfl, hkeylt, HB9, Lib.hid (.inl ⟨_, _, _, _, _, ⟨HR9.out, HRB9.out, HLR.out.1, HLR.out.2, HYP.out.1, HYP.out.2.1, HYP.out.2.2.1, by rw [List.length_append, HG.out.cnt]; rfl, (fun h => by omega), (fun _ => HYP.out.2.2.2), HO9.out⟩⟩)⟩
              case measure => simp [intOf]; omega
          · have e1 : decide ((0 : Int) < (i : Int)) = false := decide_eq_false (by omega)
            have e2 : decide (0 < i) = false := decide_eq_false h0
            have HYP := Lib.hid (HYE.out rfl (fun h => h0 h.1))
            have HV := Lib.hid (HU.out.set false)
            have cx0 := HV.out.c0
            have cx1 := HV.out.c1
            have HOW := Lib.hid (HV.out.but.own HG.out.own HOS.out)
            have HSZ := Lib.hid (Nat.le_trans HBW.out.size HV.out.but.size)
            go_wp2_with (at_builtin; refine wpList_append_own _ rfl _ _ 37 rfl w.heap.size 39 i0 (.agg #[.int .u64 0, .int .u64 0]) 2 16 Try.underlying37 hi hz0 hz1 hz2 rfl (by decide) _ _ _ rfl (HOW.out.alloc _) ⟨_, 0, none⟩ 1 1 [.int .u64 (key : Int), .int .u64 0] rfl rfl ?c1 ?c2 ?c3 ?c4 ?c5 ?_)
            case c1 => exact newsP _ _ (by simp) _ _ _
            case c2 => exact fun u hu => int_oneP hu
            case c3 => unfold maxLen; omega
            case c4 => omega
            case c5 => have := HSZ.out; simp at this ⊢; omega
            intro v' w9 hown' hgrow _
            have HO9 := Lib.hid (own_more hown')
            obtain ⟨cy0, hR9, hb9, hrb9⟩ := HV.out.grow HBW.out hRw HG.out.own hgrow
            have HB9 := Lib.hid hb9
            have HR9 := Lib.hid hR9
            have HRB9 := Lib.hid hrb9
            clear hown' hgrow hb9 hR9 hrb9 cx0 cx1
            go_wp2
            go_roundw
            case rel => exact ⟨i + 1, key, by omega, by go_num, rfl, hkeylt, HB9, Lib.hid (.inl ⟨_, _, _, _, _, ⟨HR9.out, HRB9.out, HLR.out.1, HLR.out.2, HYP.out.1, HYP.out.2.1, HYP.out.2.2.1, by rw [List.length_append, HG.out.cnt]; rfl, (fun h => by omega), (fun _ => HYP.out.2.2.2), HO9.out⟩⟩)⟩
            case measure => simp [intOf]; omega
        · have HNP := Lib.hid (HNO.out (.inl rfl))
          have HV := Lib.hid (HU.out.set true)
          have cx0 := HV.out.c0
          have cx1 := HV.out.c1
          have HOW := Lib.hid (HV.out.but.own HG.out.own HOS.out)
          have HSZ := Lib.hid (Nat.le_trans HBW.out.size HV.out.but.size)
          go_wp2_with (at_builtin; refine wpList_append_own _ rfl _ _ 37 rfl w.heap.size 39 i0 (.agg #[.int .u64 0, .int .u64 0]) 2 16 Try.underlying37 hi hz0 hz1 hz2 rfl (by decide) _ _ _ rfl (HOW.out.alloc _) ⟨_, 0, none⟩ 1 1 [.int .u64 (key : Int), .int .u64 0] rfl rfl ?d1 ?d2 ?d3 ?d4 ?d5 ?_)
          case d1 => exact newsP _ _ (by simp) _ _ _
          case d2 => exact fun u hu => int_oneP hu
          case d3 => unfold maxLen; omega
          case d4 => omega
          case d5 => have := HSZ.out; simp at this ⊢; omega
          intro v' w9 hown' hgrow _
          have HO9 := Lib.hid (own_more hown')
          obtain ⟨cy0, hR9, hb9, hrb9⟩ := HV.out.grow HBW.out hRw HG.out.own hgrow
          have HB9 := Lib.hid hb9
          have HR9 := Lib.hid hR9
          have HRB9 := Lib.hid hrb9
          clear hown' hgrow hb9 hR9 hrb9 cx0 cx1
          go_wp2
          go_roundw
          case rel => exact ⟨i + 1, key, by omega, by go_num, rfl, hkeylt, HB9, Lib.hid (.inr ⟨⟨_, _, _, HR9.out⟩, HNP.out⟩)⟩
          case measure => simp [intOf]; omega
      · have hin2 : i = n := by omega
        have d0 : decide ((i : Int) < (n : Int)) = false := decide_eq_false (by omega)
        subst hin2
        go_wp2
        go_ret
        exact ⟨vl, rfl, HBW.out, .inr ⟨items, rest, A1, l1, c1, HG.out.rs, HG.out.len, HG.out.eq, HG.out.up, HG.out.vd, HG.out.cnt, HG.out.own⟩⟩
    · obtain ⟨⟨A2, l2, c2, hrb⟩, hno⟩ := hBd
      have HNP := Lib.hid hno
      have HRB := Lib.hid hrb
      have f1 := cell_of_row wr R 1 _ _ (0, 0) hrb
      simp at f1
      clear HE hno hrb
      by_cases hlt : i < n
      · have d0 : decide ((i : Int) < (n : Int)) = true := decide_eq_true (by omega)
        go_wp2
        go_ret
        exact ⟨vl, rfl, HBW.out, .inl ⟨⟨A2, l2, c2, HRB.out⟩, HNP.out⟩⟩
      · have d0 : decide ((i : Int) < (n : Int)) = false := decide_eq_false (by omega)
        go_wp2
        go_ret
        exact ⟨vl, rfl, HBW.out, .inl ⟨⟨A2, l2, c2, HRB.out⟩, HNP.out⟩⟩
set_option maxRecDepth 100000 in
set_option maxHeartbeats 8000000 in
theorem pairs_vals (w : World) (B R : Nat) (A : Option Addr) (l c : Nat) (bs : List Nat) (n : Nat) (hR : RS w R A l c false) (hBR : B ≤ R) (hr : Rb w B A bs) (hl : bs.length = l) (hlc : l ≤ c) (hl2 : l ≤ 100000000) (hb : ∀ x ∈ bs, x < 256) (hn : n ≤ 262144) :
    Calls Try.prog 32 #[.pointer (some ⟨R, 0, none⟩), .int .i64 (n : Int), .bool true] w fun e w' => ∃ v, e = .returned v ∧ ButS w w' (· = R) ∧ (((∃ A l c, RS w' R A l c true) ∧ Nope true bs n) ∨
      ∃ items rest A l c, RS w' R A l c false ∧ rest.length = l ∧ bs = body true 0 items ++ rest ∧ Rs 0 items ∧ Vd true items ∧ items.length = n ∧ w'.ownsRow w.heap.size 39 2 v n (pv items)) := by
  obtain ⟨i0, hi, hz0, hz1, hz2⟩ := info_parts3 pair_info
  have HBY := Lib.hid hb
  have hRw := row_lt hR
  have HLB := Lib.hid hl
  have HG0 := Lib.hid (PG.mk (w := w) (wr := w) (two := true) (B := B) (R := R) (bs := bs) (i := 0) (ah := 18446744073709551615) (vl := .slice none 0 0) (items := []) hR hr hl hlc rfl trivial (fun _ x hx => by cases hx) rfl (fun _ => rfl) (fun h => by omega) (World.ownsRow_nil _ _ _ _))
  clear hb hl hr hR
  go_enter Try.func32, Try.ntmps32
  go_wp2
  go_loopw [7, 8, 9] (fun vl a j wr => ∃ (i ah : Nat), i ≤ n ∧ j = .int .i64 i ∧ a = .int .u64 ah ∧ ah < 18446744073709551616 ∧ Hid (ButS w wr (· = R)) ∧ Hid ((∃ items A l c rest, PG w wr true B R bs i ah vl items A l c rest) ∨ PBd wr true R bs n)) (fun _ _ j _ => n - (intOf j).toNat)
  case atStart => exact ⟨0, 18446744073709551615, by omega, rfl, rfl, by omega, Lib.hid (ButS.refl _ _), Lib.hid (.inl ⟨[], A, l, c, bs, HG0.out⟩)⟩
  case round =>
    obtain ⟨i, ah, hin, rfl, rfl, hah, HBW, HE⟩ := hrel
    obtain ⟨vl, hvl⟩ : ∃ v, v = u7 := ⟨_, rfl⟩
    subst hvl
    rcases HE.out with ⟨items, A1, l1, c1, rest, hG⟩ | hBd
    · have HG := Lib.hid hG
      clear HE
      have hwr := HBW.out.size
      have f1 := cell_of_row wr R 1 _ _ (0, 0) hG.rs
      simp at f1
      have fz1 := frozen_of_row wr R 1 _ _ hG.rs
      by_cases hlt : i < n
      · have d0 : decide ((i : Int) < (n : Int)) = true := decide_eq_true (by omega)
        have wi : IntKind.i64.wrap ((i : Int) + 1) = (i : Int) + 1 := IntWalk.i64_in _ (by omega)
        have hlen1 : l1 ≤ 100000000 := by
          have h1 := congrArg List.length hG.eq
          rw [List.length_append, HLB.out, hG.len] at h1
          omega
        have hby1 : ∀ x ∈ rest, x < 256 := fun x hx => HBY.out x (by rw [hG.eq]; exact List.mem_append.2 (.inr hx))
        have HN := Lib.hid (rnum_any wr B R A1 l1 c1 false rest hG.rs hBR hG.rb hG.len hG.cap (by omega) hby1)
        have HBY1 := Lib.hid hby1
        have HOS : Hid (∀ k, vl.ownBlock = some k → ¬ k = R) := Lib.hid (fun k hk e => by have := (hG.own.lt k hk).1; omega)
        have hRr := row_lt hG.rs
        obtain ⟨a', ha'⟩ : ∃ a, (ah + 1) % 18446744073709551616 = a := ⟨_, rfl⟩
        have y0 : IntKind.u64.wrap ((ah : Int) + 1) = (a' : Int) := by rw [IntKind.wrap_u64]; omega
        clear hG hby1
        go_wp2_with (fail)
        refine HN.out.mono ?_
        rintro e w1 ⟨d, k, rfl, hrd, hrs1, hrb1, hbut1⟩
        simp only [Bool.false_or] at hrs1
        obtain ⟨key, hkey⟩ : ∃ key, (a' + d) % 18446744073709551616 = key := ⟨_, rfl⟩
        have y1 : IntKind.u64.wrap ((a' : Int) + (d : Int)) = (key : Int) := by rw [IntKind.wrap_u64]; omega
        have hkl := hrd.le
        rw [HG.out.len] at hkl
        have HKEY : Hid (((ah + 1) % 18446744073709551616 + d) % 18446744073709551616 = key) := Lib.hid (by rw [ha', hkey])
        have hkeylt : key < 18446744073709551616 := by rw [← hkey]; exact Nat.mod_lt _ (by omega)
        have HRD := Lib.hid hrd
        have hs1 := hbut1.size
        have ha1 := but_alloc' w1 (.cells #[.int .u64 (key : Int), .int .u64 0] 39) (· = R)
        have ha0 := but_alloc' w1 (.cells #[.int .u64 (key : Int), .int .u64 0] 39) (fun _ => False)
        obtain ⟨b1, hb1⟩ : ∃ b, decide (k = 0) = b := ⟨_, rfl⟩
        rw [hb1] at hrs1
        have hkp : b1 = false → 0 < k := fun h => by
          rw [h] at hb1
          have := of_decide_eq_false hb1
          omega
        have hrsU := hrs1.but ha0 (fun e => e)
        have hrbU := hrb1.but (by omega) ha0 (fun j e => e.elim)
        have hrwU := heap_alloc_new w1 (.cells #[.int .u64 (key : Int), .int .u64 0] 39)
        have hsU : (w1.alloc (.cells #[.int .u64 (key : Int), .int .u64 0] 39)).heap.size = w1.heap.size + 1 := by simp
        have HN2 := Lib.hid (rnum_any _ B R (cutA A1 k c1) (l1 - k) (c1 - k) b1 (rest.drop k) hrsU hBR hrbU (by rw [List.length_drop, HG.out.len]) (by have := HG.out.cap; omega) (by omega) (fun x hx => HBY1.out x (List.mem_of_mem_drop hx)))
        go_wp2_with (fail)
        refine HN2.out.mono ?_
        rintro e w3 ⟨val, k2, rfl, hrd2, hrs3, hrb3, hbut3⟩
        obtain ⟨b2, hb2⟩ : ∃ b, (b1 || decide (k2 = 0)) = b := ⟨_, rfl⟩
        rw [hb2] at hrs3
        have hk2l := hrd2.le
        rw [List.length_drop, HG.out.len] at hk2l
        have hXR : w1.heap.size ≠ R := by omega
        have hrow3 := (hbut3.block w1.heap.size (by omega) hXR).trans hrwU
        have hset := ButS.of_chg (chg_set w3 w1.heap.size 1 (.int .u64 (val : Int)) (· = w1.heap.size) rfl)
        have hrs4 := hrs3.but hset (fun e => hXR e.symm)
        have hrb4 := hrb3.but (by have := hbut3.size; omega) hset (fun j e => by have e2 : j = w1.heap.size := e; omega)
        have hrow4 := row_set hrow3 1 (.int .u64 (val : Int))
        have hbutA := ((hbut1.trans ha1).trans hbut3).then hset (fun j e => .inr (by have e2 : j = w1.heap.size := e; omega))
        have HU : Hid (UU wr (w3.setCell ⟨w1.heap.size, 1, none⟩ (.int .u64 (val : Int))) B R w1.heap.size (cutA (cutA A1 k c1) k2 (c1 - k)) (l1 - k - k2) (c1 - k - k2) b2 key val ((rest.drop k).drop k2)) := Lib.hid ⟨hrs4, hrb4, by simpa using hrow4, hbutA, hs1, hRr, hBR⟩
        have HLR : Hid (((rest.drop k).drop k2).length = l1 - k - k2 ∧ l1 - k - k2 ≤ c1 - k - k2) := Lib.hid ⟨by rw [List.length_drop, List.length_drop, HG.out.len], by have := HG.out.cap; omega⟩
        have HNO : Hid (b2 = true ∨ (0 < i ∧ key ≤ ah) → Nope true bs n) := Lib.hid (fun h => step_no (v2 := val) (k2 := k2) HG.out.eq HG.out.up HG.out.vd HG.out.cnt HG.out.first HG.out.next hlt HRD.out HKEY.out hah (fun _ => hrd2) (by
          rcases h with h | h
          · rw [h, ← hb1, Bool.or_eq_true, decide_eq_true_eq, decide_eq_true_eq] at hb2
            rcases hb2 with h | h
            · exact .inl h
            · exact .inr (.inl ⟨rfl, h⟩)
          · exact .inr (.inr h)))
        have hkp2 : b2 = false → 0 < k ∧ 0 < k2 := fun h => by
          rw [h, ← hb1, Bool.or_eq_false_iff, decide_eq_false_iff_not, decide_eq_false_iff_not] at hb2
          omega
        have hrest2 := fun h => hrd2.rest (hkp2 h).2
        have HYE : Hid (b2 = false → ¬ (0 < i ∧ key ≤ ah) → bs = body true 0 (items ++ [(key, val)]) ++ (rest.drop k).drop k2 ∧ Rs 0 (items ++ [(key, val)]) ∧ Vd true (items ++ [(key, val)]) ∧ nxt 0 (items ++ [(key, val)]) = key + 1) := Lib.hid (fun h1 h2 => step_yes HG.out.eq HG.out.up HG.out.vd HG.out.cnt HG.out.first HG.out.next HRD.out (hkp2 h1).1 HKEY.out h2 hah (by have := hrd2.lt; omega) (fun h => by cases h) (by simp only [if_true]; exact hrest2 h1))
        have g1 : (w3.setCell ⟨w1.heap.size, 1, none⟩ (.int .u64 (val : Int))).cell? ⟨R, 1, none⟩ = some (.bool b2) := cell_of_row _ R 1 _ _ (0, 0) HU.out.rs
        have gz := frozen_of_row _ R 1 _ _ HU.out.rs
        have gk : (w3.setCell ⟨w1.heap.size, 1, none⟩ (.int .u64 (val : Int))).cell? ⟨w1.heap.size, 0, none⟩ = some (.int .u64 (key : Int)) := HU.out.c0
        have gx := frozen_of_row w3 w1.heap.size 1 _ _ hrow3
        have gc : w3.cell? ⟨w1.heap.size, 1, none⟩ = some (.int .u64 0) := cell_of_row w3 w1.heap.size 1 _ _ (0, 0) hrow3
        clear hrd hrs1 hrb1 hbut1 ha1 ha0 hb1 hb2 hkp hkp2 hrest2 hkey ha' hrsU hrbU hrwU HN2 hrd2 hrs3 hrb3 hbut3 hrow3 hset hrs4 hrb4 hrow4 hbutA hXR
        cases b2
        · by_cases h0 : 0 < i
          · have e1 : decide ((0 : Int) < (i : Int)) = true := decide_eq_true (by omega)
            have e2 : decide (0 < i) = true := decide_eq_true h0
            by_cases h1 : key ≤ ah
            · have e3 : decide ((key : Int) ≤ (ah : Int)) = true := decide_eq_true (by omega)
              have e4 : decide (key ≤ ah) = true := decide_eq_true h1
              have HNP := Lib.hid (HNO.out (.inr ⟨h0, h1⟩))
              have HV := Lib.hid (HU.out.set true)
              have cx0 := HV.out.c0
              have cx1 := HV.out.c1
              have HOW := Lib.hid (HV.out.but.own HG.out.own HOS.out)
              have HSZ := Lib.hid (Nat.le_trans HBW.out.size HV.out.but.size)
              go_wp2_with (at_builtin; refine wpList_append_own _ rfl _ _ 37 rfl w.heap.size 39 i0 (.agg #[.int .u64 0, .int .u64 0]) 2 16 Try.underlying37 hi hz0 hz1 hz2 rfl (by decide) _ _ _ rfl (HOW.out.alloc _) ⟨_, 0, none⟩ 1 1 [.int .u64 (key : Int), .int .u64 (val : Int)] rfl rfl ?a1 ?a2 ?a3 ?a4 ?a5 ?_)
              case a1 => exact newsP _ _ (by simp) _ _ _
              case a2 => exact fun u hu => int_oneP hu
              case a3 => unfold maxLen; omega
              case a4 => omega
              case a5 => have := HSZ.out; simp at this ⊢; omega
              intro v' w9 hown' hgrow _
              have HO9 := Lib.hid (own_more hown')
              obtain ⟨cy0, hR9, hb9, hrb9⟩ := HV.out.grow HBW.out hRw HG.out.own hgrow
              have HB9 := Lib.hid hb9
              have HR9 := Lib.hid hR9
              have HRB9 := Lib.hid hrb9
              clear hown' hgrow hb9 hR9 hrb9 cx0 cx1
              go_wp2
              go_roundw
              case rel => exact ⟨i + 1, key, by omega, by go_num, rfl, hkeylt, HB9, Lib.hid (.inr ⟨⟨_, _, _, HR9.out⟩, HNP.out⟩)⟩
              case measure => simp [intOf]; omega
            · have e3 : decide ((key : Int) ≤ (ah : Int)) = false := decide_eq_false (by omega)
              have e4 : decide (key ≤ ah) = false := decide_eq_false h1
              have HYP := Lib.hid (HYE.out rfl (fun h => h1 h.2))
              have HV := Lib.hid (HU.out.set false)
              have cx0 := HV.out.c0
              have cx1 := HV.out.c1
              have HOW := Lib.hid (HV.out.but.own HG.out.own HOS.out)
              have HSZ := Lib.hid (Nat.le_trans HBW.out.size HV.out.but.size)
              go_wp2_with (at_builtin; refine wpList_append_own _ rfl _ _ 37 rfl w.heap.size 39 i0 (.agg #[.int .u64 0, .int .u64 0]) 2 16 Try.underlying37 hi hz0 hz1 hz2 rfl (by decide) _ _ _ rfl (HOW.out.alloc _) ⟨_, 0, none⟩ 1 1 [.int .u64 (key : Int), .int .u64 (val : Int)] rfl rfl ?b1 ?b2 ?b3 ?b4 ?b5 ?_)
              case b1 => exact newsP _ _ (by simp) _ _ _
              case b2 => exact fun u hu => int_oneP hu
              case b3 => unfold maxLen; omega
              case b4 => omega
              case b5 => have := HSZ.out; simp at this ⊢; omega
              intro v' w9 hown' hgrow _
              have HO9 := Lib.hid (own_more hown')
              obtain ⟨cy0, hR9, hb9, hrb9⟩ := HV.out.grow HBW.out hRw HG.out.own hgrow
              have HB9 := Lib.hid hb9
              have HR9 := Lib.hid hR9
              have HRB9 := Lib.hid hrb9
              clear hown' hgrow hb9 hR9 hrb9 cx0 cx1
              go_wp2
              go_roundw
              case rel => exact ⟨i + 1, key, by omega, by go_num, rfl, hkeylt, HB9, Lib.hid (.inl ⟨_, _, _, _, _, ⟨HR9.out, HRB9.out, HLR.out.1, HLR.out.2, HYP.out.1, HYP.out.2.1, HYP.out.2.2.1, by rw [List.length_append, HG.out.cnt]; rfl, (fun h => by omega), (fun _ => HYP.out.2.2.2), HO9.out⟩⟩)⟩
              case measure => simp [intOf]; omega
          · have e1 : decide ((0 : Int) < (i : Int)) = false := decide_eq_false (by omega)
            have e2 : decide (0 < i) = false := decide_eq_false h0
            have HYP := Lib.hid (HYE.out rfl (fun h => h0 h.1))
            have HV := Lib.hid (HU.out.set false)
            have cx0 := HV.out.c0
            have cx1 := HV.out.c1
            have HOW := Lib.hid (HV.out.but.own HG.out.own HOS.out)
            have HSZ := Lib.hid (Nat.le_trans HBW.out.size HV.out.but.size)
            go_wp2_with (at_builtin; refine wpList_append_own _ rfl _ _ 37 rfl w.heap.size 39 i0 (.agg #[.int .u64 0, .int .u64 0]) 2 16 Try.underlying37 hi hz0 hz1 hz2 rfl (by decide) _ _ _ rfl (HOW.out.alloc _) ⟨_, 0, none⟩ 1 1 [.int .u64 (key : Int), .int .u64 (val : Int)] rfl rfl ?c1 ?c2 ?c3 ?c4 ?c5 ?_)
            case c1 => exact newsP _ _ (by simp) _ _ _
            case c2 => exact fun u hu => int_oneP hu
            case c3 => unfold maxLen; omega
            case c4 => omega
            case c5 => have := HSZ.out; simp at this ⊢; omega
            intro v' w9 hown' hgrow _
            have HO9 := Lib.hid (own_more hown')
            obtain ⟨cy0, hR9, hb9, hrb9⟩ := HV.out.grow HBW.out hRw HG.out.own hgrow
            have HB9 := Lib.hid hb9
            have HR9 := Lib.hid hR9
            have HRB9 := Lib.hid hrb9
            clear hown' hgrow hb9 hR9 hrb9 cx0 cx1
            go_wp2
            go_roundw
            case rel => exact ⟨i + 1, key, by omega, by go_num, rfl, hkeylt, HB9, Lib.hid (.inl ⟨_, _, _, _, _, ⟨HR9.out, HRB9.out, HLR.out.1, HLR.out.2, HYP.out.1, HYP.out.2.1, HYP.out.2.2.1, by rw [List.length_append, HG.out.cnt]; rfl, (fun h => by omega), (fun _ => HYP.out.2.2.2), HO9.out⟩⟩)⟩
            case measure => simp [intOf]; omega
        · have HNP := Lib.hid (HNO.out (.inl rfl))
          have HV := Lib.hid (HU.out.set true)
          have cx0 := HV.out.c0
          have cx1 := HV.out.c1
          have HOW := Lib.hid (HV.out.but.own HG.out.own HOS.out)
          have HSZ := Lib.hid (Nat.le_trans HBW.out.size HV.out.but.size)
          go_wp2_with (at_builtin; refine wpList_append_own _ rfl _ _ 37 rfl w.heap.size 39 i0 (.agg #[.int .u64 0, .int .u64 0]) 2 16 Try.underlying37 hi hz0 hz1 hz2 rfl (by decide) _ _ _ rfl (HOW.out.alloc _) ⟨_, 0, none⟩ 1 1 [.int .u64 (key : Int), .int .u64 (val : Int)] rfl rfl ?d1 ?d2 ?d3 ?d4 ?d5 ?_)
          case d1 => exact newsP _ _ (by simp) _ _ _
          case d2 => exact fun u hu => int_oneP hu
          case d3 => unfold maxLen; omega
          case d4 => omega
          case d5 => have := HSZ.out; simp at this ⊢; omega
          intro v' w9 hown' hgrow _
          have HO9 := Lib.hid (own_more hown')
          obtain ⟨cy0, hR9, hb9, hrb9⟩ := HV.out.grow HBW.out hRw HG.out.own hgrow
          have HB9 := Lib.hid hb9
          have HR9 := Lib.hid hR9
          have HRB9 := Lib.hid hrb9
          clear hown' hgrow hb9 hR9 hrb9 cx0 cx1
          go_wp2
          go_roundw
          case rel => exact ⟨i + 1, key, by omega, by go_num, rfl, hkeylt, HB9, Lib.hid (.inr ⟨⟨_, _, _, HR9.out⟩, HNP.out⟩)⟩
          case measure => simp [intOf]; omega
      · have hin2 : i = n := by omega
        have d0 : decide ((i : Int) < (n : Int)) = false := decide_eq_false (by omega)
        subst hin2
        go_wp2
        go_ret
        exact ⟨vl, rfl, HBW.out, .inr ⟨items, rest, A1, l1, c1, HG.out.rs, HG.out.len, HG.out.eq, HG.out.up, HG.out.vd, HG.out.cnt, HG.out.own⟩⟩
    · obtain ⟨⟨A2, l2, c2, hrb⟩, hno⟩ := hBd
      have HNP := Lib.hid hno
      have HRB := Lib.hid hrb
      have f1 := cell_of_row wr R 1 _ _ (0, 0) hrb
      simp at f1
      clear HE hno hrb
      by_cases hlt : i < n
      · have d0 : decide ((i : Int) < (n : Int)) = true := decide_eq_true (by omega)
        go_wp2
        go_ret
        exact ⟨vl, rfl, HBW.out, .inl ⟨⟨A2, l2, c2, HRB.out⟩, HNP.out⟩⟩
      · have d0 : decide ((i : Int) < (n : Int)) = false := decide_eq_false (by omega)
        go_wp2
        go_ret
        exact ⟨vl, rfl, HBW.out, .inl ⟨⟨A2, l2, c2, HRB.out⟩, HNP.out⟩⟩
end E
end Go.Proofs.Ytclaejaicjmohaa
