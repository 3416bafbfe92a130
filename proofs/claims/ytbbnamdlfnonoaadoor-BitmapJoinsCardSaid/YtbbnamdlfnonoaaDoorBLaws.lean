
/- The laws BitmapInverse and BitmapAsks, walked. -/
import Derived.Test.YtbbnamdlfnonoaaDoorBAwake
namespace Go.Proofs.YtbbnamdlfnonoaaDoor
open Go.RowKit
/-- What stays while one only asks. -/
structure KB (w0 w : World) (p s h g n : Nat) (ws : List Nat) (bs : List Bool) : Prop where
  bb : BB w p s h g n ws bs
  tab : Tab w
  low : Below w0.heap.size w0 w
theorem KB.drew {w0 w : World} {p s h g n : Nat} {ws : List Nat} {bs : List Bool} (k : KB w0 w p s h g n ws bs) (m : Nat) : KB w0 (w.drewN m) p s h g n ws bs := ⟨k.bb.drew m, k.tab.drew m, below_drewN k.low m⟩
namespace M
theorem len_two {α : Type} (l : List α) (p : α → Bool) : l.length = (l.filter p).length + (l.filter fun x => !p x).length := by
  induction l with
  | nil => rfl
  | cons a l ih => cases h : p a <;> simp [h] <;> omega
theorem has_no {l : List Int} {t : Int} (h : ∀ y ∈ l, t < y) : rHas l t = false := by
  unfold rHas
  rw [List.any_eq_false]
  intro y hy he
  have := h y hy
  simp at he; omega
/-- How many stand in a range. -/
theorem range_len {l : List Int} (hl : l.Pairwise (· < ·)) {f t : Int} (hft : f ≤ t) : (l.filter fun y => decide (f ≤ y ∧ y ≤ t)).length + rRank l f = rRank l t + if rHas l t then 1 else 0 := by
  unfold rRank
  induction l with
  | nil => simp [rHas]
  | cons a l ih =>
    rw [List.pairwise_cons] at hl
    have ih := ih hl.2
    have hh : rHas (a :: l) t = ((a == t) || rHas l t) := by simp [rHas]
    rw [hh]
    rcases Int.lt_trichotomy a t with h | h | h
    · have e : (a == t) = false := by simp; omega
      rw [e, Bool.false_or]
      by_cases hf : a < f
      · have e1 : decide (f ≤ a ∧ a ≤ t) = false := decide_eq_false (by omega)
        have e2 : decide (a < f) = true := decide_eq_true hf
        have e3 : decide (a < t) = true := decide_eq_true h
        simp only [List.filter_cons, e1, e2, e3, Bool.false_eq_true, if_false, if_true, List.length_cons]
        omega
      · have e1 : decide (f ≤ a ∧ a ≤ t) = true := decide_eq_true (by omega)
        have e2 : decide (a < f) = false := decide_eq_false hf
        have e3 : decide (a < t) = true := decide_eq_true h
        simp only [List.filter_cons, e1, e2, e3, Bool.false_eq_true, if_false, if_true, List.length_cons]
        omega
    · subst h
      have hn : rHas l a = false := has_no hl.1
      have e : (a == a) = true := by simp
      have e1 : decide (f ≤ a ∧ a ≤ a) = true := decide_eq_true (by omega)
      have e2 : decide (a < f) = false := decide_eq_false (by omega)
      have e3 : decide (a < a) = false := decide_eq_false (by omega)
      rw [hn] at ih ⊢
      simp only [List.filter_cons, e, e1, e2, e3, Bool.false_eq_true, if_false, if_true, List.length_cons, Bool.or_false] at ih ⊢
      omega
    · have hn : rHas l t = false := has_no (fun y hy => by have := hl.1 y hy; omega)
      have e : (a == t) = false := by simp; omega
      have e1 : decide (f ≤ a ∧ a ≤ t) = false := decide_eq_false (by omega)
      have e2 : decide (a < f) = false := decide_eq_false (by omega)
      have e3 : decide (a < t) = false := decide_eq_false (by omega)
      rw [hn] at ih ⊢
      simp only [List.filter_cons, e, e1, e2, e3, Bool.false_eq_true, if_false, Bool.or_false] at ih ⊢
      exact ih
theorem wipe_n {l l' : List Int} (hl : l.Pairwise (· < ·)) {f t : Int} {n : Nat} (hft : f ≤ t) (h : Chg false l l' f t n) : n + rRank l f = rRank l t + if rHas l t then 1 else 0 := by
  rw [← range_len hl hft]
  have h1 := h.2.2
  rw [if_neg (by decide)] at h1
  have h2 := len_two l (fun y => decide (f ≤ y ∧ y ≤ t))
  have e : (l.filter fun y => !decide (f ≤ y ∧ y ≤ t)) = l' := by
    refine sorted_ext (hl.filter _) h.1 fun y => ?_
    rw [h.2.1 y, List.mem_filter]
    by_cases hr : f ≤ y ∧ y ≤ t
    · rw [if_pos hr]; simp [hr]
    · rw [if_neg hr]; simp [hr]
  rw [e] at h2
  omega
theorem fill_n {l l' m : List Int} {f t : Nat} {n k : Nat} (hft : f ≤ t) (h : Chg false l l' f t n) (h' : Chg true l' m f t k) : k = t - f + 1 := by
  have h1 := h'.2.2
  rw [if_pos rfl] at h1
  have h2 := len_two m (fun y => decide ((f : Int) ≤ y ∧ y ≤ (t : Int)))
  have e : (m.filter fun y => !decide ((f : Int) ≤ y ∧ y ≤ (t : Int))) = l' := by
    refine sorted_ext (h'.1.filter _) h.1 fun y => ?_
    rw [List.mem_filter, h'.2.1 y]
    by_cases hr : (f : Int) ≤ y ∧ y ≤ (t : Int)
    · rw [if_pos hr, h.2.1 y, if_pos hr]; simp [hr]
    · rw [if_neg hr]; simp [hr]
  have e2 : (m.filter fun y => decide ((f : Int) ≤ y ∧ y ≤ (t : Int))) = (List.range (t - f + 1)).map fun i => ((f + i : Nat) : Int) := by
    refine sorted_ext (h'.1.filter _) ?_ fun y => ?_
    · rw [List.pairwise_map]
      refine List.Pairwise.imp ?_ (List.pairwise_lt_range (n := t - f + 1))
      intro a b h; omega
    · rw [List.mem_filter, h'.2.1 y, List.mem_map]
      constructor
      · rintro ⟨_, hr⟩
        have hr : (f : Int) ≤ y ∧ y ≤ (t : Int) := by simpa using hr
        exact ⟨(y - f).toNat, List.mem_range.2 (by omega), by omega⟩
      · rintro ⟨i, hi, rfl⟩
        rw [List.mem_range] at hi
        rw [if_pos (by omega)]
        exact ⟨rfl, by simp; omega⟩
  rw [e, e2, List.length_map, List.length_range] at h2
  omega
end M
theorem rank_top {w : World} {p s h : Nat} {ws : List Nat} (a : Bm w p s h ws) (v : Int) : M.rRank (sl ws) v ≤ 65536 := by
  have h1 : M.rRank (sl ws) v ≤ (sl ws).length := List.length_filter_le _ _
  have h2 := M.up_len (sl_up ws) (xs := (List.range 65536).map fun i : Nat => (i : Int)) (fun y hy => by
    have := a.range hy
    exact List.mem_map.2 ⟨y.toNat, List.mem_range.2 (by omega), by omega⟩)
  rw [List.length_map, List.length_range] at h2
  omega
theorem len_top {w : World} {p s h : Nat} {ws : List Nat} (a : Bm w p s h ws) : (sl ws).length ≤ 65536 := by
  have h2 := M.up_len (sl_up ws) (xs := (List.range 65536).map fun i : Nat => (i : Int)) (fun y hy => by
    have := a.range hy
    exact List.mem_map.2 ⟨y.toNat, List.mem_range.2 (by omega), by omega⟩)
  rw [List.length_map, List.length_range] at h2
  exact h2
section
variable {w0 w : World} {p s h g n : Nat} {ws : List Nat} {bs : List Bool}
theorem kb_rank (k : KB w0 w p s h g n ws bs) (v : Nat) (hv : v ≤ 65535) (r : Nat) (hr : M.rRank (sl ws) (v : Int) = r) :
    Calls Tryd.prog 23 #[.pointer (some ⟨p, 0, none⟩), .int .u16 (v : Int)] w fun e w' => e = .returned (.int .i64 (r : Int)) ∧ KB w0 w' p s h g n ws bs := by
  subst hr
  exact (b_rank k.bb.bm v hv).mono fun e w' ⟨h1, m, h2⟩ => ⟨h1, by rw [h2]; exact k.drew m⟩
theorem kb_has (k : KB w0 w p s h g n ws bs) (v : Nat) (hv : v ≤ 65535) (r : Bool) (hr : M.rHas (sl ws) (v : Int) = r) :
    Calls Tryd.prog 17 #[.pointer (some ⟨p, 0, none⟩), .int .u16 (v : Int)] w fun e w' => e = .returned (.bool r) ∧ KB w0 w' p s h g n ws bs := by
  subst hr
  exact (b_has k.bb.bm v hv).mono fun e w' ⟨h1, h2⟩ => ⟨h1, by rw [← h2]; exact k⟩
theorem kb_len (k : KB w0 w p s h g n ws bs) (r : Nat) (hr : (sl ws).length = r) :
    Calls Tryd.prog 13 #[.pointer (some ⟨p, 0, none⟩)] w fun e w' => e = .returned (.int .i64 (r : Int)) ∧ KB w0 w' p s h g n ws bs := by
  subst hr
  exact (b_len k.bb.bm).mono fun e w' ⟨h1, m, h2⟩ => ⟨h1, by rw [h2]; exact k.drew m⟩
theorem kb_select (k : KB w0 w p s h g n ws bs) (i : Int) (hi : i ≤ 9223372036854775807) (v : Value) (hv : numV (M.rSel (sl ws) i) = v) :
    Calls Tryd.prog 25 #[.pointer (some ⟨p, 0, none⟩), .int .i64 i] w fun e w' => e = .returned v ∧ KB w0 w' p s h g n ws bs := by
  subst hv
  exact (b_select k.bb.bm k.tab i hi).mono fun e w' ⟨h1, m, h2⟩ => ⟨h1, by rw [h2]; exact k.drew m⟩
/-- What is left behind a change. -/
def Changed (o : Bool) (w0 : World) (p s h : Nat) (l : List Int) (f t : Int) (n : Nat) (w' : World) : Prop :=
  ∃ us, M.Chg o l (sl us) f t n ∧ Bm w' p s h us ∧ Below w0.heap.size w0 w'
theorem kb_wipe (hlow : Below w0.heap.size w0 w) (b : Bm w p s h ws) (hh : w0.heap.size ≤ h) (f t : Nat) (hf : f ≤ 65535) (ht : t ≤ 65535) (r : Nat) (hr : ∀ l' n, M.Chg false (sl ws) l' (f : Int) (t : Int) n → n = r) :
    Calls Tryd.prog 28 #[.pointer (some ⟨p, 0, none⟩), .int .u16 (f : Int), .int .u16 (t : Int)] w fun e w' => e = .returned (.int .i64 (r : Int)) ∧ Changed false w0 p s h (sl ws) (f : Int) (t : Int) r w' := by
  refine (b_wipe b f t hf ht).mono ?_
  rintro e w' ⟨m, rfl, hst⟩
  have hb := bstep_below hst (B := w0.heap.size) hlow.size hh
  obtain ⟨us, hc, hm, hg⟩ := hst
  obtain rfl := hr _ _ hc
  exact ⟨rfl, us, hc, hm, hlow.trans hb⟩
theorem kb_fill (hlow : Below w0.heap.size w0 w) (b : Bm w p s h ws) (hh : w0.heap.size ≤ h) (f t : Nat) (hf : f ≤ 65535) (ht : t ≤ 65535) (r : Nat) (hr : ∀ l' n, M.Chg true (sl ws) l' (f : Int) (t : Int) n → n = r) :
    Calls Tryd.prog 27 #[.pointer (some ⟨p, 0, none⟩), .int .u16 (f : Int), .int .u16 (t : Int)] w fun e w' => e = .returned (.int .i64 (r : Int)) ∧ Changed true w0 p s h (sl ws) (f : Int) (t : Int) r w' := by
  refine (b_fill b f t hf ht).mono ?_
  rintro e w' ⟨m, rfl, hst⟩
  have hb := bstep_below hst (B := w0.heap.size) hlow.size hh
  obtain ⟨us, hc, hm, hg⟩ := hst
  obtain rfl := hr _ _ hc
  exact ⟨rfl, us, hc, hm, hlow.trans hb⟩
end
set_option maxRecDepth 100000 in
set_option maxHeartbeats 4000000 in
theorem law_inverse (P : Option Addr) (cp : Nat) (xs : List AcB) (k : Int) (hk2 : k ≤ 9223372036854775807) (f t : Nat) (hf : f ≤ 65535) (ht : t ≤ 65535) (w : World) (hT : Tab w) (hr : Rk w w.heap.size P xs) (hl : xs.length ≤ 9223372036854775807) :
    Calls Tryd.prog 7 #[.slice P xs.length cp, .int .i64 k, .int .u16 (f : Int), .int .u16 (t : Int)] w fun e w' => e = .returned (.bool true) ∧ Below w.heap.size w w' := by
  have hrH := Lib.hid hr
  have hTH := Lib.hid hT
  clear hr hT
  have wf := i64_small f hf
  have wt := i64_small t ht
  go_enter Tryd.func7, Tryd.ntmps7
  go_wp2_with (go_at_call 8; (with_reducible refine (awake_any _ hTH.out).mono ?_); rintro e w1 ⟨rfl, hb1⟩; have hB1 := Lib.hid hb1; clear hb1)
  go_wp2_with (go_at_call 9; (with_reducible refine (lay_any _ P cp xs (hrH.out.later hB1.out) hl).mono ?_); rintro e w2 ⟨p, s, h, g, n, us, cs, rfl, hbb, hp1, hs1, hh1, hg1, hb2⟩
               have hz1 := hB1.out.size
               have HLOW := Lib.hid (hB1.out.trans (hb2.mono hz1))
               have HK : Hid (KB w w2 p s h g n us cs) := ⟨hbb, hTH.out.below (hB1.out.trans (hb2.mono hz1)) hTH.out.pos, hB1.out.trans (hb2.mono hz1)⟩
               clear hbb hb2)
  have hup := sl_up us
  have hUP := Lib.hid hup
  have hLL := len_top HK.out.bb.bm
  have hnn : ∀ v, M.rRank (sl us) v ≤ 65536 := fun v => rank_top HK.out.bb.bm v
  have hNN := Lib.hid hnn
  have hx0 : Hid (∀ y ∈ sl us, 0 ≤ y ∧ y ≤ 65535) := fun y hy => HK.out.bb.bm.range hy
  have hhw : w.heap.size ≤ h := by omega
  clear hup hnn
  by_cases hneg : M.rSel (sl us) k < 0
  · have hkk : k < 0 ∨ ((sl us).length : Int) ≤ k := by
      by_cases hkk : k < 0 ∨ ((sl us).length : Int) ≤ k
      · exact hkk
      · exfalso
        unfold M.rSel at hneg
        rw [if_neg (by omega)] at hneg
        have hlt : k.toNat < (sl us).length := by omega
        rw [List.getElem?_eq_getElem hlt] at hneg
        have := (hx0.out _ (List.getElem_mem hlt)).1
        simp at hneg; omega
    have hsel : Hid (numV (M.rSel (sl us) k) = .tuple #[.int .u16 0, .bool false]) := by show _ = _; unfold numV; rw [if_pos hneg]
    clear hneg
    by_cases h0 : k < 0
    · have d0 : decide (0 ≤ k) = false := decide_eq_false (by omega)
      clear hkk
      by_cases hsw : t < f
      · have hS1 : decide ((t : Int) < (f : Int)) = true := decide_eq_true (by omega)
        have hS2 : decide (t < f) = true := decide_eq_true hsw
        go_wp2_with (go_at_call 25; (with_reducible refine (kb_select HK.out k hk2 _ hsel.out).mono ?_); rintro e w3 ⟨rfl, hk3⟩; have HK := Lib.hid hk3; clear hk3)
        obtain ⟨a, ha⟩ : ∃ a, M.rRank (sl us) (f : Int) = a := ⟨_, rfl⟩
        obtain ⟨b, hb⟩ : ∃ b, M.rRank (sl us) (t : Int) = b := ⟨_, rfl⟩
        obtain ⟨c, hc⟩ : ∃ c, M.rHas (sl us) (f : Int) = c := ⟨_, rfl⟩
        have ha9 : a ≤ 65536 := by rw [← ha]; exact hNN.out _
        have hb9 : b ≤ 65536 := by rw [← hb]; exact hNN.out _
        have hWn : Hid (∀ l' m, M.Chg false (sl us) l' (t : Int) (f : Int) m → m + b = a + if c then 1 else 0) := fun l' m h => by have := M.wipe_n hUP.out (by omega) h; rw [ha, hb, hc] at this; exact this
        have HA := Lib.hid ha
        have HB := Lib.hid hb
        have HC := Lib.hid hc
        clear ha hb hc
        have wab : IntKind.i64.wrap ((a : Int) - (b : Int)) = (a : Int) - (b : Int) := IntWalk.i64_in _ (by omega)
        have wab1 : IntKind.i64.wrap ((a : Int) - (b : Int) + 1) = (a : Int) - (b : Int) + 1 := IntWalk.i64_in _ (by omega)
        have wtf : IntKind.i64.wrap ((f : Int) - (t : Int)) = (f : Int) - (t : Int) := IntWalk.i64_in _ (by omega)
        have wtf1 : IntKind.i64.wrap ((f : Int) - (t : Int) + 1) = (f : Int) - (t : Int) + 1 := IntWalk.i64_in _ (by omega)
        have hrT : ∀ W, KB w W p s h g n us cs → Hid (Calls Tryd.prog 23 #[.pointer (some ⟨p, 0, none⟩), .int .u16 (f : Int)] W fun e w' => e = .returned (.int .i64 (a : Int)) ∧ KB w w' p s h g n us cs) := fun W hW => kb_rank hW f hf a HA.out
        have hrF : ∀ W, KB w W p s h g n us cs → Hid (Calls Tryd.prog 23 #[.pointer (some ⟨p, 0, none⟩), .int .u16 (t : Int)] W fun e w' => e = .returned (.int .i64 (b : Int)) ∧ KB w w' p s h g n us cs) := fun W hW => kb_rank hW t ht b HB.out
        have hhT : ∀ W, KB w W p s h g n us cs → Hid (Calls Tryd.prog 17 #[.pointer (some ⟨p, 0, none⟩), .int .u16 (f : Int)] W fun e w' => e = .returned (.bool c) ∧ KB w w' p s h g n us cs) := fun W hW => kb_has hW f hf c HC.out
        cases c
        · have hRN : Hid (∀ l' m, M.Chg false (sl us) l' (t : Int) (f : Int) m → m = (a - b)) := fun l' m h => by have h1 := hWn.out l' m h; simp at h1; omega
          have hRI : Hid (∀ l' m, M.Chg false (sl us) l' (t : Int) (f : Int) m → ((m : Nat) : Int) = (a : Int) - (b : Int)) := fun l' m h => by have h1 := hWn.out l' m h; simp at h1; omega
          go_wp2_with (first
            | (go_at_call 23; (with_reducible refine (hrT _ HK.out).out.mono ?_); rintro e w5 ⟨rfl, hk5⟩; have HK := Lib.hid hk5; clear hk5)
            | (go_at_call 23; (with_reducible refine (hrF _ HK.out).out.mono ?_); rintro e w5 ⟨rfl, hk5⟩; have HK := Lib.hid hk5; clear hk5)
            | (go_at_call 17; (with_reducible refine (hhT _ HK.out).out.mono ?_); rintro e w5 ⟨rfl, hk5⟩; have HK := Lib.hid hk5; clear hk5)
            | (go_at_call 28; (with_reducible refine (kb_wipe HK.out.low HK.out.bb.bm hhw t f ht hf (a - b) hRN.out).mono ?_); rintro e w6 ⟨rfl, us2, hch, hm6, hl6⟩
               have hT7 : (((((a - b) : Nat)) : Int) == (a : Int) - (b : Int)) = true := by rw [beq_iff_eq]; exact hRI.out _ _ hch
               have HFN : Hid (∀ l' m, M.Chg true (sl us2) l' (t : Int) (f : Int) m → m = f - t + 1) := fun l' m h' => M.fill_n (by omega) hch h'
               have HM6 := Lib.hid hm6
               have HL6 := Lib.hid hl6
               have hT8 : (((f - t + 1 : Nat) : Int) == (f : Int) - (t : Int) + 1) = true := by rw [beq_iff_eq]; omega
               generalize (a - b) = rr at *
               obtain ⟨tf, htf⟩ : ∃ x, f - t + 1 = x := ⟨_, rfl⟩
               rw [htf] at hT8 HFN
               clear hch hm6 hl6 htf)
            | (go_at_call 27; (with_reducible refine (kb_fill HL6.out HM6.out hhw t f ht hf tf HFN.out).mono ?_); rintro e w7 ⟨rfl, _, _, _, hl7⟩; have HL7 := Lib.hid hl7; clear hl7))
          go_ret
          exact ⟨rfl, HL7.out⟩
        · have hRN : Hid (∀ l' m, M.Chg false (sl us) l' (t : Int) (f : Int) m → m = (a + 1 - b)) := fun l' m h => by have h1 := hWn.out l' m h; simp at h1; omega
          have hRI : Hid (∀ l' m, M.Chg false (sl us) l' (t : Int) (f : Int) m → ((m : Nat) : Int) = (a : Int) - (b : Int) + 1) := fun l' m h => by have h1 := hWn.out l' m h; simp at h1; omega
          go_wp2_with (first
            | (go_at_call 23; (with_reducible refine (hrT _ HK.out).out.mono ?_); rintro e w5 ⟨rfl, hk5⟩; have HK := Lib.hid hk5; clear hk5)
            | (go_at_call 23; (with_reducible refine (hrF _ HK.out).out.mono ?_); rintro e w5 ⟨rfl, hk5⟩; have HK := Lib.hid hk5; clear hk5)
            | (go_at_call 17; (with_reducible refine (hhT _ HK.out).out.mono ?_); rintro e w5 ⟨rfl, hk5⟩; have HK := Lib.hid hk5; clear hk5)
            | (go_at_call 28; (with_reducible refine (kb_wipe HK.out.low HK.out.bb.bm hhw t f ht hf (a + 1 - b) hRN.out).mono ?_); rintro e w6 ⟨rfl, us2, hch, hm6, hl6⟩
               have hT7 : (((((a + 1 - b) : Nat)) : Int) == (a : Int) - (b : Int) + 1) = true := by rw [beq_iff_eq]; exact hRI.out _ _ hch
               have HFN : Hid (∀ l' m, M.Chg true (sl us2) l' (t : Int) (f : Int) m → m = f - t + 1) := fun l' m h' => M.fill_n (by omega) hch h'
               have HM6 := Lib.hid hm6
               have HL6 := Lib.hid hl6
               have hT8 : (((f - t + 1 : Nat) : Int) == (f : Int) - (t : Int) + 1) = true := by rw [beq_iff_eq]; omega
               generalize (a + 1 - b) = rr at *
               obtain ⟨tf, htf⟩ : ∃ x, f - t + 1 = x := ⟨_, rfl⟩
               rw [htf] at hT8 HFN
               clear hch hm6 hl6 htf)
            | (go_at_call 27; (with_reducible refine (kb_fill HL6.out HM6.out hhw t f ht hf tf HFN.out).mono ?_); rintro e w7 ⟨rfl, _, _, _, hl7⟩; have HL7 := Lib.hid hl7; clear hl7))
          go_ret
          exact ⟨rfl, HL7.out⟩
      · have hS1 : decide ((t : Int) < (f : Int)) = false := decide_eq_false (by omega)
        have hS2 : decide (t < f) = false := decide_eq_false hsw
        go_wp2_with (go_at_call 25; (with_reducible refine (kb_select HK.out k hk2 _ hsel.out).mono ?_); rintro e w3 ⟨rfl, hk3⟩; have HK := Lib.hid hk3; clear hk3)
        obtain ⟨a, ha⟩ : ∃ a, M.rRank (sl us) (t : Int) = a := ⟨_, rfl⟩
        obtain ⟨b, hb⟩ : ∃ b, M.rRank (sl us) (f : Int) = b := ⟨_, rfl⟩
        obtain ⟨c, hc⟩ : ∃ c, M.rHas (sl us) (t : Int) = c := ⟨_, rfl⟩
        have ha9 : a ≤ 65536 := by rw [← ha]; exact hNN.out _
        have hb9 : b ≤ 65536 := by rw [← hb]; exact hNN.out _
        have hWn : Hid (∀ l' m, M.Chg false (sl us) l' (f : Int) (t : Int) m → m + b = a + if c then 1 else 0) := fun l' m h => by have := M.wipe_n hUP.out (by omega) h; rw [ha, hb, hc] at this; exact this
        have HA := Lib.hid ha
        have HB := Lib.hid hb
        have HC := Lib.hid hc
        clear ha hb hc
        have wab : IntKind.i64.wrap ((a : Int) - (b : Int)) = (a : Int) - (b : Int) := IntWalk.i64_in _ (by omega)
        have wab1 : IntKind.i64.wrap ((a : Int) - (b : Int) + 1) = (a : Int) - (b : Int) + 1 := IntWalk.i64_in _ (by omega)
        have wtf : IntKind.i64.wrap ((t : Int) - (f : Int)) = (t : Int) - (f : Int) := IntWalk.i64_in _ (by omega)
        have wtf1 : IntKind.i64.wrap ((t : Int) - (f : Int) + 1) = (t : Int) - (f : Int) + 1 := IntWalk.i64_in _ (by omega)
        have hrT : ∀ W, KB w W p s h g n us cs → Hid (Calls Tryd.prog 23 #[.pointer (some ⟨p, 0, none⟩), .int .u16 (t : Int)] W fun e w' => e = .returned (.int .i64 (a : Int)) ∧ KB w w' p s h g n us cs) := fun W hW => kb_rank hW t ht a HA.out
        have hrF : ∀ W, KB w W p s h g n us cs → Hid (Calls Tryd.prog 23 #[.pointer (some ⟨p, 0, none⟩), .int .u16 (f : Int)] W fun e w' => e = .returned (.int .i64 (b : Int)) ∧ KB w w' p s h g n us cs) := fun W hW => kb_rank hW f hf b HB.out
        have hhT : ∀ W, KB w W p s h g n us cs → Hid (Calls Tryd.prog 17 #[.pointer (some ⟨p, 0, none⟩), .int .u16 (t : Int)] W fun e w' => e = .returned (.bool c) ∧ KB w w' p s h g n us cs) := fun W hW => kb_has hW t ht c HC.out
        cases c
        · have hRN : Hid (∀ l' m, M.Chg false (sl us) l' (f : Int) (t : Int) m → m = (a - b)) := fun l' m h => by have h1 := hWn.out l' m h; simp at h1; omega
          have hRI : Hid (∀ l' m, M.Chg false (sl us) l' (f : Int) (t : Int) m → ((m : Nat) : Int) = (a : Int) - (b : Int)) := fun l' m h => by have h1 := hWn.out l' m h; simp at h1; omega
          go_wp2_with (first
            | (go_at_call 23; (with_reducible refine (hrT _ HK.out).out.mono ?_); rintro e w5 ⟨rfl, hk5⟩; have HK := Lib.hid hk5; clear hk5)
            | (go_at_call 23; (with_reducible refine (hrF _ HK.out).out.mono ?_); rintro e w5 ⟨rfl, hk5⟩; have HK := Lib.hid hk5; clear hk5)
            | (go_at_call 17; (with_reducible refine (hhT _ HK.out).out.mono ?_); rintro e w5 ⟨rfl, hk5⟩; have HK := Lib.hid hk5; clear hk5)
            | (go_at_call 28; (with_reducible refine (kb_wipe HK.out.low HK.out.bb.bm hhw f t hf ht (a - b) hRN.out).mono ?_); rintro e w6 ⟨rfl, us2, hch, hm6, hl6⟩
               have hT7 : (((((a - b) : Nat)) : Int) == (a : Int) - (b : Int)) = true := by rw [beq_iff_eq]; exact hRI.out _ _ hch
               have HFN : Hid (∀ l' m, M.Chg true (sl us2) l' (f : Int) (t : Int) m → m = t - f + 1) := fun l' m h' => M.fill_n (by omega) hch h'
               have HM6 := Lib.hid hm6
               have HL6 := Lib.hid hl6
               have hT8 : (((t - f + 1 : Nat) : Int) == (t : Int) - (f : Int) + 1) = true := by rw [beq_iff_eq]; omega
               generalize (a - b) = rr at *
               obtain ⟨tf, htf⟩ : ∃ x, t - f + 1 = x := ⟨_, rfl⟩
               rw [htf] at hT8 HFN
               clear hch hm6 hl6 htf)
            | (go_at_call 27; (with_reducible refine (kb_fill HL6.out HM6.out hhw f t hf ht tf HFN.out).mono ?_); rintro e w7 ⟨rfl, _, _, _, hl7⟩; have HL7 := Lib.hid hl7; clear hl7))
          go_ret
          exact ⟨rfl, HL7.out⟩
        · have hRN : Hid (∀ l' m, M.Chg false (sl us) l' (f : Int) (t : Int) m → m = (a + 1 - b)) := fun l' m h => by have h1 := hWn.out l' m h; simp at h1; omega
          have hRI : Hid (∀ l' m, M.Chg false (sl us) l' (f : Int) (t : Int) m → ((m : Nat) : Int) = (a : Int) - (b : Int) + 1) := fun l' m h => by have h1 := hWn.out l' m h; simp at h1; omega
          go_wp2_with (first
            | (go_at_call 23; (with_reducible refine (hrT _ HK.out).out.mono ?_); rintro e w5 ⟨rfl, hk5⟩; have HK := Lib.hid hk5; clear hk5)
            | (go_at_call 23; (with_reducible refine (hrF _ HK.out).out.mono ?_); rintro e w5 ⟨rfl, hk5⟩; have HK := Lib.hid hk5; clear hk5)
            | (go_at_call 17; (with_reducible refine (hhT _ HK.out).out.mono ?_); rintro e w5 ⟨rfl, hk5⟩; have HK := Lib.hid hk5; clear hk5)
            | (go_at_call 28; (with_reducible refine (kb_wipe HK.out.low HK.out.bb.bm hhw f t hf ht (a + 1 - b) hRN.out).mono ?_); rintro e w6 ⟨rfl, us2, hch, hm6, hl6⟩
               have hT7 : (((((a + 1 - b) : Nat)) : Int) == (a : Int) - (b : Int) + 1) = true := by rw [beq_iff_eq]; exact hRI.out _ _ hch
               have HFN : Hid (∀ l' m, M.Chg true (sl us2) l' (f : Int) (t : Int) m → m = t - f + 1) := fun l' m h' => M.fill_n (by omega) hch h'
               have HM6 := Lib.hid hm6
               have HL6 := Lib.hid hl6
               have hT8 : (((t - f + 1 : Nat) : Int) == (t : Int) - (f : Int) + 1) = true := by rw [beq_iff_eq]; omega
               generalize (a + 1 - b) = rr at *
               obtain ⟨tf, htf⟩ : ∃ x, t - f + 1 = x := ⟨_, rfl⟩
               rw [htf] at hT8 HFN
               clear hch hm6 hl6 htf)
            | (go_at_call 27; (with_reducible refine (kb_fill HL6.out HM6.out hhw f t hf ht tf HFN.out).mono ?_); rintro e w7 ⟨rfl, _, _, _, hl7⟩; have HL7 := Lib.hid hl7; clear hl7))
          go_ret
          exact ⟨rfl, HL7.out⟩
    · have h1 : ((sl us).length : Int) ≤ k := by omega
      obtain ⟨ln, hln⟩ : ∃ ln, (sl us).length = ln := ⟨_, rfl⟩
      have hlen := Lib.hid hln
      rw [hln] at h1
      have d0 : decide (0 ≤ k) = true := decide_eq_true (by omega)
      have d1 : decide (k < (ln : Int)) = false := decide_eq_false (by omega)
      clear hkk hln
      by_cases hsw : t < f
      · have hS1 : decide ((t : Int) < (f : Int)) = true := decide_eq_true (by omega)
        have hS2 : decide (t < f) = true := decide_eq_true hsw
        go_wp2_with (first | (go_at_call 25; (with_reducible refine (kb_select HK.out k hk2 _ hsel.out).mono ?_); rintro e w3 ⟨rfl, hk3⟩; have HK := Lib.hid hk3; clear hk3) | (go_at_call 13; (with_reducible refine (kb_len HK.out _ hlen.out).mono ?_); rintro e w4 ⟨rfl, hk4⟩; have HK := Lib.hid hk4; clear hk4))
        obtain ⟨a, ha⟩ : ∃ a, M.rRank (sl us) (f : Int) = a := ⟨_, rfl⟩
        obtain ⟨b, hb⟩ : ∃ b, M.rRank (sl us) (t : Int) = b := ⟨_, rfl⟩
        obtain ⟨c, hc⟩ : ∃ c, M.rHas (sl us) (f : Int) = c := ⟨_, rfl⟩
        have ha9 : a ≤ 65536 := by rw [← ha]; exact hNN.out _
        have hb9 : b ≤ 65536 := by rw [← hb]; exact hNN.out _
        have hWn : Hid (∀ l' m, M.Chg false (sl us) l' (t : Int) (f : Int) m → m + b = a + if c then 1 else 0) := fun l' m h => by have := M.wipe_n hUP.out (by omega) h; rw [ha, hb, hc] at this; exact this
        have HA := Lib.hid ha
        have HB := Lib.hid hb
        have HC := Lib.hid hc
        clear ha hb hc
        have wab : IntKind.i64.wrap ((a : Int) - (b : Int)) = (a : Int) - (b : Int) := IntWalk.i64_in _ (by omega)
        have wab1 : IntKind.i64.wrap ((a : Int) - (b : Int) + 1) = (a : Int) - (b : Int) + 1 := IntWalk.i64_in _ (by omega)
        have wtf : IntKind.i64.wrap ((f : Int) - (t : Int)) = (f : Int) - (t : Int) := IntWalk.i64_in _ (by omega)
        have wtf1 : IntKind.i64.wrap ((f : Int) - (t : Int) + 1) = (f : Int) - (t : Int) + 1 := IntWalk.i64_in _ (by omega)
        have hrT : ∀ W, KB w W p s h g n us cs → Hid (Calls Tryd.prog 23 #[.pointer (some ⟨p, 0, none⟩), .int .u16 (f : Int)] W fun e w' => e = .returned (.int .i64 (a : Int)) ∧ KB w w' p s h g n us cs) := fun W hW => kb_rank hW f hf a HA.out
        have hrF : ∀ W, KB w W p s h g n us cs → Hid (Calls Tryd.prog 23 #[.pointer (some ⟨p, 0, none⟩), .int .u16 (t : Int)] W fun e w' => e = .returned (.int .i64 (b : Int)) ∧ KB w w' p s h g n us cs) := fun W hW => kb_rank hW t ht b HB.out
        have hhT : ∀ W, KB w W p s h g n us cs → Hid (Calls Tryd.prog 17 #[.pointer (some ⟨p, 0, none⟩), .int .u16 (f : Int)] W fun e w' => e = .returned (.bool c) ∧ KB w w' p s h g n us cs) := fun W hW => kb_has hW f hf c HC.out
        cases c
        · have hRN : Hid (∀ l' m, M.Chg false (sl us) l' (t : Int) (f : Int) m → m = (a - b)) := fun l' m h => by have h1 := hWn.out l' m h; simp at h1; omega
          have hRI : Hid (∀ l' m, M.Chg false (sl us) l' (t : Int) (f : Int) m → ((m : Nat) : Int) = (a : Int) - (b : Int)) := fun l' m h => by have h1 := hWn.out l' m h; simp at h1; omega
          go_wp2_with (first
            | (go_at_call 23; (with_reducible refine (hrT _ HK.out).out.mono ?_); rintro e w5 ⟨rfl, hk5⟩; have HK := Lib.hid hk5; clear hk5)
            | (go_at_call 23; (with_reducible refine (hrF _ HK.out).out.mono ?_); rintro e w5 ⟨rfl, hk5⟩; have HK := Lib.hid hk5; clear hk5)
            | (go_at_call 17; (with_reducible refine (hhT _ HK.out).out.mono ?_); rintro e w5 ⟨rfl, hk5⟩; have HK := Lib.hid hk5; clear hk5)
            | (go_at_call 28; (with_reducible refine (kb_wipe HK.out.low HK.out.bb.bm hhw t f ht hf (a - b) hRN.out).mono ?_); rintro e w6 ⟨rfl, us2, hch, hm6, hl6⟩
               have hT7 : (((((a - b) : Nat)) : Int) == (a : Int) - (b : Int)) = true := by rw [beq_iff_eq]; exact hRI.out _ _ hch
               have HFN : Hid (∀ l' m, M.Chg true (sl us2) l' (t : Int) (f : Int) m → m = f - t + 1) := fun l' m h' => M.fill_n (by omega) hch h'
               have HM6 := Lib.hid hm6
               have HL6 := Lib.hid hl6
               have hT8 : (((f - t + 1 : Nat) : Int) == (f : Int) - (t : Int) + 1) = true := by rw [beq_iff_eq]; omega
               generalize (a - b) = rr at *
               obtain ⟨tf, htf⟩ : ∃ x, f - t + 1 = x := ⟨_, rfl⟩
               rw [htf] at hT8 HFN
               clear hch hm6 hl6 htf)
            | (go_at_call 27; (with_reducible refine (kb_fill HL6.out HM6.out hhw t f ht hf tf HFN.out).mono ?_); rintro e w7 ⟨rfl, _, _, _, hl7⟩; have HL7 := Lib.hid hl7; clear hl7))
          go_ret
          exact ⟨rfl, HL7.out⟩
        · have hRN : Hid (∀ l' m, M.Chg false (sl us) l' (t : Int) (f : Int) m → m = (a + 1 - b)) := fun l' m h => by have h1 := hWn.out l' m h; simp at h1; omega
          have hRI : Hid (∀ l' m, M.Chg false (sl us) l' (t : Int) (f : Int) m → ((m : Nat) : Int) = (a : Int) - (b : Int) + 1) := fun l' m h => by have h1 := hWn.out l' m h; simp at h1; omega
          go_wp2_with (first
            | (go_at_call 23; (with_reducible refine (hrT _ HK.out).out.mono ?_); rintro e w5 ⟨rfl, hk5⟩; have HK := Lib.hid hk5; clear hk5)
            | (go_at_call 23; (with_reducible refine (hrF _ HK.out).out.mono ?_); rintro e w5 ⟨rfl, hk5⟩; have HK := Lib.hid hk5; clear hk5)
            | (go_at_call 17; (with_reducible refine (hhT _ HK.out).out.mono ?_); rintro e w5 ⟨rfl, hk5⟩; have HK := Lib.hid hk5; clear hk5)
            | (go_at_call 28; (with_reducible refine (kb_wipe HK.out.low HK.out.bb.bm hhw t f ht hf (a + 1 - b) hRN.out).mono ?_); rintro e w6 ⟨rfl, us2, hch, hm6, hl6⟩
               have hT7 : (((((a + 1 - b) : Nat)) : Int) == (a : Int) - (b : Int) + 1) = true := by rw [beq_iff_eq]; exact hRI.out _ _ hch
               have HFN : Hid (∀ l' m, M.Chg true (sl us2) l' (t : Int) (f : Int) m → m = f - t + 1) := fun l' m h' => M.fill_n (by omega) hch h'
               have HM6 := Lib.hid hm6
               have HL6 := Lib.hid hl6
               have hT8 : (((f - t + 1 : Nat) : Int) == (f : Int) - (t : Int) + 1) = true := by rw [beq_iff_eq]; omega
               generalize (a + 1 - b) = rr at *
               obtain ⟨tf, htf⟩ : ∃ x, f - t + 1 = x := ⟨_, rfl⟩
               rw [htf] at hT8 HFN
               clear hch hm6 hl6 htf)
            | (go_at_call 27; (with_reducible refine (kb_fill HL6.out HM6.out hhw t f ht hf tf HFN.out).mono ?_); rintro e w7 ⟨rfl, _, _, _, hl7⟩; have HL7 := Lib.hid hl7; clear hl7))
          go_ret
          exact ⟨rfl, HL7.out⟩
      · have hS1 : decide ((t : Int) < (f : Int)) = false := decide_eq_false (by omega)
        have hS2 : decide (t < f) = false := decide_eq_false hsw
        go_wp2_with (first | (go_at_call 25; (with_reducible refine (kb_select HK.out k hk2 _ hsel.out).mono ?_); rintro e w3 ⟨rfl, hk3⟩; have HK := Lib.hid hk3; clear hk3) | (go_at_call 13; (with_reducible refine (kb_len HK.out _ hlen.out).mono ?_); rintro e w4 ⟨rfl, hk4⟩; have HK := Lib.hid hk4; clear hk4))
        obtain ⟨a, ha⟩ : ∃ a, M.rRank (sl us) (t : Int) = a := ⟨_, rfl⟩
        obtain ⟨b, hb⟩ : ∃ b, M.rRank (sl us) (f : Int) = b := ⟨_, rfl⟩
        obtain ⟨c, hc⟩ : ∃ c, M.rHas (sl us) (t : Int) = c := ⟨_, rfl⟩
        have ha9 : a ≤ 65536 := by rw [← ha]; exact hNN.out _
        have hb9 : b ≤ 65536 := by rw [← hb]; exact hNN.out _
        have hWn : Hid (∀ l' m, M.Chg false (sl us) l' (f : Int) (t : Int) m → m + b = a + if c then 1 else 0) := fun l' m h => by have := M.wipe_n hUP.out (by omega) h; rw [ha, hb, hc] at this; exact this
        have HA := Lib.hid ha
        have HB := Lib.hid hb
        have HC := Lib.hid hc
        clear ha hb hc
        have wab : IntKind.i64.wrap ((a : Int) - (b : Int)) = (a : Int) - (b : Int) := IntWalk.i64_in _ (by omega)
        have wab1 : IntKind.i64.wrap ((a : Int) - (b : Int) + 1) = (a : Int) - (b : Int) + 1 := IntWalk.i64_in _ (by omega)
        have wtf : IntKind.i64.wrap ((t : Int) - (f : Int)) = (t : Int) - (f : Int) := IntWalk.i64_in _ (by omega)
        have wtf1 : IntKind.i64.wrap ((t : Int) - (f : Int) + 1) = (t : Int) - (f : Int) + 1 := IntWalk.i64_in _ (by omega)
        have hrT : ∀ W, KB w W p s h g n us cs → Hid (Calls Tryd.prog 23 #[.pointer (some ⟨p, 0, none⟩), .int .u16 (t : Int)] W fun e w' => e = .returned (.int .i64 (a : Int)) ∧ KB w w' p s h g n us cs) := fun W hW => kb_rank hW t ht a HA.out
        have hrF : ∀ W, KB w W p s h g n us cs → Hid (Calls Tryd.prog 23 #[.pointer (some ⟨p, 0, none⟩), .int .u16 (f : Int)] W fun e w' => e = .returned (.int .i64 (b : Int)) ∧ KB w w' p s h g n us cs) := fun W hW => kb_rank hW f hf b HB.out
        have hhT : ∀ W, KB w W p s h g n us cs → Hid (Calls Tryd.prog 17 #[.pointer (some ⟨p, 0, none⟩), .int .u16 (t : Int)] W fun e w' => e = .returned (.bool c) ∧ KB w w' p s h g n us cs) := fun W hW => kb_has hW t ht c HC.out
        cases c
        · have hRN : Hid (∀ l' m, M.Chg false (sl us) l' (f : Int) (t : Int) m → m = (a - b)) := fun l' m h => by have h1 := hWn.out l' m h; simp at h1; omega
          have hRI : Hid (∀ l' m, M.Chg false (sl us) l' (f : Int) (t : Int) m → ((m : Nat) : Int) = (a : Int) - (b : Int)) := fun l' m h => by have h1 := hWn.out l' m h; simp at h1; omega
          go_wp2_with (first
            | (go_at_call 23; (with_reducible refine (hrT _ HK.out).out.mono ?_); rintro e w5 ⟨rfl, hk5⟩; have HK := Lib.hid hk5; clear hk5)
            | (go_at_call 23; (with_reducible refine (hrF _ HK.out).out.mono ?_); rintro e w5 ⟨rfl, hk5⟩; have HK := Lib.hid hk5; clear hk5)
            | (go_at_call 17; (with_reducible refine (hhT _ HK.out).out.mono ?_); rintro e w5 ⟨rfl, hk5⟩; have HK := Lib.hid hk5; clear hk5)
            | (go_at_call 28; (with_reducible refine (kb_wipe HK.out.low HK.out.bb.bm hhw f t hf ht (a - b) hRN.out).mono ?_); rintro e w6 ⟨rfl, us2, hch, hm6, hl6⟩
               have hT7 : (((((a - b) : Nat)) : Int) == (a : Int) - (b : Int)) = true := by rw [beq_iff_eq]; exact hRI.out _ _ hch
               have HFN : Hid (∀ l' m, M.Chg true (sl us2) l' (f : Int) (t : Int) m → m = t - f + 1) := fun l' m h' => M.fill_n (by omega) hch h'
               have HM6 := Lib.hid hm6
               have HL6 := Lib.hid hl6
               have hT8 : (((t - f + 1 : Nat) : Int) == (t : Int) - (f : Int) + 1) = true := by rw [beq_iff_eq]; omega
               generalize (a - b) = rr at *
               obtain ⟨tf, htf⟩ : ∃ x, t - f + 1 = x := ⟨_, rfl⟩
               rw [htf] at hT8 HFN
               clear hch hm6 hl6 htf)
            | (go_at_call 27; (with_reducible refine (kb_fill HL6.out HM6.out hhw f t hf ht tf HFN.out).mono ?_); rintro e w7 ⟨rfl, _, _, _, hl7⟩; have HL7 := Lib.hid hl7; clear hl7))
          go_ret
          exact ⟨rfl, HL7.out⟩
        · have hRN : Hid (∀ l' m, M.Chg false (sl us) l' (f : Int) (t : Int) m → m = (a + 1 - b)) := fun l' m h => by have h1 := hWn.out l' m h; simp at h1; omega
          have hRI : Hid (∀ l' m, M.Chg false (sl us) l' (f : Int) (t : Int) m → ((m : Nat) : Int) = (a : Int) - (b : Int) + 1) := fun l' m h => by have h1 := hWn.out l' m h; simp at h1; omega
          go_wp2_with (first
            | (go_at_call 23; (with_reducible refine (hrT _ HK.out).out.mono ?_); rintro e w5 ⟨rfl, hk5⟩; have HK := Lib.hid hk5; clear hk5)
            | (go_at_call 23; (with_reducible refine (hrF _ HK.out).out.mono ?_); rintro e w5 ⟨rfl, hk5⟩; have HK := Lib.hid hk5; clear hk5)
            | (go_at_call 17; (with_reducible refine (hhT _ HK.out).out.mono ?_); rintro e w5 ⟨rfl, hk5⟩; have HK := Lib.hid hk5; clear hk5)
            | (go_at_call 28; (with_reducible refine (kb_wipe HK.out.low HK.out.bb.bm hhw f t hf ht (a + 1 - b) hRN.out).mono ?_); rintro e w6 ⟨rfl, us2, hch, hm6, hl6⟩
               have hT7 : (((((a + 1 - b) : Nat)) : Int) == (a : Int) - (b : Int) + 1) = true := by rw [beq_iff_eq]; exact hRI.out _ _ hch
               have HFN : Hid (∀ l' m, M.Chg true (sl us2) l' (f : Int) (t : Int) m → m = t - f + 1) := fun l' m h' => M.fill_n (by omega) hch h'
               have HM6 := Lib.hid hm6
               have HL6 := Lib.hid hl6
               have hT8 : (((t - f + 1 : Nat) : Int) == (t : Int) - (f : Int) + 1) = true := by rw [beq_iff_eq]; omega
               generalize (a + 1 - b) = rr at *
               obtain ⟨tf, htf⟩ : ∃ x, t - f + 1 = x := ⟨_, rfl⟩
               rw [htf] at hT8 HFN
               clear hch hm6 hl6 htf)
            | (go_at_call 27; (with_reducible refine (kb_fill HL6.out HM6.out hhw f t hf ht tf HFN.out).mono ?_); rintro e w7 ⟨rfl, _, _, _, hl7⟩; have HL7 := Lib.hid hl7; clear hl7))
          go_ret
          exact ⟨rfl, HL7.out⟩
  · obtain ⟨m, rfl, hm⟩ := M.sel_mem (l := sl us) (k := k) (by omega)
    obtain ⟨f1, f2, f3, f4⟩ := M.at_facts hUP.out hm
    have hib := hx0.out _ (List.mem_of_getElem? hm)
    have hml : m < (sl us).length := (List.getElem?_eq_some_iff.1 hm).1
    obtain ⟨j, hj⟩ : ∃ j : Nat, M.rSel (sl us) (m : Int) = (j : Int) := ⟨(M.rSel (sl us) (m : Int)).toNat, by omega⟩
    rw [hj] at f1 f2 hib
    have hj9 : j ≤ 65535 := by omega
    have hsel : Hid (numV (M.rSel (sl us) (m : Int)) = .tuple #[.int .u16 (j : Int), .bool true]) := by show _ = _; unfold numV; rw [hj, if_neg (by omega)]
    obtain ⟨ln, hln⟩ : ∃ ln, (sl us).length = ln := ⟨_, rfl⟩
    have hlen := Lib.hid hln
    rw [hln] at hml
    have d0 : decide (0 ≤ (m : Int)) = true := decide_eq_true (by omega)
    have d1 : decide ((m : Int) < (ln : Int)) = true := decide_eq_true (by omega)
    have d2 : decide (m < ln) = true := decide_eq_true hml
    have hRJ := Lib.hid f2
    have hHJ := Lib.hid f1
    clear hneg hm f1 f2 f3 f4 hib hj hln
    by_cases hsw : t < f
    · have hS1 : decide ((t : Int) < (f : Int)) = true := decide_eq_true (by omega)
      have hS2 : decide (t < f) = true := decide_eq_true hsw
      go_wp2_with (first
        | (go_at_call 25; (with_reducible refine (kb_select HK.out (m : Int) hk2 _ hsel.out).mono ?_); rintro e w3 ⟨rfl, hk3⟩; have HK := Lib.hid hk3; clear hk3)
        | (go_at_call 13; (with_reducible refine (kb_len HK.out _ hlen.out).mono ?_); rintro e w4 ⟨rfl, hk4⟩; have HK := Lib.hid hk4; clear hk4))
      go_wp2_with (go_at_call 23; (with_reducible refine (kb_rank HK.out j hj9 m hRJ.out).mono ?_); rintro e w5 ⟨rfl, hk5⟩; have HK := Lib.hid hk5; clear hk5)
      go_wp2_with (go_at_call 17; (with_reducible refine (kb_has HK.out j hj9 true hHJ.out).mono ?_); rintro e w5 ⟨rfl, hk5⟩; have HK := Lib.hid hk5; clear hk5)
      obtain ⟨a, ha⟩ : ∃ a, M.rRank (sl us) (f : Int) = a := ⟨_, rfl⟩
      obtain ⟨b, hb⟩ : ∃ b, M.rRank (sl us) (t : Int) = b := ⟨_, rfl⟩
      obtain ⟨c, hc⟩ : ∃ c, M.rHas (sl us) (f : Int) = c := ⟨_, rfl⟩
      have ha9 : a ≤ 65536 := by rw [← ha]; exact hNN.out _
      have hb9 : b ≤ 65536 := by rw [← hb]; exact hNN.out _
      have hWn : Hid (∀ l' m, M.Chg false (sl us) l' (t : Int) (f : Int) m → m + b = a + if c then 1 else 0) := fun l' m h => by have := M.wipe_n hUP.out (by omega) h; rw [ha, hb, hc] at this; exact this
      have HA := Lib.hid ha
      have HB := Lib.hid hb
      have HC := Lib.hid hc
      clear ha hb hc
      have wab : IntKind.i64.wrap ((a : Int) - (b : Int)) = (a : Int) - (b : Int) := IntWalk.i64_in _ (by omega)
      have wab1 : IntKind.i64.wrap ((a : Int) - (b : Int) + 1) = (a : Int) - (b : Int) + 1 := IntWalk.i64_in _ (by omega)
      have wtf : IntKind.i64.wrap ((f : Int) - (t : Int)) = (f : Int) - (t : Int) := IntWalk.i64_in _ (by omega)
      have wtf1 : IntKind.i64.wrap ((f : Int) - (t : Int) + 1) = (f : Int) - (t : Int) + 1 := IntWalk.i64_in _ (by omega)
      have hrT : ∀ W, KB w W p s h g n us cs → Hid (Calls Tryd.prog 23 #[.pointer (some ⟨p, 0, none⟩), .int .u16 (f : Int)] W fun e w' => e = .returned (.int .i64 (a : Int)) ∧ KB w w' p s h g n us cs) := fun W hW => kb_rank hW f hf a HA.out
      have hrF : ∀ W, KB w W p s h g n us cs → Hid (Calls Tryd.prog 23 #[.pointer (some ⟨p, 0, none⟩), .int .u16 (t : Int)] W fun e w' => e = .returned (.int .i64 (b : Int)) ∧ KB w w' p s h g n us cs) := fun W hW => kb_rank hW t ht b HB.out
      have hhT : ∀ W, KB w W p s h g n us cs → Hid (Calls Tryd.prog 17 #[.pointer (some ⟨p, 0, none⟩), .int .u16 (f : Int)] W fun e w' => e = .returned (.bool c) ∧ KB w w' p s h g n us cs) := fun W hW => kb_has hW f hf c HC.out
      cases c
      · have hRN : Hid (∀ l' m, M.Chg false (sl us) l' (t : Int) (f : Int) m → m = (a - b)) := fun l' m h => by have h1 := hWn.out l' m h; simp at h1; omega
        have hRI : Hid (∀ l' m, M.Chg false (sl us) l' (t : Int) (f : Int) m → ((m : Nat) : Int) = (a : Int) - (b : Int)) := fun l' m h => by have h1 := hWn.out l' m h; simp at h1; omega
        go_wp2_with (first
          | (go_at_call 23; (with_reducible refine (hrT _ HK.out).out.mono ?_); rintro e w5 ⟨rfl, hk5⟩; have HK := Lib.hid hk5; clear hk5)
          | (go_at_call 23; (with_reducible refine (hrF _ HK.out).out.mono ?_); rintro e w5 ⟨rfl, hk5⟩; have HK := Lib.hid hk5; clear hk5)
          | (go_at_call 17; (with_reducible refine (hhT _ HK.out).out.mono ?_); rintro e w5 ⟨rfl, hk5⟩; have HK := Lib.hid hk5; clear hk5)
          | (go_at_call 28; (with_reducible refine (kb_wipe HK.out.low HK.out.bb.bm hhw t f ht hf (a - b) hRN.out).mono ?_); rintro e w6 ⟨rfl, us2, hch, hm6, hl6⟩
             have hT7 : (((((a - b) : Nat)) : Int) == (a : Int) - (b : Int)) = true := by rw [beq_iff_eq]; exact hRI.out _ _ hch
             have HFN : Hid (∀ l' m, M.Chg true (sl us2) l' (t : Int) (f : Int) m → m = f - t + 1) := fun l' m h' => M.fill_n (by omega) hch h'
             have HM6 := Lib.hid hm6
             have HL6 := Lib.hid hl6
             have hT8 : (((f - t + 1 : Nat) : Int) == (f : Int) - (t : Int) + 1) = true := by rw [beq_iff_eq]; omega
             generalize (a - b) = rr at *
             obtain ⟨tf, htf⟩ : ∃ x, f - t + 1 = x := ⟨_, rfl⟩
             rw [htf] at hT8 HFN
             clear hch hm6 hl6 htf)
          | (go_at_call 27; (with_reducible refine (kb_fill HL6.out HM6.out hhw t f ht hf tf HFN.out).mono ?_); rintro e w7 ⟨rfl, _, _, _, hl7⟩; have HL7 := Lib.hid hl7; clear hl7))
        go_ret
        exact ⟨rfl, HL7.out⟩
      · have hRN : Hid (∀ l' m, M.Chg false (sl us) l' (t : Int) (f : Int) m → m = (a + 1 - b)) := fun l' m h => by have h1 := hWn.out l' m h; simp at h1; omega
        have hRI : Hid (∀ l' m, M.Chg false (sl us) l' (t : Int) (f : Int) m → ((m : Nat) : Int) = (a : Int) - (b : Int) + 1) := fun l' m h => by have h1 := hWn.out l' m h; simp at h1; omega
        go_wp2_with (first
          | (go_at_call 23; (with_reducible refine (hrT _ HK.out).out.mono ?_); rintro e w5 ⟨rfl, hk5⟩; have HK := Lib.hid hk5; clear hk5)
          | (go_at_call 23; (with_reducible refine (hrF _ HK.out).out.mono ?_); rintro e w5 ⟨rfl, hk5⟩; have HK := Lib.hid hk5; clear hk5)
          | (go_at_call 17; (with_reducible refine (hhT _ HK.out).out.mono ?_); rintro e w5 ⟨rfl, hk5⟩; have HK := Lib.hid hk5; clear hk5)
          | (go_at_call 28; (with_reducible refine (kb_wipe HK.out.low HK.out.bb.bm hhw t f ht hf (a + 1 - b) hRN.out).mono ?_); rintro e w6 ⟨rfl, us2, hch, hm6, hl6⟩
             have hT7 : (((((a + 1 - b) : Nat)) : Int) == (a : Int) - (b : Int) + 1) = true := by rw [beq_iff_eq]; exact hRI.out _ _ hch
             have HFN : Hid (∀ l' m, M.Chg true (sl us2) l' (t : Int) (f : Int) m → m = f - t + 1) := fun l' m h' => M.fill_n (by omega) hch h'
             have HM6 := Lib.hid hm6
             have HL6 := Lib.hid hl6
             have hT8 : (((f - t + 1 : Nat) : Int) == (f : Int) - (t : Int) + 1) = true := by rw [beq_iff_eq]; omega
             generalize (a + 1 - b) = rr at *
             obtain ⟨tf, htf⟩ : ∃ x, f - t + 1 = x := ⟨_, rfl⟩
             rw [htf] at hT8 HFN
             clear hch hm6 hl6 htf)
          | (go_at_call 27; (with_reducible refine (kb_fill HL6.out HM6.out hhw t f ht hf tf HFN.out).mono ?_); rintro e w7 ⟨rfl, _, _, _, hl7⟩; have HL7 := Lib.hid hl7; clear hl7))
        go_ret
        exact ⟨rfl, HL7.out⟩
    · have hS1 : decide ((t : Int) < (f : Int)) = false := decide_eq_false (by omega)
      have hS2 : decide (t < f) = false := decide_eq_false hsw
      go_wp2_with (first
        | (go_at_call 25; (with_reducible refine (kb_select HK.out (m : Int) hk2 _ hsel.out).mono ?_); rintro e w3 ⟨rfl, hk3⟩; have HK := Lib.hid hk3; clear hk3)
        | (go_at_call 13; (with_reducible refine (kb_len HK.out _ hlen.out).mono ?_); rintro e w4 ⟨rfl, hk4⟩; have HK := Lib.hid hk4; clear hk4))
      go_wp2_with (go_at_call 23; (with_reducible refine (kb_rank HK.out j hj9 m hRJ.out).mono ?_); rintro e w5 ⟨rfl, hk5⟩; have HK := Lib.hid hk5; clear hk5)
      go_wp2_with (go_at_call 17; (with_reducible refine (kb_has HK.out j hj9 true hHJ.out).mono ?_); rintro e w5 ⟨rfl, hk5⟩; have HK := Lib.hid hk5; clear hk5)
      obtain ⟨a, ha⟩ : ∃ a, M.rRank (sl us) (t : Int) = a := ⟨_, rfl⟩
      obtain ⟨b, hb⟩ : ∃ b, M.rRank (sl us) (f : Int) = b := ⟨_, rfl⟩
      obtain ⟨c, hc⟩ : ∃ c, M.rHas (sl us) (t : Int) = c := ⟨_, rfl⟩
      have ha9 : a ≤ 65536 := by rw [← ha]; exact hNN.out _
      have hb9 : b ≤ 65536 := by rw [← hb]; exact hNN.out _
      have hWn : Hid (∀ l' m, M.Chg false (sl us) l' (f : Int) (t : Int) m → m + b = a + if c then 1 else 0) := fun l' m h => by have := M.wipe_n hUP.out (by omega) h; rw [ha, hb, hc] at this; exact this
      have HA := Lib.hid ha
      have HB := Lib.hid hb
      have HC := Lib.hid hc
      clear ha hb hc
      have wab : IntKind.i64.wrap ((a : Int) - (b : Int)) = (a : Int) - (b : Int) := IntWalk.i64_in _ (by omega)
      have wab1 : IntKind.i64.wrap ((a : Int) - (b : Int) + 1) = (a : Int) - (b : Int) + 1 := IntWalk.i64_in _ (by omega)
      have wtf : IntKind.i64.wrap ((t : Int) - (f : Int)) = (t : Int) - (f : Int) := IntWalk.i64_in _ (by omega)
      have wtf1 : IntKind.i64.wrap ((t : Int) - (f : Int) + 1) = (t : Int) - (f : Int) + 1 := IntWalk.i64_in _ (by omega)
      have hrT : ∀ W, KB w W p s h g n us cs → Hid (Calls Tryd.prog 23 #[.pointer (some ⟨p, 0, none⟩), .int .u16 (t : Int)] W fun e w' => e = .returned (.int .i64 (a : Int)) ∧ KB w w' p s h g n us cs) := fun W hW => kb_rank hW t ht a HA.out
      have hrF : ∀ W, KB w W p s h g n us cs → Hid (Calls Tryd.prog 23 #[.pointer (some ⟨p, 0, none⟩), .int .u16 (f : Int)] W fun e w' => e = .returned (.int .i64 (b : Int)) ∧ KB w w' p s h g n us cs) := fun W hW => kb_rank hW f hf b HB.out
      have hhT : ∀ W, KB w W p s h g n us cs → Hid (Calls Tryd.prog 17 #[.pointer (some ⟨p, 0, none⟩), .int .u16 (t : Int)] W fun e w' => e = .returned (.bool c) ∧ KB w w' p s h g n us cs) := fun W hW => kb_has hW t ht c HC.out
      cases c
      · have hRN : Hid (∀ l' m, M.Chg false (sl us) l' (f : Int) (t : Int) m → m = (a - b)) := fun l' m h => by have h1 := hWn.out l' m h; simp at h1; omega
        have hRI : Hid (∀ l' m, M.Chg false (sl us) l' (f : Int) (t : Int) m → ((m : Nat) : Int) = (a : Int) - (b : Int)) := fun l' m h => by have h1 := hWn.out l' m h; simp at h1; omega
        go_wp2_with (first
          | (go_at_call 23; (with_reducible refine (hrT _ HK.out).out.mono ?_); rintro e w5 ⟨rfl, hk5⟩; have HK := Lib.hid hk5; clear hk5)
          | (go_at_call 23; (with_reducible refine (hrF _ HK.out).out.mono ?_); rintro e w5 ⟨rfl, hk5⟩; have HK := Lib.hid hk5; clear hk5)
          | (go_at_call 17; (with_reducible refine (hhT _ HK.out).out.mono ?_); rintro e w5 ⟨rfl, hk5⟩; have HK := Lib.hid hk5; clear hk5)
          | (go_at_call 28; (with_reducible refine (kb_wipe HK.out.low HK.out.bb.bm hhw f t hf ht (a - b) hRN.out).mono ?_); rintro e w6 ⟨rfl, us2, hch, hm6, hl6⟩
             have hT7 : (((((a - b) : Nat)) : Int) == (a : Int) - (b : Int)) = true := by rw [beq_iff_eq]; exact hRI.out _ _ hch
             have HFN : Hid (∀ l' m, M.Chg true (sl us2) l' (f : Int) (t : Int) m → m = t - f + 1) := fun l' m h' => M.fill_n (by omega) hch h'
             have HM6 := Lib.hid hm6
             have HL6 := Lib.hid hl6
             have hT8 : (((t - f + 1 : Nat) : Int) == (t : Int) - (f : Int) + 1) = true := by rw [beq_iff_eq]; omega
             generalize (a - b) = rr at *
             obtain ⟨tf, htf⟩ : ∃ x, t - f + 1 = x := ⟨_, rfl⟩
             rw [htf] at hT8 HFN
             clear hch hm6 hl6 htf)
          | (go_at_call 27; (with_reducible refine (kb_fill HL6.out HM6.out hhw f t hf ht tf HFN.out).mono ?_); rintro e w7 ⟨rfl, _, _, _, hl7⟩; have HL7 := Lib.hid hl7; clear hl7))
        go_ret
        exact ⟨rfl, HL7.out⟩
      · have hRN : Hid (∀ l' m, M.Chg false (sl us) l' (f : Int) (t : Int) m → m = (a + 1 - b)) := fun l' m h => by have h1 := hWn.out l' m h; simp at h1; omega
        have hRI : Hid (∀ l' m, M.Chg false (sl us) l' (f : Int) (t : Int) m → ((m : Nat) : Int) = (a : Int) - (b : Int) + 1) := fun l' m h => by have h1 := hWn.out l' m h; simp at h1; omega
        go_wp2_with (first
          | (go_at_call 23; (with_reducible refine (hrT _ HK.out).out.mono ?_); rintro e w5 ⟨rfl, hk5⟩; have HK := Lib.hid hk5; clear hk5)
          | (go_at_call 23; (with_reducible refine (hrF _ HK.out).out.mono ?_); rintro e w5 ⟨rfl, hk5⟩; have HK := Lib.hid hk5; clear hk5)
          | (go_at_call 17; (with_reducible refine (hhT _ HK.out).out.mono ?_); rintro e w5 ⟨rfl, hk5⟩; have HK := Lib.hid hk5; clear hk5)
          | (go_at_call 28; (with_reducible refine (kb_wipe HK.out.low HK.out.bb.bm hhw f t hf ht (a + 1 - b) hRN.out).mono ?_); rintro e w6 ⟨rfl, us2, hch, hm6, hl6⟩
             have hT7 : (((((a + 1 - b) : Nat)) : Int) == (a : Int) - (b : Int) + 1) = true := by rw [beq_iff_eq]; exact hRI.out _ _ hch
             have HFN : Hid (∀ l' m, M.Chg true (sl us2) l' (f : Int) (t : Int) m → m = t - f + 1) := fun l' m h' => M.fill_n (by omega) hch h'
             have HM6 := Lib.hid hm6
             have HL6 := Lib.hid hl6
             have hT8 : (((t - f + 1 : Nat) : Int) == (t : Int) - (f : Int) + 1) = true := by rw [beq_iff_eq]; omega
             generalize (a + 1 - b) = rr at *
             obtain ⟨tf, htf⟩ : ∃ x, t - f + 1 = x := ⟨_, rfl⟩
             rw [htf] at hT8 HFN
             clear hch hm6 hl6 htf)
          | (go_at_call 27; (with_reducible refine (kb_fill HL6.out HM6.out hhw f t hf ht tf HFN.out).mono ?_); rintro e w7 ⟨rfl, _, _, _, hl7⟩; have HL7 := Lib.hid hl7; clear hl7))
        go_ret
        exact ⟨rfl, HL7.out⟩
end Go.Proofs.YtbbnamdlfnonoaaDoor
