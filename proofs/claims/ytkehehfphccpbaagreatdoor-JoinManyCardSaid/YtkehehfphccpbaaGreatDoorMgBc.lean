/- list of numbers that a box keeps, in each of the three ways. List, Cost and Kind of a box, whatever it keeps its numbers as; nil too. plain: the same numbers as an array, if they are at most 4096, else as a bitmap. keep and bits of a box. bits of an array and of runs that a box keeps: a new bitmap. copied, of an array and of runs that a box keeps. The functions that Fill and Wipe hand to change. -/
import Derived.Test.YtkehehfphccpbaaGreatDoorMgBb
import Derived.Test.YtkehehfphccpbaaGreatDoorMgGb
section
namespace Go.Proofs.YtkehehfphccpbaaGreatDoor
set_option maxRecDepth 40000
open Go.RowKit Go.Shelf
theorem own_lowX {w : World} {base base' : Nat} {e : TypeId} {size n : Nat} {v : Value} {xs : List Value} (h : w.ownsRow base e size v n xs) (hb : base' ≤ base) : w.ownsRow base' e size v n xs := own_baseG h hb
theorem collect_any (w : World) (Bn : Nat) (xs : List Int) (h : Calls Tryz.prog 59 #[.slice none 0 0, .func (.func 60) #[] #[.pointer (some ⟨Bn, 0, none⟩)]] w (ListP w xs)) :
    Calls Tryz.prog 37 #[.func (.func 60) #[] #[.pointer (some ⟨Bn, 0, none⟩)]] w (ListP w xs) := by
  have H := Lib.hid h
  clear h
  go_enter Tryz.func37, Tryz.ntmps37
  go_wp2_with (go_at_call 59; (with_reducible refine H.out.mono ?_); rintro e w' ⟨v, rfl, ho, hb⟩)
  go_ret
  exact ⟨v, rfl, ho, hb⟩
theorem asB_coll (w : World) (p s h : Nat) (us : List Nat) (a : Bm w p s h us) (hT : Tab w) :
    Calls Tryz.prog 37 #[.func (.func 60) #[] #[.pointer (some ⟨w.heap.size, 0, none⟩)]] (w.alloc (.cells #[.pointer (some ⟨p, 0, none⟩)] 59)) (ListP (w.alloc (.cells #[.pointer (some ⟨p, 0, none⟩)] 59)) (sl us)) := by
  have hl := a.lt
  have hl2 := a.st.2.2.2
  have hz1 : (w.alloc (.cells #[.pointer (some ⟨p, 0, none⟩)] 59)).heap.size = w.heap.size + 1 := by simp
  have b1 : Below w.heap.size w (w.alloc (.cells #[.pointer (some ⟨p, 0, none⟩)] 59)) := (Below.refl _ w).alloc (Nat.le_refl _) _
  have hc1 : (w.alloc (.cells #[.pointer (some ⟨p, 0, none⟩)] 59)).cell? ⟨w.heap.size, 0, none⟩ = some (.pointer (some ⟨p, 0, none⟩)) := by simp
  have hA := append_seq (w.alloc (.cells #[.pointer (some ⟨p, 0, none⟩)] 59)) w.heap.size (sl us) (by have := up_few (sl_up us) (fun y hy => a.range hy); omega) (fun W hW hz => by
    rw [hz1] at hW hz ⊢
    exact bit_seq 8 w.heap.size (w.heap.size + 1) W _ (some ⟨s, 0, none⟩) (sl us) (fun y hy => a.range hy) (by omega) (by omega) ((hW.cell (p := ⟨w.heap.size, 0, none⟩) (by show w.heap.size < w.heap.size + 1; omega)).trans hc1) (by decide)
      (fun W2 hW2 => kept_any W2 p s h us (a.all_below (b1.trans ((hW.mono (by omega)).trans (hW2.mono (by omega))))))
      (fun k Bs W2 hk hW2 hBs hcs => strip_seq k Bs (w.heap.size + 1) s h us hl2 (by omega) W2 (a.st.below (b1.trans ((hW.mono (by omega)).trans (hW2.mono (by omega)))) hl.2.1 hl.2.2) (hT.below (b1.trans ((hW.mono (by omega)).trans (hW2.mono (by omega)))) hT.pos) (by omega) (by omega) (by have := hW2.size; omega) hBs hcs hk))
  exact collect_any _ _ _ hA
theorem asB_list (w : World) (p s h : Nat) (us : List Nat) (a : Bm w p s h us) (hT : Tab w) :
    Calls Tryz.prog 195 #[.agg #[.pointer (some ⟨p, 0, none⟩)]] w (ListP w (sl us)) := by
  have b0 : Below w.heap.size w (w.alloc (.cells #[.pointer (some ⟨p, 0, none⟩)] 82)) := (Below.refl _ w).alloc (Nat.le_refl _) _
  have b1 : Below w.heap.size w ((w.alloc (.cells #[.pointer (some ⟨p, 0, none⟩)] 82)).alloc (.cells #[.pointer (some ⟨p, 0, none⟩)] 59)) := b0.alloc (by simp) _
  have hC := asB_coll (w.alloc (.cells #[.pointer (some ⟨p, 0, none⟩)] 82)) p s h us (a.all_below b0) (hT.below b0 hT.pos)
  have e1 : (w.alloc (.cells #[.pointer (some ⟨p, 0, none⟩)] 82)).heap.size = w.heap.size + 1 := by simp
  rw [e1] at hC
  have HC := Lib.hid hC
  have HB := Lib.hid b1
  clear hC b0 b1 e1 a hT
  go_enter Tryz.func195, Tryz.ntmps195
  go_wp2_with (first
    | (go_at_call 38; (with_reducible refine (bit_all_any _ _).mono ?_); rintro e w' ⟨rfl, rfl⟩)
    | (go_at_call 37; (with_reducible refine HC.out.mono ?_); rintro e w' ⟨v, rfl, ho, hb⟩))
  go_ret
  exact ⟨v, rfl, own_lowX ho (by simp; omega), HB.out.trans (hb.mono (by simp; omega))⟩
theorem asA_list (w : World) (B n c : Nat) (U : Option Addr) (xs : List Int) (hn : n = xs.length) (hr : Rh w B U xs) (hB : B ≤ w.heap.size) (few : n ≤ 1000000) :
    Calls Tryz.prog 174 #[.slice U n c] w (ListP w xs) := by
  have H := Lib.hid (A.box_clone w B n c U xs hn hr hB few)
  have HN := Lib.hid hn
  clear hn hr hB few
  go_enter Tryz.func174, Tryz.ntmps174
  go_wp2_with (go_at_call 176; (with_reducible refine H.out.mono ?_); rintro e w' ⟨v, rfl, ho, hb⟩)
  go_ret
  have hn := HN.out
  subst hn
  exact ⟨v, rfl, ho, hb⟩
theorem asR_list (w : World) (B n c : Nat) (U : Option Addr) (rs : List (Int × Int)) (hn : n = rs.length) (hr : R.Rq w B U rs) (hB : B ≤ w.heap.size) (hg : R.Rn.Ok rs) :
    Calls Tryz.prog 184 #[.slice U n c] w (ListP w (R.Rn.flat rs)) := by
  have H := Lib.hid (R.r_list w B n c U rs hn hr hB hg)
  clear hn hr hB hg
  go_enter Tryz.func184, Tryz.ntmps184
  go_wp2_with (go_at_call 187; (with_reducible refine H.out.mono ?_); rintro e w' ⟨v, rfl, ho, hb⟩)
  go_ret
  exact ⟨v, rfl, ho, hb⟩
end Go.Proofs.YtkehehfphccpbaaGreatDoor
end
section
namespace Go.Proofs.YtkehehfphccpbaaGreatDoor
set_option maxRecDepth 40000
open Go.RowKit
theorem asB_cost (w : World) (p : Nat) : Calls Tryz.prog 194 #[.agg #[.pointer (some ⟨p, 0, none⟩)]] w (AskI w 1024) := by
  go_enter Tryz.func194, Tryz.ntmps194
  go_wp2
  go_ret
  exact ⟨rfl, (Below.refl _ w).alloc (Nat.le_refl _) _⟩
theorem asR_cost (w : World) (n c : Nat) (U : Option Addr) (few : n ≤ 65536) : Calls Tryz.prog 53 #[.slice U n c] w (AskI w (2 * n : Nat)) := by
  have w1 : IntKind.i64.wrap (2 * (n : Int)) = ((2 * n : Nat) : Int) := by rw [IntWalk.i64_in _ (by omega)]; omega
  go_enter Tryz.func53, Tryz.ntmps53
  go_wp2
  go_ret
  exact ⟨rfl, Below.refl _ _⟩
section
variable (w : World) (P : Option Addr) (xs : List Int)
theorem box_List_A (U : Option Addr) (n c : Nat) (ht : ToldP w P (vA U n c)) (hm : Calls Tryz.prog 174 #[.slice U n c] w (ListP w xs)) : Calls Tryz.prog 18 #[.pointer P] w (ListP w xs) := by
  have hT := Lib.hid ht
  have hM := Lib.hid hm
  have hD := fun w => toA_list U n c w
  clear ht hm
  unfold ToldP vA at hT
  go_enter Tryz.func18, Tryz.ntmps18
  go_wp2_with (first
    | (go_at_call 47; (with_reducible refine hT.out.mono ?_); rintro e w' ⟨rfl, rfl⟩)
    | (go_at_call 174; (with_reducible refine hM.out.mono ?_); rintro e w' ⟨v, rfl, ho, hb⟩))
  go_ret
  exact ⟨v, rfl, ho, hb⟩
theorem box_List_B (p : Nat) (ht : ToldP w P (vB p)) (hm : Calls Tryz.prog 195 #[.agg #[.pointer (some ⟨p, 0, none⟩)]] w (ListP w xs)) : Calls Tryz.prog 18 #[.pointer P] w (ListP w xs) := by
  have hT := Lib.hid ht
  have hM := Lib.hid hm
  have hD := fun w => toB_list p w
  clear ht hm
  unfold ToldP vB at hT
  go_enter Tryz.func18, Tryz.ntmps18
  go_wp2_with (first
    | (go_at_call 47; (with_reducible refine hT.out.mono ?_); rintro e w' ⟨rfl, rfl⟩)
    | (go_at_call 195; (with_reducible refine hM.out.mono ?_); rintro e w' ⟨v, rfl, ho, hb⟩))
  go_ret
  exact ⟨v, rfl, ho, hb⟩
theorem box_List_R (U : Option Addr) (n c : Nat) (ht : ToldP w P (vR U n c)) (hm : Calls Tryz.prog 184 #[.slice U n c] w (ListP w xs)) : Calls Tryz.prog 18 #[.pointer P] w (ListP w xs) := by
  have hT := Lib.hid ht
  have hM := Lib.hid hm
  have hD := fun w => toR_list U n c w
  clear ht hm
  unfold ToldP vR at hT
  go_enter Tryz.func18, Tryz.ntmps18
  go_wp2_with (first
    | (go_at_call 47; (with_reducible refine hT.out.mono ?_); rintro e w' ⟨rfl, rfl⟩)
    | (go_at_call 184; (with_reducible refine hM.out.mono ?_); rintro e w' ⟨v, rfl, ho, hb⟩))
  go_ret
  exact ⟨v, rfl, ho, hb⟩
theorem box_List (B : Nat) (v : Value) (ht : ToldP w P v) (m : Nm w B v xs) (hB : B ≤ w.heap.size) (hT : Tab w) : Calls Tryz.prog 18 #[.pointer P] w (ListP w xs) := by
  rcases m.way with ⟨U, c, rfl, h2, h3⟩ | ⟨p, s, r, ws, rfl, h2, rfl, _⟩ | ⟨rs, U, c, rfl, h2, h3, rfl, h4⟩
  · exact box_List_A w P xs U _ c ht (asA_list w B _ _ U xs rfl h2 hB (Nat.le_trans m.few (by omega)))
  · exact box_List_B w P _ p ht (asB_list w p s r ws h2 hT)
  · exact box_List_R w P _ U _ c ht (asR_list w B _ _ U rs rfl h2 hB h3)
end
theorem box_Kind_nil (w : World) : Calls Tryz.prog 8 #[.pointer none] w (AskI w 0) := by
  go_enter Tryz.func8, Tryz.ntmps8
  go_wp2
  go_ret
  exact ⟨rfl, Below.refl _ _⟩
theorem box_Kind (w : World) (q : Nat) (v : Value) (i : Int) (a : Bx w q v) (hm : Calls Tryz.prog 33 #[v] w fun e w' => e = .returned (.int .i64 i) ∧ w = w') : Calls Tryz.prog 8 #[.pointer (some ⟨q, 0, none⟩)] w (AskI w i) := by
  have c0 := a.c0
  have hM := Lib.hid hm
  clear hm
  go_enter Tryz.func8, Tryz.ntmps8
  go_wp2_with (go_at_call 33; (with_reducible refine hM.out.mono ?_); rintro e w' ⟨rfl, rfl⟩)
  go_ret
  exact ⟨rfl, Below.refl _ _⟩
end Go.Proofs.YtkehehfphccpbaaGreatDoor
end
section
namespace Go.Proofs.YtkehehfphccpbaaGreatDoor
set_option maxRecDepth 40000
open Go.RowKit
/-- v is a new bitmap of xs, in blocks from b on. -/
def NBy (w : World) (b : Nat) (v : Value) (xs : List Int) : Prop := ∃ p s h ws, v = vB p ∧ Bm w p s h ws ∧ sl ws = xs ∧ b ≤ p ∧ b ≤ s ∧ b ≤ h
/-- A new array of xs. -/
def NAy (w : World) (b : Nat) (v : Value) (xs : List Int) : Prop := ∃ u, v = .iface 72 u ∧ w.ownsRow b 35 1 u xs.length (hv xs)
def OfP (w : World) (xs : List Int) (e : Ending) (w' : World) : Prop := ∃ p s h us, e = .returned (.pointer (some ⟨p, 0, none⟩)) ∧ Bm w' p s h us ∧ sl us = xs ∧ w.heap.size ≤ p ∧ w.heap.size ≤ s ∧ w.heap.size ≤ h ∧ Below w.heap.size w w'
theorem of_own (w w1 : World) (xs : List Int) (hs : xs.Pairwise (· < ·)) (hx : ∀ y ∈ xs, 0 ≤ y ∧ y ≤ 65535) (v : Value) (ho : w1.ownsRow w.heap.size 35 1 v xs.length (hv xs)) : ∃ U c, v = .slice U xs.length c ∧ Calls Tryz.prog 74 #[.slice U xs.length c] w1 (OfP w1 xs) := by
  obtain ⟨U, c, rfl, hr, hF⟩ := Rh.of_own ho
  refine ⟨U, c, rfl, (b_of U c xs w1 hr (by have := up_few hs hx; omega) hx).mono ?_⟩
  rintro e w2 ⟨p, s, h, us, rfl, hm, hO, h1, h2, h3, hb⟩
  exact ⟨p, s, h, us, rfl, hm, M.sorted_ext hO.1 hs fun y => hO.2 y, h1, h2, h3, hb⟩
set_option maxHeartbeats 2000000 in
theorem plain_A_few (w : World) (U : Option Addr) (n c : Nat) (xs : List Int) (hm : Calls Tryz.prog 167 #[.slice U n c] w (AskI w (xs.length : Nat))) (hc : xs.length ≤ 4096) : Calls Tryz.prog 48 #[vA U n c] w (fun e w' => e = .returned (vA U n c) ∧ Below w.heap.size w w') := by
  have hM := Lib.hid hm
  have hK := fun w => Lib.hid (kind_a w U n c)
  have hD := fun w => toA_Len U n c w
  have hd : decide ((xs.length : Int) ≤ 4096) = true := by exact decide_eq_true (by omega)
  clear hm hc
  unfold vA at *
  go_enter Tryz.func48, Tryz.ntmps48
  go_wp2_with (first
    | (go_at_call 167; (with_reducible refine hM.out.mono ?_); rintro e w1 ⟨rfl, hb⟩; have HB := Lib.hid hb; clear hb)
    | (go_at_call 33; (with_reducible refine (hK _).out.mono ?_); rintro e w2 ⟨rfl, rfl⟩))
  go_ret
  exact ⟨rfl, HB.out⟩
set_option maxHeartbeats 2000000 in
theorem plain_A_many (w : World) (U : Option Addr) (n c : Nat) (xs : List Int) (hm : Calls Tryz.prog 167 #[.slice U n c] w (AskI w (xs.length : Nat))) (hs : xs.Pairwise (· < ·)) (hx : ∀ y ∈ xs, 0 ≤ y ∧ y ≤ 65535) (hi : ∀ W, Below w.heap.size w W → Calls Tryz.prog 174 #[.slice U n c] W (ListP W xs)) (hc : 4096 < xs.length) : Calls Tryz.prog 48 #[vA U n c] w (fun e w' => ∃ v, e = .returned v ∧ NBy w' w.heap.size v xs ∧ Below w.heap.size w w') := by
  have hM := Lib.hid hm
  have hK := fun w => Lib.hid (kind_a w U n c)
  have hD := fun w => toA_Len U n c w
  have hL := fun w => toA_list U n c w
  have hI := Lib.hid hi
  have hS := Lib.hid hs
  have hX := Lib.hid hx
  have hd : decide ((xs.length : Int) ≤ 4096) = false := by exact decide_eq_false (by omega)
  clear hm hc hi hs hx
  unfold vA at *
  go_enter Tryz.func48, Tryz.ntmps48
  go_wp2_with (first
    | (go_at_call 167; (with_reducible refine hM.out.mono ?_); rintro e w1 ⟨rfl, hb⟩; have HB := Lib.hid hb; clear hb)
    | (go_at_call 33; (with_reducible refine (hK _).out.mono ?_); rintro e w2 ⟨rfl, rfl⟩)
    | (go_at_call 174; (with_reducible refine (hI.out _ HB.out).mono ?_); rintro e w3 ⟨v3, rfl, ho, hb3⟩; obtain ⟨U3, c3, rfl, hof⟩ := of_own _ _ _ hS.out hX.out _ ho; have HF := Lib.hid hof; have HB3 := Lib.hid hb3; clear ho hb3 hof)
    | (go_at_call 74; (with_reducible refine HF.out.mono ?_); rintro e w4 ⟨p4, s4, h4, us4, rfl, hm4, he4, hp4, hs4, hh4, hb4⟩; have HZ := Lib.hid (And.intro hm4 (And.intro he4 (And.intro hp4 (And.intro hs4 (And.intro hh4 hb4))))); clear hm4 he4 hp4 hs4 hh4 hb4))
  go_ret
  obtain ⟨hm4, he4, hp4, hs4, hh4, hb4⟩ := HZ.out
  have z1 := HB.out.size
  have z3 := HB3.out.size
  exact ⟨_, rfl, ⟨p4, s4, h4, us4, rfl, hm4, he4, by omega, by omega, by omega⟩, HB.out.trans ((HB3.out.trans (hb4.mono z3)).mono z1)⟩
set_option maxHeartbeats 2000000 in
theorem plain_B_few (w : World) (p : Nat) (xs : List Int) (hm : Calls Tryz.prog 158 #[.pointer (some ⟨p, 0, none⟩)] w (AskI w (xs.length : Nat))) (hs : xs.Pairwise (· < ·)) (hx : ∀ y ∈ xs, 0 ≤ y ∧ y ≤ 65535) (hi : ∀ W, Below w.heap.size w W → Calls Tryz.prog 195 #[.agg #[.pointer (some ⟨p, 0, none⟩)]] W (ListP W xs)) (hc : xs.length ≤ 4096) : Calls Tryz.prog 48 #[vB p] w (fun e w' => ∃ v, e = .returned v ∧ NAy w' w.heap.size v xs ∧ Below w.heap.size w w') := by
  have hM := Lib.hid hm
  have hK := fun w => Lib.hid (kind_b w p)
  have hD := fun w => toB_Len p w
  have hL := fun w => toB_list p w
  have hI := Lib.hid hi
  have hS := Lib.hid hs
  have hX := Lib.hid hx
  have hd : decide ((xs.length : Int) ≤ 4096) = true := by exact decide_eq_true (by omega)
  clear hm hc hi hs hx
  unfold vB at *
  go_enter Tryz.func48, Tryz.ntmps48
  go_wp2_with (first
    | (go_at_call 158; (with_reducible refine hM.out.mono ?_); rintro e w1 ⟨rfl, hb⟩; have HB := Lib.hid hb; clear hb)
    | (go_at_call 33; (with_reducible refine (hK _).out.mono ?_); rintro e w2 ⟨rfl, rfl⟩)
    | (go_at_call 195; (with_reducible refine (hI.out _ HB.out).mono ?_); rintro e w3 ⟨v3, rfl, ho, hb3⟩; have HO := Lib.hid ho; have HB3 := Lib.hid hb3; clear ho hb3))
  go_ret
  exact ⟨_, rfl, ⟨v3, rfl, own_lowX HO.out HB.out.size⟩, HB.out.trans (HB3.out.mono HB.out.size)⟩
set_option maxHeartbeats 2000000 in
theorem plain_B_many (w : World) (p : Nat) (xs : List Int) (hm : Calls Tryz.prog 158 #[.pointer (some ⟨p, 0, none⟩)] w (AskI w (xs.length : Nat))) (hc : 4096 < xs.length) : Calls Tryz.prog 48 #[vB p] w (fun e w' => e = .returned (vB p) ∧ Below w.heap.size w w') := by
  have hM := Lib.hid hm
  have hK := fun w => Lib.hid (kind_b w p)
  have hD := fun w => toB_Len p w
  have hd : decide ((xs.length : Int) ≤ 4096) = false := by exact decide_eq_false (by omega)
  clear hm hc
  unfold vB at *
  go_enter Tryz.func48, Tryz.ntmps48
  go_wp2_with (first
    | (go_at_call 158; (with_reducible refine hM.out.mono ?_); rintro e w1 ⟨rfl, hb⟩; have HB := Lib.hid hb; clear hb)
    | (go_at_call 33; (with_reducible refine (hK _).out.mono ?_); rintro e w2 ⟨rfl, rfl⟩))
  go_ret
  exact ⟨rfl, HB.out⟩
set_option maxHeartbeats 2000000 in
theorem plain_R_few (w : World) (U : Option Addr) (n c : Nat) (xs : List Int) (hm : Calls Tryz.prog 178 #[.slice U n c] w (AskI w (xs.length : Nat))) (hs : xs.Pairwise (· < ·)) (hx : ∀ y ∈ xs, 0 ≤ y ∧ y ≤ 65535) (hi : ∀ W, Below w.heap.size w W → Calls Tryz.prog 184 #[.slice U n c] W (ListP W xs)) (hc : xs.length ≤ 4096) : Calls Tryz.prog 48 #[vR U n c] w (fun e w' => ∃ v, e = .returned v ∧ NAy w' w.heap.size v xs ∧ Below w.heap.size w w') := by
  have hM := Lib.hid hm
  have hK := fun w => Lib.hid (kind_r w U n c)
  have hD := fun w => toR_Len U n c w
  have hL := fun w => toR_list U n c w
  have hI := Lib.hid hi
  have hS := Lib.hid hs
  have hX := Lib.hid hx
  have hd : decide ((xs.length : Int) ≤ 4096) = true := by exact decide_eq_true (by omega)
  clear hm hc hi hs hx
  unfold vR at *
  go_enter Tryz.func48, Tryz.ntmps48
  go_wp2_with (first
    | (go_at_call 178; (with_reducible refine hM.out.mono ?_); rintro e w1 ⟨rfl, hb⟩; have HB := Lib.hid hb; clear hb)
    | (go_at_call 33; (with_reducible refine (hK _).out.mono ?_); rintro e w2 ⟨rfl, rfl⟩)
    | (go_at_call 184; (with_reducible refine (hI.out _ HB.out).mono ?_); rintro e w3 ⟨v3, rfl, ho, hb3⟩; have HO := Lib.hid ho; have HB3 := Lib.hid hb3; clear ho hb3))
  go_ret
  exact ⟨_, rfl, ⟨v3, rfl, own_lowX HO.out HB.out.size⟩, HB.out.trans (HB3.out.mono HB.out.size)⟩
set_option maxHeartbeats 2000000 in
theorem plain_R_many (w : World) (U : Option Addr) (n c : Nat) (xs : List Int) (hm : Calls Tryz.prog 178 #[.slice U n c] w (AskI w (xs.length : Nat))) (hs : xs.Pairwise (· < ·)) (hx : ∀ y ∈ xs, 0 ≤ y ∧ y ≤ 65535) (hi : ∀ W, Below w.heap.size w W → Calls Tryz.prog 184 #[.slice U n c] W (ListP W xs)) (hc : 4096 < xs.length) : Calls Tryz.prog 48 #[vR U n c] w (fun e w' => ∃ v, e = .returned v ∧ NBy w' w.heap.size v xs ∧ Below w.heap.size w w') := by
  have hM := Lib.hid hm
  have hK := fun w => Lib.hid (kind_r w U n c)
  have hD := fun w => toR_Len U n c w
  have hL := fun w => toR_list U n c w
  have hI := Lib.hid hi
  have hS := Lib.hid hs
  have hX := Lib.hid hx
  have hd : decide ((xs.length : Int) ≤ 4096) = false := by exact decide_eq_false (by omega)
  clear hm hc hi hs hx
  unfold vR at *
  go_enter Tryz.func48, Tryz.ntmps48
  go_wp2_with (first
    | (go_at_call 178; (with_reducible refine hM.out.mono ?_); rintro e w1 ⟨rfl, hb⟩; have HB := Lib.hid hb; clear hb)
    | (go_at_call 33; (with_reducible refine (hK _).out.mono ?_); rintro e w2 ⟨rfl, rfl⟩)
    | (go_at_call 184; (with_reducible refine (hI.out _ HB.out).mono ?_); rintro e w3 ⟨v3, rfl, ho, hb3⟩; obtain ⟨U3, c3, rfl, hof⟩ := of_own _ _ _ hS.out hX.out _ ho; have HF := Lib.hid hof; have HB3 := Lib.hid hb3; clear ho hb3 hof)
    | (go_at_call 74; (with_reducible refine HF.out.mono ?_); rintro e w4 ⟨p4, s4, h4, us4, rfl, hm4, he4, hp4, hs4, hh4, hb4⟩; have HZ := Lib.hid (And.intro hm4 (And.intro he4 (And.intro hp4 (And.intro hs4 (And.intro hh4 hb4))))); clear hm4 he4 hp4 hs4 hh4 hb4))
  go_ret
  obtain ⟨hm4, he4, hp4, hs4, hh4, hb4⟩ := HZ.out
  have z1 := HB.out.size
  have z3 := HB3.out.size
  exact ⟨_, rfl, ⟨p4, s4, h4, us4, rfl, hm4, he4, by omega, by omega, by omega⟩, HB.out.trans ((HB3.out.trans (hb4.mono z3)).mono z1)⟩
end Go.Proofs.YtkehehfphccpbaaGreatDoor
end
section
namespace Go.Proofs.YtkehehfphccpbaaGreatDoor
set_option maxRecDepth 40000
open Go.RowKit
theorem keep_nil (w : World) (v : Value) : Calls Tryz.prog 54 #[.pointer none, v] w fun e w' => e = .returned (.bool false) ∧ w = w' := by
  go_enter Tryz.func54, Tryz.ntmps54
  go_wp2
  go_ret
  exact ⟨rfl, rfl⟩
theorem bits_B (w : World) (p : Nat) : Calls Tryz.prog 71 #[vB p] w fun e w' => e = .returned (.pointer (some ⟨p, 0, none⟩)) ∧ Below w.heap.size w w' := by
  have hB := fun w => isBB w p
  unfold vB at *
  go_enter Tryz.func71, Tryz.ntmps71
  go_wp2
  go_ret
  exact ⟨rfl, by first | exact Below.refl _ _ | exact (Below.refl _ w).alloc (Nat.le_refl _) _⟩
theorem keep_any (w : World) (q : Nat) (u : Value) (t : TypeId) (x : Value) (i j : Int) (a : Bx w q u) (hu : Calls Tryz.prog 33 #[u] w fun e w' => e = .returned (.int .i64 i) ∧ w = w')
    (hv : ∀ W, Calls Tryz.prog 33 #[.iface t x] W fun e w' => e = .returned (.int .i64 j) ∧ W = w') :
    Calls Tryz.prog 54 #[.pointer (some ⟨q, 0, none⟩), .iface t x] w fun e w' => e = .returned (.bool (j != i)) ∧ w' = w.setCell ⟨q, 0, none⟩ (.iface t x) := by
  have c0 := a.c0
  have fz : w.frozen? ⟨q, 0, none⟩ = false := by simp [World.frozen?, a.row]
  have hU := Lib.hid hu
  have hV := Lib.hid hv
  clear hu hv
  go_enter Tryz.func54, Tryz.ntmps54
  go_wp2_with (first
    | (go_at_call 33; (with_reducible refine hU.out.mono ?_); rintro e w' ⟨rfl, rfl⟩)
    | (go_at_call 33; (with_reducible refine (hV.out _).mono ?_); rintro e w' ⟨rfl, rfl⟩))
  go_ret
  exact ⟨rfl, rfl⟩
theorem Bx.kept {w : World} {q : Nat} {u : Value} (a : Bx w q u) (v : Value) : Bx (w.setCell ⟨q, 0, none⟩ v) q v := ⟨set_heapG a.row⟩
theorem Bx.told {w : World} {q : Nat} {v : Value} (a : Bx w q v) : ToldP w (some ⟨q, 0, none⟩) v := told_any w q v a
theorem told_none (w : World) : ToldP w none (vA none 0 0) := told_nil w
end Go.Proofs.YtkehehfphccpbaaGreatDoor
end
section
namespace Go.Proofs.YtkehehfphccpbaaGreatDoor
set_option maxRecDepth 40000
open Go.RowKit
set_option maxHeartbeats 2000000 in
theorem bits_A (w : World) (U : Option Addr) (n c : Nat) (xs : List Int) (hs : xs.Pairwise (· < ·)) (hx : ∀ y ∈ xs, 0 ≤ y ∧ y ≤ 65535) (hi : ∀ W, Below w.heap.size w W → Calls Tryz.prog 174 #[.slice U n c] W (ListP W xs)) : Calls Tryz.prog 71 #[vA U n c] w (OfP w xs) := by
  have hB := fun w => isAB w U n c
  have hL := fun w => toA_list U n c w
  have hI := Lib.hid hi
  have z0 : ∀ o, w.heap.size ≤ (w.alloc o).heap.size := fun o => by simp
  have hS := Lib.hid hs
  have hX := Lib.hid hx
  clear hi hs hx
  unfold vA at *
  go_enter Tryz.func71, Tryz.ntmps71
  go_wp2_with (first
    | (go_at_call 174; (with_reducible refine (hI.out _ ((Below.refl _ w).alloc (Nat.le_refl _) _)).mono ?_); rintro e w3 ⟨v3, rfl, ho, hb3⟩; obtain ⟨U3, c3, rfl, hof⟩ := of_own _ _ _ hS.out hX.out _ ho; have HF := Lib.hid hof; have HB3 := Lib.hid hb3; clear ho hb3 hof)
    | (go_at_call 74; (with_reducible refine HF.out.mono ?_); rintro e w4 ⟨p4, s4, h4, us4, rfl, hm4, he4, hp4, hs4, hh4, hb4⟩; have HZ := Lib.hid (And.intro hm4 (And.intro he4 (And.intro hp4 (And.intro hs4 (And.intro hh4 hb4))))); clear hm4 he4 hp4 hs4 hh4 hb4))
  go_ret
  obtain ⟨hm4, he4, hp4, hs4, hh4, hb4⟩ := HZ.out
  have z3 := HB3.out.size
  have z2 := z0 (.cells #[.pointer none] 82)
  exact ⟨p4, s4, h4, us4, rfl, hm4, he4, by omega, by omega, by omega, ((Below.refl _ w).alloc (Nat.le_refl _) _).trans ((HB3.out.trans (hb4.mono z3)).mono z2)⟩
set_option maxHeartbeats 2000000 in
theorem bits_R (w : World) (U : Option Addr) (n c : Nat) (xs : List Int) (hs : xs.Pairwise (· < ·)) (hx : ∀ y ∈ xs, 0 ≤ y ∧ y ≤ 65535) (hi : ∀ W, Below w.heap.size w W → Calls Tryz.prog 184 #[.slice U n c] W (ListP W xs)) : Calls Tryz.prog 71 #[vR U n c] w (OfP w xs) := by
  have hB := fun w => isRB w U n c
  have hL := fun w => toR_list U n c w
  have hI := Lib.hid hi
  have z0 : ∀ o, w.heap.size ≤ (w.alloc o).heap.size := fun o => by simp
  have hS := Lib.hid hs
  have hX := Lib.hid hx
  clear hi hs hx
  unfold vR at *
  go_enter Tryz.func71, Tryz.ntmps71
  go_wp2_with (first
    | (go_at_call 184; (with_reducible refine (hI.out _ ((Below.refl _ w).alloc (Nat.le_refl _) _)).mono ?_); rintro e w3 ⟨v3, rfl, ho, hb3⟩; obtain ⟨U3, c3, rfl, hof⟩ := of_own _ _ _ hS.out hX.out _ ho; have HF := Lib.hid hof; have HB3 := Lib.hid hb3; clear ho hb3 hof)
    | (go_at_call 74; (with_reducible refine HF.out.mono ?_); rintro e w4 ⟨p4, s4, h4, us4, rfl, hm4, he4, hp4, hs4, hh4, hb4⟩; have HZ := Lib.hid (And.intro hm4 (And.intro he4 (And.intro hp4 (And.intro hs4 (And.intro hh4 hb4))))); clear hm4 he4 hp4 hs4 hh4 hb4))
  go_ret
  obtain ⟨hm4, he4, hp4, hs4, hh4, hb4⟩ := HZ.out
  have z3 := HB3.out.size
  have z2 := z0 (.cells #[.pointer none] 82)
  exact ⟨p4, s4, h4, us4, rfl, hm4, he4, by omega, by omega, by omega, ((Below.refl _ w).alloc (Nat.le_refl _) _).trans ((HB3.out.trans (hb4.mono z3)).mono z2)⟩
end Go.Proofs.YtkehehfphccpbaaGreatDoor
end
section
namespace Go.Proofs.YtkehehfphccpbaaGreatDoor
set_option maxRecDepth 40000
open Go.RowKit
/-- New runs of a box. -/
def NRy (w : World) (b : Nat) (v : Value) (rs : List (Int × Int)) : Prop := ∃ u, v = .iface 78 u ∧ w.ownsRow b 112 2 u rs.length (R.rv rs)
theorem change_nil (w : World) (f : Value) : Calls Tryz.prog 42 #[.pointer none, f] w fun e w' => e = .returned (.int .i64 0) ∧ w = w' := by
  go_enter Tryz.func42, Tryz.ntmps42
  go_wp2
  go_ret
  exact ⟨rfl, rfl⟩
end Go.Proofs.YtkehehfphccpbaaGreatDoor
end
section
namespace Go.Proofs.YtkehehfphccpbaaGreatDoor
set_option maxRecDepth 40000
open Go.RowKit
theorem fill_fn (w : World) (p s h : Nat) (ws : List Nat) (a : Bm w p s h ws) (f t : Nat) (hf : f ≤ 65535) (ht : t ≤ 65535) (b1 b2 : Nat) (c1 : w.cell? ⟨b1, 0, none⟩ = some (.int .u16 (f : Int))) (c2 : w.cell? ⟨b2, 0, none⟩ = some (.int .u16 (t : Int))) :
    Calls Tryz.prog 43 #[.pointer (some ⟨p, 0, none⟩), .pointer (some ⟨b1, 0, none⟩), .pointer (some ⟨b2, 0, none⟩)] w (BInt true w p s h ws f t) := by
  have H := Lib.hid (b_fill a f t hf ht)
  clear a
  go_enter Tryz.func43, Tryz.ntmps43
  go_wp2_with (go_at_call 44; (with_reducible refine H.out.mono ?_); rintro e w' ⟨n, rfl, hst⟩; have HS := Lib.hid hst; clear hst)
  go_ret
  exact ⟨n, rfl, HS.out⟩
theorem wipe_fn (w : World) (p s h : Nat) (ws : List Nat) (a : Bm w p s h ws) (f t : Nat) (hf : f ≤ 65535) (ht : t ≤ 65535) (b1 b2 : Nat) (c1 : w.cell? ⟨b1, 0, none⟩ = some (.int .u16 (f : Int))) (c2 : w.cell? ⟨b2, 0, none⟩ = some (.int .u16 (t : Int))) :
    Calls Tryz.prog 45 #[.pointer (some ⟨p, 0, none⟩), .pointer (some ⟨b1, 0, none⟩), .pointer (some ⟨b2, 0, none⟩)] w (BInt false w p s h ws f t) := by
  have H := Lib.hid (b_wipe a f t hf ht)
  clear a
  go_enter Tryz.func45, Tryz.ntmps45
  go_wp2_with (go_at_call 46; (with_reducible refine H.out.mono ?_); rintro e w' ⟨n, rfl, hst⟩; have HS := Lib.hid hst; clear hst)
  go_ret
  exact ⟨n, rfl, HS.out⟩
end Go.Proofs.YtkehehfphccpbaaGreatDoor
end
