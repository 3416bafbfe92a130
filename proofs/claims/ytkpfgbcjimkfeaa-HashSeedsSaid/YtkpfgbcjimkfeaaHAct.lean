
/- The law's own 'do' of hash: one act on the table and on the document's list, the text walked. -/
import Derived.Test.YtkpfgbcjimkfeaaHMath3
import Derived.Test.YtkpfgbcjimkfeaaHTab5
namespace Go.Proofs.Ytkpfgbcjimkfeaa
open Go.RowKit
/-- A table and the document's list. -/
structure HS (w : World) (P Q M seed n : Nat) (es : List (H.Key × Nat)) (pr cl : Nat) (v : Value) : Prop where
  tab : Tab w P Q M seed n es pr cl
  lx : LX w v es
  off : ∀ g, v.ownBlock = some g → ¬ TF P Q M g
  ris : Ris es
theorem Tab.tf_lt {w : World} {P Q M seed n pr cl : Nat} {es : List (H.Key × Nat)} (a : Tab w P Q M seed n es pr cl) : ∀ j, TF P Q M j → j < w.heap.size := by
  obtain ⟨ps, t, p, h1, h2, h3, h4, h5, h6, h7, h8⟩ := a
  rintro j (rfl | rfl | rfl)
  · exact h1.row.lt
  · exact h1.qlt
  · exact h7.lt
theorem hdrop_no {es : List (H.Key × Nat)} {k : H.Key} (h : fo es k = false) : hdrop es k = es := by unfold hdrop; rw [h]; rfl
def DoQ (w : World) (P Q M seed : Nat) (v : Value) (es' : List (H.Key × Nat)) (cl' : Nat) (e : Ending) (w' : World) : Prop :=
  ∃ Q' n' pr' v', e = .returned (.tuple #[v', .bool true]) ∧ HS w' P Q' M seed n' es' pr' cl' v' ∧ ButS w w' (TF P Q M) ∧ (Q' = Q ∨ w.heap.size ≤ Q') ∧ (v' = v ∨ ∀ g, v'.ownBlock = some g → w.heap.size ≤ g)
theorem hacto_cells {w w2 : World} {d l p x : Nat} (hb : Below (w.alloc (hacto d l p x)).heap.size (w.alloc (hacto d l p x)) w2) :
    (∀ o, (w2.alloc o).cell? ⟨w.heap.size, 0, none⟩ = some (.int .u8 (d : Int))) ∧ w2.cell? ⟨w.heap.size, 1, none⟩ = some (.int .u8 (l : Int)) ∧ w2.cell? ⟨w.heap.size, 2, none⟩ = some (.int .u64 (p : Int)) ∧ (∀ o, (w2.alloc o).cell? ⟨w.heap.size, 3, none⟩ = some (.int .u64 (x : Int))) ∧ w.heap.size < w2.heap.size := by
  have h3 := (hb.block w.heap.size (by simp)).trans (alloc_topI w (hacto d l p x))
  have hs := hb.size
  have h4 : w.heap.size < w2.heap.size := by simp at hs; omega
  exact ⟨fun o => (World.cell?_alloc_lt w2 o ⟨w.heap.size, 0, none⟩ h4).trans (cell_of_row _ _ 0 _ _ (0, 0) h3), cell_of_row _ _ 1 _ _ (0, 0) h3, cell_of_row _ _ 2 _ _ (0, 0) h3, fun o => (World.cell?_alloc_lt w2 o ⟨w.heap.size, 3, none⟩ h4).trans (cell_of_row _ _ 3 _ _ (0, 0) h3), h4⟩
theorem doq_of {w w2 w3 w4 : World} {o : Obj} {P Q M seed n' pr' cl' Q' : Nat} {v v' : Value} {es' tes : List (H.Key × Nat)} (hb3 : ButS w w3 (fun _ => False)) (hTF : ∀ j, TF P Q M j → j < w.heap.size) (hoff : ∀ g, v.ownBlock = some g → ¬ TF P Q M g)
    (hsz3 : w.heap.size ≤ w3.heap.size) (hlx : LX w2 v' es') (_hsz : w.heap.size < w2.heap.size) (hb23 : ButS w2 w3 (fun _ => False)) (hv : v' = v ∨ ∀ g, v'.ownBlock = some g → (w.alloc o).heap.size ≤ g) (hT : Tab w4 P Q' M seed n' tes pr' cl') (hB : ButS w3 w4 (TF P Q M)) (hQ : Q' = Q ∨ w3.heap.size ≤ Q')
    (hp : tes.Perm es') (hr : Ris es') : DoQ w P Q M seed v es' cl' (.returned (.tuple #[v', .bool true])) w4 := by
  have hv' : v' = v ∨ ∀ g, v'.ownBlock = some g → w.heap.size ≤ g := hv.imp id (fun h g e => by have := h g e; simp at this; omega)
  have hoff2 : ∀ g, v'.ownBlock = some g → ¬ TF P Q M g := fun g e ht => by
    rcases hv' with rfl | h
    · exact hoff g e ht
    · have := h g e
      have := hTF g ht
      omega
  have hlx3 : LX w3 v' es' := hb23.own hlx (fun _ _ h => h)
  have hg3 : ∀ g, v'.ownBlock = some g → g < w3.heap.size := fun g e => (own_lt hlx3 e).1
  refine ⟨Q', n', pr', v', rfl, ⟨hT.perm hp, hB.own hlx3 hoff2, fun g e ht => ?_, hr⟩, (hb3.mono fun _ _ h => h.elim).trans hB, hQ.imp id (fun h => by omega), hv'⟩
  rcases ht with h | h | h
  · exact hoff2 g e (.inl h)
  · rcases hQ with h2 | h2
    · exact hoff2 g e (.inr (.inl (h.trans h2)))
    · have := hg3 g e; omega
  · exact hoff2 g e (.inr (.inr h))
set_option maxRecDepth 100000 in
set_option maxHeartbeats 2000000 in
theorem d_get (w : World) (P Q M seed n pr cl : Nat) (es : List (H.Key × Nat)) (v : Value) (h : HS w P Q M seed n es pr cl v) (hl : es.length ≤ 100000) (_hcl : cl < 1000000) (d l p x : Nat) (hd : d < 256) (l1 : l < 256) (_p1 : p < 18446744073709551616) (_x1 : x < 18446744073709551616) (hk : d % 4 = 3) :
    Calls Try.prog 8 #[.pointer (some ⟨P, 0, none⟩), v, hactv d l p x] w (DoQ w P Q M seed v es (cl + 1)) := by
  have hl1 : es.length ≤ 1000000 := by omega
  have hdo1 := Lib.hid (h_get (w.alloc (hacto d l p x)) v es ((but_alloc' w (hacto d l p x) (fun _ => False)).own h.lx (fun _ _ hf => hf)) (by omega) d l p x hd hk)
  have hT : Hid (∀ X, ButS w X (fun _ => False) → Tab X P Q M seed n es pr cl) := fun X hX => h.tab.but hX (fun _ _ hf => hf)
  have hris := Lib.hid h.ris
  have hoff := Lib.hid h.off
  have hTF := Lib.hid h.tab.tf_lt
  obtain ⟨e1, e2⟩ := mod4 d hd 3 hk
  clear h
  go_enter Try.func8, Try.ntmps8
  go_wp2_with (first
    | (go_at_call 18; (with_reducible refine hdo1.out.mono ?_); rintro e w2 ⟨v', rfl, hlx, hb, hv'⟩; have HLX := Lib.hid hlx; have HBB := Lib.hid hb; have HV := Lib.hid hv'; have hcs := hacto_cells hb; have d0 := hcs.1; have d1 := hcs.2.1; have d2 := hcs.2.2.1; have d3 := hcs.2.2.2.1; have hsz := hcs.2.2.2.2; clear hlx hb hv' hcs; have hb3 : Hid (∀ o, ButS w (w2.alloc o) (fun _ => False)) := (fun o => (((but_alloc' w (hacto d l p x) _).trans (ButS.of_below HBB.out (Nat.le_refl _))).trans (but_alloc' w2 o _))))
    | (go_at_call 9; (with_reducible refine (tab_size _ P Q M seed n pr cl es (hT.out _ (hb3.out _))).mono ?_); rintro e w3 ⟨rfl, rfl⟩)
    | (go_at_call 17; (with_reducible refine (tab_get _ P Q M seed n pr cl es (hT.out _ (hb3.out _)) (l, p) l1 _hcl _ _ (get_fact hris.out (l, p))).mono ?_); rintro e w4 ⟨rfl, hs⟩; obtain ⟨Q', n', pr', h1, h2, h3, h4, h5⟩ := hs; have HT4 := Lib.hid h1; have HB4 := Lib.hid h2; have HQ4 := Lib.hid h3; clear h1 h2 h3; have g1 : decide ((1 : Int) ≤ (pr' : Int)) = true := decide_eq_true (by omega); have g2 : decide ((pr' : Int) ≤ (n : Int)) = true := decide_eq_true (by omega))
    | (go_at_call 15; (with_reducible refine (tab_probes _ P Q' M seed n' pr' _ _ HT4.out).mono ?_); rintro e w5 ⟨rfl, rfl⟩))
  go_ret2
  exact doq_of (v' := v') (hb3.out _) hTF.out hoff.out (hb3.out _).size HLX.out hsz (but_alloc' w2 _ _) HV.out HT4.out HB4.out HQ4.out (List.Perm.refl _) hris.out
set_option maxRecDepth 100000 in
set_option maxHeartbeats 2000000 in
theorem d_drop1 (w : World) (P Q M seed n pr cl : Nat) (es : List (H.Key × Nat)) (v : Value) (h : HS w P Q M seed n es pr cl v) (hl : es.length ≤ 100000) (_hcl : cl < 1000000) (d l p x : Nat) (hd : d < 256) (l1 : l < 256) (_p1 : p < 18446744073709551616) (_x1 : x < 18446744073709551616) (hk : d % 4 = 2) (hG : fo es (l, p) = true) :
    Calls Try.prog 8 #[.pointer (some ⟨P, 0, none⟩), v, hactv d l p x] w (DoQ w P Q M seed v (hdrop es (l, p)) (cl)) := by
  have hl1 : es.length ≤ 1000000 := by omega
  have hdo1 := Lib.hid (hG ▸ h_drop (w.alloc (hacto d l p x)) v es ((but_alloc' w (hacto d l p x) (fun _ => False)).own h.lx (fun _ _ hf => hf)) hl1 d l p x hd hk)
  have hT : Hid (∀ X, ButS w X (fun _ => False) → Tab X P Q M seed n es pr cl) := fun X hX => h.tab.but hX (fun _ _ hf => hf)
  have hris := Lib.hid h.ris
  have hoff := Lib.hid h.off
  have hTF := Lib.hid h.tab.tf_lt
  obtain ⟨e1, e2⟩ := mod4 d hd 2 hk
  obtain ⟨v0, r, hp1, _, hp3⟩ := put_yes_perm 0 hG
  rw [hp3] at hp1
  have hperm := Lib.hid hp1
  have hrl : (hdrop es (l, p)).length < 1000000 := by have := hdrop_len es (l, p); omega
  clear hp1 hp3 hG
  clear h
  go_enter Try.func8, Try.ntmps8
  go_wp2_with (first
    | (go_at_call 18; (with_reducible refine hdo1.out.mono ?_); rintro e w2 ⟨v', rfl, hlx, hb, hv'⟩; have HLX := Lib.hid hlx; have HBB := Lib.hid hb; have HV := Lib.hid hv'; have hcs := hacto_cells hb; have d0 := hcs.1; have d1 := hcs.2.1; have d2 := hcs.2.2.1; have d3 := hcs.2.2.2.1; have hsz := hcs.2.2.2.2; clear hlx hb hv' hcs; have hb3 : Hid (∀ o, ButS w (w2.alloc o) (fun _ => False)) := (fun o => (((but_alloc' w (hacto d l p x) _).trans (ButS.of_below HBB.out (Nat.le_refl _))).trans (but_alloc' w2 o _))))
    | (go_at_call 9; (with_reducible refine (tab_size _ P Q M seed n pr cl es (hT.out _ (hb3.out _))).mono ?_); rintro e w3 ⟨rfl, rfl⟩)
    | (go_at_call 19; (with_reducible refine (tab_drop_yes _ P Q M seed n pr cl es (hdrop es (l, p)) (hT.out _ (hb3.out _)) (l, p) l1 v0 hperm.out hrl).mono ?_); rintro e w4 ⟨rfl, hs⟩; obtain ⟨Q', n', pr', h1, h2, h3, h4, h5⟩ := hs; have HT4 := Lib.hid h1; have HB4 := Lib.hid h2; have HQ4 := Lib.hid h3; clear h1 h2 h3; have g1 : decide ((1 : Int) ≤ (pr' : Int)) = true := decide_eq_true (by omega); have g2 : decide ((pr' : Int) ≤ (n : Int)) = true := decide_eq_true (by omega))
    | (go_at_call 15; (with_reducible refine (tab_probes _ P Q' M seed n' pr' _ _ HT4.out).mono ?_); rintro e w5 ⟨rfl, rfl⟩))
  go_ret2
  exact doq_of (v' := v') (hb3.out _) hTF.out hoff.out (hb3.out _).size HLX.out hsz (but_alloc' w2 _ _) HV.out HT4.out HB4.out HQ4.out (List.Perm.refl _) (ris_drop hris.out _)
set_option maxRecDepth 100000 in
set_option maxHeartbeats 2000000 in
theorem d_drop0 (w : World) (P Q M seed n pr cl : Nat) (es : List (H.Key × Nat)) (v : Value) (h : HS w P Q M seed n es pr cl v) (hl : es.length ≤ 100000) (_hcl : cl < 1000000) (d l p x : Nat) (hd : d < 256) (l1 : l < 256) (_p1 : p < 18446744073709551616) (_x1 : x < 18446744073709551616) (hk : d % 4 = 2) (hG : fo es (l, p) = false) :
    Calls Try.prog 8 #[.pointer (some ⟨P, 0, none⟩), v, hactv d l p x] w (DoQ w P Q M seed v (hdrop es (l, p)) (cl)) := by
  have hl1 : es.length ≤ 1000000 := by omega
  have hdo1 := Lib.hid (hG ▸ h_drop (w.alloc (hacto d l p x)) v es ((but_alloc' w (hacto d l p x) (fun _ => False)).own h.lx (fun _ _ hf => hf)) hl1 d l p x hd hk)
  have hT : Hid (∀ X, ButS w X (fun _ => False) → Tab X P Q M seed n es pr cl) := fun X hX => h.tab.but hX (fun _ _ hf => hf)
  have hris := Lib.hid h.ris
  have hoff := Lib.hid h.off
  have hTF := Lib.hid h.tab.tf_lt
  obtain ⟨e1, e2⟩ := mod4 d hd 2 hk
  have hno := Lib.hid (fo_no h.ris hG)
  replace hG := Lib.hid hG
  clear h
  go_enter Try.func8, Try.ntmps8
  go_wp2_with (first
    | (go_at_call 18; (with_reducible refine hdo1.out.mono ?_); rintro e w2 ⟨v', rfl, hlx, hb, hv'⟩; have HLX := Lib.hid hlx; have HBB := Lib.hid hb; have HV := Lib.hid hv'; have hcs := hacto_cells hb; have d0 := hcs.1; have d1 := hcs.2.1; have d2 := hcs.2.2.1; have d3 := hcs.2.2.2.1; have hsz := hcs.2.2.2.2; clear hlx hb hv' hcs; have hb3 : Hid (∀ o, ButS w (w2.alloc o) (fun _ => False)) := (fun o => (((but_alloc' w (hacto d l p x) _).trans (ButS.of_below HBB.out (Nat.le_refl _))).trans (but_alloc' w2 o _))))
    | (go_at_call 9; (with_reducible refine (tab_size _ P Q M seed n pr cl es (hT.out _ (hb3.out _))).mono ?_); rintro e w3 ⟨rfl, rfl⟩)
    | (go_at_call 19; (with_reducible refine (tab_drop_no _ P Q M seed n pr cl es (hT.out _ (hb3.out _)) (l, p) l1 hno.out).mono ?_); rintro e w4 ⟨rfl, hs⟩; obtain ⟨Q', n', pr', h1, h2, h3, h4, h5⟩ := hs; have HT4 := Lib.hid h1; have HB4 := Lib.hid h2; have HQ4 := Lib.hid h3; clear h1 h2 h3; have g1 : decide ((1 : Int) ≤ (pr' : Int)) = true := decide_eq_true (by omega); have g2 : decide ((pr' : Int) ≤ (n : Int)) = true := decide_eq_true (by omega))
    | (go_at_call 15; (with_reducible refine (tab_probes _ P Q' M seed n' pr' _ _ HT4.out).mono ?_); rintro e w5 ⟨rfl, rfl⟩))
  go_ret2
  exact doq_of (v' := v') (hb3.out _) hTF.out hoff.out (hb3.out _).size HLX.out hsz (but_alloc' w2 _ _) HV.out HT4.out HB4.out HQ4.out (by rw [hdrop_no hG.out]) (ris_drop hris.out _)
set_option maxRecDepth 100000 in
set_option maxHeartbeats 2000000 in
theorem d_put1_0 (w : World) (P Q M seed n pr cl : Nat) (es : List (H.Key × Nat)) (v : Value) (h : HS w P Q M seed n es pr cl v) (hl : es.length ≤ 100000) (_hcl : cl < 1000000) (d l p x : Nat) (hd : d < 256) (l1 : l < 256) (_p1 : p < 18446744073709551616) (_x1 : x < 18446744073709551616) (hk : d % 4 = 0) (hG : fo es (l, p) = true) :
    Calls Try.prog 8 #[.pointer (some ⟨P, 0, none⟩), v, hactv d l p x] w (DoQ w P Q M seed v (hput es (l, p) x) (cl)) := by
  have hl1 : es.length ≤ 1000000 := by omega
  have hdo1 := Lib.hid (hG ▸ h_put (w.alloc (hacto d l p x)) v es ((but_alloc' w (hacto d l p x) (fun _ => False)).own h.lx (fun _ _ hf => hf)) hl1 d l p x hd (by omega))
  have hT : Hid (∀ X, ButS w X (fun _ => False) → Tab X P Q M seed n es pr cl) := fun X hX => h.tab.but hX (fun _ _ hf => hf)
  have hris := Lib.hid h.ris
  have hoff := Lib.hid h.off
  have hTF := Lib.hid h.tab.tf_lt
  obtain ⟨e1, e2⟩ := mod4 d hd 0 hk
  obtain ⟨v0, r, hp1, hp2, _⟩ := put_yes_perm x hG
  have hperm := Lib.hid hp1
  have hperm2 := Lib.hid hp2
  clear hp1 hp2 hG
  clear h
  go_enter Try.func8, Try.ntmps8
  go_wp2_with (first
    | (go_at_call 18; (with_reducible refine hdo1.out.mono ?_); rintro e w2 ⟨v', rfl, hlx, hb, hv'⟩; have HLX := Lib.hid hlx; have HBB := Lib.hid hb; have HV := Lib.hid hv'; have hcs := hacto_cells hb; have d0 := hcs.1; have d1 := hcs.2.1; have d2 := hcs.2.2.1; have d3 := hcs.2.2.2.1; have hsz := hcs.2.2.2.2; clear hlx hb hv' hcs; have hb3 : Hid (∀ o, ButS w (w2.alloc o) (fun _ => False)) := (fun o => (((but_alloc' w (hacto d l p x) _).trans (ButS.of_below HBB.out (Nat.le_refl _))).trans (but_alloc' w2 o _))))
    | (go_at_call 9; (with_reducible refine (tab_size _ P Q M seed n pr cl es (hT.out _ (hb3.out _))).mono ?_); rintro e w3 ⟨rfl, rfl⟩)
    | (go_at_call 16; (with_reducible refine (tab_put_yes _ P Q M seed n pr cl es r (hT.out _ (hb3.out _)) (l, p) l1 x v0 _x1 hperm.out).mono ?_); rintro e w4 ⟨rfl, hs⟩; obtain ⟨Q', n', pr', h1, h2, h3, h4, h5⟩ := hs; have HT4 := Lib.hid h1; have HB4 := Lib.hid h2; have HQ4 := Lib.hid h3; clear h1 h2 h3; have g1 : decide ((1 : Int) ≤ (pr' : Int)) = true := decide_eq_true (by omega); have g2 : decide ((pr' : Int) ≤ (n : Int)) = true := decide_eq_true (by omega))
    | (go_at_call 15; (with_reducible refine (tab_probes _ P Q' M seed n' pr' _ _ HT4.out).mono ?_); rintro e w5 ⟨rfl, rfl⟩))
  go_ret2
  exact doq_of (v' := v') (hb3.out _) hTF.out hoff.out (hb3.out _).size HLX.out hsz (but_alloc' w2 _ _) HV.out HT4.out HB4.out HQ4.out hperm2.out (ris_put hris.out _ _)
set_option maxRecDepth 100000 in
set_option maxHeartbeats 2000000 in
theorem d_put0_0 (w : World) (P Q M seed n pr cl : Nat) (es : List (H.Key × Nat)) (v : Value) (h : HS w P Q M seed n es pr cl v) (hl : es.length ≤ 100000) (_hcl : cl < 1000000) (d l p x : Nat) (hd : d < 256) (l1 : l < 256) (_p1 : p < 18446744073709551616) (_x1 : x < 18446744073709551616) (hk : d % 4 = 0) (hG : fo es (l, p) = false) :
    Calls Try.prog 8 #[.pointer (some ⟨P, 0, none⟩), v, hactv d l p x] w (DoQ w P Q M seed v (hput es (l, p) x) (cl)) := by
  have hl1 : es.length ≤ 1000000 := by omega
  have hdo1 := Lib.hid (hG ▸ h_put (w.alloc (hacto d l p x)) v es ((but_alloc' w (hacto d l p x) (fun _ => False)).own h.lx (fun _ _ hf => hf)) hl1 d l p x hd (by omega))
  have hT : Hid (∀ X, ButS w X (fun _ => False) → Tab X P Q M seed n es pr cl) := fun X hX => h.tab.but hX (fun _ _ hf => hf)
  have hris := Lib.hid h.ris
  have hoff := Lib.hid h.off
  have hTF := Lib.hid h.tab.tf_lt
  obtain ⟨e1, e2⟩ := mod4 d hd 0 hk
  have hno := Lib.hid (fo_no h.ris hG)
  have hperm2 := Lib.hid (put_no_perm x hG)
  have hrl : es.length < 1000000 := by omega
  clear hG
  clear h
  go_enter Try.func8, Try.ntmps8
  go_wp2_with (first
    | (go_at_call 18; (with_reducible refine hdo1.out.mono ?_); rintro e w2 ⟨v', rfl, hlx, hb, hv'⟩; have HLX := Lib.hid hlx; have HBB := Lib.hid hb; have HV := Lib.hid hv'; have hcs := hacto_cells hb; have d0 := hcs.1; have d1 := hcs.2.1; have d2 := hcs.2.2.1; have d3 := hcs.2.2.2.1; have hsz := hcs.2.2.2.2; clear hlx hb hv' hcs; have hb3 : Hid (∀ o, ButS w (w2.alloc o) (fun _ => False)) := (fun o => (((but_alloc' w (hacto d l p x) _).trans (ButS.of_below HBB.out (Nat.le_refl _))).trans (but_alloc' w2 o _))))
    | (go_at_call 9; (with_reducible refine (tab_size _ P Q M seed n pr cl es (hT.out _ (hb3.out _))).mono ?_); rintro e w3 ⟨rfl, rfl⟩)
    | (go_at_call 16; (with_reducible refine (tab_put_no _ P Q M seed n pr cl es (hT.out _ (hb3.out _)) (l, p) l1 _p1 x _x1 hno.out hrl).mono ?_); rintro e w4 ⟨rfl, hs⟩; obtain ⟨Q', n', pr', h1, h2, h3, h4, h5⟩ := hs; have HT4 := Lib.hid h1; have HB4 := Lib.hid h2; have HQ4 := Lib.hid h3; clear h1 h2 h3; have g1 : decide ((1 : Int) ≤ (pr' : Int)) = true := decide_eq_true (by omega); have g2 : decide ((pr' : Int) ≤ (n : Int)) = true := decide_eq_true (by omega))
    | (go_at_call 15; (with_reducible refine (tab_probes _ P Q' M seed n' pr' _ _ HT4.out).mono ?_); rintro e w5 ⟨rfl, rfl⟩))
  go_ret2
  exact doq_of (v' := v') (hb3.out _) hTF.out hoff.out (hb3.out _).size HLX.out hsz (but_alloc' w2 _ _) HV.out HT4.out HB4.out HQ4.out hperm2.out (ris_put hris.out _ _)
set_option maxRecDepth 100000 in
set_option maxHeartbeats 2000000 in
theorem d_put1_1 (w : World) (P Q M seed n pr cl : Nat) (es : List (H.Key × Nat)) (v : Value) (h : HS w P Q M seed n es pr cl v) (hl : es.length ≤ 100000) (_hcl : cl < 1000000) (d l p x : Nat) (hd : d < 256) (l1 : l < 256) (_p1 : p < 18446744073709551616) (_x1 : x < 18446744073709551616) (hk : d % 4 = 1) (hG : fo es (l, p) = true) :
    Calls Try.prog 8 #[.pointer (some ⟨P, 0, none⟩), v, hactv d l p x] w (DoQ w P Q M seed v (hput es (l, p) x) (cl)) := by
  have hl1 : es.length ≤ 1000000 := by omega
  have hdo1 := Lib.hid (hG ▸ h_put (w.alloc (hacto d l p x)) v es ((but_alloc' w (hacto d l p x) (fun _ => False)).own h.lx (fun _ _ hf => hf)) hl1 d l p x hd (by omega))
  have hT : Hid (∀ X, ButS w X (fun _ => False) → Tab X P Q M seed n es pr cl) := fun X hX => h.tab.but hX (fun _ _ hf => hf)
  have hris := Lib.hid h.ris
  have hoff := Lib.hid h.off
  have hTF := Lib.hid h.tab.tf_lt
  obtain ⟨e1, e2⟩ := mod4 d hd 1 hk
  obtain ⟨v0, r, hp1, hp2, _⟩ := put_yes_perm x hG
  have hperm := Lib.hid hp1
  have hperm2 := Lib.hid hp2
  clear hp1 hp2 hG
  clear h
  go_enter Try.func8, Try.ntmps8
  go_wp2_with (first
    | (go_at_call 18; (with_reducible refine hdo1.out.mono ?_); rintro e w2 ⟨v', rfl, hlx, hb, hv'⟩; have HLX := Lib.hid hlx; have HBB := Lib.hid hb; have HV := Lib.hid hv'; have hcs := hacto_cells hb; have d0 := hcs.1; have d1 := hcs.2.1; have d2 := hcs.2.2.1; have d3 := hcs.2.2.2.1; have hsz := hcs.2.2.2.2; clear hlx hb hv' hcs; have hb3 : Hid (∀ o, ButS w (w2.alloc o) (fun _ => False)) := (fun o => (((but_alloc' w (hacto d l p x) _).trans (ButS.of_below HBB.out (Nat.le_refl _))).trans (but_alloc' w2 o _))))
    | (go_at_call 9; (with_reducible refine (tab_size _ P Q M seed n pr cl es (hT.out _ (hb3.out _))).mono ?_); rintro e w3 ⟨rfl, rfl⟩)
    | (go_at_call 16; (with_reducible refine (tab_put_yes _ P Q M seed n pr cl es r (hT.out _ (hb3.out _)) (l, p) l1 x v0 _x1 hperm.out).mono ?_); rintro e w4 ⟨rfl, hs⟩; obtain ⟨Q', n', pr', h1, h2, h3, h4, h5⟩ := hs; have HT4 := Lib.hid h1; have HB4 := Lib.hid h2; have HQ4 := Lib.hid h3; clear h1 h2 h3; have g1 : decide ((1 : Int) ≤ (pr' : Int)) = true := decide_eq_true (by omega); have g2 : decide ((pr' : Int) ≤ (n : Int)) = true := decide_eq_true (by omega))
    | (go_at_call 15; (with_reducible refine (tab_probes _ P Q' M seed n' pr' _ _ HT4.out).mono ?_); rintro e w5 ⟨rfl, rfl⟩))
  go_ret2
  exact doq_of (v' := v') (hb3.out _) hTF.out hoff.out (hb3.out _).size HLX.out hsz (but_alloc' w2 _ _) HV.out HT4.out HB4.out HQ4.out hperm2.out (ris_put hris.out _ _)
set_option maxRecDepth 100000 in
set_option maxHeartbeats 2000000 in
theorem d_put0_1 (w : World) (P Q M seed n pr cl : Nat) (es : List (H.Key × Nat)) (v : Value) (h : HS w P Q M seed n es pr cl v) (hl : es.length ≤ 100000) (_hcl : cl < 1000000) (d l p x : Nat) (hd : d < 256) (l1 : l < 256) (_p1 : p < 18446744073709551616) (_x1 : x < 18446744073709551616) (hk : d % 4 = 1) (hG : fo es (l, p) = false) :
    Calls Try.prog 8 #[.pointer (some ⟨P, 0, none⟩), v, hactv d l p x] w (DoQ w P Q M seed v (hput es (l, p) x) (cl)) := by
  have hl1 : es.length ≤ 1000000 := by omega
  have hdo1 := Lib.hid (hG ▸ h_put (w.alloc (hacto d l p x)) v es ((but_alloc' w (hacto d l p x) (fun _ => False)).own h.lx (fun _ _ hf => hf)) hl1 d l p x hd (by omega))
  have hT : Hid (∀ X, ButS w X (fun _ => False) → Tab X P Q M seed n es pr cl) := fun X hX => h.tab.but hX (fun _ _ hf => hf)
  have hris := Lib.hid h.ris
  have hoff := Lib.hid h.off
  have hTF := Lib.hid h.tab.tf_lt
  obtain ⟨e1, e2⟩ := mod4 d hd 1 hk
  have hno := Lib.hid (fo_no h.ris hG)
  have hperm2 := Lib.hid (put_no_perm x hG)
  have hrl : es.length < 1000000 := by omega
  clear hG
  clear h
  go_enter Try.func8, Try.ntmps8
  go_wp2_with (first
    | (go_at_call 18; (with_reducible refine hdo1.out.mono ?_); rintro e w2 ⟨v', rfl, hlx, hb, hv'⟩; have HLX := Lib.hid hlx; have HBB := Lib.hid hb; have HV := Lib.hid hv'; have hcs := hacto_cells hb; have d0 := hcs.1; have d1 := hcs.2.1; have d2 := hcs.2.2.1; have d3 := hcs.2.2.2.1; have hsz := hcs.2.2.2.2; clear hlx hb hv' hcs; have hb3 : Hid (∀ o, ButS w (w2.alloc o) (fun _ => False)) := (fun o => (((but_alloc' w (hacto d l p x) _).trans (ButS.of_below HBB.out (Nat.le_refl _))).trans (but_alloc' w2 o _))))
    | (go_at_call 9; (with_reducible refine (tab_size _ P Q M seed n pr cl es (hT.out _ (hb3.out _))).mono ?_); rintro e w3 ⟨rfl, rfl⟩)
    | (go_at_call 16; (with_reducible refine (tab_put_no _ P Q M seed n pr cl es (hT.out _ (hb3.out _)) (l, p) l1 _p1 x _x1 hno.out hrl).mono ?_); rintro e w4 ⟨rfl, hs⟩; obtain ⟨Q', n', pr', h1, h2, h3, h4, h5⟩ := hs; have HT4 := Lib.hid h1; have HB4 := Lib.hid h2; have HQ4 := Lib.hid h3; clear h1 h2 h3; have g1 : decide ((1 : Int) ≤ (pr' : Int)) = true := decide_eq_true (by omega); have g2 : decide ((pr' : Int) ≤ (n : Int)) = true := decide_eq_true (by omega))
    | (go_at_call 15; (with_reducible refine (tab_probes _ P Q' M seed n' pr' _ _ HT4.out).mono ?_); rintro e w5 ⟨rfl, rfl⟩))
  go_ret2
  exact doq_of (v' := v') (hb3.out _) hTF.out hoff.out (hb3.out _).size HLX.out hsz (but_alloc' w2 _ _) HV.out HT4.out HB4.out HQ4.out hperm2.out (ris_put hris.out _ _)
/-- One act, whatever it is. -/
theorem law_do (w : World) (P Q M seed n pr cl : Nat) (es : List (H.Key × Nat)) (v : Value) (h : HS w P Q M seed n es pr cl v) (hl : es.length ≤ 100000) (hcl : cl < 1000000) (d l p x : Nat) (hd : d < 256) (l1 : l < 256) (p1 : p < 18446744073709551616) (x1 : x < 18446744073709551616) :
    Calls Try.prog 8 #[.pointer (some ⟨P, 0, none⟩), v, hactv d l p x] w (DoQ w P Q M seed v (hdo es d (l, p) x) (if d % 4 = 3 then cl + 1 else cl)) := by
  unfold hdo
  by_cases h3 : d % 4 = 3
  · rw [if_pos h3, if_pos h3]
    exact d_get w P Q M seed n pr cl es v h hl hcl d l p x hd l1 p1 x1 h3
  · rw [if_neg h3, if_neg h3]
    by_cases h2 : d % 4 = 2
    · rw [if_pos h2]
      cases hG : fo es (l, p) with
      | true => exact d_drop1 w P Q M seed n pr cl es v h hl hcl d l p x hd l1 p1 x1 h2 hG
      | false => exact d_drop0 w P Q M seed n pr cl es v h hl hcl d l p x hd l1 p1 x1 h2 hG
    · rw [if_neg h2]
      have hq : d % 4 = 0 ∨ d % 4 = 1 := by omega
      cases hG : fo es (l, p) with
      | true =>
        rcases hq with hq | hq
        · exact d_put1_0 w P Q M seed n pr cl es v h hl hcl d l p x hd l1 p1 x1 hq hG
        · exact d_put1_1 w P Q M seed n pr cl es v h hl hcl d l p x hd l1 p1 x1 hq hG
      | false =>
        rcases hq with hq | hq
        · exact d_put0_0 w P Q M seed n pr cl es v h hl hcl d l p x hd l1 p1 x1 hq hG
        · exact d_put0_1 w P Q M seed n pr cl es v h hl hcl d l p x hd l1 p1 x1 hq hG
end Go.Proofs.Ytkpfgbcjimkfeaa
