
/- The law's own function 'do', walked: Set, Clear, Fill and Wipe of a strip do what the document's Do does. -/
import Derived.Test.YtnpdndcgmfhbdaaDoorSDo
import Derived.Test.YtnpdndcgmfhbdaaDoorSSet
namespace Go.Proofs.YtnpdndcgmfhbdaaDoor
open Go.RowKit
theorem did_n {o : Bool} {xs ys zs : List Int} {f t : Int} {n n2 : Nat} (hD : Did o xs ys f t n) (hy : ys = zs) (hn2 : if o then n2 + xs.length = zs.length else n2 + zs.length = xs.length) : n2 = n := by
  subst hy
  have h := hD.2
  cases o
  · rw [if_neg (by decide)] at h hn2; omega
  · rw [if_pos rfl] at h hn2; omega
theorem do_post {o : Bool} {w0 wA : World} {X : Nat} {ws us : List Nat} {f t T : Int} {args : Array Value} (hL : Laid o ws us f t)
    (hc : Calls Tryd.prog 29 args wA fun e w' => DoPost o w0 X ws.length (sl ws) (max f 0) T e w') (hT : T = max (max f 0) (min t (64 * (ws.length : Int))))
    (v : Int) (N : Nat) (hv : v = (N : Int)) (hN : if o then N + (sl ws).length = (sl us).length else N + (sl us).length = (sl ws).length) :
    Calls Tryd.prog 29 args wA fun e w' => ∃ A' c', e = .returned (.int .i64 v) ∧ RS w' X ws.length A' c' (sl us) ∧ w0.grownBy w' (some X) := by
  refine hc.mono ?_
  rintro e w' ⟨A', c', ys, n, rfl, hD, hR, hG⟩
  have hy := did_list hL hD hT
  subst hy
  have hc := hD.2
  refine ⟨A', c', ret_int ?_, hR, hG⟩
  subst hv
  cases o
  · simp at hN hc; omega
  · simp at hN hc; omega
theorem do_none {w0 wA : World} {X : Nat} {ws : List Nat} {A : Option Addr} {c : Nat} {args : Array Value}
    (hc : Calls Tryd.prog 29 args wA fun e w' => e = .returned (.int .i64 0) ∧ ∃ n, w' = w0.drewN n) (hR : RS w0 X ws.length A c (sl ws)) :
    Calls Tryd.prog 29 args wA fun e w' => ∃ A' c', e = .returned (.int .i64 0) ∧ RS w' X ws.length A' c' (sl ws) ∧ w0.grownBy w' (some X) := by
  refine hc.mono ?_
  rintro e w' ⟨rfl, n, rfl⟩
  exact ⟨A, c, rfl, hR.drew n, grown_drewN (grown_refl _ _) n⟩
theorem s_set_oldI (w : World) (s h : Nat) (ws : List Nat) (a : St w s h ws) (i : Int) (k : Nat) (hk : i = (k : Int)) (hi : k < 64 * ws.length) (hb0 : sbit ws k = true) :
    Calls Tryd.prog 14 #[.pointer (some ⟨s, 0, none⟩), .int .i64 i] w fun e w' => e = .returned (.bool false) ∧ St w' s h ws ∧ w.grownBy w' (some h) := by
  subst hk
  refine (s_set_old w s h ws a k hi hb0).mono ?_
  rintro e w' ⟨rfl, rfl⟩
  exact ⟨rfl, a, grown_refl _ _⟩
theorem s_set_outI (w : World) (s h : Nat) (ws : List Nat) (a : St w s h ws) (i : Int) (ho : ¬ (0 ≤ i ∧ i < ((64 * ws.length : Nat) : Int))) :
    Calls Tryd.prog 14 #[.pointer (some ⟨s, 0, none⟩), .int .i64 i] w fun e w' => e = .returned (.bool false) ∧ St w' s h ws ∧ w.grownBy w' (some h) := by
  refine (s_set_out w s h ws a i ho).mono ?_
  rintro e w' ⟨rfl, rfl⟩
  exact ⟨rfl, a, grown_refl _ _⟩
theorem s_clear_oldI (w : World) (s h : Nat) (ws : List Nat) (a : St w s h ws) (i : Int) (k : Nat) (hk : i = (k : Int)) (hi : k < 64 * ws.length) (hb0 : sbit ws k = true) :
    Calls Tryd.prog 30 #[.pointer (some ⟨s, 0, none⟩), .int .i64 i] w fun e w' => e = .returned (.bool true) ∧ St w' s h (sclr ws k) ∧ w.grownBy w' (some h) := by
  subst hk
  exact s_clear_old w s h ws a k hi hb0
theorem s_clear_noI (w : World) (s h : Nat) (ws : List Nat) (a : St w s h ws) (i : Int) (k : Nat) (hk : i = (k : Int)) (hi : k < 64 * ws.length) (hb0 : sbit ws k = false) :
    Calls Tryd.prog 30 #[.pointer (some ⟨s, 0, none⟩), .int .i64 i] w fun e w' => e = .returned (.bool false) ∧ St w' s h ws ∧ w.grownBy w' (some h) := by
  subst hk
  have hg := s_get_in w s h ws a k hi
  rw [hb0] at hg
  refine (s_clear_no w s k hg).mono ?_
  rintro e w' ⟨rfl, rfl⟩
  exact ⟨rfl, a, grown_refl _ _⟩
theorem s_clear_outI (w : World) (s h : Nat) (ws : List Nat) (a : St w s h ws) (i : Int) (ho : ¬ (0 ≤ i ∧ i < ((64 * ws.length : Nat) : Int))) :
    Calls Tryd.prog 30 #[.pointer (some ⟨s, 0, none⟩), .int .i64 i] w fun e w' => e = .returned (.bool false) ∧ St w' s h ws ∧ w.grownBy w' (some h) := by
  refine (s_clear_no w s i (s_get_out w s h ws a i ho)).mono ?_
  rintro e w' ⟨rfl, rfl⟩
  exact ⟨rfl, a, grown_refl _ _⟩
theorem below_two (w : World) (o o' : Obj) (B : Nat) (hB : B ≤ w.heap.size) : Below B w ((w.alloc o).alloc o') := ((Below.refl B w).alloc hB o).alloc (by simp; omega) o'
set_option maxHeartbeats 1000000 in
theorem do0_new (w : World) (s h X : Nat) (ws : List Nat) (A : Option Addr) (c : Nat) (a : St w s h ws) (x : RS w X ws.length A c (sl ws)) (hsX : s < X) (hhX : h < X) (d : Nat) (hd : d < 256) (hr4 : d % 4 = 0) (i j : Int) (hi : i ≤ 9223372036854775807) (k : Nat) (hik : i = (k : Int)) (hk : k < 64 * ws.length) (hb : sbit ws k = false) :
    Calls Tryd.prog 19 #[.pointer (some ⟨s, 0, none⟩), .pointer (some ⟨X, 0, none⟩), .agg #[.int .u8 (d : Int), .int .i64 i, .int .i64 j]] w (DoneP w s h X ws.length) := by
  have hle := a.2.2.2
  have hxb : ∀ y ∈ sl ws, 0 ≤ y ∧ y < 64 * (ws.length : Int) := fun y hy => by have := sl_in.1 hy; omega
  have xA := x.alloc (.cells #[.int .u8 (d : Int), .int .i64 i, .int .i64 j] 46)
  have xB := xA.alloc (.cells #[.int .u8 (d : Int), .int .i64 i, .int .i64 j] 46)
  have hdo := Lib.hid (do_post (o := true) (f := i) (t := i + 1) (us := sset ws k) (by rw [hik]; exact laid_set hk) (ref_do0 _ X ws.length A c (sl ws) xA (sl_up ws) hxb hle d hd hr4 i j hi (by omega) (by omega) _ rfl _ _ rfl rfl) rfl 1 1 rfl (by have := sset_more hk hb; simp; omega))
  have aB : St ((w.alloc (.cells #[.int .u8 (d : Int), .int .i64 i, .int .i64 j] 46)).alloc (.cells #[.int .u8 (d : Int), .int .i64 i, .int .i64 j] 46)) s h ws := a.below (below_two w _ _ _ (Nat.le_refl _)) a.lt.1 a.lt.2
  have aBH := Lib.hid aB
  have hD : Hid (((w.alloc (.cells #[.int .u8 (d : Int), .int .i64 i, .int .i64 j] 46)).alloc (.cells #[.int .u8 (d : Int), .int .i64 i, .int .i64 j] 46)).heap[w.heap.size]? = some (.cells #[.int .u8 (d : Int), .int .i64 i, .int .i64 j] 46 (0, 0))) := by
    show _ = _
    rw [Below.heap_alloc _ _ _ (by simp)]
    exact alloc_top w _ rfl
  have hXlt := x.lt
  have hX0 : X ≤ w.heap.size := by omega
  have hlt := a.lt
  have hus : Hid ((sset ws k).length = ws.length) := sset_len ws k
  have hikH := Lib.hid hik
  clear hik
  have hbH := Lib.hid hb
  clear hb
  clear a x xA xB aB hxb
  have e1 : ((d : Int).tmod 4) = 0 := by rw [Int.tmod_eq_emod_of_nonneg (by omega)]; omega
  have e3 : (d : Int) % 4 = 0 := by omega
  have hsz : Hid (((w.alloc (.cells #[.int .u8 (d : Int), .int .i64 i, .int .i64 j] 46)).alloc (.cells #[.int .u8 (d : Int), .int .i64 i, .int .i64 j] 46)).heap.size = w.heap.size + 2) := by show _ = _; simp
  have hb2 : Hid (∀ B, B ≤ w.heap.size → Below B w ((w.alloc (.cells #[.int .u8 (d : Int), .int .i64 i, .int .i64 j] 46)).alloc (.cells #[.int .u8 (d : Int), .int .i64 i, .int .i64 j] 46))) := fun B hB => below_two w _ _ B hB
  go_enter Tryd.func19, Tryd.ntmps19
  go_wp2_with (go_at_call 29; (with_reducible refine hdo.out.mono ?_); rintro e w1 ⟨A', c', rfl, hR, hG⟩; have hRH := Lib.hid hR; clear hR; have hGH := Lib.hid hG; have hd1 : w1.heap[w.heap.size]? = some (.cells #[.int .u8 (d : Int), .int .i64 i, .int .i64 j] 46 (0, 0)) := (hG.block _ (by rw [hsz.out]; omega) (by intro e; cases e; omega)).trans hD.out; have c0 : w1.cell? ⟨w.heap.size, 0, none⟩ = some (.int .u8 (d : Int)) := cell_of_row w1 _ 0 _ _ (0, 0) hd1; have c1 : w1.cell? ⟨w.heap.size, 1, none⟩ = some (.int .i64 i) := cell_of_row w1 _ 1 _ _ (0, 0) hd1; have c2 : w1.cell? ⟨w.heap.size, 2, none⟩ = some (.int .i64 j) := cell_of_row w1 _ 2 _ _ (0, 0) hd1; have hS1 := Lib.hid (aBH.out.grown hG (by omega) (by omega)); have hg1 := hG.size; clear hd1 hG)
  rw [hsz.out] at hg1
  go_wp2_with (go_at_call 14; (with_reducible refine (s_set_newI _ s h ws hS1.out i k hikH.out hk hbH.out).mono ?_); rintro e w2 ⟨rfl, hS2, hG2⟩; have hS2H := Lib.hid hS2; clear hS2; have hR2H := Lib.hid (hRH.out.grown hG2 hhX); have hB2 : Hid (∀ B, B ≤ h → B ≤ X → B ≤ w.heap.size → Below B w w2) := fun B h1 h2 h3 => (hb2.out B h3).trans ((below_grown_at hGH.out (by rw [hsz.out]; omega) h2).trans (below_grown_at hG2 (by omega) h1)); have hg2 := hG2.size; clear hG2)
  go_ret
  exact ⟨rfl, _, A', c', hus.out, hS2H.out, hR2H.out, by omega, hB2.out⟩
set_option maxHeartbeats 1000000 in
theorem do0_old (w : World) (s h X : Nat) (ws : List Nat) (A : Option Addr) (c : Nat) (a : St w s h ws) (x : RS w X ws.length A c (sl ws)) (hsX : s < X) (hhX : h < X) (d : Nat) (hd : d < 256) (hr4 : d % 4 = 0) (i j : Int) (hi : i ≤ 9223372036854775807) (k : Nat) (hik : i = (k : Int)) (hk : k < 64 * ws.length) (hb : sbit ws k = true) :
    Calls Tryd.prog 19 #[.pointer (some ⟨s, 0, none⟩), .pointer (some ⟨X, 0, none⟩), .agg #[.int .u8 (d : Int), .int .i64 i, .int .i64 j]] w (DoneP w s h X ws.length) := by
  have hle := a.2.2.2
  have hxb : ∀ y ∈ sl ws, 0 ≤ y ∧ y < 64 * (ws.length : Int) := fun y hy => by have := sl_in.1 hy; omega
  have xA := x.alloc (.cells #[.int .u8 (d : Int), .int .i64 i, .int .i64 j] 46)
  have xB := xA.alloc (.cells #[.int .u8 (d : Int), .int .i64 i, .int .i64 j] 46)
  have hdo := Lib.hid (do_post (o := true) (f := i) (t := i + 1) (us := ws) (by rw [hik]; exact laid_same hb) (ref_do0 _ X ws.length A c (sl ws) xA (sl_up ws) hxb hle d hd hr4 i j hi (by omega) (by omega) _ rfl _ _ rfl rfl) rfl 0 0 rfl (by simp))
  have aB : St ((w.alloc (.cells #[.int .u8 (d : Int), .int .i64 i, .int .i64 j] 46)).alloc (.cells #[.int .u8 (d : Int), .int .i64 i, .int .i64 j] 46)) s h ws := a.below (below_two w _ _ _ (Nat.le_refl _)) a.lt.1 a.lt.2
  have aBH := Lib.hid aB
  have hD : Hid (((w.alloc (.cells #[.int .u8 (d : Int), .int .i64 i, .int .i64 j] 46)).alloc (.cells #[.int .u8 (d : Int), .int .i64 i, .int .i64 j] 46)).heap[w.heap.size]? = some (.cells #[.int .u8 (d : Int), .int .i64 i, .int .i64 j] 46 (0, 0))) := by
    show _ = _
    rw [Below.heap_alloc _ _ _ (by simp)]
    exact alloc_top w _ rfl
  have hXlt := x.lt
  have hX0 : X ≤ w.heap.size := by omega
  have hlt := a.lt
  skip
  have hikH := Lib.hid hik
  clear hik
  have hbH := Lib.hid hb
  clear hb
  clear a x xA xB aB hxb
  have e1 : ((d : Int).tmod 4) = 0 := by rw [Int.tmod_eq_emod_of_nonneg (by omega)]; omega
  have e3 : (d : Int) % 4 = 0 := by omega
  have hsz : Hid (((w.alloc (.cells #[.int .u8 (d : Int), .int .i64 i, .int .i64 j] 46)).alloc (.cells #[.int .u8 (d : Int), .int .i64 i, .int .i64 j] 46)).heap.size = w.heap.size + 2) := by show _ = _; simp
  have hb2 : Hid (∀ B, B ≤ w.heap.size → Below B w ((w.alloc (.cells #[.int .u8 (d : Int), .int .i64 i, .int .i64 j] 46)).alloc (.cells #[.int .u8 (d : Int), .int .i64 i, .int .i64 j] 46))) := fun B hB => below_two w _ _ B hB
  go_enter Tryd.func19, Tryd.ntmps19
  go_wp2_with (go_at_call 29; (with_reducible refine hdo.out.mono ?_); rintro e w1 ⟨A', c', rfl, hR, hG⟩; have hRH := Lib.hid hR; clear hR; have hGH := Lib.hid hG; have hd1 : w1.heap[w.heap.size]? = some (.cells #[.int .u8 (d : Int), .int .i64 i, .int .i64 j] 46 (0, 0)) := (hG.block _ (by rw [hsz.out]; omega) (by intro e; cases e; omega)).trans hD.out; have c0 : w1.cell? ⟨w.heap.size, 0, none⟩ = some (.int .u8 (d : Int)) := cell_of_row w1 _ 0 _ _ (0, 0) hd1; have c1 : w1.cell? ⟨w.heap.size, 1, none⟩ = some (.int .i64 i) := cell_of_row w1 _ 1 _ _ (0, 0) hd1; have c2 : w1.cell? ⟨w.heap.size, 2, none⟩ = some (.int .i64 j) := cell_of_row w1 _ 2 _ _ (0, 0) hd1; have hS1 := Lib.hid (aBH.out.grown hG (by omega) (by omega)); have hg1 := hG.size; clear hd1 hG)
  rw [hsz.out] at hg1
  go_wp2_with (go_at_call 14; (with_reducible refine (s_set_oldI _ s h ws hS1.out i k hikH.out hk hbH.out).mono ?_); rintro e w2 ⟨rfl, hS2, hG2⟩; have hS2H := Lib.hid hS2; clear hS2; have hR2H := Lib.hid (hRH.out.grown hG2 hhX); have hB2 : Hid (∀ B, B ≤ h → B ≤ X → B ≤ w.heap.size → Below B w w2) := fun B h1 h2 h3 => (hb2.out B h3).trans ((below_grown_at hGH.out (by rw [hsz.out]; omega) h2).trans (below_grown_at hG2 (by omega) h1)); have hg2 := hG2.size; clear hG2)
  go_ret
  exact ⟨rfl, _, A', c', rfl, hS2H.out, hR2H.out, by omega, hB2.out⟩
set_option maxHeartbeats 1000000 in
theorem do1_old (w : World) (s h X : Nat) (ws : List Nat) (A : Option Addr) (c : Nat) (a : St w s h ws) (x : RS w X ws.length A c (sl ws)) (hsX : s < X) (hhX : h < X) (d : Nat) (hd : d < 256) (hr4 : d % 4 = 1) (i j : Int) (hi : i ≤ 9223372036854775807) (k : Nat) (hik : i = (k : Int)) (hk : k < 64 * ws.length) (hb : sbit ws k = true) :
    Calls Tryd.prog 19 #[.pointer (some ⟨s, 0, none⟩), .pointer (some ⟨X, 0, none⟩), .agg #[.int .u8 (d : Int), .int .i64 i, .int .i64 j]] w (DoneP w s h X ws.length) := by
  have hle := a.2.2.2
  have hxb : ∀ y ∈ sl ws, 0 ≤ y ∧ y < 64 * (ws.length : Int) := fun y hy => by have := sl_in.1 hy; omega
  have xA := x.alloc (.cells #[.int .u8 (d : Int), .int .i64 i, .int .i64 j] 46)
  have xB := xA.alloc (.cells #[.int .u8 (d : Int), .int .i64 i, .int .i64 j] 46)
  have hdo := Lib.hid (do_post (o := false) (f := i) (t := i + 1) (us := sclr ws k) (by rw [hik]; exact laid_clr hk) (ref_do1 _ X ws.length A c (sl ws) xA (sl_up ws) hxb hle d hd hr4 i j hi (by omega) (by omega) _ rfl _ _ rfl rfl) rfl 1 1 rfl (by have := sclr_less hk hb; simp; omega))
  have aB : St ((w.alloc (.cells #[.int .u8 (d : Int), .int .i64 i, .int .i64 j] 46)).alloc (.cells #[.int .u8 (d : Int), .int .i64 i, .int .i64 j] 46)) s h ws := a.below (below_two w _ _ _ (Nat.le_refl _)) a.lt.1 a.lt.2
  have aBH := Lib.hid aB
  have hD : Hid (((w.alloc (.cells #[.int .u8 (d : Int), .int .i64 i, .int .i64 j] 46)).alloc (.cells #[.int .u8 (d : Int), .int .i64 i, .int .i64 j] 46)).heap[w.heap.size]? = some (.cells #[.int .u8 (d : Int), .int .i64 i, .int .i64 j] 46 (0, 0))) := by
    show _ = _
    rw [Below.heap_alloc _ _ _ (by simp)]
    exact alloc_top w _ rfl
  have hXlt := x.lt
  have hX0 : X ≤ w.heap.size := by omega
  have hlt := a.lt
  have hus : Hid ((sclr ws k).length = ws.length) := sclr_len ws k
  have hikH := Lib.hid hik
  clear hik
  have hbH := Lib.hid hb
  clear hb
  clear a x xA xB aB hxb
  have e1 : ((d : Int).tmod 4) = 1 := by rw [Int.tmod_eq_emod_of_nonneg (by omega)]; omega
  have e3 : (d : Int) % 4 = 1 := by omega
  have hsz : Hid (((w.alloc (.cells #[.int .u8 (d : Int), .int .i64 i, .int .i64 j] 46)).alloc (.cells #[.int .u8 (d : Int), .int .i64 i, .int .i64 j] 46)).heap.size = w.heap.size + 2) := by show _ = _; simp
  have hb2 : Hid (∀ B, B ≤ w.heap.size → Below B w ((w.alloc (.cells #[.int .u8 (d : Int), .int .i64 i, .int .i64 j] 46)).alloc (.cells #[.int .u8 (d : Int), .int .i64 i, .int .i64 j] 46))) := fun B hB => below_two w _ _ B hB
  go_enter Tryd.func19, Tryd.ntmps19
  go_wp2_with (go_at_call 29; (with_reducible refine hdo.out.mono ?_); rintro e w1 ⟨A', c', rfl, hR, hG⟩; have hRH := Lib.hid hR; clear hR; have hGH := Lib.hid hG; have hd1 : w1.heap[w.heap.size]? = some (.cells #[.int .u8 (d : Int), .int .i64 i, .int .i64 j] 46 (0, 0)) := (hG.block _ (by rw [hsz.out]; omega) (by intro e; cases e; omega)).trans hD.out; have c0 : w1.cell? ⟨w.heap.size, 0, none⟩ = some (.int .u8 (d : Int)) := cell_of_row w1 _ 0 _ _ (0, 0) hd1; have c1 : w1.cell? ⟨w.heap.size, 1, none⟩ = some (.int .i64 i) := cell_of_row w1 _ 1 _ _ (0, 0) hd1; have c2 : w1.cell? ⟨w.heap.size, 2, none⟩ = some (.int .i64 j) := cell_of_row w1 _ 2 _ _ (0, 0) hd1; have hS1 := Lib.hid (aBH.out.grown hG (by omega) (by omega)); have hg1 := hG.size; clear hd1 hG)
  rw [hsz.out] at hg1
  go_wp2_with (go_at_call 30; (with_reducible refine (s_clear_oldI _ s h ws hS1.out i k hikH.out hk hbH.out).mono ?_); rintro e w2 ⟨rfl, hS2, hG2⟩; have hS2H := Lib.hid hS2; clear hS2; have hR2H := Lib.hid (hRH.out.grown hG2 hhX); have hB2 : Hid (∀ B, B ≤ h → B ≤ X → B ≤ w.heap.size → Below B w w2) := fun B h1 h2 h3 => (hb2.out B h3).trans ((below_grown_at hGH.out (by rw [hsz.out]; omega) h2).trans (below_grown_at hG2 (by omega) h1)); have hg2 := hG2.size; clear hG2)
  go_ret
  exact ⟨rfl, _, A', c', hus.out, hS2H.out, hR2H.out, by omega, hB2.out⟩
set_option maxHeartbeats 1000000 in
theorem do1_no (w : World) (s h X : Nat) (ws : List Nat) (A : Option Addr) (c : Nat) (a : St w s h ws) (x : RS w X ws.length A c (sl ws)) (hsX : s < X) (hhX : h < X) (d : Nat) (hd : d < 256) (hr4 : d % 4 = 1) (i j : Int) (hi : i ≤ 9223372036854775807) (k : Nat) (hik : i = (k : Int)) (hk : k < 64 * ws.length) (hb : sbit ws k = false) :
    Calls Tryd.prog 19 #[.pointer (some ⟨s, 0, none⟩), .pointer (some ⟨X, 0, none⟩), .agg #[.int .u8 (d : Int), .int .i64 i, .int .i64 j]] w (DoneP w s h X ws.length) := by
  have hle := a.2.2.2
  have hxb : ∀ y ∈ sl ws, 0 ≤ y ∧ y < 64 * (ws.length : Int) := fun y hy => by have := sl_in.1 hy; omega
  have xA := x.alloc (.cells #[.int .u8 (d : Int), .int .i64 i, .int .i64 j] 46)
  have xB := xA.alloc (.cells #[.int .u8 (d : Int), .int .i64 i, .int .i64 j] 46)
  have hdo := Lib.hid (do_post (o := false) (f := i) (t := i + 1) (us := ws) (by rw [hik]; exact laid_same hb) (ref_do1 _ X ws.length A c (sl ws) xA (sl_up ws) hxb hle d hd hr4 i j hi (by omega) (by omega) _ rfl _ _ rfl rfl) rfl 0 0 rfl (by simp))
  have aB : St ((w.alloc (.cells #[.int .u8 (d : Int), .int .i64 i, .int .i64 j] 46)).alloc (.cells #[.int .u8 (d : Int), .int .i64 i, .int .i64 j] 46)) s h ws := a.below (below_two w _ _ _ (Nat.le_refl _)) a.lt.1 a.lt.2
  have aBH := Lib.hid aB
  have hD : Hid (((w.alloc (.cells #[.int .u8 (d : Int), .int .i64 i, .int .i64 j] 46)).alloc (.cells #[.int .u8 (d : Int), .int .i64 i, .int .i64 j] 46)).heap[w.heap.size]? = some (.cells #[.int .u8 (d : Int), .int .i64 i, .int .i64 j] 46 (0, 0))) := by
    show _ = _
    rw [Below.heap_alloc _ _ _ (by simp)]
    exact alloc_top w _ rfl
  have hXlt := x.lt
  have hX0 : X ≤ w.heap.size := by omega
  have hlt := a.lt
  skip
  have hikH := Lib.hid hik
  clear hik
  have hbH := Lib.hid hb
  clear hb
  clear a x xA xB aB hxb
  have e1 : ((d : Int).tmod 4) = 1 := by rw [Int.tmod_eq_emod_of_nonneg (by omega)]; omega
  have e3 : (d : Int) % 4 = 1 := by omega
  have hsz : Hid (((w.alloc (.cells #[.int .u8 (d : Int), .int .i64 i, .int .i64 j] 46)).alloc (.cells #[.int .u8 (d : Int), .int .i64 i, .int .i64 j] 46)).heap.size = w.heap.size + 2) := by show _ = _; simp
  have hb2 : Hid (∀ B, B ≤ w.heap.size → Below B w ((w.alloc (.cells #[.int .u8 (d : Int), .int .i64 i, .int .i64 j] 46)).alloc (.cells #[.int .u8 (d : Int), .int .i64 i, .int .i64 j] 46))) := fun B hB => below_two w _ _ B hB
  go_enter Tryd.func19, Tryd.ntmps19
  go_wp2_with (go_at_call 29; (with_reducible refine hdo.out.mono ?_); rintro e w1 ⟨A', c', rfl, hR, hG⟩; have hRH := Lib.hid hR; clear hR; have hGH := Lib.hid hG; have hd1 : w1.heap[w.heap.size]? = some (.cells #[.int .u8 (d : Int), .int .i64 i, .int .i64 j] 46 (0, 0)) := (hG.block _ (by rw [hsz.out]; omega) (by intro e; cases e; omega)).trans hD.out; have c0 : w1.cell? ⟨w.heap.size, 0, none⟩ = some (.int .u8 (d : Int)) := cell_of_row w1 _ 0 _ _ (0, 0) hd1; have c1 : w1.cell? ⟨w.heap.size, 1, none⟩ = some (.int .i64 i) := cell_of_row w1 _ 1 _ _ (0, 0) hd1; have c2 : w1.cell? ⟨w.heap.size, 2, none⟩ = some (.int .i64 j) := cell_of_row w1 _ 2 _ _ (0, 0) hd1; have hS1 := Lib.hid (aBH.out.grown hG (by omega) (by omega)); have hg1 := hG.size; clear hd1 hG)
  rw [hsz.out] at hg1
  go_wp2_with (go_at_call 30; (with_reducible refine (s_clear_noI _ s h ws hS1.out i k hikH.out hk hbH.out).mono ?_); rintro e w2 ⟨rfl, hS2, hG2⟩; have hS2H := Lib.hid hS2; clear hS2; have hR2H := Lib.hid (hRH.out.grown hG2 hhX); have hB2 : Hid (∀ B, B ≤ h → B ≤ X → B ≤ w.heap.size → Below B w w2) := fun B h1 h2 h3 => (hb2.out B h3).trans ((below_grown_at hGH.out (by rw [hsz.out]; omega) h2).trans (below_grown_at hG2 (by omega) h1)); have hg2 := hG2.size; clear hG2)
  go_ret
  exact ⟨rfl, _, A', c', rfl, hS2H.out, hR2H.out, by omega, hB2.out⟩
set_option maxHeartbeats 1000000 in
theorem do0_low (w : World) (s h X : Nat) (ws : List Nat) (A : Option Addr) (c : Nat) (a : St w s h ws) (x : RS w X ws.length A c (sl ws)) (hsX : s < X) (hhX : h < X) (d : Nat) (hd : d < 256) (hr4 : d % 4 = 0) (i j : Int) (_hi : i ≤ 9223372036854775807) (ho : i < 0) :
    Calls Tryd.prog 19 #[.pointer (some ⟨s, 0, none⟩), .pointer (some ⟨X, 0, none⟩), .agg #[.int .u8 (d : Int), .int .i64 i, .int .i64 j]] w (DoneP w s h X ws.length) := by
  have hle := a.2.2.2
  have hxb : ∀ y ∈ sl ws, 0 ≤ y ∧ y < 64 * (ws.length : Int) := fun y hy => by have := sl_in.1 hy; omega
  have xA := x.alloc (.cells #[.int .u8 (d : Int), .int .i64 i, .int .i64 j] 46)
  have xB := xA.alloc (.cells #[.int .u8 (d : Int), .int .i64 i, .int .i64 j] 46)
  have hdo := Lib.hid (do_none (ref_do_low _ X ws.length A c (sl ws) xA hle d hd (by omega) i j ho _ rfl) xB)
  have aB : St ((w.alloc (.cells #[.int .u8 (d : Int), .int .i64 i, .int .i64 j] 46)).alloc (.cells #[.int .u8 (d : Int), .int .i64 i, .int .i64 j] 46)) s h ws := a.below (below_two w _ _ _ (Nat.le_refl _)) a.lt.1 a.lt.2
  have aBH := Lib.hid aB
  have hD : Hid (((w.alloc (.cells #[.int .u8 (d : Int), .int .i64 i, .int .i64 j] 46)).alloc (.cells #[.int .u8 (d : Int), .int .i64 i, .int .i64 j] 46)).heap[w.heap.size]? = some (.cells #[.int .u8 (d : Int), .int .i64 i, .int .i64 j] 46 (0, 0))) := by
    show _ = _
    rw [Below.heap_alloc _ _ _ (by simp)]
    exact alloc_top w _ rfl
  have hXlt := x.lt
  have hX0 : X ≤ w.heap.size := by omega
  have hlt := a.lt
  skip
  clear a x xA xB aB hxb
  have e1 : ((d : Int).tmod 4) = 0 := by rw [Int.tmod_eq_emod_of_nonneg (by omega)]; omega
  have e3 : (d : Int) % 4 = 0 := by omega
  have hsz : Hid (((w.alloc (.cells #[.int .u8 (d : Int), .int .i64 i, .int .i64 j] 46)).alloc (.cells #[.int .u8 (d : Int), .int .i64 i, .int .i64 j] 46)).heap.size = w.heap.size + 2) := by show _ = _; simp
  have hb2 : Hid (∀ B, B ≤ w.heap.size → Below B w ((w.alloc (.cells #[.int .u8 (d : Int), .int .i64 i, .int .i64 j] 46)).alloc (.cells #[.int .u8 (d : Int), .int .i64 i, .int .i64 j] 46))) := fun B hB => below_two w _ _ B hB
  go_enter Tryd.func19, Tryd.ntmps19
  go_wp2_with (go_at_call 29; (with_reducible refine hdo.out.mono ?_); rintro e w1 ⟨A', c', rfl, hR, hG⟩; have hRH := Lib.hid hR; clear hR; have hGH := Lib.hid hG; have hd1 : w1.heap[w.heap.size]? = some (.cells #[.int .u8 (d : Int), .int .i64 i, .int .i64 j] 46 (0, 0)) := (hG.block _ (by rw [hsz.out]; omega) (by intro e; cases e; omega)).trans hD.out; have c0 : w1.cell? ⟨w.heap.size, 0, none⟩ = some (.int .u8 (d : Int)) := cell_of_row w1 _ 0 _ _ (0, 0) hd1; have c1 : w1.cell? ⟨w.heap.size, 1, none⟩ = some (.int .i64 i) := cell_of_row w1 _ 1 _ _ (0, 0) hd1; have c2 : w1.cell? ⟨w.heap.size, 2, none⟩ = some (.int .i64 j) := cell_of_row w1 _ 2 _ _ (0, 0) hd1; have hS1 := Lib.hid (aBH.out.grown hG (by omega) (by omega)); have hg1 := hG.size; clear hd1 hG)
  rw [hsz.out] at hg1
  go_wp2_with (go_at_call 14; (with_reducible refine (s_set_outI _ s h ws hS1.out i (by omega)).mono ?_); rintro e w2 ⟨rfl, hS2, hG2⟩; have hS2H := Lib.hid hS2; clear hS2; have hR2H := Lib.hid (hRH.out.grown hG2 hhX); have hB2 : Hid (∀ B, B ≤ h → B ≤ X → B ≤ w.heap.size → Below B w w2) := fun B h1 h2 h3 => (hb2.out B h3).trans ((below_grown_at hGH.out (by rw [hsz.out]; omega) h2).trans (below_grown_at hG2 (by omega) h1)); have hg2 := hG2.size; clear hG2)
  go_ret
  exact ⟨rfl, _, A', c', rfl, hS2H.out, hR2H.out, by omega, hB2.out⟩
set_option maxHeartbeats 1000000 in
theorem do0_high (w : World) (s h X : Nat) (ws : List Nat) (A : Option Addr) (c : Nat) (a : St w s h ws) (x : RS w X ws.length A c (sl ws)) (hsX : s < X) (hhX : h < X) (d : Nat) (hd : d < 256) (hr4 : d % 4 = 0) (i j : Int) (_hi : i ≤ 9223372036854775807) (ho : 64 * (ws.length : Int) ≤ i) :
    Calls Tryd.prog 19 #[.pointer (some ⟨s, 0, none⟩), .pointer (some ⟨X, 0, none⟩), .agg #[.int .u8 (d : Int), .int .i64 i, .int .i64 j]] w (DoneP w s h X ws.length) := by
  have hle := a.2.2.2
  have hxb : ∀ y ∈ sl ws, 0 ≤ y ∧ y < 64 * (ws.length : Int) := fun y hy => by have := sl_in.1 hy; omega
  have xA := x.alloc (.cells #[.int .u8 (d : Int), .int .i64 i, .int .i64 j] 46)
  have xB := xA.alloc (.cells #[.int .u8 (d : Int), .int .i64 i, .int .i64 j] 46)
  have hdo := Lib.hid (do_none (ref_do_high _ X ws.length A c (sl ws) xA hle d hd (by omega) i j ho _ rfl) xB)
  have aB : St ((w.alloc (.cells #[.int .u8 (d : Int), .int .i64 i, .int .i64 j] 46)).alloc (.cells #[.int .u8 (d : Int), .int .i64 i, .int .i64 j] 46)) s h ws := a.below (below_two w _ _ _ (Nat.le_refl _)) a.lt.1 a.lt.2
  have aBH := Lib.hid aB
  have hD : Hid (((w.alloc (.cells #[.int .u8 (d : Int), .int .i64 i, .int .i64 j] 46)).alloc (.cells #[.int .u8 (d : Int), .int .i64 i, .int .i64 j] 46)).heap[w.heap.size]? = some (.cells #[.int .u8 (d : Int), .int .i64 i, .int .i64 j] 46 (0, 0))) := by
    show _ = _
    rw [Below.heap_alloc _ _ _ (by simp)]
    exact alloc_top w _ rfl
  have hXlt := x.lt
  have hX0 : X ≤ w.heap.size := by omega
  have hlt := a.lt
  skip
  clear a x xA xB aB hxb
  have e1 : ((d : Int).tmod 4) = 0 := by rw [Int.tmod_eq_emod_of_nonneg (by omega)]; omega
  have e3 : (d : Int) % 4 = 0 := by omega
  have hsz : Hid (((w.alloc (.cells #[.int .u8 (d : Int), .int .i64 i, .int .i64 j] 46)).alloc (.cells #[.int .u8 (d : Int), .int .i64 i, .int .i64 j] 46)).heap.size = w.heap.size + 2) := by show _ = _; simp
  have hb2 : Hid (∀ B, B ≤ w.heap.size → Below B w ((w.alloc (.cells #[.int .u8 (d : Int), .int .i64 i, .int .i64 j] 46)).alloc (.cells #[.int .u8 (d : Int), .int .i64 i, .int .i64 j] 46))) := fun B hB => below_two w _ _ B hB
  go_enter Tryd.func19, Tryd.ntmps19
  go_wp2_with (go_at_call 29; (with_reducible refine hdo.out.mono ?_); rintro e w1 ⟨A', c', rfl, hR, hG⟩; have hRH := Lib.hid hR; clear hR; have hGH := Lib.hid hG; have hd1 : w1.heap[w.heap.size]? = some (.cells #[.int .u8 (d : Int), .int .i64 i, .int .i64 j] 46 (0, 0)) := (hG.block _ (by rw [hsz.out]; omega) (by intro e; cases e; omega)).trans hD.out; have c0 : w1.cell? ⟨w.heap.size, 0, none⟩ = some (.int .u8 (d : Int)) := cell_of_row w1 _ 0 _ _ (0, 0) hd1; have c1 : w1.cell? ⟨w.heap.size, 1, none⟩ = some (.int .i64 i) := cell_of_row w1 _ 1 _ _ (0, 0) hd1; have c2 : w1.cell? ⟨w.heap.size, 2, none⟩ = some (.int .i64 j) := cell_of_row w1 _ 2 _ _ (0, 0) hd1; have hS1 := Lib.hid (aBH.out.grown hG (by omega) (by omega)); have hg1 := hG.size; clear hd1 hG)
  rw [hsz.out] at hg1
  go_wp2_with (go_at_call 14; (with_reducible refine (s_set_outI _ s h ws hS1.out i (by omega)).mono ?_); rintro e w2 ⟨rfl, hS2, hG2⟩; have hS2H := Lib.hid hS2; clear hS2; have hR2H := Lib.hid (hRH.out.grown hG2 hhX); have hB2 : Hid (∀ B, B ≤ h → B ≤ X → B ≤ w.heap.size → Below B w w2) := fun B h1 h2 h3 => (hb2.out B h3).trans ((below_grown_at hGH.out (by rw [hsz.out]; omega) h2).trans (below_grown_at hG2 (by omega) h1)); have hg2 := hG2.size; clear hG2)
  go_ret
  exact ⟨rfl, _, A', c', rfl, hS2H.out, hR2H.out, by omega, hB2.out⟩
set_option maxHeartbeats 1000000 in
theorem do1_low (w : World) (s h X : Nat) (ws : List Nat) (A : Option Addr) (c : Nat) (a : St w s h ws) (x : RS w X ws.length A c (sl ws)) (hsX : s < X) (hhX : h < X) (d : Nat) (hd : d < 256) (hr4 : d % 4 = 1) (i j : Int) (_hi : i ≤ 9223372036854775807) (ho : i < 0) :
    Calls Tryd.prog 19 #[.pointer (some ⟨s, 0, none⟩), .pointer (some ⟨X, 0, none⟩), .agg #[.int .u8 (d : Int), .int .i64 i, .int .i64 j]] w (DoneP w s h X ws.length) := by
  have hle := a.2.2.2
  have hxb : ∀ y ∈ sl ws, 0 ≤ y ∧ y < 64 * (ws.length : Int) := fun y hy => by have := sl_in.1 hy; omega
  have xA := x.alloc (.cells #[.int .u8 (d : Int), .int .i64 i, .int .i64 j] 46)
  have xB := xA.alloc (.cells #[.int .u8 (d : Int), .int .i64 i, .int .i64 j] 46)
  have hdo := Lib.hid (do_none (ref_do_low _ X ws.length A c (sl ws) xA hle d hd (by omega) i j ho _ rfl) xB)
  have aB : St ((w.alloc (.cells #[.int .u8 (d : Int), .int .i64 i, .int .i64 j] 46)).alloc (.cells #[.int .u8 (d : Int), .int .i64 i, .int .i64 j] 46)) s h ws := a.below (below_two w _ _ _ (Nat.le_refl _)) a.lt.1 a.lt.2
  have aBH := Lib.hid aB
  have hD : Hid (((w.alloc (.cells #[.int .u8 (d : Int), .int .i64 i, .int .i64 j] 46)).alloc (.cells #[.int .u8 (d : Int), .int .i64 i, .int .i64 j] 46)).heap[w.heap.size]? = some (.cells #[.int .u8 (d : Int), .int .i64 i, .int .i64 j] 46 (0, 0))) := by
    show _ = _
    rw [Below.heap_alloc _ _ _ (by simp)]
    exact alloc_top w _ rfl
  have hXlt := x.lt
  have hX0 : X ≤ w.heap.size := by omega
  have hlt := a.lt
  skip
  clear a x xA xB aB hxb
  have e1 : ((d : Int).tmod 4) = 1 := by rw [Int.tmod_eq_emod_of_nonneg (by omega)]; omega
  have e3 : (d : Int) % 4 = 1 := by omega
  have hsz : Hid (((w.alloc (.cells #[.int .u8 (d : Int), .int .i64 i, .int .i64 j] 46)).alloc (.cells #[.int .u8 (d : Int), .int .i64 i, .int .i64 j] 46)).heap.size = w.heap.size + 2) := by show _ = _; simp
  have hb2 : Hid (∀ B, B ≤ w.heap.size → Below B w ((w.alloc (.cells #[.int .u8 (d : Int), .int .i64 i, .int .i64 j] 46)).alloc (.cells #[.int .u8 (d : Int), .int .i64 i, .int .i64 j] 46))) := fun B hB => below_two w _ _ B hB
  go_enter Tryd.func19, Tryd.ntmps19
  go_wp2_with (go_at_call 29; (with_reducible refine hdo.out.mono ?_); rintro e w1 ⟨A', c', rfl, hR, hG⟩; have hRH := Lib.hid hR; clear hR; have hGH := Lib.hid hG; have hd1 : w1.heap[w.heap.size]? = some (.cells #[.int .u8 (d : Int), .int .i64 i, .int .i64 j] 46 (0, 0)) := (hG.block _ (by rw [hsz.out]; omega) (by intro e; cases e; omega)).trans hD.out; have c0 : w1.cell? ⟨w.heap.size, 0, none⟩ = some (.int .u8 (d : Int)) := cell_of_row w1 _ 0 _ _ (0, 0) hd1; have c1 : w1.cell? ⟨w.heap.size, 1, none⟩ = some (.int .i64 i) := cell_of_row w1 _ 1 _ _ (0, 0) hd1; have c2 : w1.cell? ⟨w.heap.size, 2, none⟩ = some (.int .i64 j) := cell_of_row w1 _ 2 _ _ (0, 0) hd1; have hS1 := Lib.hid (aBH.out.grown hG (by omega) (by omega)); have hg1 := hG.size; clear hd1 hG)
  rw [hsz.out] at hg1
  go_wp2_with (go_at_call 30; (with_reducible refine (s_clear_outI _ s h ws hS1.out i (by omega)).mono ?_); rintro e w2 ⟨rfl, hS2, hG2⟩; have hS2H := Lib.hid hS2; clear hS2; have hR2H := Lib.hid (hRH.out.grown hG2 hhX); have hB2 : Hid (∀ B, B ≤ h → B ≤ X → B ≤ w.heap.size → Below B w w2) := fun B h1 h2 h3 => (hb2.out B h3).trans ((below_grown_at hGH.out (by rw [hsz.out]; omega) h2).trans (below_grown_at hG2 (by omega) h1)); have hg2 := hG2.size; clear hG2)
  go_ret
  exact ⟨rfl, _, A', c', rfl, hS2H.out, hR2H.out, by omega, hB2.out⟩
set_option maxHeartbeats 1000000 in
theorem do1_high (w : World) (s h X : Nat) (ws : List Nat) (A : Option Addr) (c : Nat) (a : St w s h ws) (x : RS w X ws.length A c (sl ws)) (hsX : s < X) (hhX : h < X) (d : Nat) (hd : d < 256) (hr4 : d % 4 = 1) (i j : Int) (_hi : i ≤ 9223372036854775807) (ho : 64 * (ws.length : Int) ≤ i) :
    Calls Tryd.prog 19 #[.pointer (some ⟨s, 0, none⟩), .pointer (some ⟨X, 0, none⟩), .agg #[.int .u8 (d : Int), .int .i64 i, .int .i64 j]] w (DoneP w s h X ws.length) := by
  have hle := a.2.2.2
  have hxb : ∀ y ∈ sl ws, 0 ≤ y ∧ y < 64 * (ws.length : Int) := fun y hy => by have := sl_in.1 hy; omega
  have xA := x.alloc (.cells #[.int .u8 (d : Int), .int .i64 i, .int .i64 j] 46)
  have xB := xA.alloc (.cells #[.int .u8 (d : Int), .int .i64 i, .int .i64 j] 46)
  have hdo := Lib.hid (do_none (ref_do_high _ X ws.length A c (sl ws) xA hle d hd (by omega) i j ho _ rfl) xB)
  have aB : St ((w.alloc (.cells #[.int .u8 (d : Int), .int .i64 i, .int .i64 j] 46)).alloc (.cells #[.int .u8 (d : Int), .int .i64 i, .int .i64 j] 46)) s h ws := a.below (below_two w _ _ _ (Nat.le_refl _)) a.lt.1 a.lt.2
  have aBH := Lib.hid aB
  have hD : Hid (((w.alloc (.cells #[.int .u8 (d : Int), .int .i64 i, .int .i64 j] 46)).alloc (.cells #[.int .u8 (d : Int), .int .i64 i, .int .i64 j] 46)).heap[w.heap.size]? = some (.cells #[.int .u8 (d : Int), .int .i64 i, .int .i64 j] 46 (0, 0))) := by
    show _ = _
    rw [Below.heap_alloc _ _ _ (by simp)]
    exact alloc_top w _ rfl
  have hXlt := x.lt
  have hX0 : X ≤ w.heap.size := by omega
  have hlt := a.lt
  skip
  clear a x xA xB aB hxb
  have e1 : ((d : Int).tmod 4) = 1 := by rw [Int.tmod_eq_emod_of_nonneg (by omega)]; omega
  have e3 : (d : Int) % 4 = 1 := by omega
  have hsz : Hid (((w.alloc (.cells #[.int .u8 (d : Int), .int .i64 i, .int .i64 j] 46)).alloc (.cells #[.int .u8 (d : Int), .int .i64 i, .int .i64 j] 46)).heap.size = w.heap.size + 2) := by show _ = _; simp
  have hb2 : Hid (∀ B, B ≤ w.heap.size → Below B w ((w.alloc (.cells #[.int .u8 (d : Int), .int .i64 i, .int .i64 j] 46)).alloc (.cells #[.int .u8 (d : Int), .int .i64 i, .int .i64 j] 46))) := fun B hB => below_two w _ _ B hB
  go_enter Tryd.func19, Tryd.ntmps19
  go_wp2_with (go_at_call 29; (with_reducible refine hdo.out.mono ?_); rintro e w1 ⟨A', c', rfl, hR, hG⟩; have hRH := Lib.hid hR; clear hR; have hGH := Lib.hid hG; have hd1 : w1.heap[w.heap.size]? = some (.cells #[.int .u8 (d : Int), .int .i64 i, .int .i64 j] 46 (0, 0)) := (hG.block _ (by rw [hsz.out]; omega) (by intro e; cases e; omega)).trans hD.out; have c0 : w1.cell? ⟨w.heap.size, 0, none⟩ = some (.int .u8 (d : Int)) := cell_of_row w1 _ 0 _ _ (0, 0) hd1; have c1 : w1.cell? ⟨w.heap.size, 1, none⟩ = some (.int .i64 i) := cell_of_row w1 _ 1 _ _ (0, 0) hd1; have c2 : w1.cell? ⟨w.heap.size, 2, none⟩ = some (.int .i64 j) := cell_of_row w1 _ 2 _ _ (0, 0) hd1; have hS1 := Lib.hid (aBH.out.grown hG (by omega) (by omega)); have hg1 := hG.size; clear hd1 hG)
  rw [hsz.out] at hg1
  go_wp2_with (go_at_call 30; (with_reducible refine (s_clear_outI _ s h ws hS1.out i (by omega)).mono ?_); rintro e w2 ⟨rfl, hS2, hG2⟩; have hS2H := Lib.hid hS2; clear hS2; have hR2H := Lib.hid (hRH.out.grown hG2 hhX); have hB2 : Hid (∀ B, B ≤ h → B ≤ X → B ≤ w.heap.size → Below B w w2) := fun B h1 h2 h3 => (hb2.out B h3).trans ((below_grown_at hGH.out (by rw [hsz.out]; omega) h2).trans (below_grown_at hG2 (by omega) h1)); have hg2 := hG2.size; clear hG2)
  go_ret
  exact ⟨rfl, _, A', c', rfl, hS2H.out, hR2H.out, by omega, hB2.out⟩
set_option maxHeartbeats 1000000 in
theorem do2_any (w : World) (s h X : Nat) (ws : List Nat) (A : Option Addr) (c : Nat) (a : St w s h ws) (x : RS w X ws.length A c (sl ws)) (hsX : s < X) (hhX : h < X) (d : Nat) (hd : d < 256) (hr4 : d % 4 = 2) (i j : Int) (hi : i ≤ 9223372036854775807)  :
    Calls Tryd.prog 19 #[.pointer (some ⟨s, 0, none⟩), .pointer (some ⟨X, 0, none⟩), .agg #[.int .u8 (d : Int), .int .i64 i, .int .i64 j]] w (DoneP w s h X ws.length) := by
  have hle := a.2.2.2
  have hxb : ∀ y ∈ sl ws, 0 ≤ y ∧ y < 64 * (ws.length : Int) := fun y hy => by have := sl_in.1 hy; omega
  have xA := x.alloc (.cells #[.int .u8 (d : Int), .int .i64 i, .int .i64 j] 46)
  have xB := xA.alloc (.cells #[.int .u8 (d : Int), .int .i64 i, .int .i64 j] 46)
  have hdo := Lib.hid (ref_do2 _ X ws.length A c (sl ws) xA (sl_up ws) hxb hle d hd hr4 i j hi  _ rfl _ _ rfl rfl)
  have aB : St ((w.alloc (.cells #[.int .u8 (d : Int), .int .i64 i, .int .i64 j] 46)).alloc (.cells #[.int .u8 (d : Int), .int .i64 i, .int .i64 j] 46)) s h ws := a.below (below_two w _ _ _ (Nat.le_refl _)) a.lt.1 a.lt.2
  have aBH := Lib.hid aB
  have hD : Hid (((w.alloc (.cells #[.int .u8 (d : Int), .int .i64 i, .int .i64 j] 46)).alloc (.cells #[.int .u8 (d : Int), .int .i64 i, .int .i64 j] 46)).heap[w.heap.size]? = some (.cells #[.int .u8 (d : Int), .int .i64 i, .int .i64 j] 46 (0, 0))) := by
    show _ = _
    rw [Below.heap_alloc _ _ _ (by simp)]
    exact alloc_top w _ rfl
  have hXlt := x.lt
  have hX0 : X ≤ w.heap.size := by omega
  have hlt := a.lt
  
  clear a x xA xB aB hxb
  have e1 : ((d : Int).tmod 4) = 2 := by rw [Int.tmod_eq_emod_of_nonneg (by omega)]; omega
  have e3 : (d : Int) % 4 = 2 := by omega
  have hsz : Hid (((w.alloc (.cells #[.int .u8 (d : Int), .int .i64 i, .int .i64 j] 46)).alloc (.cells #[.int .u8 (d : Int), .int .i64 i, .int .i64 j] 46)).heap.size = w.heap.size + 2) := by show _ = _; simp
  have hb2 : Hid (∀ B, B ≤ w.heap.size → Below B w ((w.alloc (.cells #[.int .u8 (d : Int), .int .i64 i, .int .i64 j] 46)).alloc (.cells #[.int .u8 (d : Int), .int .i64 i, .int .i64 j] 46))) := fun B hB => below_two w _ _ B hB
  go_enter Tryd.func19, Tryd.ntmps19
  go_wp2_with (go_at_call 29; (with_reducible refine hdo.out.mono ?_); rintro e w1 ⟨A', c', ys, n, rfl, hDid, hR, hG⟩; have hDH := Lib.hid hDid; clear hDid; have hRH := Lib.hid hR; clear hR; have hGH := Lib.hid hG; have hd1 : w1.heap[w.heap.size]? = some (.cells #[.int .u8 (d : Int), .int .i64 i, .int .i64 j] 46 (0, 0)) := (hG.block _ (by rw [hsz.out]; omega) (by intro e; cases e; omega)).trans hD.out; have c0 : w1.cell? ⟨w.heap.size, 0, none⟩ = some (.int .u8 (d : Int)) := cell_of_row w1 _ 0 _ _ (0, 0) hd1; have c1 : w1.cell? ⟨w.heap.size, 1, none⟩ = some (.int .i64 i) := cell_of_row w1 _ 1 _ _ (0, 0) hd1; have c2 : w1.cell? ⟨w.heap.size, 2, none⟩ = some (.int .i64 j) := cell_of_row w1 _ 2 _ _ (0, 0) hd1; have hS1 := Lib.hid (aBH.out.grown hG (by omega) (by omega)); have hg1 := hG.size; clear hd1 hG)
  rw [hsz.out] at hg1
  go_wp2_with (go_at_call 17; (with_reducible refine (s_fill _ s h ws hS1.out i j hi).mono ?_); rintro e w2 ⟨us, n2, rfl, hL2, hn2, hS2, hG2⟩; have hy := did_list hL2 hDH.out rfl; have hnn := did_n hDH.out hy hn2; subst hnn; rw [hy] at hRH; have hlen2 := hL2.1; clear hL2 hn2 hDH hy; have hS2H := Lib.hid hS2; clear hS2; have hR2H := Lib.hid (hRH.out.grown hG2 hhX); have hB2 : Hid (∀ B, B ≤ h → B ≤ X → B ≤ w.heap.size → Below B w w2) := fun B h1 h2 h3 => (hb2.out B h3).trans ((below_grown_at hGH.out (by rw [hsz.out]; omega) h2).trans (below_grown_at hG2 (by omega) h1)); have hg2 := hG2.size; clear hG2)
  go_ret
  exact ⟨by simp, us, A', c', hlen2, hS2H.out, by exact hR2H.out, by omega, hB2.out⟩
set_option maxHeartbeats 1000000 in
theorem do3_any (w : World) (s h X : Nat) (ws : List Nat) (A : Option Addr) (c : Nat) (a : St w s h ws) (x : RS w X ws.length A c (sl ws)) (hsX : s < X) (hhX : h < X) (d : Nat) (hd : d < 256) (hr4 : d % 4 = 3) (i j : Int) (hi : i ≤ 9223372036854775807)  :
    Calls Tryd.prog 19 #[.pointer (some ⟨s, 0, none⟩), .pointer (some ⟨X, 0, none⟩), .agg #[.int .u8 (d : Int), .int .i64 i, .int .i64 j]] w (DoneP w s h X ws.length) := by
  have hle := a.2.2.2
  have hxb : ∀ y ∈ sl ws, 0 ≤ y ∧ y < 64 * (ws.length : Int) := fun y hy => by have := sl_in.1 hy; omega
  have xA := x.alloc (.cells #[.int .u8 (d : Int), .int .i64 i, .int .i64 j] 46)
  have xB := xA.alloc (.cells #[.int .u8 (d : Int), .int .i64 i, .int .i64 j] 46)
  have hdo := Lib.hid (ref_do3 _ X ws.length A c (sl ws) xA (sl_up ws) hxb hle d hd hr4 i j hi  _ rfl _ _ rfl rfl)
  have aB : St ((w.alloc (.cells #[.int .u8 (d : Int), .int .i64 i, .int .i64 j] 46)).alloc (.cells #[.int .u8 (d : Int), .int .i64 i, .int .i64 j] 46)) s h ws := a.below (below_two w _ _ _ (Nat.le_refl _)) a.lt.1 a.lt.2
  have aBH := Lib.hid aB
  have hD : Hid (((w.alloc (.cells #[.int .u8 (d : Int), .int .i64 i, .int .i64 j] 46)).alloc (.cells #[.int .u8 (d : Int), .int .i64 i, .int .i64 j] 46)).heap[w.heap.size]? = some (.cells #[.int .u8 (d : Int), .int .i64 i, .int .i64 j] 46 (0, 0))) := by
    show _ = _
    rw [Below.heap_alloc _ _ _ (by simp)]
    exact alloc_top w _ rfl
  have hXlt := x.lt
  have hX0 : X ≤ w.heap.size := by omega
  have hlt := a.lt
  
  clear a x xA xB aB hxb
  have e1 : ((d : Int).tmod 4) = 3 := by rw [Int.tmod_eq_emod_of_nonneg (by omega)]; omega
  have e3 : (d : Int) % 4 = 3 := by omega
  have hsz : Hid (((w.alloc (.cells #[.int .u8 (d : Int), .int .i64 i, .int .i64 j] 46)).alloc (.cells #[.int .u8 (d : Int), .int .i64 i, .int .i64 j] 46)).heap.size = w.heap.size + 2) := by show _ = _; simp
  have hb2 : Hid (∀ B, B ≤ w.heap.size → Below B w ((w.alloc (.cells #[.int .u8 (d : Int), .int .i64 i, .int .i64 j] 46)).alloc (.cells #[.int .u8 (d : Int), .int .i64 i, .int .i64 j] 46))) := fun B hB => below_two w _ _ B hB
  go_enter Tryd.func19, Tryd.ntmps19
  go_wp2_with (go_at_call 29; (with_reducible refine hdo.out.mono ?_); rintro e w1 ⟨A', c', ys, n, rfl, hDid, hR, hG⟩; have hDH := Lib.hid hDid; clear hDid; have hRH := Lib.hid hR; clear hR; have hGH := Lib.hid hG; have hd1 : w1.heap[w.heap.size]? = some (.cells #[.int .u8 (d : Int), .int .i64 i, .int .i64 j] 46 (0, 0)) := (hG.block _ (by rw [hsz.out]; omega) (by intro e; cases e; omega)).trans hD.out; have c0 : w1.cell? ⟨w.heap.size, 0, none⟩ = some (.int .u8 (d : Int)) := cell_of_row w1 _ 0 _ _ (0, 0) hd1; have c1 : w1.cell? ⟨w.heap.size, 1, none⟩ = some (.int .i64 i) := cell_of_row w1 _ 1 _ _ (0, 0) hd1; have c2 : w1.cell? ⟨w.heap.size, 2, none⟩ = some (.int .i64 j) := cell_of_row w1 _ 2 _ _ (0, 0) hd1; have hS1 := Lib.hid (aBH.out.grown hG (by omega) (by omega)); have hg1 := hG.size; clear hd1 hG)
  rw [hsz.out] at hg1
  go_wp2_with (go_at_call 31; (with_reducible refine (s_wipe _ s h ws hS1.out i j hi).mono ?_); rintro e w2 ⟨us, n2, rfl, hL2, hn2, hS2, hG2⟩; have hy := did_list hL2 hDH.out rfl; have hnn := did_n hDH.out hy hn2; subst hnn; rw [hy] at hRH; have hlen2 := hL2.1; clear hL2 hn2 hDH hy; have hS2H := Lib.hid hS2; clear hS2; have hR2H := Lib.hid (hRH.out.grown hG2 hhX); have hB2 : Hid (∀ B, B ≤ h → B ≤ X → B ≤ w.heap.size → Below B w w2) := fun B h1 h2 h3 => (hb2.out B h3).trans ((below_grown_at hGH.out (by rw [hsz.out]; omega) h2).trans (below_grown_at hG2 (by omega) h1)); have hg2 := hG2.size; clear hG2)
  go_ret
  exact ⟨by simp, us, A', c', hlen2, hS2H.out, by exact hR2H.out, by omega, hB2.out⟩
theorem do_any (w : World) (s h X : Nat) (ws : List Nat) (A : Option Addr) (c : Nat) (a : St w s h ws) (x : RS w X ws.length A c (sl ws)) (hsX : s < X) (hhX : h < X) (d : Nat) (hd : d < 256) (i j : Int) (hi : i ≤ 9223372036854775807) :
    Calls Tryd.prog 19 #[.pointer (some ⟨s, 0, none⟩), .pointer (some ⟨X, 0, none⟩), .agg #[.int .u8 (d : Int), .int .i64 i, .int .i64 j]] w (DoneP w s h X ws.length) := by
  rcases (by omega : d % 4 = 0 ∨ d % 4 = 1 ∨ d % 4 = 2 ∨ d % 4 = 3) with hr | hr | hr | hr
  · by_cases hlo : i < 0
    · exact do0_low w s h X ws A c a x hsX hhX d hd hr i j hi hlo
    · by_cases hhi : 64 * (ws.length : Int) ≤ i
      · exact do0_high w s h X ws A c a x hsX hhX d hd hr i j hi hhi
      · cases hb : sbit ws i.toNat
        · exact do0_new w s h X ws A c a x hsX hhX d hd hr i j hi i.toNat (by omega) (by omega) hb
        · exact do0_old w s h X ws A c a x hsX hhX d hd hr i j hi i.toNat (by omega) (by omega) hb
  · by_cases hlo : i < 0
    · exact do1_low w s h X ws A c a x hsX hhX d hd hr i j hi hlo
    · by_cases hhi : 64 * (ws.length : Int) ≤ i
      · exact do1_high w s h X ws A c a x hsX hhX d hd hr i j hi hhi
      · cases hb : sbit ws i.toNat
        · exact do1_no w s h X ws A c a x hsX hhX d hd hr i j hi i.toNat (by omega) (by omega) hb
        · exact do1_old w s h X ws A c a x hsX hhX d hd hr i j hi i.toNat (by omega) (by omega) hb
  · exact do2_any w s h X ws A c a x hsX hhX d hd hr i j hi
  · exact do3_any w s h X ws A c a x hsX hhX d hd hr i j hi
end Go.Proofs.YtnpdndcgmfhbdaaDoor
