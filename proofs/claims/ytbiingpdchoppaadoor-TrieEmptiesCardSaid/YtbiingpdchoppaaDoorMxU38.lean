/- The law TrieRanks, walked. -/
import Derived.Test.YtbiingpdchoppaaDoorMxU37
namespace Go.Proofs.YtbiingpdchoppaaDoor
set_option maxRecDepth 40000
open Go.RowKit
theorem tks_cell {w W : World} {P lim : Nat} {xs l : List Nat} {S : List (Value × List Nat)} (h : TKs w W P lim xs S) {g n c : Nat} (hm : (Value.slice (some ⟨g, 0, none⟩) n c, l) ∈ S) {j z : Nat} (hj : l[j]? = some z) : W.cell? ⟨g, j, none⟩ = some (.int .u64 (z : Int)) := by
  obtain ⟨hj1, hj2⟩ := List.getElem?_eq_some_iff.1 hj
  rcases (h.kx hm).form with ⟨e, _⟩ | ⟨g', c', e, _, _, hc⟩
  · cases e
  · cases e
    rw [← hj2]
    exact hc j hj1
theorem law_awake_t (w : World) (hTab : Tab w) : Calls Tryd.prog 9 #[] w fun e w' => e = .returned (.bool true) ∧ Below w.heap.size w w' :=
  law_awake tt_tc2 (by decide) (by decide) w hTab
section
variable (A : Option Addr) (cp : Nat) (l : List Nat) (k : Nat) (hk : k < 18446744073709551616) (w : World) (hTab : Tab w) (hr : Rw w w.heap.size A l) (hl : l.length ≤ 9223372036854775807) (hx : ∀ x ∈ l, x < 18446744073709551616)
include hk hTab hr hl hx
set_option maxHeartbeats 2000000 in
theorem law_ranks_yes (i z : Nat) (hz : (K.off (l.take 80))[i]? = some z) :
    Calls Tryd.prog 6 #[.slice A l.length cp, .int .u64 (k : Int), .int .i64 (i : Int)] w fun e w' => e = .returned (.bool true) ∧ Below w.heap.size w w' := by
  have haw := Lib.hid (law_awake_t w hTab)
  have hnew : Hid (∀ W : World, Below w.heap.size w W → Calls Tryd.prog 10 #[.int .i64 100000] W fun e w' => ∃ P, e = .returned (.tuple #[.pointer (some ⟨P, 0, none⟩), .int .i64 0]) ∧ TKs w w' P 100000 [] []) := Lib.hid (fun W hW => tks_new hW hTab 100000 (by omega))
  have hwd : Hid (∀ (W : World) (P : Nat), TKs w W P 100000 [] [] → Calls Tryd.prog 22 #[.slice A l.length cp, .int .i64 80] W fun e w' => ∃ A' c', e = .returned (.slice A' (l.take 80).length c') ∧ TKs w w' P 100000 [] [(.slice A' (l.take 80).length c', l.take 80)]) := Lib.hid (fun W P h => tks_words h A cp l 80 hr hl (by omega))
  have hkl : (l.take 80).length ≤ 80 := List.length_take_le 80 l
  have hku : ∀ x ∈ l.take 80, x < 18446744073709551616 := fun x h => hx x (List.mem_of_mem_take h)
  have hup := T.off_up (l.take 80)
  have hmem : ∀ x ∈ l.take 80, x ∈ K.off (l.take 80) := fun x h => (T.off_mem _ x).2 h
  have hmem2 : ∀ x ∈ K.off (l.take 80), x ∈ l.take 80 := fun x h => (T.off_mem _ x).1 h
  have hxl := K.off_le (l.take 80)
  have hfit := K.eachR_fit (lim := 100000) (l.take 80) [] List.Pairwise.nil (by simp only [List.length_nil]; omega)
  rw [show (l.take 80).foldl K.add [] = K.off (l.take 80) from rfl] at hfit
  have hLen := Lib.hid (rfl : l.length = l.length)
  generalize l.take 80 = ks at *
  have hof := Lib.hid (fun (W : World) (P : Nat) (A1 : Option Addr) (c1 : Nat) (h : TKs w W P 100000 [] [(.slice A1 ks.length c1, ks)]) => tks_of h (.slice A1 ks.length c1) ks (by simp) (by omega))
  obtain ⟨xs, hxs⟩ : ∃ xs, K.off ks = xs := ⟨_, rfl⟩
  rw [hxs] at hof hup hmem hmem2 hxl hfit hz
  have hi : i < xs.length := (List.getElem?_eq_some_iff.1 hz).1
  have hzx : xs[i] = z := (List.getElem?_eq_some_iff.1 hz).2
  have hzl : z < 18446744073709551616 := hku z (hmem2 z (by rw [← hzx]; exact List.getElem_mem hi))
  have hfz : K.fi xs z = i := by rw [← hzx]; exact K.fi_self hup hi
  have he1 : Hid (∀ (W : World) (P : Nat) (A1 : Option Addr) (c1 : Nat) (S : List (Value × List Nat)), (Value.slice A1 ks.length c1, ks) ∈ S → TKs w W P 100000 [] S → Calls Tryd.prog 33 #[.pointer (some ⟨P, 0, none⟩), .slice A1 ks.length c1] W fun e w' => e = .returned (.int .i64 (xs.length : Int)) ∧ TKs w w' P 100000 xs S) := Lib.hid (fun W P A1 c1 S hm h => by
    have := tks_each h A1 c1 ks hm hku (by omega)
    have h1 := hfit.2
    simp only [List.length_nil, Nat.add_zero] at h1
    rw [hfit.1, h1] at this
    exact this)
  have he2 : Hid (∀ (W : World) (P : Nat) (A1 : Option Addr) (c1 : Nat) (S : List (Value × List Nat)), (Value.slice A1 ks.length c1, ks) ∈ S → TKs w W P 100000 xs S → Calls Tryd.prog 33 #[.pointer (some ⟨P, 0, none⟩), .slice A1 ks.length c1] W fun e w' => e = .returned (.int .i64 0) ∧ TKs w w' P 100000 xs S) := Lib.hid (fun W P A1 c1 S hm h => by
    have := tks_each h A1 c1 ks hm hku (by omega)
    rw [K.eachR_in hup ks hmem] at this
    exact this)
  have hfd := Lib.hid (fun (W : World) (v : Value) (h : KX W v xs) => k_find W v xs h (by omega) k)
  have hsel := Lib.hid (fun (W : World) (P : Nat) (S : List (Value × List Nat)) (h : TKs w W P 100000 xs S) => tks_select_yes h i z hz)
  have hrk := Lib.hid (fun (W : World) (P : Nat) (S : List (Value × List Nat)) (h : TKs w W P 100000 xs S) => tks_rank h k hk)
  have hrz : Hid (∀ (W : World) (P : Nat) (S : List (Value × List Nat)), TKs w W P 100000 xs S → Calls Tryd.prog 36 #[.pointer (some ⟨P, 0, none⟩), .int .u64 (z : Int)] W fun e w' => e = .returned (.int .i64 (i : Int)) ∧ TKs w w' P 100000 xs S) := Lib.hid (fun W P S h => by
    have := tks_rank h z hzl
    rw [hfz] at this
    exact this)
  have hsm : Hid (∀ (W : World) (P : Nat) (S : List (Value × List Nat)) (v : Value), (v, xs) ∈ S → TKs w W P 100000 xs S → Calls Tryd.prog 17 #[.pointer (some ⟨P, 0, none⟩), v] W fun e w' => e = .returned (.bool true) ∧ TKs w w' P 100000 xs S) := Lib.hid (fun W P S v hm h => by
    have := tks_same h v xs hm (by omega) (by omega)
    rw [decide_eq_true rfl] at this
    exact this)
  have hnr := Lib.hid (fun (W : World) => t_rank_nil W (k : Int))
  have hns := Lib.hid (fun (W : World) => t_select_nil W (i : Int))
  have hne := Lib.hid (fun (W : World) (A1 : Option Addr) (c1 : Nat) (h : KX W (.slice A1 ks.length c1) ks) => t_each_nil W W.heap.size A1 ks.length c1 ks rfl (by omega) (Reads.of_own h))
  have HZ := Lib.hid hz
  have d1 : decide ((0 : Int) ≤ (i : Int)) = true := decide_eq_true (by omega)
  have d2 : decide ((i : Int) < (xs.length : Int)) = true := decide_eq_true (by omega)
  have hi2 : (i : Int) < (xs.length : Int) := by omega
  generalize K.fi xs k = at_ at *
  generalize K.fo xs k = fo at *
  clear hr hx hTab hl hk hku hmem hmem2 hup hfit hxs hz hzx hfz hLen
  go_enter Tryd.func6, Tryd.ntmps6
  go_wp2_with (first
    | (go_at_call 9; (with_reducible refine haw.out.mono ?_); rintro e w1 ⟨rfl, hb1⟩; have HB1 := Lib.hid hb1; clear hb1)
    | (go_at_call 10; (with_reducible refine (hnew.out w1 HB1.out).mono ?_); rintro e w2 ⟨P, rfl, h2⟩; have H2 := Lib.hid h2; clear h2)
    | (go_at_call 22; (with_reducible refine (hwd.out w2 P H2.out).mono ?_); rintro e w3 ⟨A1, c1, rfl, h3⟩; have H3 := Lib.hid h3; clear h3)
    | (go_at_call 21; (with_reducible refine (hof.out w3 P A1 c1 H3.out).mono ?_); rintro e w4 ⟨A2, c2, rfl, h4⟩; have hkx := h4.kx (List.mem_cons_self ..); obtain ⟨g, rfl⟩ := own_some hkx (by omega); have H4 := Lib.hid h4; clear h4 hkx)
    | (go_at_call 33; (with_reducible refine (he1.out w4 P A1 c1 _ ?_ H4.out).mono ?_); (simp); rintro e w5 ⟨rfl, h5⟩; have H5 := Lib.hid h5; clear h5)
    | (go_at_call 33; (with_reducible refine (he2.out w5 P A1 c1 _ ?_ H5.out).mono ?_); (simp); rintro e w6 ⟨rfl, h6⟩; have H6 := Lib.hid h6; clear h6)
    | (go_at_call 34; (with_reducible refine (hfd.out w6 _ (H6.out.kx (List.mem_cons_self ..))).mono ?_); rintro e w7 ⟨rfl, hb7⟩; have H7 := Lib.hid (H6.out.below hb7); clear hb7)
    | (go_at_call 35; (with_reducible refine (hsel.out w7 P _ H7.out).mono ?_); rintro e w8 ⟨rfl, h8⟩; have H8 := Lib.hid h8; clear h8)
    | (go_at_call 36; (with_reducible refine (hrk.out w8 P _ H8.out).mono ?_); rintro e w9 ⟨rfl, h9⟩; have hcell := tks_cell h9 (List.mem_cons_self ..) HZ.out; have H9 := Lib.hid h9; clear h9)
    | (go_at_call 36; (with_reducible refine (hrz.out w9 P _ H9.out).mono ?_); rintro e w10 ⟨rfl, h10⟩; have H10 := Lib.hid h10; clear h10)
    | (go_at_call 35; (with_reducible refine (hns.out w10).mono ?_); rintro e w11 ⟨rfl, h11⟩; have H11 := Lib.hid (H10.out.below h11); clear h11)
    | (go_at_call 17; (with_reducible refine (hsm.out w11 P _ _ (List.mem_cons_self ..) H11.out).mono ?_); rintro e w12 ⟨rfl, h12⟩; have H12 := Lib.hid h12; have hk12 := Lib.hid (h12.kx (List.mem_cons_of_mem _ (List.mem_cons_self ..))); clear h12)
    | (go_at_call 36; (with_reducible refine (hnr.out w12).mono ?_); rintro e w13 ⟨rfl, rfl⟩)
    | (go_at_call 33; (with_reducible refine (hne.out _ A1 c1 hk12.out).mono ?_); rintro e w14 ⟨rfl, rfl⟩))
  go_ret
  exact ⟨rfl, H12.out.low⟩
end
end Go.Proofs.YtbiingpdchoppaaDoor
