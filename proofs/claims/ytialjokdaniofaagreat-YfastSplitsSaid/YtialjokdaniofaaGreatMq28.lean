/- A bucket's functions (Has, Add, Drop, Next, Prev, Split, Merge, Of, Is), told by the document's lists of keys; the texts walked. A bucket's Merge, Of and Is, told by the document's lists of keys; the texts walked. A bucket's halves; the text walked. The x-fast trie of representatives, what its counters tell; texts walked. -/
import Derived.Test.YtialjokdaniofaaGreatMq27
import Derived.Test.YtialjokdaniofaaGreatMq02
import Derived.Test.YtialjokdaniofaaGreatMq21
import Derived.Test.YtialjokdaniofaaGreatMq25
section
namespace Go.Proofs.YtialjokdaniofaaGreat.Kb
set_option maxRecDepth 20000
open Go.RowKit Go.Shelf
abbrev iz (xs : List Nat) : List Int := xs.map fun x : Nat => (x : Int)
instance upDec (xs : List Nat) : Decidable (K.Up xs) := inferInstanceAs (Decidable (xs.Pairwise (· < ·)))
theorem iz_len (xs : List Nat) : (iz xs).length = xs.length := by simp
theorem hv_iz (xs : List Nat) : hv (iz xs) = wv xs := by simp [hv, wv]
theorem iz_up {xs : List Nat} (h : K.Up xs) : (iz xs).Pairwise (· < ·) := by
  unfold K.Up at h
  rw [List.pairwise_map]
  exact h.imp fun hab => by omega
theorem iz_mem {xs : List Nat} {x : Int} : x ∈ iz xs ↔ ∃ k : Nat, k ∈ xs ∧ (k : Int) = x := by simp [iz]
theorem iz_mem' {xs : List Nat} {k : Nat} : (k : Int) ∈ iz xs ↔ k ∈ xs := by
  rw [iz_mem]
  exact ⟨fun ⟨j, hj, e⟩ => (by omega : j = k) ▸ hj, fun h => ⟨k, h, rfl⟩⟩
theorem iz_back {zs : List Int} {ys : List Nat} (hz : zs.Pairwise (· < ·)) (hy : K.Up ys) (h : ∀ x, x ∈ zs ↔ x ∈ iz ys) : zs = iz ys := M.sorted_ext hz (iz_up hy) h
theorem rank_fi {xs : List Nat} (h : K.Up xs) (k : Nat) : M.rRank (iz xs) (k : Int) = K.fi xs k := by
  refine rank_at (by rw [iz_len]; exact K.fi_le xs k) (fun j hj hlt => ?_) (fun j hj hle => ?_)
  · obtain ⟨h1, h2⟩ := K.fi_lt hlt
    simp only [List.getElem_map]
    omega
  · have hj' : j < xs.length := by simpa using hj
    have h1 := K.fi_at (xs := xs) (k := k) (by omega)
    simp only [List.getElem_map]
    rcases Nat.lt_or_eq_of_le hle with e | e
    · have := K.up_lt h e hj'; omega
    · simp only [e] at h1; omega
theorem mem_fo {xs : List Nat} (h : K.Up xs) (k : Nat) : decide ((k : Int) ∈ iz xs) = K.fo xs k := by
  rw [Bool.eq_iff_iff, decide_eq_true_iff, iz_mem', K.fo_mem h]
theorem kx_rh {w : World} {v : Value} {xs : List Nat} (h : KX w v xs) : ∃ A c, v = .slice A xs.length c ∧ Rh w w.heap.size A (iz xs) ∧ xs.length ≤ c := by
  have h2 : w.ownsRow 0 22 1 v (iz xs).length (hv (iz xs)) := by rw [hv_iz, iz_len]; exact h
  obtain ⟨A, c, h3, h4, h5⟩ := own_reads h2
  rw [iz_len] at h3 h5
  exact ⟨A, c, h3, h4, h5⟩
/-- A new row with these keys. -/
def KN (w w' : World) (v : Value) (xs : List Nat) : Prop := w'.ownsRow w.heap.size 22 1 v xs.length (wv xs)
theorem KN.kx {w w' : World} {v : Value} {xs : List Nat} (h : KN w w' v xs) : KX w' v xs := own_low h (Nat.zero_le _)
theorem KN.new {w w' : World} {v : Value} {xs : List Nat} (h : KN w w' v xs) {g : Nat} (hg : v.ownBlock = some g) : w.heap.size ≤ g ∧ g < w'.heap.size := h.lt g hg
theorem KN.of {w w' : World} {v : Value} {zs : List Int} {xs : List Nat} (h : w'.ownsRow w.heap.size 22 1 v zs.length (hv zs)) (e : zs = iz xs) : KN w w' v xs := by
  subst e
  rw [hv_iz, iz_len] at h
  exact h
section
variable (w : World) (v : Value) (xs : List Nat) (h : KX w v xs) (hu : K.Up xs) (few : xs.length ≤ 1000000) (k : Nat)
include h hu few
theorem b_search : Calls Tryz.prog 85 #[v, .int .u64 (k : Int)] w fun e w' => e = .returned (.tuple #[.int .i64 (K.fi xs k : Nat), .bool (K.fo xs k)]) ∧ w = w' := by
  obtain ⟨A, c, rfl, hr, hc⟩ := kx_rh h
  have H := a_search w w.heap.size xs.length c A (iz xs) (k : Int) (iz_len xs).symm hr (iz_up hu) few
  rw [rank_fi hu, mem_fo hu] at H
  exact H
theorem b_add : Calls Tryz.prog 48 #[v, .int .u64 (k : Int)] w fun e w' => ∃ v', e = .returned (.tuple #[v', .bool (!K.fo xs k)]) ∧ KN w w' v' (K.add xs k) ∧ Below w.heap.size w w' := by
  obtain ⟨A, c, rfl, hr, hc⟩ := kx_rh h
  refine (a_add w w.heap.size xs.length c A (iz xs) (k : Int) (iz_len xs).symm hr (iz_up hu) (Nat.le_refl _) hc few).mono ?_
  rintro e w' ⟨val, zs, rfl, h1, h2, h3, h4, h5⟩
  rw [mem_fo hu]
  refine ⟨val, rfl, KN.of h4 (iz_back h1 (K.add_up hu k) fun x => ?_), h5⟩
  rw [h2 x, iz_mem, iz_mem]
  constructor
  · rintro (⟨j, hj, rfl⟩ | rfl)
    · exact ⟨j, (K.add_mem hu k j).2 (.inr hj), rfl⟩
    · exact ⟨k, (K.add_mem hu k k).2 (.inl rfl), rfl⟩
  · rintro ⟨j, hj, rfl⟩
    rcases (K.add_mem hu k j).1 hj with rfl | hj
    · exact .inr rfl
    · exact .inl ⟨j, hj, rfl⟩
end
set_option maxHeartbeats 2000000 in
theorem b_at_no (w : World) (v : Value) (xs : List Nat) (h : KX w v xs) (i : Int) (hi : i < 0 ∨ (xs.length : Int) ≤ i) :
    Calls Tryz.prog 104 #[v, .int .i64 i] w fun e w' => e = .returned (.tuple #[.int .u64 0, .bool false]) ∧ w = w' := by
  obtain ⟨A, c, rfl, hr, hc⟩ := kx_rh h
  clear h hr
  rcases Int.lt_or_le i 0 with h0 | h0
  · have hd : decide (i < 0) = true := decide_eq_true h0
    go_enter Tryz.func104, Tryz.ntmps104
    go_wp2
    go_ret2
    exact ⟨rfl, rfl⟩
  · obtain ⟨j, rfl⟩ : ∃ j : Nat, i = (j : Int) := ⟨i.toNat, by omega⟩
    have hd : decide ((j : Int) < 0) = false := decide_eq_false (by omega)
    have hd2 : decide ((xs.length : Int) ≤ (j : Int)) = true := decide_eq_true (by omega)
    have hd3 : decide (xs.length ≤ j) = true := decide_eq_true (by omega)
    go_enter Tryz.func104, Tryz.ntmps104
    go_wp2
    go_ret2
    exact ⟨rfl, rfl⟩
set_option maxHeartbeats 2000000 in
theorem b_at_yes (w : World) (v : Value) (xs : List Nat) (h : KX w v xs) (j : Nat) (hj : j < xs.length) :
    Calls Tryz.prog 104 #[v, .int .i64 (j : Int)] w fun e w' => e = .returned (.tuple #[.int .u64 (xs[j] : Nat), .bool true]) ∧ w = w' := by
  rcases h.form with ⟨rfl, rfl⟩ | ⟨g, c, rfl, hc, hg, hcells⟩
  · simp at hj
  · have c0 := hcells j hj
    generalize xs[j] = a at *
    clear hcells h
    generalize xs.length = n at *
    have hd : decide ((j : Int) < 0) = false := decide_eq_false (by omega)
    have hd2 : decide ((n : Int) ≤ (j : Int)) = false := decide_eq_false (by omega)
    have hd3 : decide (n ≤ j) = false := decide_eq_false (by omega)
    go_enter Tryz.func104, Tryz.ntmps104
    go_wp2
    go_ret2
    exact ⟨rfl, rfl⟩
section
variable (w : World) (v : Value) (xs : List Nat) (h : KX w v xs) (hu : K.Up xs) (few : xs.length ≤ 1000000) (k : Nat)
include h hu few
set_option maxHeartbeats 2000000 in
theorem b_next : Calls Tryz.prog 59 #[v, .int .u64 (k : Int)] w fun e w' => e = .returned (.tuple #[.int .u64 (K.nx xs k : Nat), .bool (K.nxb xs k)]) ∧ w = w' := by
  have H := Lib.hid (b_search w v xs h hu few k)
  have H2 : Hid (Calls Tryz.prog 104 #[v, .int .i64 (K.fi xs k : Nat)] w fun e w' => e = .returned (.tuple #[.int .u64 (K.nx xs k : Nat), .bool (K.nxb xs k)]) ∧ w = w') := Lib.hid (by
    unfold K.nx K.nxb
    by_cases hF : K.fi xs k < xs.length
    · rw [decide_eq_true hF, List.getElem?_eq_getElem hF]
      exact b_at_yes w v xs h _ hF
    · rw [decide_eq_false hF, List.getElem?_eq_none (by omega)]
      exact b_at_no w v xs h _ (.inr (by omega)))
  clear h hu few
  generalize K.fi xs k = F at *
  go_enter Tryz.func59, Tryz.ntmps59
  go_wp2_with (first
    | (go_at_call 85; (with_reducible refine H.out.mono ?_); rintro e w' ⟨rfl, rfl⟩)
    | (go_at_call 104; (with_reducible refine H2.out.mono ?_); rintro e w' ⟨rfl, rfl⟩))
  go_ret2
  exact ⟨rfl, rfl⟩
set_option maxHeartbeats 2000000 in
theorem b_prev : Calls Tryz.prog 61 #[v, .int .u64 (k : Int)] w fun e w' => e = .returned (.tuple #[.int .u64 (K.pv xs k : Nat), .bool (K.pvb xs k)]) ∧ w = w' := by
  have H := Lib.hid (b_search w v xs h hu few k)
  cases hG : K.fo xs k with
  | true =>
    obtain ⟨hF, hk⟩ := K.fo_lt hG
    have H2 : Hid (Calls Tryz.prog 104 #[v, .int .i64 (K.fi xs k : Nat)] w fun e w' => e = .returned (.tuple #[.int .u64 (K.pv xs k : Nat), .bool (K.pvb xs k)]) ∧ w = w') := Lib.hid (by
      have e1 : K.pv xs k = xs[K.fi xs k] := by unfold K.pv; rw [hG, if_pos rfl, hk]
      have e2 : K.pvb xs k = true := by unfold K.pvb; rw [hG]; rfl
      rw [e1, e2]
      exact b_at_yes w v xs h _ hF)
    rw [hG] at H
    clear h hu few hk hF hG
    generalize K.fi xs k = F at *
    go_enter Tryz.func61, Tryz.ntmps61
    go_wp2_with (first
      | (go_at_call 85; (with_reducible refine H.out.mono ?_); rintro e w' ⟨rfl, rfl⟩)
      | (go_at_call 104; (with_reducible refine H2.out.mono ?_); rintro e w' ⟨rfl, rfl⟩))
    go_ret2
    exact ⟨rfl, rfl⟩
  | false =>
    have hle := K.fi_le xs k
    obtain ⟨q, hq⟩ : ∃ q : Int, ((K.fi xs k : Nat) : Int) - 1 = q := ⟨_, rfl⟩
    have H2 : Hid (Calls Tryz.prog 104 #[v, .int .i64 q] w fun e w' => e = .returned (.tuple #[.int .u64 (K.pv xs k : Nat), .bool (K.pvb xs k)]) ∧ w = w') := Lib.hid (by
      unfold K.pv K.pvb
      rw [hG]
      by_cases hF : K.fi xs k = 0
      · rw [if_neg (by decide), if_pos hF, decide_eq_true hF]
        exact b_at_no w v xs h _ (.inl (by omega))
      · rw [if_neg (by decide), if_neg hF, decide_eq_false hF, List.getElem?_eq_getElem (show K.fi xs k - 1 < xs.length by omega)]
        obtain rfl : q = ((K.fi xs k - 1 : Nat) : Int) := by omega
        exact b_at_yes w v xs h _ (by omega))
    rw [hG] at H
    have hw : IntKind.i64.wrap (((K.fi xs k : Nat) : Int) - 1) = q := by rw [hq]; exact IntWalk.i64_in _ (by omega)
    clear h hu few hG hq hle
    generalize K.fi xs k = F at *
    go_enter Tryz.func61, Tryz.ntmps61
    go_wp2_with (first
      | (go_at_call 85; (with_reducible refine H.out.mono ?_); rintro e w' ⟨rfl, rfl⟩)
      | (go_at_call 104; (with_reducible refine H2.out.mono ?_); rintro e w' ⟨rfl, rfl⟩))
    go_ret2
    exact ⟨rfl, rfl⟩
end
end Go.Proofs.YtialjokdaniofaaGreat.Kb
end
section
namespace Go.Proofs.YtialjokdaniofaaGreat.Kb
set_option maxRecDepth 20000
open Go.RowKit Go.Shelf
end Go.Proofs.YtialjokdaniofaaGreat.Kb
end
section
namespace Go.Proofs.YtialjokdaniofaaGreat.Kb
set_option maxRecDepth 20000
open Go.RowKit Go.Shelf
/-- Concat of one slice that lies in a cell. -/
theorem cat_cell (W : World) (B g n c cp : Nat) (A : Option Addr) (xs : List Nat) (hb : B ≤ W.heap.size) (hr : Rh W B A (iz xs)) (hn : n = xs.length) (few : n ≤ 1000000) (hc : W.cell? ⟨g, 0, none⟩ = some (.slice A n c)) (hg : g < W.heap.size) :
    Calls Tryz.prog 86 #[.slice (some ⟨g, 0, none⟩) 1 cp] W fun e w' => ∃ v, e = .returned v ∧ KN W w' v xs ∧ Below W.heap.size W w' := by
  subst hn
  have HP : Parts W B g 0 [(A, c, iz xs)] := by
    intro k hk
    have hk0 : k = 0 := by simp at hk; exact hk
    subst hk0
    exact ⟨by simpa using hc, hr⟩
  have hcat : cat [(A, c, iz xs)] = iz xs := by simp [cat]
  have M := concat_any W B g 0 cp [(A, c, iz xs)] HP hb hg (by rw [hcat, iz_len]; omega) (by simp)
  rw [hcat] at M
  exact M.mono fun e w' ⟨v, h1, h2, h3⟩ => ⟨v, h1, KN.of h2 rfl, h3⟩
/-- What is left of a list that is parted. -/
def SplitP (w : World) (xs : List Nat) (e : Ending) (w' : World) : Prop := ∃ v1 v2, e = .returned (.tuple #[v1, v2]) ∧ KN w w' v1 (xs.take (xs.length - xs.length / 2)) ∧ KN w w' v2 (xs.drop (xs.length - xs.length / 2)) ∧ Below w.heap.size w w'
theorem KN.more {w W W' : World} {v : Value} {xs : List Nat} (h : KN w W v xs) (hb : Below W.heap.size W W') : KN w W' v xs := by
  refine ⟨h.1, ?_⟩
  rcases h.2 with hn | ⟨g, cap, cur, e, hb0, hg, rest⟩
  · exact .inl hn
  · exact .inr ⟨g, cap, cur, e, hb0, (hb.block g (Array.getElem?_eq_some_iff.1 hg).1).trans hg, rest⟩
theorem KN.low {w W W' : World} {v : Value} {xs : List Nat} (h : KN W W' v xs) (hb : w.heap.size ≤ W.heap.size) : KN w W' v xs := own_low h hb
theorem bel_a (w : World) (o : Obj) : Below w.heap.size w (w.alloc o) := (Below.refl _ _).alloc (Nat.le_refl _) _
theorem bel_d {B : Nat} {w W : World} (h : Below B w W) : Below B w W.drew := ⟨h.os, h.tape, h.output, h.size, h.block⟩
theorem bel_s {w W : World} (h : Below w.heap.size w W) (o : Obj) : Below w.heap.size w (W.alloc o) := h.alloc h.size _
theorem cell_new1 (W : World) (v : Value) (T : TypeId) : (W.alloc (.cells #[v] T)).cell? ⟨W.heap.size, 0, none⟩ = some v := by simp
theorem cell_old1 (W : World) (v : Value) (T : TypeId) (o : Obj) : ((W.alloc (.cells #[v] T)).alloc o).cell? ⟨W.heap.size, 0, none⟩ = some v :=
  ((bel_a (W.alloc (.cells #[v] T)) o).cell (p := ⟨W.heap.size, 0, none⟩) (by simp)).trans (cell_new1 W v T)
theorem cell_new1d (W : World) (v : Value) (T : TypeId) : (W.alloc (.cells #[v] T)).drew.cell? ⟨W.heap.size, 0, none⟩ = some v := cell_new1 W v T
theorem cell_old1d (W : World) (v : Value) (T : TypeId) (o : Obj) : ((W.alloc (.cells #[v] T)).alloc o).drew.cell? ⟨W.heap.size, 0, none⟩ = some v := cell_old1 W v T o
theorem cell_two (W : World) (v : Value) (T : TypeId) (o : Obj) : ((W.alloc o).alloc (.cells #[v] T)).cell? ⟨W.heap.size + 1, 0, none⟩ = some v := by
  have h := cell_new1 (W.alloc o) v T
  rw [show (W.alloc o).heap.size = W.heap.size + 1 by simp] at h
  exact h
theorem cell_twod (W : World) (v : Value) (T : TypeId) (o : Obj) : ((W.alloc o).alloc (.cells #[v] T)).drew.cell? ⟨W.heap.size + 1, 0, none⟩ = some v := cell_two W v T o
set_option maxHeartbeats 8000000 in
set_option maxRecDepth 100000 in
theorem b_split (w : World) (v : Value) (xs : List Nat) (h : KX w v xs) (few : xs.length ≤ 1000000) : Calls Tryz.prog 87 #[v] w (SplitP w xs) := by
  obtain ⟨A, c, rfl, hr, hc⟩ := kx_rh h
  obtain ⟨n, hn⟩ : ∃ n, n = xs.length := ⟨_, rfl⟩
  obtain ⟨m, hm⟩ : ∃ m, m = n - n / 2 := ⟨_, rfl⟩
  have e1 : Hid (iz (xs.take m) = (iz xs).take m) := Lib.hid (by simp)
  have e2 : Hid (iz (xs.drop m) = ((iz xs).take n).drop m) := Lib.hid (by rw [hn, ← iz_len xs, List.take_length]; simp)
  unfold SplitP
  rw [← hn] at hc few ⊢
  rw [← hm]
  have hmn : m ≤ n := by omega
  have R1 := rh_take (l := m) hr
  have R2 := cutA_rh (l := m) (h := n) hr (by rw [hn]; simp) hmn (Nat.le_refl _) hc
  obtain ⟨g1, g2⟩ := cut_h A n c m (m : Int) rfl hmn hc
  obtain ⟨g3, g4⟩ := cut_l A n c m (m : Int) rfl hmn
  obtain ⟨A3, hA3⟩ : ∃ A3, cutA A m c = A3 := ⟨_, rfl⟩
  obtain ⟨n3, hn3⟩ : ∃ n3, n - m = n3 := ⟨_, rfl⟩
  obtain ⟨c3, hc3⟩ : ∃ c3, c - m = c3 := ⟨_, rfl⟩
  rw [hA3, hn3, hc3] at g3 g4
  rw [hA3] at R2
  have H1 : Hid (∀ W g, Below w.heap.size w W → W.cell? ⟨g, 0, none⟩ = some (.slice A m c) → g < W.heap.size → Calls Tryz.prog 86 #[.slice (some ⟨g, 0, none⟩) 1 1] W fun e w' => ∃ v, e = .returned v ∧ KN W w' v (xs.take m) ∧ Below W.heap.size W w') :=
    Lib.hid fun W g hb hc hg => cat_cell W w.heap.size g m c 1 A _ hb.size ((by rw [e1.out]; exact R1 : Rh w w.heap.size A (iz (xs.take m))).below hb (Nat.le_refl _)) (by rw [List.length_take]; omega) (by omega) hc hg
  have H2 : Hid (∀ W g, Below w.heap.size w W → W.cell? ⟨g, 0, none⟩ = some (.slice A3 n3 c3) → g < W.heap.size → Calls Tryz.prog 86 #[.slice (some ⟨g, 0, none⟩) 1 1] W fun e w' => ∃ v, e = .returned v ∧ KN W w' v (xs.drop m) ∧ Below W.heap.size W w') :=
    Lib.hid fun W g hb hc hg => cat_cell W w.heap.size g n3 c3 1 A3 _ hb.size ((by rw [e2.out]; exact R2 : Rh w w.heap.size A3 (iz (xs.drop m))).below hb (Nat.le_refl _)) (by rw [List.length_drop]; omega) (by omega) hc hg
  have hq : (n : Int).tdiv 2 = ((n / 2 : Nat) : Int) := by rw [Int.tdiv_eq_ediv_of_nonneg (by omega)]; omega
  have hq2 : (n : Int) / 2 = ((n / 2 : Nat) : Int) := by omega
  have hs : (n : Int) - ((n / 2 : Nat) : Int) = (m : Int) := by omega
  have hw1 : IntKind.i64.wrap ((n / 2 : Nat) : Int) = ((n / 2 : Nat) : Int) := IntWalk.i64_in _ (by omega)
  have hw2 : IntKind.i64.wrap (m : Int) = (m : Int) := IntWalk.i64_in _ (by omega)
  have hmc : (m : Int) ≤ (c : Int) := by omega
  have hmn' : (m : Int) ≤ (n : Int) := by omega
  clear R1 R2 e1 e2 hr h hn hA3 hn3 hc3
  generalize xs.take m = X1 at *
  generalize xs.drop m = X2 at *
  generalize hQ : ((n / 2 : Nat) : Int) = Q at *
  have HQ := Lib.hid hQ
  clear hQ hm
  go_enter Tryz.func87, Tryz.ntmps87
  go_wp2
  go_region_held3 (fun _ => True) (trivial) (first
    | (go_at_call 86; (with_reducible refine (H1.out _ _ (by first | exact bel_a _ _ | exact bel_d (bel_a _ _) | exact bel_s (bel_a _ _) _ | exact bel_d (bel_s (bel_a _ _) _) | exact bel_s (bel_d (bel_a _ _)) _ | exact bel_d (bel_s (bel_d (bel_a _ _)) _)) (by first | assumption | exact cell_new1 _ _ _ | exact cell_new1d _ _ _ | exact cell_old1 _ _ _ _ | exact cell_old1d _ _ _ _ | exact cell_two _ _ _ _ | exact cell_twod _ _ _ _) (by first | (simp [World.drew]; done) | (simp [World.drew]; omega))).mono ?_); rintro e w2 ⟨v1, rfl, k1, b1⟩
       have HB2 : Hid (Below w.heap.size w w2) := Lib.hid (Below.trans (by first | exact bel_a _ _ | exact bel_d (bel_a _ _) | exact bel_s (bel_a _ _) _ | exact bel_d (bel_s (bel_a _ _) _) | exact bel_s (bel_d (bel_a _ _)) _ | exact bel_d (bel_s (bel_d (bel_a _ _)) _)) (b1.mono (by first | (simp [World.drew]; done) | (simp [World.drew]; omega))))
       have HK1 : Hid (KN w w2 v1 X1) := Lib.hid (k1.low (by first | (simp [World.drew]; done) | (simp [World.drew]; omega)))
       try (have hc2 : w2.cell? ⟨w.heap.size, 0, none⟩ = some (.slice A3 n3 c3) := (b1.cell (p := ⟨w.heap.size, 0, none⟩) (by first | (simp [World.drew]; done) | (simp [World.drew]; omega))).trans (by first | assumption | exact cell_new1 _ _ _ | exact cell_new1d _ _ _ | exact cell_old1 _ _ _ _ | exact cell_old1d _ _ _ _ | exact cell_two _ _ _ _ | exact cell_twod _ _ _ _))
       try (have hc2 : w2.cell? ⟨w.heap.size + 1, 0, none⟩ = some (.slice A3 n3 c3) := (b1.cell (p := ⟨w.heap.size + 1, 0, none⟩) (by first | (simp [World.drew]; done) | (simp [World.drew]; omega))).trans (by first | assumption | exact cell_new1 _ _ _ | exact cell_new1d _ _ _ | exact cell_old1 _ _ _ _ | exact cell_old1d _ _ _ _ | exact cell_two _ _ _ _ | exact cell_twod _ _ _ _))
       have hs2 : w.heap.size + 1 ≤ w2.heap.size ∧ True := ⟨(by have := b1.size; simp [World.drew] at this; omega), trivial⟩
       try (have hs3 : w.heap.size + 1 < w2.heap.size := (by have := b1.size; simp [World.drew] at this; omega))
       clear k1 b1)
    | (go_at_call 86; (with_reducible refine (H2.out _ _ (by first | exact HB2.out | exact bel_d HB2.out | exact bel_s HB2.out _ | exact bel_d (bel_s HB2.out _) | exact bel_s (bel_d HB2.out) _ | exact bel_d (bel_s (bel_d HB2.out) _)) (by first | assumption | exact cell_new1 _ _ _ | exact cell_new1d _ _ _ | exact cell_old1 _ _ _ _ | exact cell_old1d _ _ _ _ | exact cell_two _ _ _ _ | exact cell_twod _ _ _ _) (by first | omega | (simp; done) | (simp; omega))).mono ?_); rintro e w3 ⟨v2, rfl, k2, b2⟩
       have HB3 : Hid (Below w.heap.size w w3) := Lib.hid (Below.trans (by first | exact HB2.out | exact bel_d HB2.out | exact bel_s HB2.out _ | exact bel_d (bel_s HB2.out _) | exact bel_s (bel_d HB2.out) _ | exact bel_d (bel_s (bel_d HB2.out) _)) (b2.mono (by first | exact HB2.out.size | (have := HB2.out.size; simp; omega))))
       have HK2 : Hid (KN w w3 v2 X2) := Lib.hid (k2.low (by first | exact HB2.out.size | (have := HB2.out.size; simp; omega)))
       have HK3 : Hid (KN w w3 v1 X1) := Lib.hid (HK1.out.more (by first | exact b2 | exact Below.trans (bel_d (bel_a _ _)) (b2.mono (by simp)) | exact Below.trans (bel_a _ _) (b2.mono (by simp)) | exact Below.trans (bel_s (bel_d (Below.refl _ _)) _) (b2.mono (by simp))  | exact Below.trans (bel_d (bel_s (bel_d (Below.refl _ _)) _)) (b2.mono (by simp))))
       clear k2 b2))
  all_goals
    go_wp2
    go_ret2
    exact ⟨v1, v2, rfl, HK3.out, HK2.out, HB3.out⟩
end Go.Proofs.YtialjokdaniofaaGreat.Kb
end
section
namespace Go.Proofs.YtialjokdaniofaaGreat
set_option maxRecDepth 20000
open Go.RowKit
abbrev MG (r c : Int) (w : World) (g tk : Nat) : Prop := @Mx ⟨r, c⟩ w g tk
/-- An x-fast trie of which it is told what its meter's counters were once. -/
abbrev XG (r c : Int) (w : World) (X : Nat) (xs : List Nat) (lim tk : Nat) (O : Nat → Prop) : Prop := @XZ ⟨r, c⟩ w X xs lim tk O
abbrev mrow (r c s t p : Int) : Obj := .cells #[.int .i64 r, .int .i64 c, .int .i64 s, .int .i64 t, .int .i64 p] 87 (0, 0)
theorem m_reads (w : World) (g : Nat) (r c s t p : Int) (hr : w.heap[g]? = some (mrow r c s t p)) :
    Calls Tryz.prog 112 #[.pointer (some ⟨g, 0, none⟩)] w fun e w' => e = .returned (.int .i64 r) ∧ w' = w := by
  have hc := cell_of_row w g 0 _ _ (0, 0) hr
  simp at hc
  clear hr
  go_enter Tryz.func112, Tryz.ntmps112
  go_wp2
  go_ret
  exact ⟨rfl, rfl⟩
theorem m_calls (w : World) (g : Nat) (r c s t p : Int) (hr : w.heap[g]? = some (mrow r c s t p)) :
    Calls Tryz.prog 113 #[.pointer (some ⟨g, 0, none⟩)] w fun e w' => e = .returned (.int .i64 c) ∧ w' = w := by
  have hc := cell_of_row w g 1 _ _ (0, 0) hr
  simp at hc
  clear hr
  go_enter Tryz.func113, Tryz.ntmps113
  go_wp2
  go_ret
  exact ⟨rfl, rfl⟩
theorem xs_make [gh : Gh] {w : World} {Xb C Q M P lim seed cn cf Qt Mt n pr : Nat} {An Af : Option Addr} {ns : List (Nd × Bool)} {fs : List Nat} {L : LL} {es : Es} {xs : List Nat} {O : Nat → Prop}
    (row : w.heap[Xb]? = some (.cells #[.pointer (some ⟨M, 0, none⟩), .pointer (some ⟨C, 0, none⟩), .pointer (some ⟨P, 0, none⟩), .int .i64 (lim : Int)] 114 (0, 0))) (mx : Mx w M 2000000) (ch : CW w C Q M lim An cn Af cf ns fs L) (tab : Hs.Tab w P Qt Mt seed n es pr 0) (ap : M ≠ Mt) (hO : O = XK Xb C Q M P Qt Mt An Af)
    (te : X.TE 0 L L es) (ks : L.map (·.2) = xs) (up : K.Up xs) (cnt : es.length + L.length = K.xfast xs) (le : K.xfast xs ≤ lim) (max : lim ≤ 500000) : XZ w Xb xs lim 2000000 O :=
  ⟨C, Q, M, P, L, es, ⟨seed, An, cn, Af, cf, ns, fs, Qt, Mt, n, pr, ⟨row, mx, ch, tab, ap⟩, hO⟩, te, ks, up, cnt, le, max, .inr rfl⟩
/-- What its meter tells now; and it is told anew from now on. -/
theorem xg_now {r c : Int} {w : World} {X lim tk : Nat} {xs : List Nat} {O : Nat → Prop} (h : XG r c w X xs lim tk O) :
    ∃ (M : Nat) (r' c' s t p : Int), w.cell? ⟨X, 0, none⟩ = some (.pointer (some ⟨M, 0, none⟩)) ∧ w.heap[M]? = some (mrow r' c' s t p) ∧ XG r' c' w X xs lim 2000000 O ∧ (tk < 2000000 → ∃ a b : Nat, a + b = tk ∧ (r' - r - a) % 18446744073709551616 = 0 ∧ (c' - c - b) % 18446744073709551616 = 0) ∧ (tk = 2000000 → r' = r ∧ c' = c) ∧ O M ∧ O X := by
  letI : Gh := ⟨r, c⟩
  obtain ⟨C, Q, M, P, L, es, hs⟩ := h
  obtain ⟨⟨seed, An, cn, Af, cf, ns, fs, Qt, Mt, n, pr, hb, hO⟩, te, ks, up, cnt, le, max, few⟩ := hs
  obtain ⟨r', c', s, p, t, hr, hg⟩ := hb.mx
  refine ⟨M, r', c', s, t, p, cell_of_row w X 0 _ _ (0, 0) hb.row, hr, xs_make (gh := ⟨r', c'⟩) hb.row (show MG r' c' w M 2000000 from ⟨r', c', s, p, t, hr, .inl ⟨rfl, rfl, rfl⟩⟩) hb.ch hb.tab hb.ap hO te ks up cnt le max, fun hlt => ?_, fun he => ?_, by rw [hO]; exact .inr (.inl rfl), by rw [hO]; exact .inl rfl⟩
  · rcases hg with ⟨e, _⟩ | ⟨_, _, a, b, h1, h2, h3⟩
    · omega
    · exact ⟨a, b, h1, h2, h3⟩
  · rcases hg with ⟨_, h1, h2⟩ | ⟨e, _⟩
    · exact ⟨h1, h2⟩
    · omega
theorem xg_lt {r c : Int} {w : World} {X lim tk : Nat} {xs : List Nat} {O : Nat → Prop} (h : XG r c w X xs lim tk O) : ∀ j, O j → j < w.heap.size := by
  letI : Gh := ⟨r, c⟩
  obtain ⟨C, Q, M, P, L, es, hs⟩ := h
  exact hs.xt.lt
theorem xg_chg {r c : Int} {w w' : World} {X lim tk : Nat} {xs : List Nat} {O O' : Nat → Prop} (h : XG r c w X xs lim tk O) (b : K.Chg w w' O') (hO : ∀ j, O j → ¬ O' j) : XG r c w' X xs lim tk O := by
  letI : Gh := ⟨r, c⟩
  obtain ⟨C, Q, M, P, L, es, hs⟩ := h
  exact ⟨C, Q, M, P, L, es, hs.xt.chg b hO, hs.te, hs.ks, hs.up, hs.cnt, hs.le, hs.max, hs.few⟩
theorem xg_up {r c : Int} {w : World} {X lim tk : Nat} {xs : List Nat} {O : Nat → Prop} (h : XG r c w X xs lim tk O) : K.Up xs ∧ (∀ x ∈ xs, x < 18446744073709551616) ∧ K.xfast xs ≤ lim ∧ lim ≤ 500000 := by
  letI : Gh := ⟨r, c⟩
  obtain ⟨C, Q, M, P, L, es, hs⟩ := h
  exact ⟨hs.up, hs.keys, hs.le, hs.max⟩
theorem wrap_a {r r' : Int} {a : Nat} (h : (r' - r - a) % 18446744073709551616 = 0) (ha : a < 9223372036854775808) : IntKind.i64.wrap (r' - r) = (a : Int) := by
  rw [IntKind.wrap_i64]
  omega
/-- What its meter counted since. -/
theorem xg_delta {r c : Int} {w : World} {X lim t N : Nat} {xs : List Nat} {O : Nat → Prop} (h : XG r c w X xs lim t O) (ht : t ≤ N ∨ t = 2000000) (hN : N ≤ 900000) :
    ∃ (M : Nat) (r' c' s t' p : Int) (a b : Nat), w.cell? ⟨X, 0, none⟩ = some (.pointer (some ⟨M, 0, none⟩)) ∧ w.heap[M]? = some (mrow r' c' s t' p) ∧ a + b ≤ N ∧ IntKind.i64.wrap (r' - r) = (a : Int) ∧ IntKind.i64.wrap (c' - c) = (b : Int) ∧ O M ∧ O X := by
  obtain ⟨M, r', c', s, t', p, h1, h2, _, h4, h5, h6, h7⟩ := xg_now h
  rcases ht with ht | ht
  · obtain ⟨a, b, q1, q2, q3⟩ := h4 (by omega)
    exact ⟨M, r', c', s, t', p, a, b, h1, h2, by omega, wrap_a q2 (by omega), wrap_a q3 (by omega), h6, h7⟩
  · obtain ⟨rfl, rfl⟩ := h5 ht
    refine ⟨M, r', c', s, t', p, 0, 0, h1, h2, by omega, ?_, ?_, h6, h7⟩
    · rw [show r' - r' = 0 by omega]; rfl
    · rw [show c' - c' = 0 by omega]; rfl
end Go.Proofs.YtialjokdaniofaaGreat
end
