
/- A bucket's halves; the text walked. -/
import Derived.Test.YtepnjolldbgglaaKbM
namespace Go.Proofs.Ytepnjolldbgglaa.Kb
open Go.RowKit Go.Shelf
/-- Concat of one slice that lies in a cell. -/
theorem cat_cell (W : World) (B g n c cp : Nat) (A : Option Addr) (xs : List Nat) (hb : B ≤ W.heap.size) (hr : Rh W B A (iz xs)) (hn : n = xs.length) (few : n ≤ 1000000) (hc : W.cell? ⟨g, 0, none⟩ = some (.slice A n c)) (hg : g < W.heap.size) :
    Calls Try.prog 25 #[.slice (some ⟨g, 0, none⟩) 1 cp] W fun e w' => ∃ v, e = .returned v ∧ KN W w' v xs ∧ Below W.heap.size W w' := by
  subst hn
  have HP : Parts W B g 0 [(A, c, iz xs)] := by
    intro k hk
    have hk0 : k = 0 := by simp at hk; exact hk
    subst hk0
    exact ⟨by simpa using hc, hr⟩
  have hcat : cat [(A, c, iz xs)] = iz xs := by simp [cat]
  have M := concat_any W B g 0 cp [(A, c, iz xs)] HP hb hg (by rw [hcat, iz_len]; omega) (by simp)
  rw [hcat] at M
  exact M.mono fun e w' ⟨v, h1, h2, h3⟩ => ⟨v, h1, KN.of h2 rfl, h3⟩
/-- What is left of a list that is parted. -/
def SplitP (w : World) (xs : List Nat) (e : Ending) (w' : World) : Prop := ∃ v1 v2, e = .returned (.tuple #[v1, v2]) ∧ KN w w' v1 (xs.take (xs.length - xs.length / 2)) ∧ KN w w' v2 (xs.drop (xs.length - xs.length / 2)) ∧ Below w.heap.size w w'
theorem KN.more {w W W' : World} {v : Value} {xs : List Nat} (h : KN w W v xs) (hb : Below W.heap.size W W') : KN w W' v xs := by
  refine ⟨h.1, ?_⟩
  rcases h.2 with hn | ⟨g, cap, cur, e, hb0, hg, rest⟩
  · exact .inl hn
  · exact .inr ⟨g, cap, cur, e, hb0, (hb.block g (Array.getElem?_eq_some_iff.1 hg).1).trans hg, rest⟩
theorem KN.low {w W W' : World} {v : Value} {xs : List Nat} (h : KN W W' v xs) (hb : w.heap.size ≤ W.heap.size) : KN w W' v xs := own_low h hb
theorem bel_a (w : World) (o : Obj) : Below w.heap.size w (w.alloc o) := (Below.refl _ _).alloc (Nat.le_refl _) _
theorem bel_d {B : Nat} {w W : World} (h : Below B w W) : Below B w W.drew := ⟨h.os, h.tape, h.output, h.size, h.block⟩
theorem bel_s {w W : World} (h : Below w.heap.size w W) (o : Obj) : Below w.heap.size w (W.alloc o) := h.alloc h.size _
theorem cell_new1 (W : World) (v : Value) (T : TypeId) : (W.alloc (.cells #[v] T)).cell? ⟨W.heap.size, 0, none⟩ = some v := by simp
theorem cell_old1 (W : World) (v : Value) (T : TypeId) (o : Obj) : ((W.alloc (.cells #[v] T)).alloc o).cell? ⟨W.heap.size, 0, none⟩ = some v :=
  ((bel_a (W.alloc (.cells #[v] T)) o).cell (p := ⟨W.heap.size, 0, none⟩) (by simp)).trans (cell_new1 W v T)
theorem cell_new1d (W : World) (v : Value) (T : TypeId) : (W.alloc (.cells #[v] T)).drew.cell? ⟨W.heap.size, 0, none⟩ = some v := cell_new1 W v T
theorem cell_old1d (W : World) (v : Value) (T : TypeId) (o : Obj) : ((W.alloc (.cells #[v] T)).alloc o).drew.cell? ⟨W.heap.size, 0, none⟩ = some v := cell_old1 W v T o
theorem cell_two (W : World) (v : Value) (T : TypeId) (o : Obj) : ((W.alloc o).alloc (.cells #[v] T)).cell? ⟨W.heap.size + 1, 0, none⟩ = some v := by
  have h := cell_new1 (W.alloc o) v T
  rw [show (W.alloc o).heap.size = W.heap.size + 1 by simp] at h
  exact h
theorem cell_twod (W : World) (v : Value) (T : TypeId) (o : Obj) : ((W.alloc o).alloc (.cells #[v] T)).drew.cell? ⟨W.heap.size + 1, 0, none⟩ = some v := cell_two W v T o
set_option maxHeartbeats 8000000 in
set_option maxRecDepth 100000 in
theorem b_split (w : World) (v : Value) (xs : List Nat) (h : KX w v xs) (few : xs.length ≤ 1000000) : Calls Try.prog 22 #[v] w (SplitP w xs) := by
  obtain ⟨A, c, rfl, hr, hc⟩ := kx_rh h
  obtain ⟨n, hn⟩ : ∃ n, n = xs.length := ⟨_, rfl⟩
  obtain ⟨m, hm⟩ : ∃ m, m = n - n / 2 := ⟨_, rfl⟩
  have e1 : Hid (iz (xs.take m) = (iz xs).take m) := Lib.hid (by simp)
  have e2 : Hid (iz (xs.drop m) = ((iz xs).take n).drop m) := Lib.hid (by rw [hn, ← iz_len xs, List.take_length]; simp)
  unfold SplitP
  rw [← hn] at hc few ⊢
  rw [← hm]
  have hmn : m ≤ n := by omega
  have R1 := rh_take (l := m) hr
  have R2 := cutA_rh (l := m) (h := n) hr (by rw [hn]; simp) hmn (Nat.le_refl _) hc
  obtain ⟨g1, g2⟩ := cut_h A n c m (m : Int) rfl hmn hc
  obtain ⟨g3, g4⟩ := cut_l A n c m (m : Int) rfl hmn
  obtain ⟨A3, hA3⟩ : ∃ A3, cutA A m c = A3 := ⟨_, rfl⟩
  obtain ⟨n3, hn3⟩ : ∃ n3, n - m = n3 := ⟨_, rfl⟩
  obtain ⟨c3, hc3⟩ : ∃ c3, c - m = c3 := ⟨_, rfl⟩
  rw [hA3, hn3, hc3] at g3 g4
  rw [hA3] at R2
  have H1 : Hid (∀ W g, Below w.heap.size w W → W.cell? ⟨g, 0, none⟩ = some (.slice A m c) → g < W.heap.size → Calls Try.prog 25 #[.slice (some ⟨g, 0, none⟩) 1 1] W fun e w' => ∃ v, e = .returned v ∧ KN W w' v (xs.take m) ∧ Below W.heap.size W w') :=
    Lib.hid fun W g hb hc hg => cat_cell W w.heap.size g m c 1 A _ hb.size ((by rw [e1.out]; exact R1 : Rh w w.heap.size A (iz (xs.take m))).below hb (Nat.le_refl _)) (by rw [List.length_take]; omega) (by omega) hc hg
  have H2 : Hid (∀ W g, Below w.heap.size w W → W.cell? ⟨g, 0, none⟩ = some (.slice A3 n3 c3) → g < W.heap.size → Calls Try.prog 25 #[.slice (some ⟨g, 0, none⟩) 1 1] W fun e w' => ∃ v, e = .returned v ∧ KN W w' v (xs.drop m) ∧ Below W.heap.size W w') :=
    Lib.hid fun W g hb hc hg => cat_cell W w.heap.size g n3 c3 1 A3 _ hb.size ((by rw [e2.out]; exact R2 : Rh w w.heap.size A3 (iz (xs.drop m))).below hb (Nat.le_refl _)) (by rw [List.length_drop]; omega) (by omega) hc hg
  have hq : (n : Int).tdiv 2 = ((n / 2 : Nat) : Int) := by rw [Int.tdiv_eq_ediv_of_nonneg (by omega)]; omega
  have hq2 : (n : Int) / 2 = ((n / 2 : Nat) : Int) := by omega
  have hs : (n : Int) - ((n / 2 : Nat) : Int) = (m : Int) := by omega
  have hw1 : IntKind.i64.wrap ((n / 2 : Nat) : Int) = ((n / 2 : Nat) : Int) := IntWalk.i64_in _ (by omega)
  have hw2 : IntKind.i64.wrap (m : Int) = (m : Int) := IntWalk.i64_in _ (by omega)
  have hmc : (m : Int) ≤ (c : Int) := by omega
  have hmn' : (m : Int) ≤ (n : Int) := by omega
  clear R1 R2 e1 e2 hr h hn hA3 hn3 hc3
  generalize xs.take m = X1 at *
  generalize xs.drop m = X2 at *
  generalize hQ : ((n / 2 : Nat) : Int) = Q at *
  have HQ := Lib.hid hQ
  clear hQ hm
  go_enter Try.func22, Try.ntmps22
  go_wp2
  go_region_held3 (fun _ => True) (trivial) (first
    | (go_at_call 25; (with_reducible refine (H1.out _ _ (by first | exact bel_a _ _ | exact bel_d (bel_a _ _) | exact bel_s (bel_a _ _) _ | exact bel_d (bel_s (bel_a _ _) _) | exact bel_s (bel_d (bel_a _ _)) _ | exact bel_d (bel_s (bel_d (bel_a _ _)) _)) (by first | assumption | exact cell_new1 _ _ _ | exact cell_new1d _ _ _ | exact cell_old1 _ _ _ _ | exact cell_old1d _ _ _ _ | exact cell_two _ _ _ _ | exact cell_twod _ _ _ _) (by first | (simp [World.drew]; done) | (simp [World.drew]; omega))).mono ?_); rintro e w2 ⟨v1, rfl, k1, b1⟩
       have HB2 : Hid (Below w.heap.size w w2) := Lib.hid (Below.trans (by first | exact bel_a _ _ | exact bel_d (bel_a _ _) | exact bel_s (bel_a _ _) _ | exact bel_d (bel_s (bel_a _ _) _) | exact bel_s (bel_d (bel_a _ _)) _ | exact bel_d (bel_s (bel_d (bel_a _ _)) _)) (b1.mono (by first | (simp [World.drew]; done) | (simp [World.drew]; omega))))
       have HK1 : Hid (KN w w2 v1 X1) := Lib.hid (k1.low (by first | (simp [World.drew]; done) | (simp [World.drew]; omega)))
       try (have hc2 : w2.cell? ⟨w.heap.size, 0, none⟩ = some (.slice A3 n3 c3) := (b1.cell (p := ⟨w.heap.size, 0, none⟩) (by first | (simp [World.drew]; done) | (simp [World.drew]; omega))).trans (by first | assumption | exact cell_new1 _ _ _ | exact cell_new1d _ _ _ | exact cell_old1 _ _ _ _ | exact cell_old1d _ _ _ _ | exact cell_two _ _ _ _ | exact cell_twod _ _ _ _))
       try (have hc2 : w2.cell? ⟨w.heap.size + 1, 0, none⟩ = some (.slice A3 n3 c3) := (b1.cell (p := ⟨w.heap.size + 1, 0, none⟩) (by first | (simp [World.drew]; done) | (simp [World.drew]; omega))).trans (by first | assumption | exact cell_new1 _ _ _ | exact cell_new1d _ _ _ | exact cell_old1 _ _ _ _ | exact cell_old1d _ _ _ _ | exact cell_two _ _ _ _ | exact cell_twod _ _ _ _))
       have hs2 : w.heap.size + 1 ≤ w2.heap.size ∧ True := ⟨(by have := b1.size; simp [World.drew] at this; omega), trivial⟩
       try (have hs3 : w.heap.size + 1 < w2.heap.size := (by have := b1.size; simp [World.drew] at this; omega))
       clear k1 b1)
    | (go_at_call 25; (with_reducible refine (H2.out _ _ (by first | exact HB2.out | exact bel_d HB2.out | exact bel_s HB2.out _ | exact bel_d (bel_s HB2.out _) | exact bel_s (bel_d HB2.out) _ | exact bel_d (bel_s (bel_d HB2.out) _)) (by first | assumption | exact cell_new1 _ _ _ | exact cell_new1d _ _ _ | exact cell_old1 _ _ _ _ | exact cell_old1d _ _ _ _ | exact cell_two _ _ _ _ | exact cell_twod _ _ _ _) (by first | omega | (simp; done) | (simp; omega))).mono ?_); rintro e w3 ⟨v2, rfl, k2, b2⟩
       have HB3 : Hid (Below w.heap.size w w3) := Lib.hid (Below.trans (by first | exact HB2.out | exact bel_d HB2.out | exact bel_s HB2.out _ | exact bel_d (bel_s HB2.out _) | exact bel_s (bel_d HB2.out) _ | exact bel_d (bel_s (bel_d HB2.out) _)) (b2.mono (by first | exact HB2.out.size | (have := HB2.out.size; simp; omega))))
       have HK2 : Hid (KN w w3 v2 X2) := Lib.hid (k2.low (by first | exact HB2.out.size | (have := HB2.out.size; simp; omega)))
       have HK3 : Hid (KN w w3 v1 X1) := Lib.hid (HK1.out.more (by first | exact b2 | exact Below.trans (bel_d (bel_a _ _)) (b2.mono (by simp)) | exact Below.trans (bel_a _ _) (b2.mono (by simp)) | exact Below.trans (bel_s (bel_d (Below.refl _ _)) _) (b2.mono (by simp))  | exact Below.trans (bel_d (bel_s (bel_d (Below.refl _ _)) _)) (b2.mono (by simp))))
       clear k2 b2))
  all_goals
    go_wp2
    go_ret2
    exact ⟨v1, v2, rfl, HK3.out, HK2.out, HB3.out⟩
end Go.Proofs.Ytepnjolldbgglaa.Kb
