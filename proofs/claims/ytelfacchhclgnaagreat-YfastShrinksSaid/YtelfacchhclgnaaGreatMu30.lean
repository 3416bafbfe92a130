/- A bucket's halves; the text walked. The x-fast trie of representatives, what its counters tell; texts walked. The trie's steps are counted over; the text walked, for each function that is carried. -/
import Derived.Test.YtelfacchhclgnaaGreatMu29
import Derived.Test.YtelfacchhclgnaaGreatMu19
import Derived.Test.YtelfacchhclgnaaGreatMu23
section
namespace Go.Proofs.YtelfacchhclgnaaGreat.Kb
set_option maxRecDepth 20000
open Go.RowKit Go.Shelf
/-- Concat of one slice that lies in a cell. -/
theorem cat_cell (W : World) (B g n c cp : Nat) (A : Option Addr) (xs : List Nat) (hb : B ≤ W.heap.size) (hr : Rh W B A (iz xs)) (hn : n = xs.length) (few : n ≤ 1000000) (hc : W.cell? ⟨g, 0, none⟩ = some (.slice A n c)) (hg : g < W.heap.size) :
    Calls Tryz.prog 86 #[.slice (some ⟨g, 0, none⟩) 1 cp] W fun e w' => ∃ v, e = .returned v ∧ KN W w' v xs ∧ Below W.heap.size W w' := by
  subst hn
  have HP : Parts W B g 0 [(A, c, iz xs)] := by
    intro k hk
    have hk0 : k = 0 := by simp at hk; exact hk
    subst hk0
    exact ⟨by simpa using hc, hr⟩
  have hcat : cat [(A, c, iz xs)] = iz xs := by simp [cat]
  have M := concat_any W B g 0 cp [(A, c, iz xs)] HP hb hg (by rw [hcat, iz_len]; omega) (by simp)
  rw [hcat] at M
  exact M.mono fun e w' ⟨v, h1, h2, h3⟩ => ⟨v, h1, KN.of h2 rfl, h3⟩
/-- What is left of a list that is parted. -/
def SplitP (w : World) (xs : List Nat) (e : Ending) (w' : World) : Prop := ∃ v1 v2, e = .returned (.tuple #[v1, v2]) ∧ KN w w' v1 (xs.take (xs.length - xs.length / 2)) ∧ KN w w' v2 (xs.drop (xs.length - xs.length / 2)) ∧ Below w.heap.size w w'
theorem KN.more {w W W' : World} {v : Value} {xs : List Nat} (h : KN w W v xs) (hb : Below W.heap.size W W') : KN w W' v xs := by
  refine ⟨h.1, ?_⟩
  rcases h.2 with hn | ⟨g, cap, cur, e, hb0, hg, rest⟩
  · exact .inl hn
  · exact .inr ⟨g, cap, cur, e, hb0, (hb.block g (Array.getElem?_eq_some_iff.1 hg).1).trans hg, rest⟩
theorem KN.low {w W W' : World} {v : Value} {xs : List Nat} (h : KN W W' v xs) (hb : w.heap.size ≤ W.heap.size) : KN w W' v xs := own_low h hb
theorem bel_a (w : World) (o : Obj) : Below w.heap.size w (w.alloc o) := (Below.refl _ _).alloc (Nat.le_refl _) _
theorem bel_d {B : Nat} {w W : World} (h : Below B w W) : Below B w W.drew := ⟨h.os, h.tape, h.output, h.size, h.block⟩
theorem bel_s {w W : World} (h : Below w.heap.size w W) (o : Obj) : Below w.heap.size w (W.alloc o) := h.alloc h.size _
theorem cell_new1 (W : World) (v : Value) (T : TypeId) : (W.alloc (.cells #[v] T)).cell? ⟨W.heap.size, 0, none⟩ = some v := by simp
theorem cell_old1 (W : World) (v : Value) (T : TypeId) (o : Obj) : ((W.alloc (.cells #[v] T)).alloc o).cell? ⟨W.heap.size, 0, none⟩ = some v :=
  ((bel_a (W.alloc (.cells #[v] T)) o).cell (p := ⟨W.heap.size, 0, none⟩) (by simp)).trans (cell_new1 W v T)
theorem cell_new1d (W : World) (v : Value) (T : TypeId) : (W.alloc (.cells #[v] T)).drew.cell? ⟨W.heap.size, 0, none⟩ = some v := cell_new1 W v T
theorem cell_old1d (W : World) (v : Value) (T : TypeId) (o : Obj) : ((W.alloc (.cells #[v] T)).alloc o).drew.cell? ⟨W.heap.size, 0, none⟩ = some v := cell_old1 W v T o
theorem cell_two (W : World) (v : Value) (T : TypeId) (o : Obj) : ((W.alloc o).alloc (.cells #[v] T)).cell? ⟨W.heap.size + 1, 0, none⟩ = some v := by
  have h := cell_new1 (W.alloc o) v T
  rw [show (W.alloc o).heap.size = W.heap.size + 1 by simp] at h
  exact h
theorem cell_twod (W : World) (v : Value) (T : TypeId) (o : Obj) : ((W.alloc o).alloc (.cells #[v] T)).drew.cell? ⟨W.heap.size + 1, 0, none⟩ = some v := cell_two W v T o
set_option maxHeartbeats 8000000 in
set_option maxRecDepth 100000 in
theorem b_split (w : World) (v : Value) (xs : List Nat) (h : KX w v xs) (few : xs.length ≤ 1000000) : Calls Tryz.prog 87 #[v] w (SplitP w xs) := by
  obtain ⟨A, c, rfl, hr, hc⟩ := kx_rh h
  obtain ⟨n, hn⟩ : ∃ n, n = xs.length := ⟨_, rfl⟩
  obtain ⟨m, hm⟩ : ∃ m, m = n - n / 2 := ⟨_, rfl⟩
  have e1 : Hid (iz (xs.take m) = (iz xs).take m) := Lib.hid (by simp)
  have e2 : Hid (iz (xs.drop m) = ((iz xs).take n).drop m) := Lib.hid (by rw [hn, ← iz_len xs, List.take_length]; simp)
  unfold SplitP
  rw [← hn] at hc few ⊢
  rw [← hm]
  have hmn : m ≤ n := by omega
  have R1 := rh_take (l := m) hr
  have R2 := cutA_rh (l := m) (h := n) hr (by rw [hn]; simp) hmn (Nat.le_refl _) hc
  obtain ⟨g1, g2⟩ := cut_h A n c m (m : Int) rfl hmn hc
  obtain ⟨g3, g4⟩ := cut_l A n c m (m : Int) rfl hmn
  obtain ⟨A3, hA3⟩ : ∃ A3, cutA A m c = A3 := ⟨_, rfl⟩
  obtain ⟨n3, hn3⟩ : ∃ n3, n - m = n3 := ⟨_, rfl⟩
  obtain ⟨c3, hc3⟩ : ∃ c3, c - m = c3 := ⟨_, rfl⟩
  rw [hA3, hn3, hc3] at g3 g4
  rw [hA3] at R2
  have H1 : Hid (∀ W g, Below w.heap.size w W → W.cell? ⟨g, 0, none⟩ = some (.slice A m c) → g < W.heap.size → Calls Tryz.prog 86 #[.slice (some ⟨g, 0, none⟩) 1 1] W fun e w' => ∃ v, e = .returned v ∧ KN W w' v (xs.take m) ∧ Below W.heap.size W w') :=
    Lib.hid fun W g hb hc hg => cat_cell W w.heap.size g m c 1 A _ hb.size ((by rw [e1.out]; exact R1 : Rh w w.heap.size A (iz (xs.take m))).below hb (Nat.le_refl _)) (by rw [List.length_take]; omega) (by omega) hc hg
  have H2 : Hid (∀ W g, Below w.heap.size w W → W.cell? ⟨g, 0, none⟩ = some (.slice A3 n3 c3) → g < W.heap.size → Calls Tryz.prog 86 #[.slice (some ⟨g, 0, none⟩) 1 1] W fun e w' => ∃ v, e = .returned v ∧ KN W w' v (xs.drop m) ∧ Below W.heap.size W w') :=
    Lib.hid fun W g hb hc hg => cat_cell W w.heap.size g n3 c3 1 A3 _ hb.size ((by rw [e2.out]; exact R2 : Rh w w.heap.size A3 (iz (xs.drop m))).below hb (Nat.le_refl _)) (by rw [List.length_drop]; omega) (by omega) hc hg
  have hq : (n : Int).tdiv 2 = ((n / 2 : Nat) : Int) := by rw [Int.tdiv_eq_ediv_of_nonneg (by omega)]; omega
  have hq2 : (n : Int) / 2 = ((n / 2 : Nat) : Int) := by omega
  have hs : (n : Int) - ((n / 2 : Nat) : Int) = (m : Int) := by omega
  have hw1 : IntKind.i64.wrap ((n / 2 : Nat) : Int) = ((n / 2 : Nat) : Int) := IntWalk.i64_in _ (by omega)
  have hw2 : IntKind.i64.wrap (m : Int) = (m : Int) := IntWalk.i64_in _ (by omega)
  have hmc : (m : Int) ≤ (c : Int) := by omega
  have hmn' : (m : Int) ≤ (n : Int) := by omega
  clear R1 R2 e1 e2 hr h hn hA3 hn3 hc3
  generalize xs.take m = X1 at *
  generalize xs.drop m = X2 at *
  generalize hQ : ((n / 2 : Nat) : Int) = Q at *
  have HQ := Lib.hid hQ
  clear hQ hm
  go_enter Tryz.func87, Tryz.ntmps87
  go_wp2
  go_region_held3 (fun _ => True) (trivial) (first
    | (go_at_call 86; (with_reducible refine (H1.out _ _ (by first | exact bel_a _ _ | exact bel_d (bel_a _ _) | exact bel_s (bel_a _ _) _ | exact bel_d (bel_s (bel_a _ _) _) | exact bel_s (bel_d (bel_a _ _)) _ | exact bel_d (bel_s (bel_d (bel_a _ _)) _)) (by first | assumption | exact cell_new1 _ _ _ | exact cell_new1d _ _ _ | exact cell_old1 _ _ _ _ | exact cell_old1d _ _ _ _ | exact cell_two _ _ _ _ | exact cell_twod _ _ _ _) (by first | (simp [World.drew]; done) | (simp [World.drew]; omega))).mono ?_); rintro e w2 ⟨v1, rfl, k1, b1⟩
       have HB2 : Hid (Below w.heap.size w w2) := Lib.hid (Below.trans (by first | exact bel_a _ _ | exact bel_d (bel_a _ _) | exact bel_s (bel_a _ _) _ | exact bel_d (bel_s (bel_a _ _) _) | exact bel_s (bel_d (bel_a _ _)) _ | exact bel_d (bel_s (bel_d (bel_a _ _)) _)) (b1.mono (by first | (simp [World.drew]; done) | (simp [World.drew]; omega))))
       have HK1 : Hid (KN w w2 v1 X1) := Lib.hid (k1.low (by first | (simp [World.drew]; done) | (simp [World.drew]; omega)))
       try (have hc2 : w2.cell? ⟨w.heap.size, 0, none⟩ = some (.slice A3 n3 c3) := (b1.cell (p := ⟨w.heap.size, 0, none⟩) (by first | (simp [World.drew]; done) | (simp [World.drew]; omega))).trans (by first | assumption | exact cell_new1 _ _ _ | exact cell_new1d _ _ _ | exact cell_old1 _ _ _ _ | exact cell_old1d _ _ _ _ | exact cell_two _ _ _ _ | exact cell_twod _ _ _ _))
       try (have hc2 : w2.cell? ⟨w.heap.size + 1, 0, none⟩ = some (.slice A3 n3 c3) := (b1.cell (p := ⟨w.heap.size + 1, 0, none⟩) (by first | (simp [World.drew]; done) | (simp [World.drew]; omega))).trans (by first | assumption | exact cell_new1 _ _ _ | exact cell_new1d _ _ _ | exact cell_old1 _ _ _ _ | exact cell_old1d _ _ _ _ | exact cell_two _ _ _ _ | exact cell_twod _ _ _ _))
       have hs2 : w.heap.size + 1 ≤ w2.heap.size ∧ True := ⟨(by have := b1.size; simp [World.drew] at this; omega), trivial⟩
       try (have hs3 : w.heap.size + 1 < w2.heap.size := (by have := b1.size; simp [World.drew] at this; omega))
       clear k1 b1)
    | (go_at_call 86; (with_reducible refine (H2.out _ _ (by first | exact HB2.out | exact bel_d HB2.out | exact bel_s HB2.out _ | exact bel_d (bel_s HB2.out _) | exact bel_s (bel_d HB2.out) _ | exact bel_d (bel_s (bel_d HB2.out) _)) (by first | assumption | exact cell_new1 _ _ _ | exact cell_new1d _ _ _ | exact cell_old1 _ _ _ _ | exact cell_old1d _ _ _ _ | exact cell_two _ _ _ _ | exact cell_twod _ _ _ _) (by first | omega | (simp; done) | (simp; omega))).mono ?_); rintro e w3 ⟨v2, rfl, k2, b2⟩
       have HB3 : Hid (Below w.heap.size w w3) := Lib.hid (Below.trans (by first | exact HB2.out | exact bel_d HB2.out | exact bel_s HB2.out _ | exact bel_d (bel_s HB2.out _) | exact bel_s (bel_d HB2.out) _ | exact bel_d (bel_s (bel_d HB2.out) _)) (b2.mono (by first | exact HB2.out.size | (have := HB2.out.size; simp; omega))))
       have HK2 : Hid (KN w w3 v2 X2) := Lib.hid (k2.low (by first | exact HB2.out.size | (have := HB2.out.size; simp; omega)))
       have HK3 : Hid (KN w w3 v1 X1) := Lib.hid (HK1.out.more (by first | exact b2 | exact Below.trans (bel_d (bel_a _ _)) (b2.mono (by simp)) | exact Below.trans (bel_a _ _) (b2.mono (by simp)) | exact Below.trans (bel_s (bel_d (Below.refl _ _)) _) (b2.mono (by simp))  | exact Below.trans (bel_d (bel_s (bel_d (Below.refl _ _)) _)) (b2.mono (by simp))))
       clear k2 b2))
  all_goals
    go_wp2
    go_ret2
    exact ⟨v1, v2, rfl, HK3.out, HK2.out, HB3.out⟩
end Go.Proofs.YtelfacchhclgnaaGreat.Kb
end
section
namespace Go.Proofs.YtelfacchhclgnaaGreat
set_option maxRecDepth 20000
open Go.RowKit
abbrev MG (r c : Int) (w : World) (g tk : Nat) : Prop := @Mx ⟨r, c⟩ w g tk
/-- An x-fast trie of which it is told what its meter's counters were once. -/
abbrev XG (r c : Int) (w : World) (X : Nat) (xs : List Nat) (lim tk : Nat) (O : Nat → Prop) : Prop := @XZ ⟨r, c⟩ w X xs lim tk O
abbrev mrow (r c s t p : Int) : Obj := .cells #[.int .i64 r, .int .i64 c, .int .i64 s, .int .i64 t, .int .i64 p] 87 (0, 0)
theorem m_reads (w : World) (g : Nat) (r c s t p : Int) (hr : w.heap[g]? = some (mrow r c s t p)) :
    Calls Tryz.prog 112 #[.pointer (some ⟨g, 0, none⟩)] w fun e w' => e = .returned (.int .i64 r) ∧ w' = w := by
  have hc := cell_of_row w g 0 _ _ (0, 0) hr
  simp at hc
  clear hr
  go_enter Tryz.func112, Tryz.ntmps112
  go_wp2
  go_ret
  exact ⟨rfl, rfl⟩
theorem m_calls (w : World) (g : Nat) (r c s t p : Int) (hr : w.heap[g]? = some (mrow r c s t p)) :
    Calls Tryz.prog 113 #[.pointer (some ⟨g, 0, none⟩)] w fun e w' => e = .returned (.int .i64 c) ∧ w' = w := by
  have hc := cell_of_row w g 1 _ _ (0, 0) hr
  simp at hc
  clear hr
  go_enter Tryz.func113, Tryz.ntmps113
  go_wp2
  go_ret
  exact ⟨rfl, rfl⟩
theorem xs_make [gh : Gh] {w : World} {Xb C Q M P lim seed cn cf Qt Mt n pr : Nat} {An Af : Option Addr} {ns : List (Nd × Bool)} {fs : List Nat} {L : LL} {es : Es} {xs : List Nat} {O : Nat → Prop}
    (row : w.heap[Xb]? = some (.cells #[.pointer (some ⟨M, 0, none⟩), .pointer (some ⟨C, 0, none⟩), .pointer (some ⟨P, 0, none⟩), .int .i64 (lim : Int)] 114 (0, 0))) (mx : Mx w M 2000000) (ch : CW w C Q M lim An cn Af cf ns fs L) (tab : Hs.Tab w P Qt Mt seed n es pr 0) (ap : M ≠ Mt) (hO : O = XK Xb C Q M P Qt Mt An Af)
    (te : X.TE 0 L L es) (ks : L.map (·.2) = xs) (up : K.Up xs) (cnt : es.length + L.length = K.xfast xs) (le : K.xfast xs ≤ lim) (max : lim ≤ 500000) : XZ w Xb xs lim 2000000 O :=
  ⟨C, Q, M, P, L, es, ⟨seed, An, cn, Af, cf, ns, fs, Qt, Mt, n, pr, ⟨row, mx, ch, tab, ap⟩, hO⟩, te, ks, up, cnt, le, max, .inr rfl⟩
/-- What its meter tells now; and it is told anew from now on. -/
theorem xg_now {r c : Int} {w : World} {X lim tk : Nat} {xs : List Nat} {O : Nat → Prop} (h : XG r c w X xs lim tk O) :
    ∃ (M : Nat) (r' c' s t p : Int), w.cell? ⟨X, 0, none⟩ = some (.pointer (some ⟨M, 0, none⟩)) ∧ w.heap[M]? = some (mrow r' c' s t p) ∧ XG r' c' w X xs lim 2000000 O ∧ (tk < 2000000 → ∃ a b : Nat, a + b = tk ∧ (r' - r - a) % 18446744073709551616 = 0 ∧ (c' - c - b) % 18446744073709551616 = 0) ∧ (tk = 2000000 → r' = r ∧ c' = c) ∧ O M ∧ O X := by
  letI : Gh := ⟨r, c⟩
  obtain ⟨C, Q, M, P, L, es, hs⟩ := h
  obtain ⟨⟨seed, An, cn, Af, cf, ns, fs, Qt, Mt, n, pr, hb, hO⟩, te, ks, up, cnt, le, max, few⟩ := hs
  obtain ⟨r', c', s, p, t, hr, hg⟩ := hb.mx
  refine ⟨M, r', c', s, t, p, cell_of_row w X 0 _ _ (0, 0) hb.row, hr, xs_make (gh := ⟨r', c'⟩) hb.row (show MG r' c' w M 2000000 from ⟨r', c', s, p, t, hr, .inl ⟨rfl, rfl, rfl⟩⟩) hb.ch hb.tab hb.ap hO te ks up cnt le max, fun hlt => ?_, fun he => ?_, by rw [hO]; exact .inr (.inl rfl), by rw [hO]; exact .inl rfl⟩
  · rcases hg with ⟨e, _⟩ | ⟨_, _, a, b, h1, h2, h3⟩
    · omega
    · exact ⟨a, b, h1, h2, h3⟩
  · rcases hg with ⟨_, h1, h2⟩ | ⟨e, _⟩
    · exact ⟨h1, h2⟩
    · omega
theorem xg_lt {r c : Int} {w : World} {X lim tk : Nat} {xs : List Nat} {O : Nat → Prop} (h : XG r c w X xs lim tk O) : ∀ j, O j → j < w.heap.size := by
  letI : Gh := ⟨r, c⟩
  obtain ⟨C, Q, M, P, L, es, hs⟩ := h
  exact hs.xt.lt
theorem xg_chg {r c : Int} {w w' : World} {X lim tk : Nat} {xs : List Nat} {O O' : Nat → Prop} (h : XG r c w X xs lim tk O) (b : K.Chg w w' O') (hO : ∀ j, O j → ¬ O' j) : XG r c w' X xs lim tk O := by
  letI : Gh := ⟨r, c⟩
  obtain ⟨C, Q, M, P, L, es, hs⟩ := h
  exact ⟨C, Q, M, P, L, es, hs.xt.chg b hO, hs.te, hs.ks, hs.up, hs.cnt, hs.le, hs.max, hs.few⟩
theorem xg_up {r c : Int} {w : World} {X lim tk : Nat} {xs : List Nat} {O : Nat → Prop} (h : XG r c w X xs lim tk O) : K.Up xs ∧ (∀ x ∈ xs, x < 18446744073709551616) ∧ K.xfast xs ≤ lim ∧ lim ≤ 500000 := by
  letI : Gh := ⟨r, c⟩
  obtain ⟨C, Q, M, P, L, es, hs⟩ := h
  exact ⟨hs.up, hs.keys, hs.le, hs.max⟩
theorem wrap_a {r r' : Int} {a : Nat} (h : (r' - r - a) % 18446744073709551616 = 0) (ha : a < 9223372036854775808) : IntKind.i64.wrap (r' - r) = (a : Int) := by
  rw [IntKind.wrap_i64]
  omega
/-- What its meter counted since. -/
theorem xg_delta {r c : Int} {w : World} {X lim t N : Nat} {xs : List Nat} {O : Nat → Prop} (h : XG r c w X xs lim t O) (ht : t ≤ N ∨ t = 2000000) (hN : N ≤ 900000) :
    ∃ (M : Nat) (r' c' s t' p : Int) (a b : Nat), w.cell? ⟨X, 0, none⟩ = some (.pointer (some ⟨M, 0, none⟩)) ∧ w.heap[M]? = some (mrow r' c' s t' p) ∧ a + b ≤ N ∧ IntKind.i64.wrap (r' - r) = (a : Int) ∧ IntKind.i64.wrap (c' - c) = (b : Int) ∧ O M ∧ O X := by
  obtain ⟨M, r', c', s, t', p, h1, h2, _, h4, h5, h6, h7⟩ := xg_now h
  rcases ht with ht | ht
  · obtain ⟨a, b, q1, q2, q3⟩ := h4 (by omega)
    exact ⟨M, r', c', s, t', p, a, b, h1, h2, by omega, wrap_a q2 (by omega), wrap_a q3 (by omega), h6, h7⟩
  · obtain ⟨rfl, rfl⟩ := h5 ht
    refine ⟨M, r', c', s, t', p, 0, 0, h1, h2, by omega, ?_, ?_, h6, h7⟩
    · rw [show r' - r' = 0 by omega]; rfl
    · rw [show c' - c' = 0 by omega]; rfl
end Go.Proofs.YtelfacchhclgnaaGreat
end
section
namespace Go.Proofs.YtelfacchhclgnaaGreat
set_option maxRecDepth 20000
open Go.RowKit
set_option maxHeartbeats 4000000 in
theorem y_carry_find (w : World) (P M X tk N lim : Nat) (vT vQ vK vL : Value) (r c : Int) (rs : List Nat) (OX : Nat → Prop) (a0 a1 a2 a3 : Value) (R : World → Prop)
    (hP : w.heap[P]? = some (.cells #[.pointer (some ⟨M, 0, none⟩), .pointer (some ⟨X, 0, none⟩), vT, vQ, vK, vL] 45 (0, 0))) (htk : tk ≤ 100) (hN : N ≤ 900000) (hx : XG r c w X rs lim 2000000 OX)
    (hF : ∀ W, (∃ n, W = w.drewN n) → Calls Tryz.prog 81 #[a0, a1, a2, a3] W fun e w2 => e = .returned (.tuple #[]) ∧ R w2 ∧ (∃ rs' t OX', (t ≤ N ∨ t = 2000000) ∧ XG r c w2 X rs' lim t OX' ∧ ¬ OX' M) ∧ w2.heap[P]? = w.heap[P]? ∧ Yp.Mx w2 M tk) :
    Calls Tryz.prog 80 #[.pointer (some ⟨P, 0, none⟩), .func (.func 81) #[] #[a0, a1, a2, a3]] w fun e w' => e = .returned (.tuple #[]) ∧ ∃ w2 t, R w2 ∧ t ≤ N ∧ K.Chg w2 w' (· = M) ∧ Yp.Mx w' M (tk + t) := by
  obtain ⟨m, r0, c0, s, t, p, x0, hr, _, _, he, _⟩ := xg_now hx
  obtain ⟨rfl, rfl⟩ := he rfl
  have c0' := cell_of_row w P 0 _ _ (0, 0) hP
  have c1 := cell_of_row w P 1 _ _ (0, 0) hP
  simp at c0' c1
  have HR := Lib.hid hr
  have HP := Lib.hid hP
  have HF := Lib.hid hF
  clear hP hx hF he hr
  go_enter Tryz.func80, Tryz.ntmps80
  go_wp2
  go_quiet (first
    | (go_at_call 112; refine Calls.quiet_of_same (m_reads _ _ _ _ _ _ _ HR.out))
    | (go_at_call 113; refine Calls.quiet_of_same (m_calls _ _ _ _ _ _ _ HR.out)))
  go_wp2_with (first
    | (go_at_call 81; (with_reducible refine (HF.out _ ⟨_, rfl⟩).mono ?_); rintro e w2 ⟨rfl, hR, ⟨rs', u, OX', hu, hxg, hnm⟩, hp2, hm2⟩
       obtain ⟨m2, r2, k2, s2, t2, p2, a, b, x2, hr2, hs, wa, wb, hOm, hOX⟩ := xg_delta hxg hu hN
       rw [HP.out] at hp2
       have d0 := cell_of_row w2 P 0 _ _ (0, 0) hp2
       have d1 := cell_of_row w2 P 1 _ _ (0, 0) hp2
       simp at d0 d1
       have hpm : P ≠ M := (by obtain ⟨_, _, _, _, hmr⟩ := hm2; exact row_ne hp2 hmr (by decide))
       have hpl : P < w2.heap.size := row_lt hp2
       have hml : m2 < w2.heap.size := row_lt hr2
       have hmm : m2 ≠ M := (fun e => hnm (e ▸ hOm))
       have hxm : X ≠ M := (fun e => hnm (e ▸ hOX))
       have hxl : X < w2.heap.size := xg_lt hxg X hOX
       have HRR := Lib.hid hR
       have HM2 := Lib.hid hm2
       have HR2 := Lib.hid hr2
       have HU : Hid (a + b ≤ N) := Lib.hid hs
       have HD0 := Lib.hid d0
       have HD1 := Lib.hid d1
       have HX2 := Lib.hid x2
       have HNE := Lib.hid (And.intro hpm (And.intro hpl (And.intro hml (And.intro hmm (And.intro hxm hxl)))))
       have hwa : IntKind.i64.wrap (a : Int) = (a : Int) := IntWalk.i64_in _ (by omega)
       have hwb : IntKind.i64.wrap (b : Int) = (b : Int) := IntWalk.i64_in _ (by omega)
       clear hR hxg hnm hp2 hm2 hr2 hu hs hpm hpl hml hmm hxm hxl hOm hOX)
    | (go_at_call 112; (with_reducible refine (m_reads _ _ _ _ _ _ _ HR2.out).mono ?_); rintro e w' ⟨rfl, hw⟩; replace hw := hw.symm; subst hw))
  clear d0 d1 x2
  go_loopw [34] (fun vi wr => ∃ i : Nat, i ≤ a ∧ vi = .int .i64 (i : Int) ∧ Hid (Yp.Mx wr M (tk + i)) ∧ Hid (K.Chg w2 wr (· = M))) (fun vi _ => a - (intOf vi).toNat)
  case atStart => exact ⟨0, Nat.zero_le _, rfl, HM2, Lib.hid (chg_refl w2 _)⟩
  case round =>
    clear HM2
    obtain ⟨i, hi, rfl, HM, HC⟩ := hrel
    have q0 := (HC.out.cell HNE.out.2.1 HNE.out.1 0).trans HD0.out
    by_cases hlt : i < a
    · have hd : decide ((i : Int) < (a : Int)) = true := decide_eq_true (by omega)
      have hd2 : decide (i < a) = true := decide_eq_true hlt
      have hU := HU.out
      go_wp2_with (go_at_call 114; (with_reducible refine (Yp.x_read _ M (tk + i) HM.out (by omega)).mono ?_); rintro e w3 ⟨rfl, hm3, hc3⟩; have HM3 := Lib.hid hm3; have HC3 := Lib.hid hc3; clear hm3 hc3)
      go_roundw
      case rel => exact ⟨i + 1, by omega, by go_num, Lib.hid (show Yp.Mx w3 M (tk + (i + 1)) from HM3.out), Lib.hid (HC.out.same HC3.out)⟩
      case measure => simp [intOf]; omega
    · obtain rfl : i = a := by omega
      have hd : decide ((i : Int) < (i : Int)) = false := decide_eq_false (by omega)
      have q1 := (HC.out.cell HNE.out.2.1 HNE.out.1 1).trans HD1.out
      have q2 := (HC.out.cell HNE.out.2.2.2.2.2 HNE.out.2.2.2.2.1 0).trans HX2.out
      have hr3 := (HC.out.block m2 HNE.out.2.2.1 HNE.out.2.2.2.1).trans HR2.out
      have HR3 := Lib.hid hr3
      clear hr3
      go_wp2_with (go_at_call 113; (with_reducible refine (m_calls _ _ _ _ _ _ _ HR3.out).mono ?_); rintro e w' ⟨rfl, hw⟩; replace hw := hw.symm; subst hw)
      clear q0 q1 q2
      go_loopw [52] (fun vi wr => ∃ j : Nat, j ≤ b ∧ vi = .int .i64 (j : Int) ∧ Hid (Yp.Mx wr M (tk + i + j)) ∧ Hid (K.Chg w2 wr (· = M))) (fun vi _ => b - (intOf vi).toNat)
      case atStart => exact ⟨0, Nat.zero_le _, rfl, HM, HC⟩
      case round =>
        clear HM HC HR3
        obtain ⟨j, hj, rfl, HM, HC⟩ := hrel
        have q0 := (HC.out.cell HNE.out.2.1 HNE.out.1 0).trans HD0.out
        by_cases hlt : j < b
        · have hd : decide ((j : Int) < (b : Int)) = true := decide_eq_true (by omega)
          have hd2 : decide (j < b) = true := decide_eq_true hlt
          have hU := HU.out
          go_wp2_with (go_at_call 83; (with_reducible refine (Yp.x_call _ M (tk + i + j) HM.out (by omega)).mono ?_); rintro e w3 ⟨rfl, hm3, hc3⟩; have HM3 := Lib.hid hm3; have HC3 := Lib.hid hc3; clear hm3 hc3)
          go_roundw
          case rel => exact ⟨j + 1, by omega, by go_num, Lib.hid (show Yp.Mx w3 M (tk + i + (j + 1)) from HM3.out), Lib.hid (HC.out.same HC3.out)⟩
          case measure => simp [intOf]; omega
        · obtain rfl : j = b := by omega
          have hd : decide ((j : Int) < (j : Int)) = false := decide_eq_false (by omega)
          go_wp2
          go_end0
          exact ⟨rfl, w2, i + j, HRR.out, HU.out, HC.out, by rw [← Nat.add_assoc]; exact HM.out⟩
set_option maxHeartbeats 4000000 in
theorem y_carry_begin (w : World) (P M X tk N lim : Nat) (vT vQ vK vL : Value) (r c : Int) (rs : List Nat) (OX : Nat → Prop) (a0 a1 : Value) (R : World → Prop)
    (hP : w.heap[P]? = some (.cells #[.pointer (some ⟨M, 0, none⟩), .pointer (some ⟨X, 0, none⟩), vT, vQ, vK, vL] 45 (0, 0))) (htk : tk ≤ 100) (hN : N ≤ 900000) (hx : XG r c w X rs lim 2000000 OX)
    (hF : ∀ W, (∃ n, W = w.drewN n) → Calls Tryz.prog 96 #[a0, a1] W fun e w2 => e = .returned (.tuple #[]) ∧ R w2 ∧ (∃ rs' t OX', (t ≤ N ∨ t = 2000000) ∧ XG r c w2 X rs' lim t OX' ∧ ¬ OX' M) ∧ w2.heap[P]? = w.heap[P]? ∧ Yp.Mx w2 M tk) :
    Calls Tryz.prog 80 #[.pointer (some ⟨P, 0, none⟩), .func (.func 96) #[] #[a0, a1]] w fun e w' => e = .returned (.tuple #[]) ∧ ∃ w2 t, R w2 ∧ t ≤ N ∧ K.Chg w2 w' (· = M) ∧ Yp.Mx w' M (tk + t) := by
  obtain ⟨m, r0, c0, s, t, p, x0, hr, _, _, he, _⟩ := xg_now hx
  obtain ⟨rfl, rfl⟩ := he rfl
  have c0' := cell_of_row w P 0 _ _ (0, 0) hP
  have c1 := cell_of_row w P 1 _ _ (0, 0) hP
  simp at c0' c1
  have HR := Lib.hid hr
  have HP := Lib.hid hP
  have HF := Lib.hid hF
  clear hP hx hF he hr
  go_enter Tryz.func80, Tryz.ntmps80
  go_wp2
  go_quiet (first
    | (go_at_call 112; refine Calls.quiet_of_same (m_reads _ _ _ _ _ _ _ HR.out))
    | (go_at_call 113; refine Calls.quiet_of_same (m_calls _ _ _ _ _ _ _ HR.out)))
  go_wp2_with (first
    | (go_at_call 96; (with_reducible refine (HF.out _ ⟨_, rfl⟩).mono ?_); rintro e w2 ⟨rfl, hR, ⟨rs', u, OX', hu, hxg, hnm⟩, hp2, hm2⟩
       obtain ⟨m2, r2, k2, s2, t2, p2, a, b, x2, hr2, hs, wa, wb, hOm, hOX⟩ := xg_delta hxg hu hN
       rw [HP.out] at hp2
       have d0 := cell_of_row w2 P 0 _ _ (0, 0) hp2
       have d1 := cell_of_row w2 P 1 _ _ (0, 0) hp2
       simp at d0 d1
       have hpm : P ≠ M := (by obtain ⟨_, _, _, _, hmr⟩ := hm2; exact row_ne hp2 hmr (by decide))
       have hpl : P < w2.heap.size := row_lt hp2
       have hml : m2 < w2.heap.size := row_lt hr2
       have hmm : m2 ≠ M := (fun e => hnm (e ▸ hOm))
       have hxm : X ≠ M := (fun e => hnm (e ▸ hOX))
       have hxl : X < w2.heap.size := xg_lt hxg X hOX
       have HRR := Lib.hid hR
       have HM2 := Lib.hid hm2
       have HR2 := Lib.hid hr2
       have HU : Hid (a + b ≤ N) := Lib.hid hs
       have HD0 := Lib.hid d0
       have HD1 := Lib.hid d1
       have HX2 := Lib.hid x2
       have HNE := Lib.hid (And.intro hpm (And.intro hpl (And.intro hml (And.intro hmm (And.intro hxm hxl)))))
       have hwa : IntKind.i64.wrap (a : Int) = (a : Int) := IntWalk.i64_in _ (by omega)
       have hwb : IntKind.i64.wrap (b : Int) = (b : Int) := IntWalk.i64_in _ (by omega)
       clear hR hxg hnm hp2 hm2 hr2 hu hs hpm hpl hml hmm hxm hxl hOm hOX)
    | (go_at_call 112; (with_reducible refine (m_reads _ _ _ _ _ _ _ HR2.out).mono ?_); rintro e w' ⟨rfl, hw⟩; replace hw := hw.symm; subst hw))
  clear d0 d1 x2
  go_loopw [34] (fun vi wr => ∃ i : Nat, i ≤ a ∧ vi = .int .i64 (i : Int) ∧ Hid (Yp.Mx wr M (tk + i)) ∧ Hid (K.Chg w2 wr (· = M))) (fun vi _ => a - (intOf vi).toNat)
  case atStart => exact ⟨0, Nat.zero_le _, rfl, HM2, Lib.hid (chg_refl w2 _)⟩
  case round =>
    clear HM2
    obtain ⟨i, hi, rfl, HM, HC⟩ := hrel
    have q0 := (HC.out.cell HNE.out.2.1 HNE.out.1 0).trans HD0.out
    by_cases hlt : i < a
    · have hd : decide ((i : Int) < (a : Int)) = true := decide_eq_true (by omega)
      have hd2 : decide (i < a) = true := decide_eq_true hlt
      have hU := HU.out
      go_wp2_with (go_at_call 114; (with_reducible refine (Yp.x_read _ M (tk + i) HM.out (by omega)).mono ?_); rintro e w3 ⟨rfl, hm3, hc3⟩; have HM3 := Lib.hid hm3; have HC3 := Lib.hid hc3; clear hm3 hc3)
      go_roundw
      case rel => exact ⟨i + 1, by omega, by go_num, Lib.hid (show Yp.Mx w3 M (tk + (i + 1)) from HM3.out), Lib.hid (HC.out.same HC3.out)⟩
      case measure => simp [intOf]; omega
    · obtain rfl : i = a := by omega
      have hd : decide ((i : Int) < (i : Int)) = false := decide_eq_false (by omega)
      have q1 := (HC.out.cell HNE.out.2.1 HNE.out.1 1).trans HD1.out
      have q2 := (HC.out.cell HNE.out.2.2.2.2.2 HNE.out.2.2.2.2.1 0).trans HX2.out
      have hr3 := (HC.out.block m2 HNE.out.2.2.1 HNE.out.2.2.2.1).trans HR2.out
      have HR3 := Lib.hid hr3
      clear hr3
      go_wp2_with (go_at_call 113; (with_reducible refine (m_calls _ _ _ _ _ _ _ HR3.out).mono ?_); rintro e w' ⟨rfl, hw⟩; replace hw := hw.symm; subst hw)
      clear q0 q1 q2
      go_loopw [52] (fun vi wr => ∃ j : Nat, j ≤ b ∧ vi = .int .i64 (j : Int) ∧ Hid (Yp.Mx wr M (tk + i + j)) ∧ Hid (K.Chg w2 wr (· = M))) (fun vi _ => b - (intOf vi).toNat)
      case atStart => exact ⟨0, Nat.zero_le _, rfl, HM, HC⟩
      case round =>
        clear HM HC HR3
        obtain ⟨j, hj, rfl, HM, HC⟩ := hrel
        have q0 := (HC.out.cell HNE.out.2.1 HNE.out.1 0).trans HD0.out
        by_cases hlt : j < b
        · have hd : decide ((j : Int) < (b : Int)) = true := decide_eq_true (by omega)
          have hd2 : decide (j < b) = true := decide_eq_true hlt
          have hU := HU.out
          go_wp2_with (go_at_call 83; (with_reducible refine (Yp.x_call _ M (tk + i + j) HM.out (by omega)).mono ?_); rintro e w3 ⟨rfl, hm3, hc3⟩; have HM3 := Lib.hid hm3; have HC3 := Lib.hid hc3; clear hm3 hc3)
          go_roundw
          case rel => exact ⟨j + 1, by omega, by go_num, Lib.hid (show Yp.Mx w3 M (tk + i + (j + 1)) from HM3.out), Lib.hid (HC.out.same HC3.out)⟩
          case measure => simp [intOf]; omega
        · obtain rfl : j = b := by omega
          have hd : decide ((j : Int) < (j : Int)) = false := decide_eq_false (by omega)
          go_wp2
          go_end0
          exact ⟨rfl, w2, i + j, HRR.out, HU.out, HC.out, by rw [← Nat.add_assoc]; exact HM.out⟩
set_option maxHeartbeats 4000000 in
theorem y_carry_end (w : World) (P M X tk N lim : Nat) (vT vQ vK vL : Value) (r c : Int) (rs : List Nat) (OX : Nat → Prop) (a0 a1 : Value) (R : World → Prop)
    (hP : w.heap[P]? = some (.cells #[.pointer (some ⟨M, 0, none⟩), .pointer (some ⟨X, 0, none⟩), vT, vQ, vK, vL] 45 (0, 0))) (htk : tk ≤ 100) (hN : N ≤ 900000) (hx : XG r c w X rs lim 2000000 OX)
    (hF : ∀ W, (∃ n, W = w.drewN n) → Calls Tryz.prog 102 #[a0, a1] W fun e w2 => e = .returned (.tuple #[]) ∧ R w2 ∧ (∃ rs' t OX', (t ≤ N ∨ t = 2000000) ∧ XG r c w2 X rs' lim t OX' ∧ ¬ OX' M) ∧ w2.heap[P]? = w.heap[P]? ∧ Yp.Mx w2 M tk) :
    Calls Tryz.prog 80 #[.pointer (some ⟨P, 0, none⟩), .func (.func 102) #[] #[a0, a1]] w fun e w' => e = .returned (.tuple #[]) ∧ ∃ w2 t, R w2 ∧ t ≤ N ∧ K.Chg w2 w' (· = M) ∧ Yp.Mx w' M (tk + t) := by
  obtain ⟨m, r0, c0, s, t, p, x0, hr, _, _, he, _⟩ := xg_now hx
  obtain ⟨rfl, rfl⟩ := he rfl
  have c0' := cell_of_row w P 0 _ _ (0, 0) hP
  have c1 := cell_of_row w P 1 _ _ (0, 0) hP
  simp at c0' c1
  have HR := Lib.hid hr
  have HP := Lib.hid hP
  have HF := Lib.hid hF
  clear hP hx hF he hr
  go_enter Tryz.func80, Tryz.ntmps80
  go_wp2
  go_quiet (first
    | (go_at_call 112; refine Calls.quiet_of_same (m_reads _ _ _ _ _ _ _ HR.out))
    | (go_at_call 113; refine Calls.quiet_of_same (m_calls _ _ _ _ _ _ _ HR.out)))
  go_wp2_with (first
    | (go_at_call 102; (with_reducible refine (HF.out _ ⟨_, rfl⟩).mono ?_); rintro e w2 ⟨rfl, hR, ⟨rs', u, OX', hu, hxg, hnm⟩, hp2, hm2⟩
       obtain ⟨m2, r2, k2, s2, t2, p2, a, b, x2, hr2, hs, wa, wb, hOm, hOX⟩ := xg_delta hxg hu hN
       rw [HP.out] at hp2
       have d0 := cell_of_row w2 P 0 _ _ (0, 0) hp2
       have d1 := cell_of_row w2 P 1 _ _ (0, 0) hp2
       simp at d0 d1
       have hpm : P ≠ M := (by obtain ⟨_, _, _, _, hmr⟩ := hm2; exact row_ne hp2 hmr (by decide))
       have hpl : P < w2.heap.size := row_lt hp2
       have hml : m2 < w2.heap.size := row_lt hr2
       have hmm : m2 ≠ M := (fun e => hnm (e ▸ hOm))
       have hxm : X ≠ M := (fun e => hnm (e ▸ hOX))
       have hxl : X < w2.heap.size := xg_lt hxg X hOX
       have HRR := Lib.hid hR
       have HM2 := Lib.hid hm2
       have HR2 := Lib.hid hr2
       have HU : Hid (a + b ≤ N) := Lib.hid hs
       have HD0 := Lib.hid d0
       have HD1 := Lib.hid d1
       have HX2 := Lib.hid x2
       have HNE := Lib.hid (And.intro hpm (And.intro hpl (And.intro hml (And.intro hmm (And.intro hxm hxl)))))
       have hwa : IntKind.i64.wrap (a : Int) = (a : Int) := IntWalk.i64_in _ (by omega)
       have hwb : IntKind.i64.wrap (b : Int) = (b : Int) := IntWalk.i64_in _ (by omega)
       clear hR hxg hnm hp2 hm2 hr2 hu hs hpm hpl hml hmm hxm hxl hOm hOX)
    | (go_at_call 112; (with_reducible refine (m_reads _ _ _ _ _ _ _ HR2.out).mono ?_); rintro e w' ⟨rfl, hw⟩; replace hw := hw.symm; subst hw))
  clear d0 d1 x2
  go_loopw [34] (fun vi wr => ∃ i : Nat, i ≤ a ∧ vi = .int .i64 (i : Int) ∧ Hid (Yp.Mx wr M (tk + i)) ∧ Hid (K.Chg w2 wr (· = M))) (fun vi _ => a - (intOf vi).toNat)
  case atStart => exact ⟨0, Nat.zero_le _, rfl, HM2, Lib.hid (chg_refl w2 _)⟩
  case round =>
    clear HM2
    obtain ⟨i, hi, rfl, HM, HC⟩ := hrel
    have q0 := (HC.out.cell HNE.out.2.1 HNE.out.1 0).trans HD0.out
    by_cases hlt : i < a
    · have hd : decide ((i : Int) < (a : Int)) = true := decide_eq_true (by omega)
      have hd2 : decide (i < a) = true := decide_eq_true hlt
      have hU := HU.out
      go_wp2_with (go_at_call 114; (with_reducible refine (Yp.x_read _ M (tk + i) HM.out (by omega)).mono ?_); rintro e w3 ⟨rfl, hm3, hc3⟩; have HM3 := Lib.hid hm3; have HC3 := Lib.hid hc3; clear hm3 hc3)
      go_roundw
      case rel => exact ⟨i + 1, by omega, by go_num, Lib.hid (show Yp.Mx w3 M (tk + (i + 1)) from HM3.out), Lib.hid (HC.out.same HC3.out)⟩
      case measure => simp [intOf]; omega
    · obtain rfl : i = a := by omega
      have hd : decide ((i : Int) < (i : Int)) = false := decide_eq_false (by omega)
      have q1 := (HC.out.cell HNE.out.2.1 HNE.out.1 1).trans HD1.out
      have q2 := (HC.out.cell HNE.out.2.2.2.2.2 HNE.out.2.2.2.2.1 0).trans HX2.out
      have hr3 := (HC.out.block m2 HNE.out.2.2.1 HNE.out.2.2.2.1).trans HR2.out
      have HR3 := Lib.hid hr3
      clear hr3
      go_wp2_with (go_at_call 113; (with_reducible refine (m_calls _ _ _ _ _ _ _ HR3.out).mono ?_); rintro e w' ⟨rfl, hw⟩; replace hw := hw.symm; subst hw)
      clear q0 q1 q2
      go_loopw [52] (fun vi wr => ∃ j : Nat, j ≤ b ∧ vi = .int .i64 (j : Int) ∧ Hid (Yp.Mx wr M (tk + i + j)) ∧ Hid (K.Chg w2 wr (· = M))) (fun vi _ => b - (intOf vi).toNat)
      case atStart => exact ⟨0, Nat.zero_le _, rfl, HM, HC⟩
      case round =>
        clear HM HC HR3
        obtain ⟨j, hj, rfl, HM, HC⟩ := hrel
        have q0 := (HC.out.cell HNE.out.2.1 HNE.out.1 0).trans HD0.out
        by_cases hlt : j < b
        · have hd : decide ((j : Int) < (b : Int)) = true := decide_eq_true (by omega)
          have hd2 : decide (j < b) = true := decide_eq_true hlt
          have hU := HU.out
          go_wp2_with (go_at_call 83; (with_reducible refine (Yp.x_call _ M (tk + i + j) HM.out (by omega)).mono ?_); rintro e w3 ⟨rfl, hm3, hc3⟩; have HM3 := Lib.hid hm3; have HC3 := Lib.hid hc3; clear hm3 hc3)
          go_roundw
          case rel => exact ⟨j + 1, by omega, by go_num, Lib.hid (show Yp.Mx w3 M (tk + i + (j + 1)) from HM3.out), Lib.hid (HC.out.same HC3.out)⟩
          case measure => simp [intOf]; omega
        · obtain rfl : j = b := by omega
          have hd : decide ((j : Int) < (j : Int)) = false := decide_eq_false (by omega)
          go_wp2
          go_end0
          exact ⟨rfl, w2, i + j, HRR.out, HU.out, HC.out, by rw [← Nat.add_assoc]; exact HM.out⟩
end Go.Proofs.YtelfacchhclgnaaGreat
end
