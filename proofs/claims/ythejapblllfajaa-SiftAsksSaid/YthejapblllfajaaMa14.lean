/- The law SiftLaws; the text walked. has, told; the texts walked. Does a list rise: Rises; the text walked. What a law keeps of lists. The law SiftAsks; the text walked. -/
import Derived.Test.YthejapblllfajaaMa13
section
namespace Go.Proofs.Ythejapblllfajaa
set_option maxRecDepth 20000
open Go.RowKit Go.Shelf
section
variable {w W : World} {L : List (Value × List Nat)}
theorem bg_countN (h : Bg w W L) {f1 : Value} {x1 : List Nat} (m1 : (f1, x1) ∈ L) {n : Nat} (hn : x1.length = n) : Calls Try.prog 21 #[f1] W fun e w' => e = .returned (.int .i64 (n : Int)) ∧ Bg w w' L := by
  subst hn
  exact bg_count h m1
end
end Go.Proofs.Ythejapblllfajaa
end
section
namespace Go.Proofs.Ythejapblllfajaa
set_option maxRecDepth 20000
open Go.RowKit Go.Shelf
theorem Rw.takeV {w : World} {B : Nat} {A : Option Addr} {xs : List Nat} (h : Rw w B A xs) (l : Nat) : Rw w B A (xs.take l) := fun hne => by
  obtain ⟨b, off, rfl, hlt, hc⟩ := h (by intro e; subst e; simp at hne)
  refine ⟨b, off, rfl, hlt, fun k hk => ?_⟩
  rw [List.length_take] at hk
  rw [List.getElem_take]
  exact hc k (by omega)
section
variable {w W : World} {L : List (Value × List Nat)}
theorem has_any (w : World) (v : Value) (xs : List Nat) (h : KX w v xs) (hu : K.Up xs) (hl : xs.length ≤ 100000) (k : Nat) : Calls Try.prog 10 #[v, .int .u64 (k : Int)] w fun e w' => e = .returned (.bool (decide (k ∈ xs))) ∧ Below w.heap.size w w' := by
  have hf : K.fo xs k = decide (k ∈ xs) := by
    rw [Bool.eq_iff_iff, K.fo_mem hu]
    simp
  have H := k_find w v xs h (by omega) k
  rw [hf] at H
  replace H := Lib.hid H
  obtain ⟨A, c, rfl⟩ := K.own_form h
  generalize decide (k ∈ xs) = b at *
  generalize (K.fi xs k) = F at *
  generalize xs.length = n at *
  clear hf h
  go_enter Try.func10, Try.ntmps10
  go_wp2_with (go_at_call 27; (with_reducible refine H.out.mono ?_); rintro e w1 ⟨rfl, h1⟩; have H1 := Lib.hid h1; clear h1)
  go_ret
  exact ⟨rfl, H1.out⟩
theorem bg_sameR (h : Bg w W L) {A B : Option Addr} {n m c d : Nat} {x1 x2 : List Nat} (k1 : Rw W W.heap.size A x1) (k2 : Rw W W.heap.size B x2) (e1 : x1.length = n) (e2 : x2.length = m) (l1 : n ≤ 100000) (l2 : m ≤ 100000) (e : x1 = x2) : Calls Try.prog 18 #[.slice A n c, .slice B m d] W fun e w' => e = .returned (.bool true) ∧ Bg w w' L := by
  subst e1 e2
  refine (ref_samekeys A B c d x1 x2 W _ _ k1 k2 (by omega) (by omega)).mono ?_
  rintro _ w' ⟨rfl, n, rfl⟩
  exact ⟨by rw [decide_eq_true e], h.below ⟨rfl, rfl, rfl, Nat.le_refl _, fun _ _ => rfl⟩⟩
theorem bg_firstR (h : Bg w W L) {f1 : Value} {x1 : List Nat} (m1 : (f1, x1) ∈ L) (n : Int) {k : Nat} (hk : (x1.take n.toNat).length = k) : Calls Try.prog 22 #[f1, .int .i64 n] W fun e w' => ∃ A c, e = .returned (.slice A k c) ∧ Rw w' w'.heap.size A (x1.take n.toNat) ∧ Bg w w' L := by
  subst hk
  refine (bg_first h m1 n).mono ?_
  rintro e w' ⟨A, c, rfl, hk, hb⟩
  obtain ⟨A', c', e, hr⟩ := kx_rwV hk
  injection e with e1 e2 e3
  subst e1
  exact ⟨A, c, rfl, hr, hb⟩
set_option maxRecDepth 100000 in
set_option maxHeartbeats 4000000 in
theorem told_all (h : Bg w W L) {f : Value} {xs : List Nat} (m1 : (f, xs) ∈ L) (A : Option Addr) (c m : Nat) (hm : xs.length = m) (hk : Rw W W.heap.size A xs) (n : Int) (hn : (m : Int) ≤ n) :
    Calls Try.prog 11 #[f, .slice A m c, .int .i64 n] W fun e w' => e = .returned (.bool true) ∧ Bg w w' L := by
  obtain ⟨s1, u1, l1⟩ := h.sx _ m1
  simp only at l1
  have e1 : xs.take (100000 : Int).toNat = xs := List.take_of_length_le (by simp; omega)
  have e2 : xs.take n.toNat = xs := List.take_of_length_le (by omega)
  have g1 : decide (n < (m : Int)) = false := decide_eq_false (by omega)
  have C1 : Hid (∀ V, Bg W V L → Calls Try.prog 22 #[f, .int .i64 100000] V fun e w' => ∃ A c, e = .returned (.slice A m c) ∧ Rw w' w'.heap.size A xs ∧ Bg W w' L) := Lib.hid fun V hV => by
    have := bg_firstR hV m1 100000 (k := m) (by rw [e1]; exact hm)
    rw [e1] at this
    exact this
  have C3 : Hid (∀ V, Bg W V L → Calls Try.prog 21 #[f] V fun e w' => e = .returned (.int .i64 (m : Int)) ∧ Bg W w' L) := Lib.hid fun V hV => bg_countN hV m1 hm
  have C4 : Hid (∀ V A' c', Bg W V L → Rw V V.heap.size A' xs → Calls Try.prog 18 #[.slice A' m c', .slice A m c] V fun e w' => e = .returned (.bool true) ∧ Bg W w' L) := Lib.hid fun V A' c' hV hr =>
    bg_sameR hV hr ((hk.below hV.low (Nat.le_refl _)).more hV.low.size) hm hm (by omega) (by omega) rfl
  have C2 : Hid (∀ V, Bg W V L → Calls Try.prog 22 #[f, .int .i64 n] V fun e w' => ∃ A c, e = .returned (.slice A m c) ∧ Rw w' w'.heap.size A xs ∧ Bg W w' L) := Lib.hid fun V hV => by
    have := bg_firstR hV m1 n (k := m) (by rw [e2]; exact hm)
    rw [e2] at this
    exact this
  have C5 := C4
  have H0 : Hid (Bg W W L) := Lib.hid ⟨Below.refl _ _, h.sx⟩
  have HH := Lib.hid h
  clear e1 e2 hn
  clear hk hm m1 s1 l1 u1 h
  go_enter Try.func11, Try.ntmps11
  go_wp2_with (first
    | (go_at_call 21; (with_reducible refine (C3.out _ H4.out).mono ?_); rintro e w5 ⟨rfl, h5⟩; have H5 := Lib.hid h5; clear h5)
    | (go_at_call 18; (with_reducible refine (C5.out _ _ _ H3.out.2 H3.out.1).mono ?_); rintro e w4 ⟨rfl, h4⟩; have H4 := Lib.hid h4; clear h4)
    | (go_at_call 22; (with_reducible refine (C2.out _ H2.out).mono ?_); rintro e w3 ⟨A3, c3, rfl, h3⟩; have H3 := Lib.hid h3; clear h3)
    | (go_at_call 18; (with_reducible refine (C4.out _ _ _ H1.out.2 H1.out.1).mono ?_); rintro e w2 ⟨rfl, h2⟩; have H2 := Lib.hid h2; clear h2)
    | (go_at_call 22; (with_reducible refine (C1.out _ H0.out).mono ?_); rintro e w1 ⟨A1, c1, rfl, h1⟩; have H1 := Lib.hid h1; clear h1))
  all_goals
    go_ret
    exact ⟨by simp, HH.out.below H5.out.low⟩
set_option maxRecDepth 100000 in
set_option maxHeartbeats 4000000 in
theorem told_few (h : Bg w W L) {f : Value} {xs : List Nat} (m1 : (f, xs) ∈ L) (A : Option Addr) (c m : Nat) (hm : xs.length = m) (hc : m ≤ c) (hk : Rw W W.heap.size A xs) (n : Int) (hn : n < (m : Int)) :
    Calls Try.prog 11 #[f, .slice A m c, .int .i64 n] W fun e w' => e = .returned (.bool true) ∧ Bg w w' L := by
  obtain ⟨s1, u1, l1⟩ := h.sx _ m1
  simp only at l1
  have e1 : xs.take (100000 : Int).toNat = xs := List.take_of_length_le (by simp; omega)
  have g1 : decide (n < (m : Int)) = true := decide_eq_true (by omega)
  have C1 : Hid (∀ V, Bg W V L → Calls Try.prog 22 #[f, .int .i64 100000] V fun e w' => ∃ A c, e = .returned (.slice A m c) ∧ Rw w' w'.heap.size A xs ∧ Bg W w' L) := Lib.hid fun V hV => by
    have := bg_firstR hV m1 100000 (k := m) (by rw [e1]; exact hm)
    rw [e1] at this
    exact this
  have C3 : Hid (∀ V, Bg W V L → Calls Try.prog 21 #[f] V fun e w' => e = .returned (.int .i64 (m : Int)) ∧ Bg W w' L) := Lib.hid fun V hV => bg_countN hV m1 hm
  have C4 : Hid (∀ V A' c', Bg W V L → Rw V V.heap.size A' xs → Calls Try.prog 18 #[.slice A' m c', .slice A m c] V fun e w' => e = .returned (.bool true) ∧ Bg W w' L) := Lib.hid fun V A' c' hV hr =>
    bg_sameR hV hr ((hk.below hV.low (Nat.le_refl _)).more hV.low.size) hm hm (by omega) (by omega) rfl
  obtain ⟨j, hj⟩ : ∃ j, n.toNat = j := ⟨_, rfl⟩
  have hjm : j ≤ m := by omega
  have hjl : (xs.take j).length = j := by rw [List.length_take]; omega
  have C2 : Hid (∀ V, Bg W V L → Calls Try.prog 22 #[f, .int .i64 n] V fun e w' => ∃ A c, e = .returned (.slice A j c) ∧ Rw w' w'.heap.size A (xs.take j) ∧ Bg W w' L) := Lib.hid fun V hV => by
    have := bg_firstR hV m1 n (k := j) (by rw [hj]; exact hjl)
    rw [hj] at this
    exact this
  have C5 : Hid (∀ V A' c', Bg W V L → Rw V V.heap.size A' (xs.take j) → Calls Try.prog 18 #[.slice A' j c', .slice A j c] V fun e w' => e = .returned (.bool true) ∧ Bg W w' L) := Lib.hid fun V A' c' hV hr =>
    bg_sameR hV hr (((hk.takeV j).below hV.low (Nat.le_refl _)).more hV.low.size) hjl hjl (by omega) (by omega) rfl
  obtain ⟨a1, a2⟩ := Kb.cut_h A m c j (j : Int) rfl hjm hc
  have H0 : Hid (Bg W W L) := Lib.hid ⟨Below.refl _ _, h.sx⟩
  have HH := Lib.hid h
  clear e1 hn hjl hjm hc
  have mx : max n 0 = (j : Int) := by omega
  clear hk hm m1 s1 l1 u1 h hj
  go_enter Try.func11, Try.ntmps11
  go_wp2_with (first
    | (go_at_call 21; (with_reducible refine (C3.out _ H4.out).mono ?_); rintro e w5 ⟨rfl, h5⟩; have H5 := Lib.hid h5; clear h5)
    | (go_at_call 18; (with_reducible refine (C5.out _ _ _ H3.out.2 H3.out.1).mono ?_); rintro e w4 ⟨rfl, h4⟩; have H4 := Lib.hid h4; clear h4)
    | (go_at_call 22; (with_reducible refine (C2.out _ H2.out).mono ?_); rintro e w3 ⟨A3, c3, rfl, h3⟩; have H3 := Lib.hid h3; clear h3)
    | (go_at_call 18; (with_reducible refine (C4.out _ _ _ H1.out.2 H1.out.1).mono ?_); rintro e w2 ⟨rfl, h2⟩; have H2 := Lib.hid h2; clear h2)
    | (go_at_call 22; (with_reducible refine (C1.out _ H0.out).mono ?_); rintro e w1 ⟨A1, c1, rfl, h1⟩; have H1 := Lib.hid h1; clear h1))
  all_goals
    go_ret
    exact ⟨by simp, HH.out.below H5.out.low⟩
end
end Go.Proofs.Ythejapblllfajaa
end
section
namespace Go.Proofs.Ythejapblllfajaa
set_option maxRecDepth 20000
open Go.RowKit Go.Shelf
namespace S
/-- Do the first keys rise: so many pairs looked at? -/
def rs (xs : List Nat) (j : Nat) : Bool := (List.range j).all fun i => decide (xs.getD i 0 < xs.getD (i + 1) 0)
theorem rs_succ (xs : List Nat) (j : Nat) : rs xs (j + 1) = (rs xs j && decide (xs.getD j 0 < xs.getD (j + 1) 0)) := by
  unfold rs
  rw [List.range_succ, List.all_append]
  simp
theorem rs_false {xs : List Nat} {j n : Nat} (hjn : j ≤ n) (h : rs xs j = false) : rs xs n = false := by
  obtain ⟨d, rfl⟩ : ∃ d, n = j + d := ⟨n - j, by omega⟩
  clear hjn
  induction d with
  | zero => exact h
  | succ d ih => rw [← Nat.add_assoc, rs_succ, ih]; rfl
/-- Are the first keys all in the other list: so many looked at? -/
def wi (xs ys : List Nat) (k : Nat) : Bool := (xs.take k).all fun z => decide (z ∈ ys)
theorem wi_succ (xs ys : List Nat) {k : Nat} (h : k < xs.length) : wi xs ys (k + 1) = (wi xs ys k && decide (xs[k] ∈ ys)) := by
  unfold wi
  rw [List.take_add_one, List.getElem?_eq_getElem h, List.all_append]
  simp
theorem wi_all (xs ys : List Nat) : wi xs ys xs.length = decide (∀ z ∈ xs, z ∈ ys) := by
  unfold wi
  rw [List.take_length, Bool.eq_iff_iff]
  simp
end S
set_option maxRecDepth 100000 in
set_option maxHeartbeats 4000000 in
theorem rises_any (w : World) (A : Option Addr) (n c : Nat) (xs : List Nat) (hn : xs.length = n) (hr : Rw w w.heap.size A xs) (hl : n ≤ 100000) :
    Calls Try.prog 20 #[.slice A n c] w fun e w' => e = .returned (.bool (S.rs xs (n - 1))) ∧ Below w.heap.size w w' := by
  have HN := Lib.hid hn
  have wn : IntKind.i64.wrap ((n : Int) - 1) = (n : Int) - 1 := IntWalk.i64_in _ (by omega)
  clear hn
  go_enter Try.func20, Try.ntmps20
  go_wp2
  go_loopw [7] (fun i wr => ∃ k q : Nat, k ≤ n - 1 ∧ i = .int .i64 k ∧ wr = w.drewN q ∧ Hid (S.rs xs k = true)) (fun i _ => n - (intOf i).toNat)
  case atStart => exact ⟨0, 0, by omega, rfl, rfl, rfl⟩
  case round =>
    obtain ⟨k, q, hk, rfl, rfl, hH⟩ := hrel
    have wk : IntKind.i64.wrap ((k : Int) + 1) = (k : Int) + 1 := IntWalk.i64_in _ (by omega)
    by_cases hlt : k + 1 < n
    · have d0 : decide ((k : Int) < (n : Int) - 1) = true := decide_eq_true (by omega)
      obtain ⟨b, off, rfl, _, hc⟩ := hr.at (k := k) (by rw [HN.out]; omega)
      obtain ⟨b', off', e, _, hc'⟩ := hr.at (k := k + 1) (by rw [HN.out]; omega)
      obtain ⟨rfl, rfl⟩ : b' = b ∧ off' = off := by simpa [eq_comm] using e
      have hx : xs.getD k 0 = xs[k]'(by rw [HN.out]; omega) := by simp [List.getD, List.getElem?_eq_getElem (show k < xs.length by rw [HN.out]; omega)]
      have hy : xs.getD (k + 1) 0 = xs[k + 1]'(by rw [HN.out]; omega) := by simp [List.getD, List.getElem?_eq_getElem (show k + 1 < xs.length by rw [HN.out]; omega)]
      have hs := Lib.hid (S.rs_succ xs k)
      rw [hx, hy] at hs
      clear hx hy
      generalize xs[k]'(by rw [HN.out]; omega) = x at *
      generalize xs[k + 1]'(by rw [HN.out]; omega) = y at *
      have i0 : (k : Int) < (n : Int) := by omega
      have i1 : (k : Int) + 1 < (n : Int) := by omega
      by_cases he : x < y
      · have g1 : decide ((y : Int) ≤ (x : Int)) = false := decide_eq_false (by omega)
        have g2 : decide ((x : Int) ≥ (y : Int)) = false := decide_eq_false (by omega)
        have g3 : decide (y ≤ x) = false := decide_eq_false (by omega)
        have hres : Hid (S.rs xs (k + 1) = true) := Lib.hid (by rw [hs.out, hH.out]; simp [he])
        clear hs hH
        go_wp2
        go_quiet (fail)
        go_wp2
        go_roundw
        case rel => exact ⟨k + 1, _, by omega, by go_num, rfl, hres⟩
        case measure => simp [intOf]; omega
      · have g1 : decide ((y : Int) ≤ (x : Int)) = true := decide_eq_true (by omega)
        have g2 : decide ((x : Int) ≥ (y : Int)) = true := decide_eq_true (by omega)
        have g3 : decide (y ≤ x) = true := decide_eq_true (by omega)
        have hres : Hid (S.rs xs (n - 1) = false) := Lib.hid (S.rs_false (j := k + 1) (by omega) (by rw [hs.out]; simp [he]))
        clear hs hH
        go_wp2
        go_quiet (fail)
        go_wp2
        go_ret
        exact ⟨by rw [hres.out]; rfl, below_drewN (below_drewN (Below.refl _ _) _) _⟩
    · have d0 : decide ((k : Int) < (n : Int) - 1) = false := decide_eq_false (by omega)
      obtain rfl : k = n - 1 := by omega
      go_wp2
      go_ret
      exact ⟨by rw [hH.out]; rfl, below_drewN (Below.refl _ _) _⟩
/-- Lists of the law's own that stay. -/
structure BK (w W : World) (K : List (Value × List Nat)) : Prop where
  low : Below w.heap.size w W
  kx : ∀ p ∈ K, KX W p.1 p.2
theorem BK.below {w W W' : World} {K : List (Value × List Nat)} (h : BK w W K) (hb : Below W.heap.size W W') : BK w W' K :=
  ⟨h.low.trans (hb.mono h.low.size), fun p hp => (h.kx p hp).below hb⟩
theorem BK.push {w W W' : World} {K : List (Value × List Nat)} (h : BK w W K) (hb : Below W.heap.size W W') {v : Value} {xs : List Nat} (hk : KX W' v xs) : BK w W' ((v, xs) :: K) :=
  ⟨(h.below hb).low, fun p hp => by
    rcases List.mem_cons.1 hp with rfl | hp
    · exact hk
    · exact (h.below hb).kx p hp⟩
theorem BK.rw {w W : World} {K : List (Value × List Nat)} (h : BK w W K) {A : Option Addr} {n c : Nat} {xs : List Nat} (hm : (Value.slice A n c, xs) ∈ K) : Rw W W.heap.size A xs ∧ xs.length = n ∧ n ≤ c := by
  have hk := h.kx _ hm
  obtain ⟨A', c', e, hr⟩ := kx_rwV hk
  rcases hk.form with ⟨e2, e3⟩ | ⟨g, c2, e2, h2, _⟩
  · simp only at e2 e3 e hr
    injection e with x1 x2 x3
    injection e2 with y1 y2 y3
    subst x1
    exact ⟨hr, x2.symm, by omega⟩
  · simp only at e2 e hr h2
    injection e with x1 x2 x3
    injection e2 with y1 y2 y3
    subst x1
    exact ⟨hr, x2.symm, by omega⟩
end Go.Proofs.Ythejapblllfajaa
end
section
namespace Go.Proofs.Ythejapblllfajaa
set_option maxRecDepth 20000
open Go.RowKit Go.Shelf
section
variable {w W : World} {M : List (Value × List Nat)}
theorem bk_words (h : BK w W M) (A : Option Addr) (cp : Nat) (xs : List Nat) (n : Nat) (hr : Rw w w.heap.size A xs) (hl : xs.length ≤ 9223372036854775807) (hn : n ≤ 100000) {ys : List Nat} {m : Nat} (hy : xs.take n = ys) (hm : ys.length = m) :
    Calls Try.prog 8 #[.slice A xs.length cp, .int .i64 (n : Int)] W fun e w' => ∃ A' c', e = .returned (.slice A' m c') ∧ BK w w' ((.slice A' m c', ys) :: M) := by
  subst hm hy
  refine (ref_words_own A cp xs n W ((hr.below h.low (Nat.le_refl _)).more h.low.size) hl (by omega)).mono ?_
  rintro e w' ⟨v, rfl, hr2, hb⟩
  have hk : KX w' v (xs.take n) := own_baseG hr2 (Nat.zero_le _)
  obtain ⟨A', c', rfl⟩ := K.own_form hk
  exact ⟨A', c', rfl, h.push hb hk⟩
theorem bk_own (h : BK w W M) {A : Option Addr} {m c : Nat} {xs : List Nat} (hm : (Value.slice A m c, xs) ∈ M) (n : Nat) (hl : m ≤ n) (hn : n ≤ 100000) :
    Calls Try.prog 8 #[.slice A m c, .int .i64 (n : Int)] W fun e w' => ∃ A' c', e = .returned (.slice A' m c') ∧ w'.ownsRow W.heap.size 31 1 (.slice A' m c') m (wv xs) ∧ Below W.heap.size W w' := by
  obtain ⟨hr, hx, _⟩ := h.rw hm
  subst hx
  refine (ref_words_own A c xs n W hr (by omega) (by omega)).mono ?_
  rintro e w' ⟨v, rfl, hr2, hb⟩
  rw [List.take_of_length_le hl] at hr2
  obtain ⟨A', c', rfl⟩ := K.own_form hr2
  exact ⟨A', c', rfl, hr2, hb⟩
theorem bk_of (h : BK w W M) {v : Value} {xs : List Nat} (hm : (v, xs) ∈ M) {ys : List Nat} {m : Nat} (hy : K.off xs = ys) (hl : ys.length = m) (few : xs.length ≤ 100000) :
    Calls Try.prog 7 #[v] W fun e w' => ∃ A' c', e = .returned (.slice A' m c') ∧ BK w w' ((.slice A' m c', ys) :: M) := by
  subst hy hl
  refine (k_of W v xs (h.kx _ hm) (by omega)).mono ?_
  rintro e w' ⟨v', rfl, hk, hb, _⟩
  obtain ⟨A', c', rfl⟩ := K.own_form hk
  exact ⟨A', c', rfl, h.push hb hk⟩
theorem bk_has (h : BK w W M) {v : Value} {xs : List Nat} (hm : (v, xs) ∈ M) (hu : K.Up xs) (hl : xs.length ≤ 100000) (k : Nat) {b : Bool} (hb : decide (k ∈ xs) = b) : Calls Try.prog 10 #[v, .int .u64 (k : Int)] W fun e w' => e = .returned (.bool b) ∧ BK w w' M := by
  subst hb
  refine (has_any W v xs (h.kx _ hm) hu hl k).mono ?_
  rintro e w' ⟨rfl, hb⟩
  exact ⟨rfl, h.below hb⟩
theorem wv_one (xs : List Nat) : ∀ u ∈ wv xs, u.oneCell' = true := by
  intro u hu
  obtain ⟨a, _, rfl⟩ := List.mem_map.1 hu
  rfl
theorem cat_bk {W4 w5 : World} {la lb bs : List Nat} {n1 nb : Nat} {v4 v5 : Value} (h : BK w W M) (hb4 : Below W.heap.size W W4) (ho4 : W4.ownsRow W.heap.size 31 1 v4 n1 (wv la)) (ho5 : w5.ownsRow W.heap.size 31 1 v5 nb (wv la ++ wv lb)) (hg : W4.grownBy w5 v4.ownBlock) (e : la ++ lb = bs ∧ bs.length = nb) : BK w w5 ((v5, bs) :: M) := by
  obtain ⟨rfl, rfl⟩ := e
  have hb7 : Below W.heap.size W w5 := hb4.grown hg hb4.size (fun k hk => (ho4.lt k hk).1)
  refine h.push hb7 ?_
  have e2 : wv (la ++ lb) = wv la ++ wv lb := by simp [wv]
  show w5.ownsRow 0 31 1 v5 (la ++ lb).length (wv (la ++ lb))
  rw [e2]
  exact own_baseG ho5 (Nat.zero_le _)
theorem rw_reads {A : Option Addr} {n c : Nat} {xs : List Nat} (h : BK w W M) (hm : (Value.slice A n c, xs) ∈ M) : Reads W W.heap.size 1 A n (wv xs) := by
  obtain ⟨hr, hx, _⟩ := h.rw hm
  subst hx
  refine ⟨by simp, fun hn => ?_⟩
  obtain ⟨b, off, rfl, hb, hc⟩ := hr (by intro e; subst e; simp at hn)
  refine ⟨_, rfl, hb, fun j u hu => ?_⟩
  simp only [List.getElem?_map, Option.map_eq_some_iff] at hu
  obtain ⟨a, ha, rfl⟩ := hu
  obtain ⟨hj, rfl⟩ := List.getElem?_eq_some_iff.1 ha
  rw [show (⟨b, off, none⟩ : Addr).add j = ⟨b, off + j, none⟩ by unfold Addr.add; by_cases h0 : j = 0 <;> simp [h0]]
  exact hc j hj
theorem bk_bg {V : World} (_h : BK w V M) : Bg V V [(Value.nilFunc, [])] :=
  ⟨Below.refl _ _, fun p hp => by
    rcases List.mem_singleton.1 hp with rfl
    exact ⟨sx_nil _, List.Pairwise.nil, by simp⟩⟩
section
variable {V : World} {L : List (Value × List Nat)} {b : Bool}
theorem bt_of (hk : BK w V M) (h : Bg V W L) {v : Value} {xs ys : List Nat} (hm : (v, xs) ∈ M) (hy : K.off xs = ys) (few : xs.length ≤ 100000) : Calls Try.prog 9 #[v] W (JB V L ys) := by
  subst hy
  exact bg_of h v xs ((hk.below h.low).kx _ hm) few
theorem bt_equal (h : Bg V W L) {f1 f2 : Value} {x1 x2 : List Nat} (m1 : (f1, x1) ∈ L) (m2 : (f2, x2) ∈ L) (e : decide (x1 = x2) = b) : Calls Try.prog 17 #[f1, f2] W fun e w' => e = .returned (.bool b) ∧ Bg V w' L := by
  subst e
  exact bg_equal h m1 m2
theorem bt_within (h : Bg V W L) {f1 f2 : Value} {x1 x2 : List Nat} (m1 : (f1, x1) ∈ L) (m2 : (f2, x2) ∈ L) (e : decide (∀ z ∈ x1, z ∈ x2) = b) : Calls Try.prog 19 #[f1, f2] W fun e w' => e = .returned (.bool b) ∧ Bg V w' L := by
  subst e
  exact bg_within h m1 m2
theorem bt_same (hk : BK w V M) (h : Bg V W L) {v1 v2 : Value} {x1 x2 : List Nat} (m1 : (v1, x1) ∈ M) (m2 : (v2, x2) ∈ M) (l1 : x1.length ≤ 100000) (l2 : x2.length ≤ 100000) (e : decide (x1 = x2) = b) : Calls Try.prog 18 #[v1, v2] W fun e w' => e = .returned (.bool b) ∧ Bg V w' L := by
  subst e
  exact bg_same h ((hk.below h.low).kx _ m1) ((hk.below h.low).kx _ m2) l1 l2
theorem bt_rises (hk : BK w V M) (h : Bg V W L) {A : Option Addr} {n c : Nat} {xs : List Nat} (m1 : (Value.slice A n c, xs) ∈ M) (l1 : n ≤ 100000) (e : S.rs xs (n - 1) = b) : Calls Try.prog 20 #[.slice A n c] W fun e w' => e = .returned (.bool b) ∧ Bg V w' L := by
  subst e
  obtain ⟨hr, hx, _⟩ := (hk.below h.low).rw m1
  refine (rises_any W A n c xs hx hr l1).mono ?_
  rintro e w' ⟨rfl, hb⟩
  exact ⟨rfl, h.below hb⟩
theorem bt_told (hk : BK w V M) (h : Bg V W L) {f : Value} {A : Option Addr} {m c : Nat} {xs : List Nat} (m1 : (f, xs) ∈ L) (m2 : (Value.slice A m c, xs) ∈ M) (n : Int) : Calls Try.prog 11 #[f, .slice A m c, .int .i64 n] W fun e w' => e = .returned (.bool true) ∧ Bg V w' L := by
  obtain ⟨hr, hx, hc⟩ := (hk.below h.low).rw m2
  rcases Int.lt_or_le n (m : Int) with h1 | h1
  · exact told_few h m1 A c m hx hc hr n h1
  · exact told_all h m1 A c m hx hr n h1
theorem bt_ornil (h : Bg V W L) {f1 : Value} {x1 : List Nat} (m1 : (f1, x1) ∈ L) (mn : (Value.nilFunc, []) ∈ L) :
    Calls Try.prog 12 #[.slice (some ⟨W.heap.size, 0, none⟩) 2 2] (W.alloc (.cells #[f1, Value.nilFunc] 29)) (JB V L x1) :=
  bg_or h [(f1, x1), (Value.nilFunc, [])] (fun p hp => by simp at hp; rcases hp with rfl | rfl <;> assumption) (by simp) (h.sx _ m1).2.1 (h.sx _ m1).2.2 (fun z => by simp [S.mOr]) 2 rfl
theorem bt_andnil (h : Bg V W L) {f1 : Value} {x1 : List Nat} (m1 : (f1, x1) ∈ L) (mn : (Value.nilFunc, []) ∈ L) :
    Calls Try.prog 14 #[.slice (some ⟨W.heap.size, 0, none⟩) 2 2] (W.alloc (.cells #[f1, Value.nilFunc] 29)) (JB V L []) :=
  bg_and h [(f1, x1), (Value.nilFunc, [])] (fun p hp => by simp at hp; rcases hp with rfl | rfl <;> assumption) (by simp) List.Pairwise.nil (by simp) (fun z => by simp [S.mAnd]) 2 rfl
theorem bt_count0 (h : Bg V W L) {f1 : Value} (m1 : (f1, []) ∈ L) : Calls Try.prog 21 #[f1] W fun e w' => e = .returned (.int .i64 0) ∧ Bg V w' L := bg_count h m1
theorem bt_first0 (h : Bg V W L) {f1 : Value} (m1 : (f1, []) ∈ L) : Calls Try.prog 22 #[f1, .int .i64 3] W fun e w' => ∃ A c, e = .returned (.slice A 0 c) ∧ Bg V w' L :=
  (bg_first h m1 3).mono fun _ _ ⟨A, c, e1, _, hb⟩ => ⟨A, c, e1, hb⟩
theorem bt_less0 (h : Bg V W L) {f1 f2 : Value} {x2 : List Nat} (m1 : (f1, []) ∈ L) (m2 : (f2, x2) ∈ L) : Calls Try.prog 15 #[f1, f2] W (JB V L []) := bg_less h m1 m2
end
end
set_option maxRecDepth 100000 in
set_option maxHeartbeats 8000000 in
theorem siftAsks_once (w : World) (A1 A2 : Option Addr) (c1 c2 : Nat) (xs1 xs2 : List Nat) (hr1 : Rw w w.heap.size A1 xs1) (hr2 : Rw w w.heap.size A2 xs2)
    (hl1 : xs1.length ≤ 9223372036854775807) (hl2 : xs2.length ≤ 9223372036854775807) :
    Calls Try.prog 4 #[.slice A1 xs1.length c1, .slice A2 xs2.length c2, .bool false] w fun e w' => e = .returned (.bool true) ∧ Below w.heap.size w w' := by
  obtain ⟨i0, hi, hz0, hz1, hz2⟩ := info_parts u64_info
  obtain ⟨la, hla⟩ : ∃ l, xs1.take 60 = l := ⟨_, rfl⟩
  obtain ⟨bs, hlb⟩ : ∃ l, xs2.take 60 = l := ⟨_, rfl⟩
  obtain ⟨n1, hn1⟩ : ∃ n, la.length = n := ⟨_, rfl⟩
  obtain ⟨nb, hn2⟩ : ∃ n, bs.length = n := ⟨_, rfl⟩
  have f1 : n1 ≤ 60 := by rw [← hn1, ← hla, List.length_take]; omega
  have f2 : nb ≤ 60 := by rw [← hn2, ← hlb, List.length_take]; omega
  obtain ⟨X, hX⟩ : ∃ l, K.off la = l := ⟨_, rfl⟩
  obtain ⟨Y, hY⟩ : ∃ l, K.off bs = l := ⟨_, rfl⟩
  obtain ⟨mX, hmX⟩ : ∃ n, X.length = n := ⟨_, rfl⟩
  obtain ⟨mY, hmY⟩ : ∃ n, Y.length = n := ⟨_, rfl⟩
  have fX : mX ≤ 60 := by have := S.off_len la; rw [hX, hmX, hn1] at this; omega
  have fY : mY ≤ 120 := by have := S.off_len bs; rw [hY, hmY, hn2] at this; omega
  have uX : K.Up X := by rw [← hX]; exact S.off_up _
  have uY : K.Up Y := by rw [← hY]; exact S.off_up _
  have HX := Lib.hid hmX
  obtain ⟨bw, hbw⟩ : ∃ b, decide (∀ z ∈ X, z ∈ Y) = b := ⟨_, rfl⟩
  obtain ⟨br, hbr⟩ : ∃ b, S.rs la (n1 - 1) = b := ⟨_, rfl⟩
  have HWI : Hid (S.wi X Y mX = bw) := Lib.hid (by rw [← hmX, S.wi_all]; exact hbw)
  have HRS := Lib.hid hbr
  have HW1 : Hid (∀ V M, BK w V M → Calls Try.prog 8 #[.slice A1 xs1.length c1, .int .i64 60] V fun e w' => ∃ A' c', e = .returned (.slice A' n1 c') ∧ BK w w' ((.slice A' n1 c', la) :: M)) := Lib.hid fun V M h => bk_words h A1 c1 xs1 60 hr1 hl1 (by decide) hla hn1
  have HW2 : Hid (∀ V M, BK w V M → Calls Try.prog 8 #[.slice A2 xs2.length c2, .int .i64 60] V fun e w' => ∃ A' c', e = .returned (.slice A' nb c') ∧ BK w w' ((.slice A' nb c', bs) :: M)) := Lib.hid fun V M h => bk_words h A2 c2 xs2 60 hr2 hl2 (by decide) hlb hn2
  have HF1 : Hid (∀ V M v, BK w V M → (v, la) ∈ M → Calls Try.prog 7 #[v] V fun e w' => ∃ A' c', e = .returned (.slice A' mX c') ∧ BK w w' ((.slice A' mX c', X) :: M)) := Lib.hid fun V M v h hm => bk_of h hm hX hmX (by omega)
  have HF2 : Hid (∀ V M v, BK w V M → (v, bs) ∈ M → Calls Try.prog 7 #[v] V fun e w' => ∃ A' c', e = .returned (.slice A' mY c') ∧ BK w w' ((.slice A' mY c', Y) :: M)) := Lib.hid fun V M v h hm => bk_of h hm hY hmY (by omega)
  have HH : Hid (∀ V M A c k (b : Bool), BK w V M → (Value.slice A mY c, Y) ∈ M → decide (k ∈ Y) = b → Calls Try.prog 10 #[.slice A mY c, .int .u64 ((k : Nat) : Int)] V fun e w' => e = .returned (.bool b) ∧ BK w w' M) := Lib.hid fun V M A c k b h hm hb => bk_has h hm uY (by omega) k hb
  have HXO := Lib.hid (And.intro hX hmX)
  have HYO := Lib.hid (And.intro hY hmY)
  have HLA : Hid (la.length ≤ 100000) := Lib.hid (by omega)
  have HBL : Hid (bs.length ≤ 100000) := Lib.hid (by omega)
  have HLX : Hid (X.length ≤ 100000) := Lib.hid (by omega)
  have HLY : Hid (Y.length ≤ 100000) := Lib.hid (by omega)
  obtain ⟨bxy, hbxy⟩ : ∃ b, decide (X = Y) = b := ⟨_, rfl⟩
  have HXY := Lib.hid hbxy
  have HBW := Lib.hid hbw
  obtain ⟨bz, hbz⟩ : ∃ b, decide ([] = X) = b := ⟨_, rfl⟩
  have HEZ := Lib.hid hbz
  have qz : ((mX : Int) == 0) = bz := by
    rw [← hbz, ← hmX, Bool.eq_iff_iff]
    cases X <;> simp
    omega
  clear hbxy hbz
  have HUX := Lib.hid uX
  have HUY := Lib.hid uY
  clear hr1 hr2 hl1 hl2 hla hlb hX hY uX uY hmX hmY hn1 hn2 hbw hbr 
  generalize xs1.length = len1 at *
  generalize xs2.length = len2 at *
  go_enter Try.func4, Try.ntmps4
  go_wp2_with (first
    | (go_at_call 7; (with_reducible refine (HF2.out _ _ _ H6.out (by simp)).mono ?_); rintro e W7 ⟨A7, c7, rfl, h7⟩; have H7 := Lib.hid h7; clear h7)
    | (go_at_call 7; (with_reducible refine (HF1.out _ _ _ H3.out (by simp)).mono ?_); rintro e W6 ⟨A6, c6, rfl, h6⟩; have H6 := Lib.hid h6; clear h6)
    | (go_at_call 8; (with_reducible refine (HW2.out _ _ H2.out).mono ?_); rintro e W3 ⟨A2', c2', rfl, h3⟩; have H3 := Lib.hid h3; clear h3)
    | (go_at_call 8; (with_reducible refine (HW1.out _ _ H1.out).mono ?_); rintro e W2 ⟨A1', c1', rfl, h2⟩; have H2 := Lib.hid h2; clear h2)
    | (go_at_call 6; (with_reducible refine (awake_any _).mono ?_); rintro e W1 ⟨rfl, h1⟩; have H1 : Hid (BK w _ []) := Lib.hid ⟨h1, fun p hp => by cases hp⟩; clear h1))
  go_loopw [9, 33] (fun v i wr => ∃ k : Nat, k ≤ mX ∧ v = .bool (S.wi X Y k) ∧ i = .int .i64 k ∧ Hid (BK w wr [(.slice A7 mY c7, Y), (.slice A6 mX c6, X), (.slice A2' nb c2', bs), (.slice A1' n1 c1', la)])) (fun _ i _ => mX - (intOf i).toNat)
  case atStart => exact ⟨0, by omega, rfl, rfl, H7⟩
  case round =>
    obtain ⟨k, hk, rfl, rfl, HK⟩ := hrel
    by_cases hlt : k < mX
    · have hlt' : k < X.length := by rw [HX.out]; exact hlt
      obtain ⟨hr, _, _⟩ := HK.out.rw (A := A6) (n := mX) (c := c6) (xs := X) (by simp)
      have hs := Lib.hid (S.wi_succ X Y hlt')
      have d0 : (k : Int) < (mX : Int) := by omega
      obtain ⟨b, off, rfl, _, hc⟩ := hr.at hlt'
      clear hr
      generalize X[k] = z at *
      have wk : IntKind.i64.wrap ((k : Int) + 1) = (k : Int) + 1 := IntWalk.i64_in _ (by omega)
      generalize hb0 : S.wi X Y k = b0 at *
      cases b0
      · have hres : Hid (false = S.wi X Y (k + 1)) := Lib.hid (by rw [hs.out]; rfl)
        clear hs
        go_wp2
        go_roundw
        case rel => exact ⟨k + 1, by omega, by rw [← hres.out]; try rfl, by go_num, HK⟩
        case measure => simp [intOf]; omega
      · obtain ⟨bz, hbz⟩ : ∃ b, decide (z ∈ Y) = b := ⟨_, rfl⟩
        have hres : Hid (bz = S.wi X Y (k + 1)) := Lib.hid (by rw [hs.out, hbz]; simp)
        have HZ := Lib.hid hbz
        clear hs hbz
        go_wp2_with (go_at_call 10; (with_reducible refine (HH.out _ _ _ _ _ _ HK.out (by simp) HZ.out).mono ?_); rintro e W8 ⟨rfl, h8⟩; have H8 := Lib.hid h8; clear h8)
        go_roundw
        case rel => exact ⟨k + 1, by omega, by rw [← hres.out]; try rfl, by go_num, H8⟩
        case measure => simp [intOf]; omega
    · have hkm : k = mX := by omega
      rw [hkm]
      rw [HWI.out]
      clear hlt hk hkm
      go_wp2
      go_loopw [12, 13] (fun v i wr => ∃ j : Nat, (j = 0 ∨ j < n1) ∧ v = .bool (S.rs la j) ∧ i = .int .i64 ((j + 1 : Nat) : Int) ∧ Hid (BK w wr [(.slice A7 mY c7, Y), (.slice A6 mX c6, X), (.slice A2' nb c2', bs), (.slice A1' n1 c1', la)])) (fun _ i _ => n1 + 1 - (intOf i).toNat)
      case atStart => exact ⟨0, .inl rfl, rfl, rfl, HK⟩
      case round =>
        clear HK
        obtain ⟨j, hj, rfl, rfl, HK⟩ := hrel
        have wj : IntKind.i64.wrap (j : Int) = (j : Int) := IntWalk.i64_in _ (by omega)
        have wj1 : IntKind.i64.wrap ((j : Int) + 1) = (j : Int) + 1 := IntWalk.i64_in _ (by omega)
        have wj2 : IntKind.i64.wrap ((j : Int) + 1 + 1) = (j : Int) + 1 + 1 := IntWalk.i64_in _ (by omega)
        have wj0 : (j : Int) + 1 - 1 = (j : Int) := by omega
        by_cases hlt : j + 1 < n1
        · have d0 : (j : Int) + 1 < (n1 : Int) := by omega
          have d1 : (j : Int) < (n1 : Int) := by omega
          have d2 : decide ((j : Int) + 1 < (n1 : Int)) = true := decide_eq_true d0
          obtain ⟨hr, hrl, _⟩ := HK.out.rw (A := A1') (n := n1) (c := c1') (xs := la) (by simp)
          obtain ⟨b, off, rfl, _, hc⟩ := hr.at (k := j) (by rw [hrl]; omega)
          obtain ⟨b', off', e, _, hc'⟩ := hr.at (k := j + 1) (by rw [hrl]; omega)
          obtain ⟨rfl, rfl⟩ : b' = b ∧ off' = off := by simpa [eq_comm] using e
          have hx : la.getD j 0 = la[j]'(by rw [hrl]; omega) := by simp [List.getD, List.getElem?_eq_getElem (show j < la.length by rw [hrl]; omega)]
          have hy : la.getD (j + 1) 0 = la[j + 1]'(by rw [hrl]; omega) := by simp [List.getD, List.getElem?_eq_getElem (show j + 1 < la.length by rw [hrl]; omega)]
          have hs := Lib.hid (S.rs_succ la j)
          rw [hx, hy] at hs
          clear hx hy e hr
          generalize la[j]'(by rw [hrl]; omega) = x at *
          generalize la[j + 1]'(by rw [hrl]; omega) = y at *
          clear hrl
          generalize hb0 : S.rs la j = b0 at *
          cases b0
          · have hres : Hid (false = S.rs la (j + 1)) := Lib.hid (by rw [hs.out]; rfl)
            clear hs
            go_wp2
            go_quiet (fail)
            go_wp2
            go_roundw
            case rel => exact ⟨j + 1, by omega, by rw [← hres.out]; try rfl, by go_num, Lib.hid (HK.out.below (below_drewN (Below.refl _ _) _))⟩
            case measure => simp [intOf]; omega
          · obtain ⟨bl, hbl⟩ : ∃ b, decide (x < y) = b := ⟨_, rfl⟩
            have hbl2 : decide ((x : Int) < (y : Int)) = bl := by rw [← hbl]; exact decide_eq_decide.2 (by omega)
            have hres : Hid (bl = S.rs la (j + 1)) := Lib.hid (by rw [hs.out, hbl]; simp)
            clear hs
            go_wp2
            go_quiet (fail)
            go_wp2
            go_roundw
            case rel => exact ⟨j + 1, by omega, by rw [← hres.out]; try rfl, by go_num, Lib.hid (HK.out.below (below_drewN (Below.refl _ _) _))⟩
            case measure => simp [intOf]; omega
        · have hjn : j = n1 - 1 := by omega
          clear wj wj1 wj2 wj0 hlt hj
          subst hjn
          have d2 : decide (((n1 - 1 : Nat) : Int) + 1 < (n1 : Int)) = false := decide_eq_false (by omega)
          rw [HRS.out]
          obtain ⟨jj, hjj⟩ : ∃ jj, n1 - 1 = jj := ⟨_, rfl⟩
          rw [hjj] at d2 ⊢
          clear hjj
          have HB0 := Lib.hid (bk_bg HK.out)
          go_wp2_with (first
            | (go_at_call 21; (with_reducible refine (bt_count0 HB16.out (by simp)).mono ?_); rintro e U17 ⟨rfl, hb17⟩; have HB17 := Lib.hid hb17; clear hb17)
            | (go_at_call 15; (with_reducible refine (bt_less0 HB15.out (x2 := X) (by simp) (by simp)).mono ?_); rintro e U16 ⟨gg16, ll16, rfl, hb16⟩; have HB16 := Lib.hid hb16; clear hb16)
            | (go_at_call 17; (with_reducible refine (bt_equal HB14.out (x1 := []) (x2 := X) (by simp) (by simp) HEZ.out).mono ?_); rintro e U15 ⟨rfl, hb15⟩; have HB15 := Lib.hid hb15; clear hb15)
            | (go_at_call 19; (with_reducible refine (bt_within HB13.out (b := true) (x1 := []) (x2 := X) (by simp) (by simp) (by simp)).mono ?_); rintro e U14 ⟨rfl, hb14⟩; have HB14 := Lib.hid hb14; clear hb14)
            | (go_at_call 22; (with_reducible refine (bt_first0 HB12.out (by simp)).mono ?_); rintro e U13 ⟨A13, c13, rfl, hb13⟩; have HB13 := Lib.hid hb13; clear hb13)
            | (go_at_call 21; (with_reducible refine (bt_count0 HB11.out (by simp)).mono ?_); rintro e U12 ⟨rfl, hb12⟩; have HB12 := Lib.hid hb12; clear hb12)
            | (go_at_call 21; (with_reducible refine (bt_count0 HB10.out (by simp)).mono ?_); rintro e U11 ⟨rfl, hb11⟩; have HB11 := Lib.hid hb11; clear hb11)
            | (go_at_call 14; (with_reducible refine (bt_andnil HB9.out (x1 := X) (by simp) (by simp)).mono ?_); rintro e U10 ⟨gg10, ll10, rfl, hb10⟩; have HB10 := Lib.hid hb10; clear hb10)
            | (go_at_call 11; (with_reducible refine (bt_told HK.out HB8.out (xs := X) (by simp) (by simp) 2).mono ?_); rintro e U9 ⟨rfl, hb9⟩; have HB9 := Lib.hid hb9; clear hb9)
            | (go_at_call 12; (with_reducible refine (bt_ornil HB7.out (x1 := X) (by simp) (by simp)).mono ?_); rintro e U8 ⟨gg8, ll8, rfl, hb8⟩; have HB8 := Lib.hid hb8; clear hb8)
            | (go_at_call 11; (with_reducible refine (bt_told HK.out HB6.out (xs := X) (by simp) (by simp) 3).mono ?_); rintro e U7 ⟨rfl, hb7⟩; have HB7 := Lib.hid hb7; clear hb7)
            | (go_at_call 20; (with_reducible refine (bt_rises HK.out HB5.out (xs := la) (by simp) (by omega) HRS.out).mono ?_); rintro e U6 ⟨rfl, hb6⟩; have HB6 := Lib.hid hb6; clear hb6)
            | (go_at_call 19; (with_reducible refine (bt_within HB4.out (x1 := X) (x2 := Y) (by simp) (by simp) HBW.out).mono ?_); rintro e U5 ⟨rfl, hb5⟩; have HB5 := Lib.hid hb5; clear hb5)
            | (go_at_call 18; (with_reducible refine (bt_same HK.out HB3.out (x1 := X) (x2 := Y) (by simp) (by simp) HLX.out HLY.out HXY.out).mono ?_); rintro e U4 ⟨rfl, hb4⟩; have HB4 := Lib.hid hb4; clear hb4)
            | (go_at_call 17; (with_reducible refine (bt_equal HB2.out (x1 := X) (x2 := Y) (by simp) (by simp) HXY.out).mono ?_); rintro e U3 ⟨rfl, hb3⟩; have HB3 := Lib.hid hb3; clear hb3)
            | (go_at_call 9; (with_reducible refine (bt_of HK.out HB1.out (v := .slice A2' nb c2') (xs := bs) (by simp) HYO.out.1 HBL.out).mono ?_); rintro e U2 ⟨gg2, ll2, rfl, hb2⟩; have HB2 := Lib.hid hb2; clear hb2)
            | (go_at_call 9; (with_reducible refine (bt_of HK.out HB0.out (v := .slice A1' n1 c1') (xs := la) (by simp) HXO.out.1 HLA.out).mono ?_); rintro e U1 ⟨gg1, ll1, rfl, hb1⟩; have HB1 := Lib.hid hb1; clear hb1))
          all_goals
            go_ret
            exact ⟨by simp, HK.out.low.trans (HB17.out.low.mono HK.out.low.size)⟩

end Go.Proofs.Ythejapblllfajaa
end
