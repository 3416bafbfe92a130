/- has, told; the texts walked. Does a list rise: Rises; the text walked. What a law keeps of lists. The law SiftAsks; the text walked. The law SiftAsks, where the second list has the first one's keys too; the text walked. What so many of some lists have: want; the text walked. What so many of some lists have: want; the text walked. What sift.Of answers, told by its cell and its row: it stays while others are written; the text walked. -/
import Derived.Test.YtepdhjcgpjjjlaaMt13
section
namespace Go.Proofs.Ytepdhjcgpjjjlaa
set_option maxRecDepth 20000
open Go.RowKit Go.Shelf
theorem Rw.takeV {w : World} {B : Nat} {A : Option Addr} {xs : List Nat} (h : Rw w B A xs) (l : Nat) : Rw w B A (xs.take l) := fun hne => by
  obtain ⟨b, off, rfl, hlt, hc⟩ := h (by intro e; subst e; simp at hne)
  refine ⟨b, off, rfl, hlt, fun k hk => ?_⟩
  rw [List.length_take] at hk
  rw [List.getElem_take]
  exact hc k (by omega)
section
variable {w W : World} {L : List (Value × List Nat)}
theorem has_any (w : World) (v : Value) (xs : List Nat) (h : KX w v xs) (hu : K.Up xs) (hl : xs.length ≤ 100000) (k : Nat) : Calls Try.prog 10 #[v, .int .u64 (k : Int)] w fun e w' => e = .returned (.bool (decide (k ∈ xs))) ∧ Below w.heap.size w w' := by
  have hf : K.fo xs k = decide (k ∈ xs) := by
    rw [Bool.eq_iff_iff, K.fo_mem hu]
    simp
  have H := k_find w v xs h (by omega) k
  rw [hf] at H
  replace H := Lib.hid H
  obtain ⟨A, c, rfl⟩ := K.own_form h
  generalize decide (k ∈ xs) = b at *
  generalize (K.fi xs k) = F at *
  generalize xs.length = n at *
  clear hf h
  go_enter Try.func10, Try.ntmps10
  go_wp2_with (go_at_call 27; (with_reducible refine H.out.mono ?_); rintro e w1 ⟨rfl, h1⟩; have H1 := Lib.hid h1; clear h1)
  go_ret
  exact ⟨rfl, H1.out⟩
theorem bg_sameR (h : Bg w W L) {A B : Option Addr} {n m c d : Nat} {x1 x2 : List Nat} (k1 : Rw W W.heap.size A x1) (k2 : Rw W W.heap.size B x2) (e1 : x1.length = n) (e2 : x2.length = m) (l1 : n ≤ 100000) (l2 : m ≤ 100000) (e : x1 = x2) : Calls Try.prog 18 #[.slice A n c, .slice B m d] W fun e w' => e = .returned (.bool true) ∧ Bg w w' L := by
  subst e1 e2
  refine (ref_samekeys A B c d x1 x2 W _ _ k1 k2 (by omega) (by omega)).mono ?_
  rintro _ w' ⟨rfl, n, rfl⟩
  exact ⟨by rw [decide_eq_true e], h.below ⟨rfl, rfl, rfl, Nat.le_refl _, fun _ _ => rfl⟩⟩
theorem bg_firstR (h : Bg w W L) {f1 : Value} {x1 : List Nat} (m1 : (f1, x1) ∈ L) (n : Int) {k : Nat} (hk : (x1.take n.toNat).length = k) : Calls Try.prog 22 #[f1, .int .i64 n] W fun e w' => ∃ A c, e = .returned (.slice A k c) ∧ Rw w' w'.heap.size A (x1.take n.toNat) ∧ Bg w w' L := by
  subst hk
  refine (bg_first h m1 n).mono ?_
  rintro e w' ⟨A, c, rfl, hk, hb⟩
  obtain ⟨A', c', e, hr⟩ := kx_rwV hk
  injection e with e1 e2 e3
  subst e1
  exact ⟨A, c, rfl, hr, hb⟩
set_option maxRecDepth 100000 in
set_option maxHeartbeats 4000000 in
theorem told_all (h : Bg w W L) {f : Value} {xs : List Nat} (m1 : (f, xs) ∈ L) (A : Option Addr) (c m : Nat) (hm : xs.length = m) (hk : Rw W W.heap.size A xs) (n : Int) (hn : (m : Int) ≤ n) :
    Calls Try.prog 11 #[f, .slice A m c, .int .i64 n] W fun e w' => e = .returned (.bool true) ∧ Bg w w' L := by
  obtain ⟨s1, u1, l1⟩ := h.sx _ m1
  simp only at l1
  have e1 : xs.take (100000 : Int).toNat = xs := List.take_of_length_le (by simp; omega)
  have e2 : xs.take n.toNat = xs := List.take_of_length_le (by omega)
  have g1 : decide (n < (m : Int)) = false := decide_eq_false (by omega)
  have C1 : Hid (∀ V, Bg W V L → Calls Try.prog 22 #[f, .int .i64 100000] V fun e w' => ∃ A c, e = .returned (.slice A m c) ∧ Rw w' w'.heap.size A xs ∧ Bg W w' L) := Lib.hid fun V hV => by
    have := bg_firstR hV m1 100000 (k := m) (by rw [e1]; exact hm)
    rw [e1] at this
    exact this
  have C3 : Hid (∀ V, Bg W V L → Calls Try.prog 21 #[f] V fun e w' => e = .returned (.int .i64 (m : Int)) ∧ Bg W w' L) := Lib.hid fun V hV => bg_countN hV m1 hm
  have C4 : Hid (∀ V A' c', Bg W V L → Rw V V.heap.size A' xs → Calls Try.prog 18 #[.slice A' m c', .slice A m c] V fun e w' => e = .returned (.bool true) ∧ Bg W w' L) := Lib.hid fun V A' c' hV hr =>
    bg_sameR hV hr ((hk.below hV.low (Nat.le_refl _)).more hV.low.size) hm hm (by omega) (by omega) rfl
  have C2 : Hid (∀ V, Bg W V L → Calls Try.prog 22 #[f, .int .i64 n] V fun e w' => ∃ A c, e = .returned (.slice A m c) ∧ Rw w' w'.heap.size A xs ∧ Bg W w' L) := Lib.hid fun V hV => by
    have := bg_firstR hV m1 n (k := m) (by rw [e2]; exact hm)
    rw [e2] at this
    exact this
  have C5 := C4
  have H0 : Hid (Bg W W L) := Lib.hid ⟨Below.refl _ _, h.sx⟩
  have HH := Lib.hid h
  clear e1 e2 hn
  clear hk hm m1 s1 l1 u1 h
  go_enter Try.func11, Try.ntmps11
  go_wp2_with (first
    | (go_at_call 21; (with_reducible refine (C3.out _ H4.out).mono ?_); rintro e w5 ⟨rfl, h5⟩; have H5 := Lib.hid h5; clear h5)
    | (go_at_call 18; (with_reducible refine (C5.out _ _ _ H3.out.2 H3.out.1).mono ?_); rintro e w4 ⟨rfl, h4⟩; have H4 := Lib.hid h4; clear h4)
    | (go_at_call 22; (with_reducible refine (C2.out _ H2.out).mono ?_); rintro e w3 ⟨A3, c3, rfl, h3⟩; have H3 := Lib.hid h3; clear h3)
    | (go_at_call 18; (with_reducible refine (C4.out _ _ _ H1.out.2 H1.out.1).mono ?_); rintro e w2 ⟨rfl, h2⟩; have H2 := Lib.hid h2; clear h2)
    | (go_at_call 22; (with_reducible refine (C1.out _ H0.out).mono ?_); rintro e w1 ⟨A1, c1, rfl, h1⟩; have H1 := Lib.hid h1; clear h1))
  all_goals
    go_ret
    exact ⟨by simp, HH.out.below H5.out.low⟩
set_option maxRecDepth 100000 in
set_option maxHeartbeats 4000000 in
theorem told_few (h : Bg w W L) {f : Value} {xs : List Nat} (m1 : (f, xs) ∈ L) (A : Option Addr) (c m : Nat) (hm : xs.length = m) (hc : m ≤ c) (hk : Rw W W.heap.size A xs) (n : Int) (hn : n < (m : Int)) :
    Calls Try.prog 11 #[f, .slice A m c, .int .i64 n] W fun e w' => e = .returned (.bool true) ∧ Bg w w' L := by
  obtain ⟨s1, u1, l1⟩ := h.sx _ m1
  simp only at l1
  have e1 : xs.take (100000 : Int).toNat = xs := List.take_of_length_le (by simp; omega)
  have g1 : decide (n < (m : Int)) = true := decide_eq_true (by omega)
  have C1 : Hid (∀ V, Bg W V L → Calls Try.prog 22 #[f, .int .i64 100000] V fun e w' => ∃ A c, e = .returned (.slice A m c) ∧ Rw w' w'.heap.size A xs ∧ Bg W w' L) := Lib.hid fun V hV => by
    have := bg_firstR hV m1 100000 (k := m) (by rw [e1]; exact hm)
    rw [e1] at this
    exact this
  have C3 : Hid (∀ V, Bg W V L → Calls Try.prog 21 #[f] V fun e w' => e = .returned (.int .i64 (m : Int)) ∧ Bg W w' L) := Lib.hid fun V hV => bg_countN hV m1 hm
  have C4 : Hid (∀ V A' c', Bg W V L → Rw V V.heap.size A' xs → Calls Try.prog 18 #[.slice A' m c', .slice A m c] V fun e w' => e = .returned (.bool true) ∧ Bg W w' L) := Lib.hid fun V A' c' hV hr =>
    bg_sameR hV hr ((hk.below hV.low (Nat.le_refl _)).more hV.low.size) hm hm (by omega) (by omega) rfl
  obtain ⟨j, hj⟩ : ∃ j, n.toNat = j := ⟨_, rfl⟩
  have hjm : j ≤ m := by omega
  have hjl : (xs.take j).length = j := by rw [List.length_take]; omega
  have C2 : Hid (∀ V, Bg W V L → Calls Try.prog 22 #[f, .int .i64 n] V fun e w' => ∃ A c, e = .returned (.slice A j c) ∧ Rw w' w'.heap.size A (xs.take j) ∧ Bg W w' L) := Lib.hid fun V hV => by
    have := bg_firstR hV m1 n (k := j) (by rw [hj]; exact hjl)
    rw [hj] at this
    exact this
  have C5 : Hid (∀ V A' c', Bg W V L → Rw V V.heap.size A' (xs.take j) → Calls Try.prog 18 #[.slice A' j c', .slice A j c] V fun e w' => e = .returned (.bool true) ∧ Bg W w' L) := Lib.hid fun V A' c' hV hr =>
    bg_sameR hV hr (((hk.takeV j).below hV.low (Nat.le_refl _)).more hV.low.size) hjl hjl (by omega) (by omega) rfl
  obtain ⟨a1, a2⟩ := Kb.cut_h A m c j (j : Int) rfl hjm hc
  have H0 : Hid (Bg W W L) := Lib.hid ⟨Below.refl _ _, h.sx⟩
  have HH := Lib.hid h
  clear e1 hn hjl hjm hc
  have mx : max n 0 = (j : Int) := by omega
  clear hk hm m1 s1 l1 u1 h hj
  go_enter Try.func11, Try.ntmps11
  go_wp2_with (first
    | (go_at_call 21; (with_reducible refine (C3.out _ H4.out).mono ?_); rintro e w5 ⟨rfl, h5⟩; have H5 := Lib.hid h5; clear h5)
    | (go_at_call 18; (with_reducible refine (C5.out _ _ _ H3.out.2 H3.out.1).mono ?_); rintro e w4 ⟨rfl, h4⟩; have H4 := Lib.hid h4; clear h4)
    | (go_at_call 22; (with_reducible refine (C2.out _ H2.out).mono ?_); rintro e w3 ⟨A3, c3, rfl, h3⟩; have H3 := Lib.hid h3; clear h3)
    | (go_at_call 18; (with_reducible refine (C4.out _ _ _ H1.out.2 H1.out.1).mono ?_); rintro e w2 ⟨rfl, h2⟩; have H2 := Lib.hid h2; clear h2)
    | (go_at_call 22; (with_reducible refine (C1.out _ H0.out).mono ?_); rintro e w1 ⟨A1, c1, rfl, h1⟩; have H1 := Lib.hid h1; clear h1))
  all_goals
    go_ret
    exact ⟨by simp, HH.out.below H5.out.low⟩
end
end Go.Proofs.Ytepdhjcgpjjjlaa
end
section
namespace Go.Proofs.Ytepdhjcgpjjjlaa
set_option maxRecDepth 20000
open Go.RowKit Go.Shelf
namespace S
/-- Do the first keys rise: so many pairs looked at? -/
def rs (xs : List Nat) (j : Nat) : Bool := (List.range j).all fun i => decide (xs.getD i 0 < xs.getD (i + 1) 0)
/-- Are the first keys all in the other list: so many looked at? -/
def wi (xs ys : List Nat) (k : Nat) : Bool := (xs.take k).all fun z => decide (z ∈ ys)
end S
/-- Lists of the law's own that stay. -/
structure BK (w W : World) (K : List (Value × List Nat)) : Prop where
  low : Below w.heap.size w W
  kx : ∀ p ∈ K, KX W p.1 p.2
theorem BK.below {w W W' : World} {K : List (Value × List Nat)} (h : BK w W K) (hb : Below W.heap.size W W') : BK w W' K :=
  ⟨h.low.trans (hb.mono h.low.size), fun p hp => (h.kx p hp).below hb⟩
theorem BK.push {w W W' : World} {K : List (Value × List Nat)} (h : BK w W K) (hb : Below W.heap.size W W') {v : Value} {xs : List Nat} (hk : KX W' v xs) : BK w W' ((v, xs) :: K) :=
  ⟨(h.below hb).low, fun p hp => by
    rcases List.mem_cons.1 hp with rfl | hp
    · exact hk
    · exact (h.below hb).kx p hp⟩
theorem BK.rw {w W : World} {K : List (Value × List Nat)} (h : BK w W K) {A : Option Addr} {n c : Nat} {xs : List Nat} (hm : (Value.slice A n c, xs) ∈ K) : Rw W W.heap.size A xs ∧ xs.length = n ∧ n ≤ c := by
  have hk := h.kx _ hm
  obtain ⟨A', c', e, hr⟩ := kx_rwV hk
  rcases hk.form with ⟨e2, e3⟩ | ⟨g, c2, e2, h2, _⟩
  · simp only at e2 e3 e hr
    injection e with x1 x2 x3
    injection e2 with y1 y2 y3
    subst x1
    exact ⟨hr, x2.symm, by omega⟩
  · simp only at e2 e hr h2
    injection e with x1 x2 x3
    injection e2 with y1 y2 y3
    subst x1
    exact ⟨hr, x2.symm, by omega⟩
end Go.Proofs.Ytepdhjcgpjjjlaa
end
section
namespace Go.Proofs.Ytepdhjcgpjjjlaa
set_option maxRecDepth 20000
open Go.RowKit Go.Shelf
section
variable {w W : World} {M : List (Value × List Nat)}
theorem bk_words (h : BK w W M) (A : Option Addr) (cp : Nat) (xs : List Nat) (n : Nat) (hr : Rw w w.heap.size A xs) (hl : xs.length ≤ 9223372036854775807) (hn : n ≤ 100000) {ys : List Nat} {m : Nat} (hy : xs.take n = ys) (hm : ys.length = m) :
    Calls Try.prog 8 #[.slice A xs.length cp, .int .i64 (n : Int)] W fun e w' => ∃ A' c', e = .returned (.slice A' m c') ∧ BK w w' ((.slice A' m c', ys) :: M) := by
  subst hm hy
  refine (ref_words_own A cp xs n W ((hr.below h.low (Nat.le_refl _)).more h.low.size) hl (by omega)).mono ?_
  rintro e w' ⟨v, rfl, hr2, hb⟩
  have hk : KX w' v (xs.take n) := own_baseG hr2 (Nat.zero_le _)
  obtain ⟨A', c', rfl⟩ := K.own_form hk
  exact ⟨A', c', rfl, h.push hb hk⟩
theorem bk_of (h : BK w W M) {v : Value} {xs : List Nat} (hm : (v, xs) ∈ M) {ys : List Nat} {m : Nat} (hy : K.off xs = ys) (hl : ys.length = m) (few : xs.length ≤ 100000) :
    Calls Try.prog 7 #[v] W fun e w' => ∃ A' c', e = .returned (.slice A' m c') ∧ BK w w' ((.slice A' m c', ys) :: M) := by
  subst hy hl
  refine (k_of W v xs (h.kx _ hm) (by omega)).mono ?_
  rintro e w' ⟨v', rfl, hk, hb, _⟩
  obtain ⟨A', c', rfl⟩ := K.own_form hk
  exact ⟨A', c', rfl, h.push hb hk⟩
theorem bk_has (h : BK w W M) {v : Value} {xs : List Nat} (hm : (v, xs) ∈ M) (hu : K.Up xs) (hl : xs.length ≤ 100000) (k : Nat) {b : Bool} (hb : decide (k ∈ xs) = b) : Calls Try.prog 10 #[v, .int .u64 (k : Int)] W fun e w' => e = .returned (.bool b) ∧ BK w w' M := by
  subst hb
  refine (has_any W v xs (h.kx _ hm) hu hl k).mono ?_
  rintro e w' ⟨rfl, hb⟩
  exact ⟨rfl, h.below hb⟩
theorem wv_one (xs : List Nat) : ∀ u ∈ wv xs, u.oneCell' = true := by
  intro u hu
  obtain ⟨a, _, rfl⟩ := List.mem_map.1 hu
  rfl
section
variable {V : World} {L : List (Value × List Nat)} {b : Bool}
theorem bt_of (hk : BK w V M) (h : Bg V W L) {v : Value} {xs ys : List Nat} (hm : (v, xs) ∈ M) (hy : K.off xs = ys) (few : xs.length ≤ 100000) : Calls Try.prog 9 #[v] W (JB V L ys) := by
  subst hy
  exact bg_of h v xs ((hk.below h.low).kx _ hm) few
end
end
end Go.Proofs.Ytepdhjcgpjjjlaa
end
section
namespace Go.Proofs.Ytepdhjcgpjjjlaa
set_option maxRecDepth 20000
open Go.RowKit Go.Shelf
end Go.Proofs.Ytepdhjcgpjjjlaa
end
section
namespace Go.Proofs.Ytepdhjcgpjjjlaa
set_option maxRecDepth 20000
open Go.RowKit Go.Shelf
namespace S
/-- In how many of the lists a key is. -/
def cn (xss : List (List Nat)) (z : Nat) : Nat := xss.countP fun x => decide (z ∈ x)
/-- The keys that so many have, from one number up to another one. -/
def inn (xss : List (List Nat)) (f t : Int) (z : Nat) : Bool := decide (f ≤ (cn xss z : Int)) && decide ((cn xss z : Int) ≤ t)
def wt (xss : List (List Nat)) (f t : Int) : List Nat := (K.off xss.flatten).filter (inn xss f t)
theorem off_add (l : List Nat) (a : Nat) : K.off (l ++ [a]) = K.add (K.off l) a := by
  unfold K.off
  rw [List.foldl_append]
  rfl
theorem cn_succ (xss : List (List Nat)) {k : Nat} (h : k < xss.length) (z : Nat) : cn (xss.take (k + 1)) z = cn (xss.take k) z + if z ∈ xss[k] then 1 else 0 := by
  unfold cn
  rw [List.take_add_one, List.getElem?_eq_getElem h, List.countP_append]
  by_cases hz : z ∈ xss[k] <;> simp [hz]
theorem cn_le (xss : List (List Nat)) (z : Nat) : cn xss z ≤ xss.length := List.countP_le_length
theorem flat_le (xss : List (List Nat)) (B : Nat) (h : ∀ x ∈ xss, x.length ≤ B) : xss.flatten.length ≤ xss.length * B := by
  induction xss with
  | nil => simp
  | cons x t ih =>
    have h1 := h x (by simp)
    have h2 := ih fun y hy => h y (by simp [hy])
    rw [List.flatten_cons, List.length_append, List.length_cons, Nat.add_mul]
    omega
theorem flat_succ (xss : List (List Nat)) {k : Nat} (h : k < xss.length) : (xss.take (k + 1)).flatten = (xss.take k).flatten ++ xss[k] := by
  rw [List.take_add_one, List.getElem?_eq_getElem h, List.flatten_append]
  simp
end S
theorem own_belV {w w' : World} {base n : Nat} {e : TypeId} {size : Nat} {v : Value} {xs : List Value} (h : w.ownsRow base e size v n xs) (hb : Below w.heap.size w w') : w'.ownsRow base e size v n xs := by
  refine ⟨h.1, ?_⟩
  rcases h.2 with hn | ⟨g, cap, cur, e, hb0, hg, rest⟩
  · exact .inl hn
  · exact .inr ⟨g, cap, cur, e, hb0, (hb.block g (Array.getElem?_eq_some_iff.1 hg).1).trans hg, rest⟩
/-- A row of lists: their cells, and what each one holds. -/
structure LR (w : World) (A : Option Addr) (vs : List (Value × List Nat)) : Prop where
  at_ : ∀ (k : Nat) (h : k < vs.length), ∃ b off, A = some ⟨b, off, none⟩ ∧ b < w.heap.size ∧ w.cell? ⟨b, off + k, none⟩ = some vs[k].1
  kx : ∀ p ∈ vs, KX w p.1 p.2 ∧ K.Up p.2 ∧ p.2.length ≤ 1000
theorem LR.below {w w' : World} {A : Option Addr} {vs : List (Value × List Nat)} (h : LR w A vs) (hb : Below w.heap.size w w') : LR w' A vs :=
  ⟨fun k hk => by
    obtain ⟨b, off, e, hl, hc⟩ := h.at_ k hk
    exact ⟨b, off, e, Nat.lt_of_lt_of_le hl hb.size, (hb.cell (p := ⟨b, off + k, none⟩) hl).trans hc⟩, fun p hp => ⟨(h.kx p hp).1.below hb, (h.kx p hp).2⟩⟩
/-- The k-th list of a row. -/
theorem LR.get {w : World} {A : Option Addr} {vs : List (Value × List Nat)} (h : LR w A vs) {k : Nat} (hk : k < vs.length) : ∃ b off B n c, A = some ⟨b, off, none⟩ ∧ w.cell? ⟨b, off + k, none⟩ = some (.slice B n c) ∧ (vs.map (·.2))[k]?.getD [] = vs[k].2 ∧ vs[k].2.length = n ∧ n ≤ 1000 ∧ KX w (.slice B n c) vs[k].2 ∧ K.Up vs[k].2 ∧ Rw w w.heap.size B vs[k].2 := by
  obtain ⟨b, off, e, _, hc⟩ := h.at_ k hk
  obtain ⟨h1, h2, h3⟩ := h.kx vs[k] (List.getElem_mem _)
  obtain ⟨B, c, hv, hr⟩ := kx_rwV h1
  rw [hv] at hc h1
  exact ⟨b, off, B, _, c, e, hc, by simp [hk], rfl, h3, h1, h2, hr⟩
end Go.Proofs.Ytepdhjcgpjjjlaa
end
section
namespace Go.Proofs.Ytepdhjcgpjjjlaa
set_option maxRecDepth 20000
open Go.RowKit Go.Shelf
namespace S
theorem flat_at {xss : List (List Nat)} {k : Nat} {x : List Nat} (h : xss[k]? = some x) : (xss.take (k + 1)).flatten = (xss.take k).flatten ++ x := by
  obtain ⟨hk, rfl⟩ := List.getElem?_eq_some_iff.1 h
  exact flat_succ xss hk
theorem cn_at {xss : List (List Nat)} {k : Nat} {x : List Nat} (h : xss[k]? = some x) (z : Nat) : cn (xss.take (k + 1)) z = cn (xss.take k) z + if z ∈ x then 1 else 0 := by
  obtain ⟨hk, rfl⟩ := List.getElem?_eq_some_iff.1 h
  exact cn_succ xss hk z
end S
set_option maxRecDepth 100000 in
set_option maxHeartbeats 4000000 in
theorem want_any (w : World) (A : Option Addr) (m c : Nat) (vs : List (Value × List Nat)) (hm : vs.length = m) (hr : LR w A vs) (few : m ≤ 10) (f t : Int) :
    Calls Try.prog 13 #[.slice A m c, .int .i64 f, .int .i64 t] w fun e w' => ∃ v, e = .returned v ∧ KX w' v (S.wt (vs.map (·.2)) f t) ∧ Below w.heap.size w w' := by
  obtain ⟨i0, hi, hz0, hz1, hz2⟩ := info_parts u64_info
  obtain ⟨xss, hx⟩ : ∃ l, vs.map (·.2) = l := ⟨_, rfl⟩
  have hxl : xss.length = m := by rw [← hx, List.length_map, hm]
  have hxb : ∀ x ∈ xss, x.length ≤ 1000 := fun x h => by
    rw [← hx] at h
    obtain ⟨p, hp, rfl⟩ := List.mem_map.1 h
    exact (hr.kx p hp).2.2
  have G : Hid (∀ W, Below w.heap.size w W → ∀ k, k < m → ∃ b off B n c, A = some ⟨b, off, none⟩ ∧ W.cell? ⟨b, off + k, none⟩ = some (.slice B n c) ∧ ∃ x, xss[k]? = some x ∧ x.length = n ∧ n ≤ 1000 ∧ KX W (.slice B n c) x ∧ K.Up x ∧ Rw W W.heap.size B x) := Lib.hid fun W hW k hk => by
    have hk' : k < vs.length := by omega
    obtain ⟨b, off, B, n, c, h1, h2, _, h4, h5, h6, h7, h8⟩ := (hr.below hW).get hk'
    exact ⟨b, off, B, n, c, h1, h2, vs[k].2, by rw [← hx]; simp [hk'], h4, h5, h6, h7, h8⟩
  have HF : Hid (∀ (k : Nat) (y : List Nat), y.length ≤ 1000 → (K.off ((xss.take k).flatten ++ y)).length ≤ 1000000) := Lib.hid fun k y hy => by
    have h1 := S.off_len ((xss.take k).flatten ++ y)
    have h2 := S.flat_le (xss.take k) 1000 fun x h => hxb x (List.mem_of_mem_take h)
    have h3 : (xss.take k).length ≤ 10 := by rw [List.length_take]; omega
    rw [List.length_append] at h1
    have h4 : (xss.take k).length * 1000 ≤ 10 * 1000 := Nat.mul_le_mul_right _ h3
    omega
  have HM : Hid (xss.take m = xss) := Lib.hid (by rw [← hxl, List.take_length])
  have HXL := Lib.hid hxl
  rw [hx]
  clear hr hm hxb hxl hx
  go_enter Try.func13, Try.ntmps13
  go_wp2
  go_loopw [7, 20] (fun v i wr => ∃ k : Nat, k ≤ m ∧ i = .int .i64 k ∧ Hid (KX wr v (K.off (xss.take k).flatten)) ∧ Hid (Below w.heap.size w wr)) (fun _ i _ => m - (intOf i).toNat)
  case atStart => exact ⟨0, by omega, rfl, Lib.hid (KX.nil _), Lib.hid (Below.refl _ _)⟩
  case round =>
    obtain ⟨k, hk, rfl, HK, HB⟩ := hrel
    by_cases hlt : k < m
    · obtain ⟨b, off, B, n, c', rfl, hc, x, hx1, hxn, hn, hkx, hux, hrx⟩ := G.out _ HB.out k hlt
      have d0 : (k : Int) < (m : Int) := by omega
      have wk : IntKind.i64.wrap ((k : Int) + 1) = (k : Int) + 1 := IntWalk.i64_in _ (by omega)
      have HS := Lib.hid (S.flat_at hx1)
      have HR := Lib.hid hrx
      have HN := Lib.hid hxn
      clear hkx hux hrx hx1 hxn
      go_wp2
      go_loopw [7, 26] (fun v i wq => ∃ j : Nat, j ≤ n ∧ i = .int .i64 j ∧ Hid (KX wq v (K.off ((xss.take k).flatten ++ x.take j))) ∧ Hid (Below wr.heap.size wr wq)) (fun _ i _ => n - (intOf i).toNat)
      case atStart => exact ⟨0, by omega, rfl, Lib.hid (by simpa using HK.out), Lib.hid (Below.refl _ _)⟩
      case round =>
        obtain ⟨j, hj, rfl, HK2, HB2⟩ := hrel
        by_cases h2 : j < n
        · have h2' : j < x.length := by rw [HN.out]; exact h2
          obtain ⟨b2, off2, rfl, _, hc2⟩ := (HR.out.below HB2.out (Nat.le_refl _)).at h2'
          have d1 : (j : Int) < (n : Int) := by omega
          have wj : IntKind.i64.wrap ((j : Int) + 1) = (j : Int) + 1 := IntWalk.i64_in _ (by omega)
          have hs2 : K.off ((xss.take k).flatten ++ x.take (j + 1)) = K.add (K.off ((xss.take k).flatten ++ x.take j)) x[j] := by
            rw [take_snocN h2', ← List.append_assoc, S.off_add]
          have hadd := k_add wr _ _ HK2.out (HF.out k _ (by rw [List.length_take]; omega)) x[j]
          rw [← hs2] at hadd
          have HA := Lib.hid hadd
          clear hs2 hadd
          generalize x[j] = z at *
          go_wp2_with (go_at_call 23; (with_reducible refine HA.out.mono ?_); rintro e w2 ⟨v2, rfl, hk3, hb3, _⟩; have HK3 := Lib.hid hk3; have HB3 := Lib.hid hb3; clear hk3 hb3)
          go_roundw
          case rel => exact ⟨j + 1, by omega, by go_num, HK3, Lib.hid (HB2.out.trans (HB3.out.mono HB2.out.size))⟩
          case measure => simp [intOf]; omega
        · have e1 : x.take j = x := List.take_of_length_le (by rw [HN.out]; omega)
          go_wp2
          go_roundw
          case rel => exact ⟨k + 1, by omega, by go_num, Lib.hid (by have := HK2.out; rw [e1, ← HS.out] at this; exact this), Lib.hid (HB.out.trans (HB2.out.mono HB.out.size))⟩
          case measure => simp [intOf]; omega
    · have hkm : k = m := by omega
      have hK := HK.out
      rw [hkm, HM.out] at hK
      rw [hkm]
      have hLl := HF.out m [] (by simp)
      rw [HM.out, List.append_nil] at hLl
      obtain ⟨L, hL⟩ : ∃ L, K.off xss.flatten = L := ⟨_, rfl⟩
      have HL := Lib.hid hL
      rw [hL] at hK hLl
      obtain ⟨na, hna⟩ : ∃ n, L.length = n := ⟨_, rfl⟩
      obtain ⟨A7, c7, rfl, hR⟩ := kx_rwV hK
      rw [hna] at hLl hK
      rw [hna]
      have HNA := Lib.hid hna
      have HR := Lib.hid hR
      clear hK hR hL hna HK hlt hk hkm
      go_wp2
      go_loopw [8, 37] (fun v i wq => ∃ j : Nat, j ≤ na ∧ i = .int .i64 j ∧ Hid (wq.ownsRow wr.heap.size 31 1 v ((L.take j).filter (S.inn xss f t)).length (wv ((L.take j).filter (S.inn xss f t)))) ∧ Hid (Below wr.heap.size wr wq)) (fun _ i _ => na - (intOf i).toNat)
      case atStart => exact ⟨0, by omega, rfl, Lib.hid (by simp [World.ownsRow_nil]), Lib.hid (Below.refl _ _)⟩
      case round =>
        obtain ⟨j, hj, rfl, HO, HB2⟩ := hrel
        by_cases h2 : j < na
        · have h2' : j < L.length := by rw [HNA.out]; exact h2
          obtain ⟨b2, off2, rfl, _, hc2⟩ := (HR.out.below HB2.out (Nat.le_refl _)).at h2'
          have d1 : (j : Int) < (na : Int) := by omega
          have wj : IntKind.i64.wrap ((j : Int) + 1) = (j : Int) + 1 := IntWalk.i64_in _ (by omega)
          have HS := Lib.hid (take_snocN h2')
          generalize L[j] = z at *
          have HBw := Lib.hid (HB.out.trans (HB2.out.mono HB.out.size))
          have HOB := Lib.hid (And.intro HO.out HB2.out)
          go_wp2
          go_loopw [15, 43] (fun v i wp => ∃ k : Nat, k ≤ m ∧ i = .int .i64 k ∧ v = .int .i64 (S.cn (xss.take k) z : Nat) ∧ Hid (Below wr.heap.size wr wp)) (fun _ i _ => m - (intOf i).toNat)
          case atStart => exact ⟨0, by omega, rfl, rfl, Lib.hid (Below.refl _ _)⟩
          case round =>
            obtain ⟨k, hk, rfl, rfl, HB3⟩ := hrel
            by_cases hlt : k < m
            · obtain ⟨b, off, B, n, c', rfl, hc, x, hx1, hxn, hn, hkx, hux, hrx⟩ := G.out _ (HBw.out.trans (HB3.out.mono HBw.out.size)) k hlt
              have d0 : (k : Int) < (m : Int) := by omega
              have wk : IntKind.i64.wrap ((k : Int) + 1) = (k : Int) + 1 := IntWalk.i64_in _ (by omega)
              have hs := S.cn_at hx1 z
              have hq : S.cn (xss.take k) z ≤ 10 := by
                have h1 := S.cn_le (xss.take k) z
                rw [List.length_take] at h1
                omega
              generalize S.cn (xss.take k) z = q at *
              have wq1 : IntKind.i64.wrap ((q : Int) + 1) = (q : Int) + 1 := IntWalk.i64_in _ (by omega)
              have HH := Lib.hid (fun b (hb : decide (z ∈ x) = b) => bk_has (w := wr) (W := wr) (M := [(.slice B n c', x)]) ⟨Below.refl _ _, fun p hp => by rcases List.mem_singleton.1 hp with rfl; exact hkx⟩ (v := .slice B n c') (xs := x) (by simp) hux (by omega) z hb)
              by_cases hz : z ∈ x
              · have HZ := Lib.hid (HH.out true (decide_eq_true hz))
                rw [if_pos hz] at hs
                have HS2 := Lib.hid hs
                clear hs hkx hux hrx hx1 hxn HH hq
                go_wp2_with (go_at_call 10; (with_reducible refine HZ.out.mono ?_); rintro e w8 ⟨rfl, h8⟩; have H8 := Lib.hid h8.low; clear h8)
                go_roundw
                case rel => exact ⟨k + 1, by omega, by go_num, by rw [HS2.out]; go_num, Lib.hid (HB3.out.trans (H8.out.mono HB3.out.size))⟩
                case measure => simp [intOf]; omega
              · have HZ := Lib.hid (HH.out false (decide_eq_false hz))
                rw [if_neg hz] at hs
                have HS2 := Lib.hid hs
                clear hs hkx hux hrx hx1 hxn HH hq
                go_wp2_with (go_at_call 10; (with_reducible refine HZ.out.mono ?_); rintro e w8 ⟨rfl, h8⟩; have H8 := Lib.hid h8.low; clear h8)
                go_roundw
                case rel => exact ⟨k + 1, by omega, by go_num, by rw [HS2.out]; rfl, Lib.hid (HB3.out.trans (H8.out.mono HB3.out.size))⟩
                case measure => simp [intOf]; omega
            · have hkm : k = m := by omega
              rw [hkm, HM.out]
              have hin : S.inn xss f t z = (decide (f ≤ (S.cn xss z : Int)) && decide ((S.cn xss z : Int) ≤ t)) := rfl
              generalize S.cn xss z = q at *
              have hown := own_belV HO.out HB3.out
              have hlow := HB2.out.trans (HB3.out.mono HB2.out.size)
              have hfl : ((L.take j).filter (S.inn xss f t)).length ≤ 1000000 := by
                have h1 := List.length_filter_le (S.inn xss f t) (L.take j)
                rw [List.length_take, HNA.out] at h1
                omega
              have hf1 : (L.take (j + 1)).filter (S.inn xss f t) = (L.take j).filter (S.inn xss f t) ++ if S.inn xss f t z then [z] else [] := by
                rw [HS.out, List.filter_append]
                cases hzz : S.inn xss f t z <;> simp [hzz]
              rw [hin] at hf1
              generalize (L.take j).filter (S.inn xss f t) = ds at *
              clear HO HOB hin hkm hlt hk
              have HOW := Lib.hid hown
              have HLW := Lib.hid hlow
              by_cases g1 : f ≤ (q : Int)
              · have e1 : decide (f ≤ (q : Int)) = true := decide_eq_true g1
                by_cases g2 : (q : Int) ≤ t
                · have e2 : decide ((q : Int) ≤ t) = true := decide_eq_true g2
                  rw [e1, e2] at hf1
                  have HF1 := Lib.hid hf1
                  clear hf1 hown hlow
                  go_wp2_with (at_builtin; refine wpList_append_own _ rfl _ _ 22 rfl _ 31 i0 (.int .u64 0) 1 8 Try.underlying22 hi hz0 hz1 hz2 rfl (by decide) _ _ _ rfl (HOW.out.alloc _) ⟨wr.heap.size, 0, none⟩ 1 1 [.int .u64 (z : Int)] rfl rfl ?c1 ?c2 ?c3 ?c4 ?c5 ?_)
                  case c1 => exact cell_one _ _ _
                  case c2 => first | exact one_int _ _ | rfl
                  case c3 => unfold maxLen; omega
                  case c4 => omega
                  case c5 => have := HLW.out.size; simp; omega
                  intro v' w1 hown' hgrow _
                  obtain ⟨hown2, hb2⟩ := own_snocN HLW.out HOW.out hown' hgrow
                  clear hown' hgrow
                  have HO2 := Lib.hid hown2
                  have HB4 := Lib.hid hb2
                  clear hown2 hb2
                  go_wp2
                  go_roundw
                  case rel => exact ⟨j + 1, by omega, by go_num, Lib.hid (by rw [HF1.out]; exact HO2.out), HB4⟩
                  case measure => simp [intOf]; omega
                · have e2 : decide ((q : Int) ≤ t) = false := decide_eq_false g2
                  rw [e1, e2] at hf1
                  have HF1 := Lib.hid hf1
                  clear hf1 hown hlow
                  go_wp2
                  go_roundw
                  case rel => exact ⟨j + 1, by omega, by go_num, Lib.hid (by rw [HF1.out]; simpa using HOW.out), HLW⟩
                  case measure => simp [intOf]; omega
              · have e1 : decide (f ≤ (q : Int)) = false := decide_eq_false g1
                rw [e1] at hf1
                have HF1 := Lib.hid hf1
                clear hf1 hown hlow
                go_wp2
                go_roundw
                case rel => exact ⟨j + 1, by omega, by go_num, Lib.hid (by rw [HF1.out]; simpa using HOW.out), HLW⟩
                case measure => simp [intOf]; omega
        · have e1 : L.take j = L := List.take_of_length_le (by rw [HNA.out]; omega)
          go_wp2
          go_ret
          refine ⟨_, rfl, ?_, HB.out.trans (HB2.out.mono HB.out.size)⟩
          have h3 := HO.out
          rw [e1] at h3
          have h4 : S.wt xss f t = L.filter (S.inn xss f t) := by unfold S.wt; rw [HL.out]
          rw [h4]
          exact own_baseG h3 (Nat.zero_le _)
end Go.Proofs.Ytepdhjcgpjjjlaa
end
section
namespace Go.Proofs.Ytepdhjcgpjjjlaa
set_option maxRecDepth 20000
open Go.RowKit Go.Shelf
/-- The function value is slices.Values of a row of these keys; N: its blocks. -/
def Vq (W : World) (f : Value) (xs : List Nat) (N : Nat → Prop) : Prop := xs.length ≤ 100000000 ∧ ∃ Bn v, f = .func (.func 36) #[] #[.pointer (some ⟨Bn, 0, none⟩)] ∧ KX W v xs ∧ W.heap[Bn]? = some (.cells #[v] 22 (0, 0)) ∧ ∀ j, N j ↔ (j = Bn ∨ v.ownBlock = some j)
theorem Vq.but {W W' : World} {f : Value} {xs : List Nat} {N S : Nat → Prop} (h : Vq W f xs N) (hb : ButS W W' S) (hS : ∀ j, N j → ¬ S j) : Vq W' f xs N := by
  obtain ⟨hl, Bn, v, rfl, hk, hc, hN⟩ := h
  exact ⟨hl, Bn, v, rfl, hb.own hk (fun k hk' => hS k ((hN k).2 (.inr hk'))), (hb.block Bn (Array.getElem?_eq_some_iff.1 hc).1 (hS Bn ((hN Bn).2 (.inl rfl)))).trans hc, hN⟩
theorem Vq.below {W W' : World} {f : Value} {xs : List Nat} {N : Nat → Prop} (h : Vq W f xs N) (hb : Below W.heap.size W W') : Vq W' f xs N := by
  obtain ⟨hl, Bn, v, rfl, hk, hc, hN⟩ := h
  exact ⟨hl, Bn, v, rfl, hk.below hb, (hb.block Bn (Array.getElem?_eq_some_iff.1 hc).1).trans hc, hN⟩
theorem Vq.lt {W : World} {f : Value} {xs : List Nat} {N : Nat → Prop} (h : Vq W f xs N) {j : Nat} (hj : N j) : j < W.heap.size := by
  obtain ⟨_, Bn, v, _, hk, hc, hN⟩ := h
  rcases (hN j).1 hj with rfl | h2
  · exact (Array.getElem?_eq_some_iff.1 hc).1
  · exact (own_ltG hk h2).1
theorem Vq.form {W : World} {f : Value} {xs : List Nat} {N : Nat → Prop} (h : Vq W f xs N) : ∃ Bn, f = .func (.func 36) #[] #[.pointer (some ⟨Bn, 0, none⟩)] := by
  obtain ⟨_, Bn, v, e, _⟩ := h
  exact ⟨Bn, e⟩
theorem Vq.sx {W : World} {f : Value} {xs : List Nat} {N : Nat → Prop} (h : Vq W f xs N) : Sx W f xs := by
  obtain ⟨hl, Bn, v, rfl, hk, hc, _⟩ := h
  refine ⟨fun j => v.ownBlock = some j, fun j hj => (own_ltG hk hj).1, .inr ⟨_, _, rfl, enters_of Try.func36 (by kernel_rfl) rfl, fun j hj => (own_ltG hk hj).1, fun n => ?_⟩⟩
  exact values_seq n Bn v xs W hk (by omega) (cell_of_row _ _ 0 _ _ (0, 0) hc) (Array.getElem?_eq_some_iff.1 hc).1
theorem values_raw (w : World) (v : Value) (xs : List Nat) (hk : KX w v xs) (hl : xs.length ≤ 100000000) :
    Calls Try.prog 24 #[v] w fun e w' => ∃ f, e = .returned f ∧ Vq w' f xs (fun j => j = w.heap.size ∨ v.ownBlock = some j) ∧ Below w.heap.size w w' := by
  obtain ⟨A, c, rfl⟩ := K.own_form hk
  refine (values_any w A xs.length c).mono ?_
  rintro e w' ⟨rfl, rfl⟩
  have hb : Below w.heap.size w (w.alloc (.cells #[.slice A xs.length c] 22)) := (Below.refl _ w).alloc (Nat.le_refl _) _
  exact ⟨_, rfl, ⟨hl, _, _, rfl, hk.below hb, K.alloc_top _ _, fun j => Iff.rfl⟩, hb⟩
set_option maxHeartbeats 4000000 in
theorem of_raw (w : World) (v : Value) (xs ks : List Nat) (hk : KX w v xs) (hl : xs.length ≤ 100000000) (hu : K.Up ks) (hm : ∀ x, x ∈ ks ↔ x ∈ xs) :
    Calls Try.prog 9 #[v] w fun e w' => ∃ f N, e = .returned f ∧ Vq w' f ks N ∧ (∀ j, N j → w.heap.size ≤ j) ∧ Below w.heap.size w w' := by
  have H := Lib.hid (values_sq w v xs hk (by omega))
  have HL := Lib.hid hl
  have HUM := Lib.hid (And.intro hu hm)
  clear hk hl hu hm
  go_enter Try.func9, Try.ntmps9
  go_wp2_with (first
    | (go_at_call 24; (with_reducible refine H4.out.mono ?_); rintro e w4 ⟨f4, rfl, hs4, hb4⟩; have H5 := Lib.hid (And.intro hs4 (And.intro HN3.out (HB3.out.trans (hb4.mono HB3.out.size)))); clear hs4 hb4)
    | (go_at_call 25; (with_reducible refine HC.out.mono ?_); rintro e w3 ⟨v3, zs, rfl, hz1, hz2, hz3, hz4, hb3⟩
       have hzs := S.cast_back (xs := xs) hz1 HUM.out.1 (fun x => (hz2 x).trans (HY.out.2 x)) HUM.out.2
       have hlz : ks.length ≤ 100000000 := by
         have e1 := hz4
         rw [hzs, List.length_map, HY.out.1] at e1
         have := HL.out
         omega
       have hkx : KX w3 v3 ks := by
         have e1 := hz3
         rw [hzs, hv_cast, List.length_map] at e1
         exact rowV e1
       have HB3 := Lib.hid (HB2.out.trans (hb3.mono HB1.out.size))
       have HN3 := Lib.hid (fun j (hj : j = w3.heap.size ∨ v3.ownBlock = some j) => (hj.elim (fun e => e ▸ HB3.out.size) (fun e => Nat.le_trans HB1.out.size (hz3.lt j e).1) : w.heap.size ≤ j))
       have H4 := Lib.hid (values_raw w3 v3 ks hkx (by omega))
       clear hz1 hz2 hz3 hz4 hb3 hzs hlz hkx)
    | (go_at_call 24; (with_reducible refine H.out.mono ?_); rintro e w1 ⟨f1, g1, lb1, rfl, hs1, hb1⟩; have HB1 := Lib.hid hb1; have HS1 := Lib.hid (sorted_seq w1 f1 xs g1 lb1 _ hs1 HL.out); clear hs1 hb1)
    | (go_at_call 26; (with_reducible refine HS1.out.mono ?_); rintro e w2 ⟨v2, ys, rfl, hyl, hym, hyp, hyo, hb2⟩
       have HC := Lib.hid (comp_anyV w2 w1.heap.size v2 ys hyo hb2.size hyp (by rw [hyl]; exact HL.out))
       have HY := Lib.hid (And.intro hyl hym)
       have HB2 := Lib.hid (HB1.out.trans (hb2.mono HB1.out.size))
       clear hyl hym hyp hyo hb2))
  go_ret
  exact ⟨_, _, rfl, H5.out.1, H5.out.2.1, H5.out.2.2⟩
end Go.Proofs.Ytepdhjcgpjjjlaa
end
