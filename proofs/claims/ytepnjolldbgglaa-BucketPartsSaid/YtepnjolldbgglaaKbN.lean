
/- What a law of buckets keeps: lists of its own that stay; awake; the text walked. -/
import Derived.Test.YtepnjolldbgglaaKbS
namespace Go.Proofs.Ytepnjolldbgglaa.Kb
open Go.RowKit
theorem up_eq {l m : List Nat} (hl : K.Up l) (hm : K.Up m) (h : ∀ x, x ∈ l ↔ x ∈ m) : l = m := by
  have e : iz l = iz m := M.sorted_ext (iz_up hl) (iz_up hm) fun x => by
    rw [iz_mem, iz_mem]
    exact ⟨fun ⟨j, a, b⟩ => ⟨j, (h j).1 a, b⟩, fun ⟨j, a, b⟩ => ⟨j, (h j).2 a, b⟩⟩
  exact (List.map_inj_right (f := fun x : Nat => (x : Int)) (fun a b (e : (a : Int) = (b : Int)) => by omega)).1 e
theorem offs {l : List Nat} : ∀ {acc : List Nat}, K.Up acc → K.Up (l.foldl K.add acc) ∧ ∀ x, x ∈ l.foldl K.add acc ↔ x ∈ acc ∨ x ∈ l := by
  induction l with
  | nil => intro acc h; exact ⟨h, fun x => by simp⟩
  | cons a l ih =>
    intro acc h
    obtain ⟨h1, h2⟩ := ih (K.add_up h a)
    refine ⟨h1, fun x => ?_⟩
    rw [List.foldl_cons, h2 x, K.add_mem h, List.mem_cons]
    constructor
    · rintro ((h | h) | h)
      · exact .inr (.inl h)
      · exact .inl h
      · exact .inr (.inr h)
    · rintro (h | h | h)
      · exact .inl (.inr h)
      · exact .inl (.inl h)
      · exact .inr h
theorem off_up' (l : List Nat) : K.Up (K.off l) := (offs List.Pairwise.nil).1
theorem off_mem' (l : List Nat) (x : Nat) : x ∈ K.off l ↔ x ∈ l := by
  have := (offs (l := l) (acc := []) List.Pairwise.nil).2 x
  unfold K.off
  rw [this]
  simp
theorem off_len' (l : List Nat) : (K.off l).length ≤ l.length := by
  have := K.off_len l l.length
  rwa [List.take_length] at this
theorem kx_rw' {w : World} {v : Value} {xs : List Nat} (h : KX w v xs) : ∃ A c, v = .slice A xs.length c ∧ Rw w w.heap.size A xs := by
  obtain ⟨A, c, h1, h2, _⟩ := Rw.of_own (h : w.ownsRow 0 23 1 v xs.length (wv xs))
  exact ⟨A, c, h1, h2⟩
theorem kn_form {w w' : World} {v : Value} {xs : List Nat} (h : KN w w' v xs) : ∃ A c, v = .slice A xs.length c := by
  obtain ⟨A, c, h, _, _⟩ := kx_rh h.kx
  exact ⟨A, c, h⟩
/-- The law's lists, each as it was made. -/
structure BS (w W : World) (S : List (Value × List Nat)) : Prop where
  low : Below w.heap.size w W
  kx : ∀ p ∈ S, KX W p.1 p.2
theorem BS.below {w W W' : World} {S : List (Value × List Nat)} (h : BS w W S) (hb : Below W.heap.size W W') : BS w W' S :=
  ⟨h.low.trans (hb.mono h.low.size), fun p hp => (h.kx p hp).below hb⟩
theorem BS.push {w W W' : World} {S : List (Value × List Nat)} (h : BS w W S) (hb : Below W.heap.size W W') {v : Value} {xs : List Nat} (hk : KX W' v xs) : BS w W' ((v, xs) :: S) :=
  ⟨(h.below hb).low, fun p hp => by
    rcases List.mem_cons.1 hp with rfl | hp
    · exact hk
    · exact (h.below hb).kx p hp⟩
theorem BS.drew {w W : World} {S : List (Value × List Nat)} (h : BS w W S) : BS w W.drew S := h.below (bel_d (Below.refl _ _))
theorem BS.drewN {w W : World} {S : List (Value × List Nat)} (h : BS w W S) (n : Nat) : BS w (W.drewN n) S := h.below ⟨rfl, rfl, rfl, Nat.le_refl _, fun _ _ => rfl⟩
section
variable {w W : World} {S : List (Value × List Nat)} {v : Value} {xs : List Nat}
theorem bs_add (h : BS w W S) (hm : (v, xs) ∈ S) (hu : K.Up xs) (few : xs.length ≤ 1000000) (k : Nat) {f : Bool} {ys : List Nat} (e1 : (!K.fo xs k) = f) (e2 : K.add xs k = ys) :
    Calls Try.prog 11 #[v, .int .u64 (k : Int)] W fun e w' => ∃ A c, e = .returned (.tuple #[.slice A ys.length c, .bool f]) ∧ BS w w' ((.slice A ys.length c, ys) :: S) := by
  subst e1 e2
  refine (b_add W v xs (h.kx _ hm) hu few k).mono ?_
  rintro e w' ⟨v', rfl, h1, h2⟩
  obtain ⟨A, c, rfl⟩ := kn_form h1
  exact ⟨A, c, rfl, h.push h2 h1.kx⟩
theorem bs_drop (h : BS w W S) (hm : (v, xs) ∈ S) (hu : K.Up xs) (few : xs.length ≤ 1000000) (k : Nat) {f : Bool} {ys : List Nat} (e1 : (K.fo xs k) = f) (e2 : K.drop xs k = ys) :
    Calls Try.prog 12 #[v, .int .u64 (k : Int)] W fun e w' => ∃ A c, e = .returned (.tuple #[.slice A ys.length c, .bool f]) ∧ BS w w' ((.slice A ys.length c, ys) :: S) := by
  subst e1 e2
  refine (b_drop W v xs (h.kx _ hm) hu few k).mono ?_
  rintro e w' ⟨v', rfl, h1, h2⟩
  obtain ⟨A, c, rfl⟩ := kn_form h1
  exact ⟨A, c, rfl, h.push h2 h1.kx⟩
theorem bs_split (h : BS w W S) (hm : (v, xs) ∈ S) (few : xs.length ≤ 1000000) {a b : List Nat} (e1 : xs.take (xs.length - xs.length / 2) = a) (e2 : xs.drop (xs.length - xs.length / 2) = b) :
    Calls Try.prog 22 #[v] W fun e w' => ∃ A c B d, e = .returned (.tuple #[.slice A a.length c, .slice B b.length d]) ∧ BS w w' ((.slice A a.length c, a) :: (.slice B b.length d, b) :: S) := by
  subst e1 e2
  refine (b_split W v xs (h.kx _ hm) few).mono ?_
  rintro e w' ⟨v1, v2, rfl, h1, h2, h3⟩
  obtain ⟨A, c, rfl⟩ := kn_form h1
  obtain ⟨B, d, rfl⟩ := kn_form h2
  refine ⟨A, c, B, d, rfl, (h.below h3).low, fun p hp => ?_⟩
  rcases List.mem_cons.1 hp with rfl | hp
  · exact h1.kx
  · rcases List.mem_cons.1 hp with rfl | hp
    · exact h2.kx
    · exact (h.below h3).kx p hp
theorem bs_has (h : BS w W S) (hm : (v, xs) ∈ S) (hu : K.Up xs) (few : xs.length ≤ 1000000) (k : Nat) {f : Bool} (e1 : K.fo xs k = f) :
    Calls Try.prog 19 #[v, .int .u64 (k : Int)] W fun e w' => e = .returned (.bool f) ∧ BS w w' S := by
  subst e1
  refine (b_has W v xs (h.kx _ hm) hu few k).mono ?_
  rintro e w' ⟨rfl, rfl⟩
  exact ⟨rfl, h⟩
theorem bs_next (h : BS w W S) (hm : (v, xs) ∈ S) (hu : K.Up xs) (few : xs.length ≤ 1000000) (k : Nat) {x : Nat} {f : Bool} (e1 : K.nx xs k = x) (e2 : K.nxb xs k = f) :
    Calls Try.prog 13 #[v, .int .u64 (k : Int)] W fun e w' => e = .returned (.tuple #[.int .u64 (x : Int), .bool f]) ∧ BS w w' S := by
  subst e1 e2
  refine (b_next W v xs (h.kx _ hm) hu few k).mono ?_
  rintro e w' ⟨rfl, rfl⟩
  exact ⟨rfl, h⟩
theorem bs_prev (h : BS w W S) (hm : (v, xs) ∈ S) (hu : K.Up xs) (few : xs.length ≤ 1000000) (k : Nat) {x : Nat} {f : Bool} (e1 : K.pv xs k = x) (e2 : K.pvb xs k = f) :
    Calls Try.prog 15 #[v, .int .u64 (k : Int)] W fun e w' => e = .returned (.tuple #[.int .u64 (x : Int), .bool f]) ∧ BS w w' S := by
  subst e1 e2
  refine (b_prev W v xs (h.kx _ hm) hu few k).mono ?_
  rintro e w' ⟨rfl, rfl⟩
  exact ⟨rfl, h⟩
theorem bs_is (h : BS w W S) (hm : (v, xs) ∈ S) (few : xs.length ≤ 1000000) {f : Bool} (e1 : decide (K.Up xs) = f) :
    Calls Try.prog 18 #[v] W fun e w' => e = .returned (.bool f) ∧ BS w w' S := by
  subst e1
  refine (b_is W v xs (h.kx _ hm) few).mono ?_
  rintro e w' ⟨rfl, q, rfl⟩
  exact ⟨rfl, h.drewN q⟩
theorem bs_same (h : BS w W S) {v2 : Value} {ys : List Nat} (hm : (v, xs) ∈ S) (hm2 : (v2, ys) ∈ S) (few : xs.length ≤ 1000000) (few2 : ys.length ≤ 1000000) {f : Bool} (e1 : decide (xs = ys) = f) :
    Calls Try.prog 17 #[v, v2] W fun e w' => e = .returned (.bool f) ∧ BS w w' S := by
  subst e1
  obtain ⟨A, c, e, hr⟩ := kx_rw' (h.kx _ hm)
  obtain ⟨A2, c2, e2, hr2⟩ := kx_rw' (h.kx _ hm2)
  dsimp only at e e2
  subst e e2
  refine (ref_samekeys A A2 c c2 xs ys W _ _ hr hr2 (by omega) (by omega)).mono ?_
  rintro e w' ⟨rfl, q, rfl⟩
  exact ⟨rfl, h.drewN q⟩
theorem bs_merge (h : BS w W S) {v2 : Value} {ys zs : List Nat} (hm : (v, xs) ∈ S) (hm2 : (v2, ys) ∈ S) (few : xs.length ≤ 400000) (few2 : ys.length ≤ 400000) (hz : K.Up zs) (hmz : ∀ x, x ∈ zs ↔ x ∈ xs ∨ x ∈ ys) :
    Calls Try.prog 23 #[.slice (some ⟨W.heap.size, 0, none⟩) 2 2] (W.alloc (.cells #[v, v2] 22)) fun e w' => ∃ A c, e = .returned (.slice A zs.length c) ∧ BS w w' ((.slice A zs.length c, zs) :: S) := by
  refine (merge_two W v v2 xs ys zs (h.kx _ hm) (h.kx _ hm2) hz hmz few few2).mono ?_
  rintro e w' ⟨v', rfl, h1, h2⟩
  obtain ⟨A, c, rfl⟩ := kn_form h1
  exact ⟨A, c, rfl, h.push h2 h1.kx⟩
theorem bs_of (h : BS w W S) {zs : List Nat} (hm : (v, xs) ∈ S) (few : xs.length ≤ 400000) (hz : K.Up zs) (hmz : ∀ x, x ∈ zs ↔ x ∈ xs) :
    Calls Try.prog 9 #[v] W fun e w' => ∃ A c, e = .returned (.slice A zs.length c) ∧ BS w w' ((.slice A zs.length c, zs) :: S) := by
  refine (b_of W v xs zs (h.kx _ hm) hz hmz few).mono ?_
  rintro e w' ⟨v', rfl, h1, h2⟩
  obtain ⟨A, c, rfl⟩ := kn_form h1
  exact ⟨A, c, rfl, h.push h2 h1.kx⟩
theorem bs_rof (h : BS w W S) {zs : List Nat} (hm : (v, xs) ∈ S) (few : xs.length ≤ 1000000) (hz : K.off xs = zs) :
    Calls Try.prog 8 #[v] W fun e w' => ∃ A c, e = .returned (.slice A zs.length c) ∧ BS w w' ((.slice A zs.length c, zs) :: S) := by
  subst hz
  refine (k_of W v xs (h.kx _ hm) few).mono ?_
  rintro e w' ⟨v', rfl, h1, h2, _⟩
  obtain ⟨A, c, rfl, _⟩ := kx_rw' h1
  exact ⟨A, c, rfl, h.push h2 h1⟩
theorem bs_words (h : BS w W S) (A : Option Addr) (cp : Nat) (l : List Nat) (n : Nat) (hr : Rw w w.heap.size A l) (hl : l.length ≤ 9223372036854775807) (hn : n ≤ 1000000) {zs : List Nat} (hz : l.take n = zs) :
    Calls Try.prog 7 #[.slice A l.length cp, .int .i64 (n : Int)] W fun e w' => ∃ A' c', e = .returned (.slice A' zs.length c') ∧ BS w w' ((.slice A' zs.length c', zs) :: S) := by
  subst hz
  refine (ref_words_own A cp l n W ((hr.below h.low (Nat.le_refl _)).more h.low.size) hl hn).mono ?_
  rintro e w' ⟨v, rfl, ho, hb2⟩
  have hk : KN W w' v (l.take n) := ho
  obtain ⟨A', c', rfl⟩ := kn_form hk
  exact ⟨A', c', rfl, h.push hb2 hk.kx⟩
end
theorem kx_lit (w : World) (xs : List Nat) (hl : xs.length ≤ 1000) : KX (w.alloc (.cells (wv xs).toArray 23)) (.slice (some ⟨w.heap.size, 0, none⟩) xs.length xs.length) xs :=
  ⟨by simp [wv], .inr ⟨w.heap.size, xs.length, (wv xs).toArray, rfl, Nat.zero_le _, K.alloc_top w _, Nat.le_refl _, by unfold maxLen; omega, by simp [wv], by simp [wv, List.take_of_length_le]⟩⟩
set_option maxHeartbeats 4000000 in
theorem awake_any (w : World) : Calls Try.prog 6 #[] w fun e w' => e = .returned (.bool true) ∧ Below w.heap.size w w' := by
  have h0 : BS w (w.alloc (.cells #[.int .u64 1, .int .u64 2, .int .u64 3] 23)) [(.slice (some ⟨w.heap.size, 0, none⟩) 3 3, [1, 2, 3])] :=
    ⟨bel_a _ _, fun p hp => by rcases List.mem_singleton.1 hp with rfl; exact kx_lit w [1, 2, 3] (by simp)⟩
  have C1 : Hid (Calls Try.prog 22 #[.slice (some ⟨w.heap.size, 0, none⟩) 3 3] (w.alloc (.cells #[.int .u64 1, .int .u64 2, .int .u64 3] 23)) fun e w' => ∃ A c g d, e = .returned (.tuple #[.slice A 2 c, .slice (some ⟨g, 0, none⟩) 1 d]) ∧ w'.cell? ⟨g, 0, none⟩ = some (.int .u64 3) ∧ BS w w' [(.slice A 2 c, [1, 2])]) := Lib.hid (by
    refine (bs_split h0 (xs := [1, 2, 3]) (by simp) (by simp) (a := [1, 2]) (b := [3]) rfl rfl).mono ?_
    rintro e w2 ⟨A, c, B, d, rfl, h2⟩
    rcases (h2.kx (.slice B 1 d, [3]) (by simp)).form with ⟨e, _⟩ | ⟨g, c', e, _, _, hc⟩
    · simp at e
    · simp at e
      obtain ⟨rfl, rfl⟩ := e
      exact ⟨A, c, g, d, rfl, hc 0 (by simp), h2.low, fun p hp => h2.kx p (by rcases List.mem_singleton.1 hp with rfl; simp)⟩)
  have C2 : Hid (∀ A c W, BS w W [(.slice A 2 c, [1, 2])] → Calls Try.prog 19 #[.slice A 2 c, .int .u64 2] W fun e w' => e = .returned (.bool true) ∧ BS w w' [(.slice A 2 c, [1, 2])]) :=
    Lib.hid fun A c W h => bs_has h (xs := [1, 2]) (by simp) (by decide) (by simp) 2 (by decide)
  clear h0
  go_enter Try.func6, Try.ntmps6
  go_wp2_with (first
    | (go_at_call 22; (with_reducible refine C1.out.mono ?_); rintro e w2 ⟨A, c, g, d, rfl, hc, h2⟩; have H2 := Lib.hid h2; have hcd : w2.drew.cell? ⟨g, 0, none⟩ = some (.int .u64 3) := hc; clear h2)
    | (go_at_call 19; (with_reducible refine (C2.out _ _ _ (by first | exact H2.out | exact H2.out.drew)).mono ?_); rintro e w3 ⟨rfl, h3⟩; replace h3 := Lib.hid h3))
  go_ret
  exact ⟨rfl, h3.out.low⟩
end Go.Proofs.Ytepnjolldbgglaa.Kb
