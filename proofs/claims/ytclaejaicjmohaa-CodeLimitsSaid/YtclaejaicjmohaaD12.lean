
/- What a law keeps of rows of bytes and of words; the law's example: awake; the text walked. -/
import Derived.Test.YtclaejaicjmohaaD11
namespace Go.Proofs.Ytclaejaicjmohaa
set_option maxRecDepth 20000
open Go.RowKit
namespace E
theorem Rd.ex (p : List Nat) : ∃ n k, Rd p n k := by
  by_cases h : ∃ m, m < 2 ^ 64 ∧ E.enc m <+: p
  · obtain ⟨m, hm, r, rfl⟩ := h
    exact ⟨m, _, Rd.enc hm r⟩
  · exact ⟨0, 0, .inr ⟨rfl, rfl, fun m hm hp => h ⟨m, hm, hp⟩⟩⟩
/-- The slice holds these bytes, in a block that nobody writes. -/
def BX (w : World) (v : Value) (bs : List Nat) : Prop := w.ownsRow 0 5 1 v bs.length (bv bs)
theorem BX.rb {w : World} {A : Option Addr} {n c : Nat} {bs : List Nat} (h : BX w (.slice A n c) bs) : bs.length = n ∧ n ≤ c ∧ Rb w w.heap.size A bs := by
  obtain ⟨A', c', e, hc, hr⟩ := own_rb h
  injection e with e1 e2 e3
  subst e1 e2 e3
  exact ⟨rfl, hc, hr⟩
theorem BX.form {w : World} {v : Value} {bs : List Nat} (h : BX w v bs) : ∃ A c, v = .slice A bs.length c := own_formB h
theorem KX.rwE {w : World} {A : Option Addr} {n c : Nat} {xs : List Nat} (h : KX w (.slice A n c) xs) : xs.length = n ∧ Rw w w.heap.size A xs := by
  obtain ⟨A', c', e, hr, _⟩ := Rw.of_own (h : w.ownsRow 0 22 1 _ xs.length (wv xs))
  injection e with e1 e2 e3
  subst e1 e2 e3
  exact ⟨rfl, hr⟩
/-- What stays: rows of bytes, rows of words. -/
structure Bb (w W : World) (M N : List (Value × List Nat)) : Prop where
  low : Below w.heap.size w W
  bx : ∀ p ∈ M, BX W p.1 p.2
  kx : ∀ p ∈ N, KX W p.1 p.2
section
variable {w W : World} {M N : List (Value × List Nat)}
theorem Bb.below {W' : World} (h : Bb w W M N) (hb : Below W.heap.size W W') : Bb w W' M N :=
  ⟨h.low.trans (hb.mono h.low.size), fun p hp => own_bel (h.bx p hp) hb, fun p hp => (h.kx p hp).below hb⟩
theorem Bb.rb (h : Bb w W M N) {A : Option Addr} {n c : Nat} {xs : List Nat} (m : (Value.slice A n c, xs) ∈ M) : xs.length = n ∧ n ≤ c ∧ Rb W W.heap.size A xs := (h.bx _ m).rb
theorem Bb.rw (h : Bb w W M N) {A : Option Addr} {n c : Nat} {xs : List Nat} (m : (Value.slice A n c, xs) ∈ N) : xs.length = n ∧ Rw W W.heap.size A xs := KX.rwE (h.kx _ m)
theorem Bb.push {W' : World} (h : Bb w W M N) (hb : Below W.heap.size W W') {v : Value} {bs : List Nat} (hx : BX W' v bs) : Bb w W' ((v, bs) :: M) N :=
  ⟨(h.below hb).low, fun p hp => by
    rcases List.mem_cons.1 hp with rfl | hp
    · exact hx
    · exact (h.below hb).bx p hp, (h.below hb).kx⟩
theorem Bb.pushW {W' : World} (h : Bb w W M N) (hb : Below W.heap.size W W') {v : Value} {xs : List Nat} (hx : KX W' v xs) : Bb w W' M ((v, xs) :: N) :=
  ⟨(h.below hb).low, (h.below hb).bx, fun p hp => by
    rcases List.mem_cons.1 hp with rfl | hp
    · exact hx
    · exact (h.below hb).kx p hp⟩
theorem bb_bytes (h : Bb w W M N) (A : Option Addr) (cp : Nat) (xs : List Nat) (n : Nat) (hr : Rb w w.heap.size A xs) (hl : xs.length ≤ 9223372036854775807) (hn : n ≤ 1000000) {ys : List Nat} {m : Nat} (hy : xs.take n = ys) (hm : ys.length = m) :
    Calls Try.prog 9 #[.slice A xs.length cp, .int .i64 (n : Int)] W fun e w' => ∃ A' c', e = .returned (.slice A' m c') ∧ Bb w w' ((.slice A' m c', ys) :: M) N := by
  subst hm hy
  refine (ref_bytes A cp xs n W ((hr.below h.low (Nat.le_refl _)).more h.low.size) hl hn).mono ?_
  rintro e w' ⟨v, rfl, hr2, hb⟩
  obtain ⟨A', c', rfl⟩ := own_formB hr2
  exact ⟨A', c', rfl, h.push hb (own_less hr2 (Nat.zero_le _))⟩
/-- A copy that may be written: it isn't kept. -/
theorem bb_copy (h : Bb w W M N) {A : Option Addr} {m c : Nat} {xs : List Nat} (hm : (Value.slice A m c, xs) ∈ M) (n : Nat) (hl : m ≤ n) (hn : n ≤ 1000000) :
    Calls Try.prog 9 #[.slice A m c, .int .i64 (n : Int)] W fun e w' => ∃ A' c', e = .returned (.slice A' m c') ∧ w'.ownsRow W.heap.size 5 1 (.slice A' m c') m (bv xs) ∧ Below W.heap.size W w' := by
  obtain ⟨hx, _, hr⟩ := h.rb hm
  subst hx
  refine (ref_bytes A c xs n W hr (by omega) hn).mono ?_
  rintro e w' ⟨v, rfl, hr2, hb⟩
  rw [List.take_of_length_le hl] at hr2
  obtain ⟨A', c', rfl⟩ := own_formB hr2
  exact ⟨A', c', rfl, hr2, hb⟩
theorem bb_words (h : Bb w W M N) (A : Option Addr) (cp : Nat) (xs : List Nat) (n : Nat) (hr : Rw w w.heap.size A xs) (hl : xs.length ≤ 9223372036854775807) (hn : n ≤ 1000000) {ys : List Nat} {m : Nat} (hy : xs.take n = ys) (hm : ys.length = m) :
    Calls Try.prog 10 #[.slice A xs.length cp, .int .i64 (n : Int)] W fun e w' => ∃ A' c', e = .returned (.slice A' m c') ∧ Bb w w' M ((.slice A' m c', ys) :: N) := by
  subst hm hy
  refine (ref_words_own A cp xs n W ((hr.below h.low (Nat.le_refl _)).more h.low.size) hl hn).mono ?_
  rintro e w' ⟨v, rfl, hr2, hb⟩
  obtain ⟨A', c', rfl⟩ := own_formW hr2
  exact ⟨A', c', rfl, h.pushW hb (own_less hr2 (Nat.zero_le _))⟩
theorem bb_same (h : Bb w W M N) {A B : Option Addr} {n m c d : Nat} {xs ys : List Nat} (m1 : (Value.slice A n c, xs) ∈ M) (m2 : (Value.slice B m d, ys) ∈ M) (l1 : n ≤ 1000000000) (l2 : m ≤ 1000000000) {b : Bool} (hb : decide (xs = ys) = b) :
    Calls Try.prog 13 #[.slice A n c, .slice B m d] W fun e w' => e = .returned (.bool b) ∧ Bb w w' M N := by
  subst hb
  obtain ⟨e1, _, r1⟩ := h.rb m1
  obtain ⟨e2, _, r2⟩ := h.rb m2
  subst e1 e2
  refine (ref_samebytes A B c d xs ys W _ _ r1 r2 (by omega) (by omega)).mono ?_
  rintro e w' ⟨rfl, n, rfl⟩
  exact ⟨rfl, h.below (bel2 _ _)⟩
theorem bb_number (h : Bb w W M N) {n : Nat} (hn : n < 18446744073709551616) {m : Nat} (hm : (enc n).length = m) : Calls Try.prog 11 #[.int .u64 (n : Int)] W fun e w' => ∃ A c, e = .returned (.slice A m c) ∧ Bb w w' ((.slice A m c, enc n) :: M) N := by
  subst hm
  refine (number_any W n hn).mono ?_
  rintro e w' ⟨v, rfl, ho, hb⟩
  obtain ⟨A, c, rfl⟩ := own_formB ho
  exact ⟨A, c, rfl, h.push hb (own_less ho (Nat.zero_le _))⟩
theorem bb_refnum (h : Bb w W M N) {n : Nat} (hn : n < 18446744073709551616) {m : Nat} (hm : (enc n).length = m) : Calls Try.prog 14 #[.int .u64 (n : Int)] W fun e w' => ∃ A c, e = .returned (.slice A m c) ∧ Bb w w' ((.slice A m c, enc n) :: M) N := by
  subst hm
  refine (refnum_any n n (Nat.le_refl _) hn W).mono ?_
  rintro e w' ⟨v, rfl, ho, hb⟩
  obtain ⟨A, c, rfl⟩ := own_formB ho
  exact ⟨A, c, rfl, h.push hb (own_less ho (Nat.zero_le _))⟩
theorem bb_read_yes (h : Bb w W M N) {A : Option Addr} {l c n k r : Nat} {bs rs : List Nat} (hm : (Value.slice A l c, bs) ∈ M) (hl : l ≤ 1000000) (hb : ∀ x ∈ bs, x < 256) (hrd : Rd bs n k) (hk : 0 < k) (hr : bs.drop k = rs) (hlr : rs.length = r) :
    Calls Try.prog 12 #[.slice A l c] W fun e w' => ∃ A' c', e = .returned (.tuple #[.int .u64 (n : Int), .slice A' r c', .int .i64 0]) ∧ Bb w w' ((.slice A' r c', rs) :: M) N := by
  obtain ⟨hx, hc, hR⟩ := h.rb hm
  refine (Read_any W A c bs l hx hc (by omega) hb hR).mono ?_
  rintro e w' ⟨n', k', h1, h2, h3⟩
  obtain ⟨rfl, rfl⟩ := hrd.one h1
  have e1 : l - k = r := by rw [← hlr, ← hr, List.length_drop, hx]
  rw [e1, hr] at h3
  rcases h3 with ⟨h3, _⟩ | ⟨_, A', c', rfl, ho⟩
  · omega
  · refine ⟨A', c', rfl, h.push h2 ?_⟩
    unfold BX
    rw [hlr]
    exact own_less ho (Nat.zero_le _)
theorem bb_read_no (h : Bb w W M N) {A : Option Addr} {l c n : Nat} {bs : List Nat} (hm : (Value.slice A l c, bs) ∈ M) (hl : l ≤ 1000000) (hb : ∀ x ∈ bs, x < 256) (hrd : Rd bs n 0) :
    Calls Try.prog 12 #[.slice A l c] W fun e w' => e = .returned (.tuple #[.int .u64 0, .slice none 0 0, .int .i64 2]) ∧ Bb w w' M N := by
  obtain ⟨hx, hc, hR⟩ := h.rb hm
  refine (Read_any W A c bs l hx hc (by omega) hb hR).mono ?_
  rintro e w' ⟨n', k', h1, h2, h3⟩
  obtain ⟨rfl, rfl⟩ := hrd.one h1
  rcases h3 with ⟨_, rfl⟩ | ⟨h3, _⟩
  · exact ⟨rfl, h.below h2⟩
  · omega
theorem bb_refread (h : Bb w W M N) {A : Option Addr} {l c n k : Nat} {bs : List Nat} (hm : (Value.slice A l c, bs) ∈ M) (hl : l ≤ 1000000) (hrd : Rd bs n k) :
    Calls Try.prog 15 #[.slice A l c] W fun e w' => e = .returned (.tuple #[.int .u64 (n : Int), .int .i64 (k : Int)]) ∧ Bb w w' M N := by
  obtain ⟨hx, hc, hR⟩ := h.rb hm
  refine (refread_any W A c bs l hx hc (by omega) hR).mono ?_
  rintro e w' ⟨n', k', rfl, h1, h2⟩
  obtain ⟨rfl, rfl⟩ := hrd.one h1
  exact ⟨rfl, h.below h2⟩
theorem bb_size (h : Bb w W M N) {A : Option Addr} {l c s : Nat} {xs : List Nat} (hm : (Value.slice A l c, xs) ∈ N) (hl : l ≤ 1000000) (hx : ∀ x ∈ xs, x < 18446744073709551616) (hs : szs xs = s) :
    Calls Try.prog 16 #[.slice A l c] W fun e w' => e = .returned (.int .i64 (s : Int)) ∧ Bb w w' M N := by
  subst hs
  obtain ⟨e1, r1⟩ := h.rw hm
  refine (Size_any W _ A c xs l e1 (by omega) hx r1).mono ?_
  rintro e w' ⟨rfl, q, rfl⟩
  exact ⟨rfl, h.below (bel2 _ _)⟩
end
theorem bx_lit (w : World) (bs : List Nat) (hl : bs.length ≤ 1000) : BX (w.alloc (.cells (bv bs).toArray 5)) (.slice (some ⟨w.heap.size, 0, none⟩) bs.length bs.length) bs :=
  ⟨by simp [bv], .inr ⟨w.heap.size, bs.length, (bv bs).toArray, rfl, Nat.zero_le _, heap_alloc_new w _, Nat.le_refl _, by unfold maxLen; omega, by simp [bv], by simp [bv, List.take_of_length_le]⟩⟩
theorem kx_litE (w : World) (xs : List Nat) (hl : xs.length ≤ 1000) : KX (w.alloc (.cells (wv xs).toArray 22)) (.slice (some ⟨w.heap.size, 0, none⟩) xs.length xs.length) xs :=
  ⟨by simp [wv], .inr ⟨w.heap.size, xs.length, (wv xs).toArray, rfl, Nat.zero_le _, heap_alloc_new w _, Nat.le_refl _, by unfold maxLen; omega, by simp [wv], by simp [wv, List.take_of_length_le]⟩⟩
theorem Bb.start (w : World) : Bb w w [] [] := ⟨Below.refl _ _, (fun p hp => by cases hp), (fun p hp => by cases hp)⟩
set_option maxRecDepth 100000 in
set_option maxHeartbeats 8000000 in
theorem awake_any (w : World) : Calls Try.prog 8 #[] w fun e w' => e = .returned (.bool true) ∧ Below w.heap.size w w' := by
  have hb0 := (Below.refl w.heap.size w).alloc (Nat.le_refl _) (.cells #[.int .u64 5, .int .u64 6, .int .u64 300] 22)
  have hkx := kx_litE w [5, 6, 300] (by decide)
  obtain ⟨_, hrw⟩ := KX.rwE hkx
  have hK := Keys_any _ (some ⟨w.heap.size, 0, none⟩) 3 [5, 6, 300] 3 rfl (by decide) (by decide) hrw
  have hbs : 0 :: (enc 3 ++ ebs (gp 0 [5, 6, 300])) = [0, 3, 5, 0, 165, 2] := by decide +kernel
  rw [hbs] at hK
  have HK : Hid (Calls Try.prog 18 #[.slice (some ⟨w.heap.size, 0, none⟩) 3 3] (w.alloc (.cells #[.int .u64 5, .int .u64 6, .int .u64 300] 22)) fun e w' => ∃ A c, e = .returned (.tuple #[.slice A 6 c, .int .i64 0]) ∧ Bb w w' [(.slice A 6 c, [0, 3, 5, 0, 165, 2])] []) := Lib.hid (hK.mono fun e w' ⟨h1, h2⟩ => by
    rcases h2 with ⟨_, _, A, c, rfl, ho⟩ | ⟨_, h3, _⟩ | ⟨h3, _⟩
    · exact ⟨A, c, rfl, ((Bb.start w).below hb0).push h1 (own_less ho (Nat.zero_le _))⟩
    · omega
    · exact absurd (by simp [K.Up]) h3)
  have HS : Hid (∀ W A c, Bb w W [(.slice A 6 c, [0, 3, 5, 0, 165, 2])] [] → Calls Try.prog 13 #[.slice A 6 c, .slice (some ⟨W.heap.size, 0, none⟩) 6 6] (W.alloc (.cells #[.int .u8 0, .int .u8 3, .int .u8 5, .int .u8 0, .int .u8 165, .int .u8 2] 5)) fun e w' => e = .returned (.bool true) ∧ Below w.heap.size w w') := Lib.hid fun W A c h => by
    have h2 := h.push ((Below.refl W.heap.size W).alloc (Nat.le_refl _) _) (bx_lit W [0, 3, 5, 0, 165, 2] (by decide))
    exact (bb_same (b := true) h2 (A := A) (B := some ⟨W.heap.size, 0, none⟩) (n := 6) (m := 6) (c := c) (d := 6) (xs := [0, 3, 5, 0, 165, 2]) (ys := [0, 3, 5, 0, 165, 2]) (by simp) (by simp) (by decide) (by decide) (by simp)).mono fun e w' ⟨h3, h4⟩ => ⟨h3, h4.low⟩
  clear hb0 hkx hrw hK hbs
  go_enter Try.func8, Try.ntmps8
  go_wp2_with (first
    | (go_at_call 13; (with_reducible refine (HS.out _ _ _ H1.out).mono ?_); rintro e w2 ⟨rfl, hb⟩; have H2 := Lib.hid hb; clear hb)
    | (go_at_call 18; (with_reducible refine HK.out.mono ?_); rintro e w1 ⟨A1, c1, rfl, h1⟩; have H1 := Lib.hid h1; clear h1))
  go_ret
  exact ⟨by simp, H2.out⟩
end E
end Go.Proofs.Ytclaejaicjmohaa
