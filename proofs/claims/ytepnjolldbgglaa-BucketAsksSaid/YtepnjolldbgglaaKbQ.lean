
/- The law BucketAsks, walked. -/
import Derived.Test.YtepnjolldbgglaaKbP
import Derived.Test.YtepnjolldbgglaaKbArrV
namespace Go.Proofs.Ytepnjolldbgglaa.Kb
open Go.RowKit
section
variable {w W : World} {S : List (Value × List Nat)} {v : Value} {xs : List Nat}
theorem bs_add2 (h : BS w W S) (hm : (v, xs) ∈ S) (hu : K.Up xs) (few : xs.length ≤ 1000000) (k : Nat) {f : Bool} {ys : List Nat} (e1 : (!K.fo xs k) = f) (e2 : K.add xs k = ys) :
    Calls Try.prog 11 #[v, .int .u64 (k : Int)] W fun e w' => ∃ A c, e = .returned (.tuple #[.slice A ys.length c, .bool f]) ∧ BS w w' ((.slice A ys.length c, ys) :: S) ∧ Wr w' W.heap.size w'.heap.size A ys.length ∧ Below W.heap.size W w' := by
  subst e1 e2
  refine (b_add W v xs (h.kx _ hm) hu few k).mono ?_
  rintro e w' ⟨v', rfl, h1, h2⟩
  obtain ⟨A, c, rfl⟩ := kn_form h1
  have h3 : w'.ownsRow W.heap.size 23 1 (.slice A (K.add xs k).length c) (iz (K.add xs k)).length (hv (iz (K.add xs k))) := by rw [hv_iz, iz_len]; exact h1
  obtain ⟨A', c', e, _, _, h4⟩ := Wr.of_own h3
  rw [iz_len] at e h4
  cases e
  exact ⟨A, c, rfl, h.push h2 h1.kx, h4, h2⟩
theorem bs_drop2 (h : BS w W S) (hm : (v, xs) ∈ S) (hu : K.Up xs) (few : xs.length ≤ 1000000) (k : Nat) {f : Bool} {ys : List Nat} (e1 : (K.fo xs k) = f) (e2 : K.drop xs k = ys) :
    Calls Try.prog 12 #[v, .int .u64 (k : Int)] W fun e w' => ∃ A c, e = .returned (.tuple #[.slice A ys.length c, .bool f]) ∧ BS w w' ((.slice A ys.length c, ys) :: S) ∧ Wr w' W.heap.size w'.heap.size A ys.length ∧ Below W.heap.size W w' := by
  subst e1 e2
  refine (b_drop W v xs (h.kx _ hm) hu few k).mono ?_
  rintro e w' ⟨v', rfl, h1, h2⟩
  obtain ⟨A, c, rfl⟩ := kn_form h1
  have h3 : w'.ownsRow W.heap.size 23 1 (.slice A (K.drop xs k).length c) (iz (K.drop xs k)).length (hv (iz (K.drop xs k))) := by rw [hv_iz, iz_len]; exact h1
  obtain ⟨A', c', e, _, _, h4⟩ := Wr.of_own h3
  rw [iz_len] at e h4
  cases e
  exact ⟨A, c, rfl, h.push h2 h1.kx, h4, h2⟩
theorem bs_words2 (h : BS w W S) (hm : (v, xs) ∈ S) (hl : xs.length ≤ 140) :
    Calls Try.prog 7 #[v, .int .i64 140] W fun e w' => ∃ A' c', e = .returned (.slice A' xs.length c') ∧ BS w w' ((.slice A' xs.length c', xs) :: S) := by
  obtain ⟨A, c, e, hr⟩ := kx_rw' (h.kx _ hm)
  dsimp only at e
  subst e
  have M := ref_words_own A c xs 140 W hr (by omega) (by omega)
  rw [List.take_of_length_le hl] at M
  refine M.mono ?_
  rintro e w' ⟨v, rfl, ho, hb2⟩
  have hk : KN W w' v xs := ho
  obtain ⟨A', c', rfl⟩ := kn_form hk
  exact ⟨A', c', rfl, h.push hb2 hk.kx⟩
theorem bs_rfind (h : BS w W S) (hm : (v, xs) ∈ S) (few : xs.length ≤ 1000000) (k : Nat) {i : Nat} {f : Bool} (e1 : K.fi xs k = i) (e2 : K.fo xs k = f) :
    Calls Try.prog 10 #[v, .int .u64 (k : Int)] W fun e w' => e = .returned (.tuple #[.int .i64 (i : Int), .bool f]) ∧ BS w w' S := by
  subst e1 e2
  exact (k_find W v xs (h.kx _ hm) (by omega) k).mono fun e w' ⟨h1, h2⟩ => ⟨h1, h.below h2⟩
theorem bs_rnext (h : BS w W S) (hm : (v, xs) ∈ S) (few : xs.length ≤ 1000000) (k : Nat) {x : Nat} {f : Bool} (e1 : K.nx xs k = x) (e2 : K.nxb xs k = f) :
    Calls Try.prog 14 #[v, .int .u64 (k : Int)] W fun e w' => e = .returned (.tuple #[.int .u64 (x : Int), .bool f]) ∧ BS w w' S := by
  subst e1 e2
  exact (k_next W v xs (h.kx _ hm) (by omega) k).mono fun e w' ⟨h1, h2⟩ => ⟨h1, h.below h2⟩
theorem bs_rprev (h : BS w W S) (hm : (v, xs) ∈ S) (few : xs.length ≤ 1000000) (k : Nat) {x : Nat} {f : Bool} (e1 : K.pv xs k = x) (e2 : K.pvb xs k = f) :
    Calls Try.prog 16 #[v, .int .u64 (k : Int)] W fun e w' => e = .returned (.tuple #[.int .u64 (x : Int), .bool f]) ∧ BS w w' S := by
  subst e1 e2
  exact (k_prev W v xs (h.kx _ hm) (by omega) k).mono fun e w' ⟨h1, h2⟩ => ⟨h1, h.below h2⟩
theorem bs_radd (h : BS w W S) (hm : (v, xs) ∈ S) (few : xs.length ≤ 1000000) (k : Nat) {ys : List Nat} (e2 : K.add xs k = ys) :
    Calls Try.prog 20 #[v, .int .u64 (k : Int)] W fun e w' => ∃ A c, e = .returned (.slice A ys.length c) ∧ BS w w' ((.slice A ys.length c, ys) :: S) := by
  subst e2
  refine (k_add W v xs (h.kx _ hm) few k).mono ?_
  rintro e w' ⟨v', rfl, h1, h2, _⟩
  obtain ⟨A, c, rfl, _⟩ := kx_rw' h1
  exact ⟨A, c, rfl, h.push h2 h1⟩
theorem bs_rdrop (h : BS w W S) (hm : (v, xs) ∈ S) (few : xs.length ≤ 1000000) (k : Nat) {ys : List Nat} (e2 : K.drop xs k = ys) :
    Calls Try.prog 21 #[v, .int .u64 (k : Int)] W fun e w' => ∃ A c, e = .returned (.slice A ys.length c) ∧ BS w w' ((.slice A ys.length c, ys) :: S) := by
  subst e2
  refine (k_drop W v xs (h.kx _ hm) few k).mono ?_
  rintro e w' ⟨v', rfl, h1, h2, _⟩
  obtain ⟨A, c, rfl, _⟩ := kx_rw' h1
  exact ⟨A, c, rfl, h.push h2 h1⟩
end
/-- What is kept while rows are written. -/
structure LK (w0 W : World) (B : Nat) (A A' : Option Addr) (zs : List Nat) : Prop where
  low : Below w0.heap.size w0 W
  wB : w0.heap.size ≤ B
  hB : B ≤ W.heap.size
  ra : Rh W B A (iz zs)
  rw : Rh W B A' (iz zs)
theorem LK.set {w0 W : World} {B : Nat} {A A' : Option Addr} {zs : List Nat} (h : LK w0 W B A A' zs) {g k : Nat} {u : Value} (hg : B ≤ g) : LK w0 (W.setCell ⟨g, k, none⟩ u) B A A' zs :=
  ⟨h.low.grown (set_grown W g k u) h.low.size (fun g' e => by cases e; exact Nat.le_trans h.wB hg), h.wB, by have := h.hB; simp [World.setCell]; exact this, h.ra.other hg, h.rw.other hg⟩
theorem LK.below {w0 W W' : World} {B : Nat} {A A' : Option Addr} {zs : List Nat} (h : LK w0 W B A A' zs) (hb : Below W.heap.size W W') : LK w0 W' B A A' zs :=
  ⟨h.low.trans (hb.mono h.low.size), h.wB, Nat.le_trans h.hB hb.size, h.ra.below hb h.hB, h.rw.below hb h.hB⟩
theorem rw_rh {W : World} {B : Nat} {A : Option Addr} {zs : List Nat} (h : Rh W B A (iz zs)) : Rw W B A zs := fun hne => by
  obtain ⟨b, off, h1, h2, h3⟩ := h (by simpa using hne)
  refine ⟨b, off, h1, h2, fun k hk => ?_⟩
  have := h3 k (by simpa using hk)
  simpa using this
theorem kx_rhA {w : World} {A : Option Addr} {n c : Nat} {xs : List Nat} (h : KX w (.slice A n c) xs) : Rh w w.heap.size A (iz xs) := by
  obtain ⟨A', c', e, hr, _⟩ := kx_rh h
  cases e
  exact hr
theorem lk_same {w W : World} {B : Nat} {A A' : Option Addr} {c c' : Nat} {xs : List Nat} (h : LK w W B A A' xs) (few : xs.length ≤ 1000000) :
    Calls Try.prog 17 #[.slice A xs.length c, .slice A' xs.length c'] W fun e w' => e = .returned (.bool true) ∧ Below w.heap.size w w' := by
  refine (ref_samekeys A A' c c' xs xs W _ _ (rw_rh h.ra) (rw_rh h.rw) (by omega) (by omega)).mono ?_
  rintro e w' ⟨rfl, q, rfl⟩
  exact ⟨by simp, h.low.trans (Below.mono ⟨rfl, rfl, rfl, Nat.le_refl _, fun _ _ => rfl⟩ h.low.size)⟩
end Go.Proofs.Ytepnjolldbgglaa.Kb
