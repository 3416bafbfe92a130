
/- The document's lists of keys (stepstoneref11): the next key from a place on, the last up to there; the texts walked. -/
import Derived.Test.YtepnjolldbgglaaK1
namespace Go.Proofs.Ytepnjolldbgglaa
set_option maxRecDepth 4000
open Go.RowKit
namespace K
/-- The least key from k on; the greatest up to k; 0: none. -/
def nx (xs : List Nat) (k : Nat) : Nat := (xs[fi xs k]?).getD 0
def nxb (xs : List Nat) (k : Nat) : Bool := decide (fi xs k < xs.length)
def pv (xs : List Nat) (k : Nat) : Nat := if fo xs k then k else if fi xs k = 0 then 0 else (xs[fi xs k - 1]?).getD 0
def pvb (xs : List Nat) (k : Nat) : Bool := fo xs k || !decide (fi xs k = 0)
end K
theorem kret_key {a b : Nat} {c d : Bool} (h : a = b) (h2 : c = d) : Ending.returned (.tuple #[.int .u64 (a : Int), .bool c]) = .returned (.tuple #[.int .u64 (b : Int), .bool d]) := by rw [h, h2]
set_option maxHeartbeats 2000000 in
theorem k_next (w : World) (v : Value) (xs : List Nat) (h : KX w v xs) (hl : xs.length ≤ 4611686018427387904) (k : Nat) :
    Calls Try.prog 14 #[v, .int .u64 (k : Int)] w fun e w' => e = .returned (.tuple #[.int .u64 (K.nx xs k : Nat), .bool (K.nxb xs k)]) ∧ Below w.heap.size w w' := by
  have hfd := Lib.hid (k_find w v xs h hl k)
  have hfl := K.fi_le xs k
  have hX := Lib.hid (show K.nx xs k = (xs[K.fi xs k]?).getD 0 from rfl)
  have hY := Lib.hid (show K.nxb xs k = decide (K.fi xs k < xs.length) from rfl)
  have hH := Lib.hid h
  generalize K.fi xs k = F at *
  generalize K.fo xs k = G at *
  generalize K.nx xs k = X at *
  generalize K.nxb xs k = Y at *
  rcases h.form with ⟨rfl, rfl⟩ | ⟨g, c, rfl, hc, hg, hcells⟩
  · obtain rfl : F = 0 := by simpa using hfl
    clear h hfl
    go_enter Try.func14, Try.ntmps14
    go_wp2_with (go_at_call 10; (with_reducible refine hfd.out.mono ?_); rintro e w2 ⟨rfl, hD⟩; have HB := Lib.hid hD; clear hD)
    go_ret2
    exact ⟨kret_key (by rw [hX.out]; rfl) (by rw [hY.out]; rfl), HB.out⟩
  · have hC := Lib.hid hcells
    clear hcells h
    by_cases hF : F < xs.length
    · have he1 : ((F : Int) == (xs.length : Int)) = false := by rw [Bool.eq_false_iff]; intro e; rw [beq_iff_eq] at e; omega
      have he2 : (F == xs.length) = false := by rw [Bool.eq_false_iff]; intro e; rw [beq_iff_eq] at e; omega
      have hFz : (F : Int) < (xs.length : Int) := by omega
      have hXe : Hid (X = xs[F]) := Lib.hid (by rw [hX.out, List.getElem?_eq_getElem hF]; rfl)
      have c0 := hC.out F hF
      generalize xs[F] = a at *
      go_enter Try.func14, Try.ntmps14
      go_wp2_with (go_at_call 10; (with_reducible refine hfd.out.mono ?_); rintro e w2 ⟨rfl, hD⟩; have HB := Lib.hid hD; clear hD; have d0 : w2.cell? ⟨g, F, none⟩ = some (.int .u64 (a : Int)) := (HB.out.cell (p := ⟨g, F, none⟩) hg).trans c0; clear c0)
      go_ret2
      exact ⟨kret_key hXe.out.symm (by rw [hY.out]; exact (decide_eq_true hF).symm), HB.out⟩
    · obtain rfl : F = xs.length := by omega
      have he1 : ((xs.length : Int) == (xs.length : Int)) = true := by simp
      go_enter Try.func14, Try.ntmps14
      go_wp2_with (go_at_call 10; (with_reducible refine hfd.out.mono ?_); rintro e w2 ⟨rfl, hD⟩; have HB := Lib.hid hD; clear hD)
      go_ret2
      exact ⟨kret_key (by rw [hX.out, List.getElem?_eq_none (Nat.le_refl _)]; rfl) (by rw [hY.out]; simp), HB.out⟩
set_option maxHeartbeats 2000000 in
theorem k_prev (w : World) (v : Value) (xs : List Nat) (h : KX w v xs) (hl : xs.length ≤ 4611686018427387904) (k : Nat) :
    Calls Try.prog 16 #[v, .int .u64 (k : Int)] w fun e w' => e = .returned (.tuple #[.int .u64 (K.pv xs k : Nat), .bool (K.pvb xs k)]) ∧ Below w.heap.size w w' := by
  have hfd := Lib.hid (k_find w v xs h hl k)
  have hfl := K.fi_le xs k
  have hX := Lib.hid (show K.pv xs k = if K.fo xs k then k else if K.fi xs k = 0 then 0 else (xs[K.fi xs k - 1]?).getD 0 from rfl)
  have hY := Lib.hid (show K.pvb xs k = (K.fo xs k || !decide (K.fi xs k = 0)) from rfl)
  generalize K.fi xs k = F at *
  generalize K.fo xs k = G at *
  generalize K.pv xs k = X at *
  generalize K.pvb xs k = Y at *
  have hH := Lib.hid h
  clear h
  cases G with
  | true =>
    go_enter Try.func16, Try.ntmps16
    go_wp2_with (go_at_call 10; (with_reducible refine hfd.out.mono ?_); rintro e w2 ⟨rfl, hD⟩; have HB := Lib.hid hD; clear hD)
    go_ret2
    exact ⟨kret_key (by rw [hX.out]; rfl) (by rw [hY.out]; rfl), HB.out⟩
  | false =>
    by_cases hF : F = 0
    · subst hF
      go_enter Try.func16, Try.ntmps16
      go_wp2_with (go_at_call 10; (with_reducible refine hfd.out.mono ?_); rintro e w2 ⟨rfl, hD⟩; have HB := Lib.hid hD; clear hD)
      go_ret2
      exact ⟨kret_key (by rw [hX.out]; rfl) (by rw [hY.out]; rfl), HB.out⟩
    · rcases hH.out.form with ⟨rfl, rfl⟩ | ⟨g, c, rfl, hc, hg, hcells⟩
      · exact absurd (by simpa using hfl) hF
      · obtain ⟨j, rfl⟩ : ∃ j, F = j + 1 := ⟨F - 1, by omega⟩
        have he1 : (((j + 1 : Nat) : Int) == 0) = false := by rw [Bool.eq_false_iff]; intro e; rw [beq_iff_eq] at e; omega
        have he2 : ((j : Int) + 1 == 0) = false := by rw [Bool.eq_false_iff]; intro e; rw [beq_iff_eq] at e; omega
        have hw1 : IntKind.i64.wrap (((j + 1 : Nat) : Int) - 1) = (j : Int) := by rw [show ((j + 1 : Nat) : Int) - 1 = (j : Int) by omega]; exact IntWalk.i64_in _ (by omega)
        have hw2 : IntKind.i64.wrap ((j : Int) + 1 - 1) = (j : Int) := by rw [show ((j : Int) + 1) - 1 = (j : Int) by omega]; exact IntWalk.i64_in _ (by omega)
        have hj : j < xs.length := by omega
        have hFz : (j : Int) < (xs.length : Int) := by omega
        have hXe : Hid (X = xs[j]) := Lib.hid (by rw [hX.out]; simp [List.getElem?_eq_getElem hj])
        have hYe : Hid (Y = true) := Lib.hid (by rw [hY.out]; simp)
        have c0 := hcells j hj
        clear hcells hX hY hF
        generalize xs[j] = a at *
        go_enter Try.func16, Try.ntmps16
        go_wp2_with (go_at_call 10; (with_reducible refine hfd.out.mono ?_); rintro e w2 ⟨rfl, hD⟩; have HB := Lib.hid hD; clear hD; have d0 : w2.cell? ⟨g, j, none⟩ = some (.int .u64 (a : Int)) := (HB.out.cell (p := ⟨g, j, none⟩) hg).trans c0; clear c0)
        go_ret2
        exact ⟨kret_key hXe.out.symm hYe.out.symm, HB.out⟩
end Go.Proofs.Ytepnjolldbgglaa
