
/- Some patterns are broken; the text walked. -/
import Derived.Test.YtepnjolldbgglaaKbSrt6
namespace Go.Proofs.Ytepnjolldbgglaa.Kb
open Go.RowKit Go.Sort
theorem and_cut (r m1 L : Nat) (hr : r < 18446744073709551616) (hm : m1 < 2 * L) (hL : L < 4611686018427387904) : ∃ o : Nat, bits BinOp.and IntKind.u64 (r : Int) (m1 : Int) = (o : Int) ∧ o < 2 * L :=
  ⟨r &&& m1, bits_and_u64_nat r m1 hr (by omega), Nat.lt_of_le_of_lt Nat.and_le_right hm⟩
theorem sq_swap {w0 w : World} {blk off n g : Nat} {d : Array Int} {G : Nat → Int} (h : Sq w0 blk off n d g w) (hG : Hid (∀ t, G t = d[t]!)) (q i j : Nat) (hi : i < n) (hj : j < n) :
    Sq w0 blk off n (swp d i j) g (((w.setCell ⟨blk, off + i, none⟩ (.int .u64 (G j))).setCell ⟨blk, off + j, none⟩ (.int .u64 (G i))).drewN q) := by
  have hne : blk ≠ g := by have := h.new; have := h.row.lt; omega
  obtain ⟨s, hs⟩ := h.at'
  refine ⟨h.row.swapG hG q i j hi hj, h.new, ⟨s, ?_⟩, ?_⟩
  · show ((w.setCell ⟨blk, off + i, none⟩ (.int .u64 (G j))).setCell ⟨blk, off + j, none⟩ (.int .u64 (G i))).cell? ⟨g, 0, none⟩ = _
    rw [World.cell?_setCell_other (h := by simp), World.cell?_setCell_other (h := by simp)]
    exact hs
  · show ((w.setCell ⟨blk, off + i, none⟩ (.int .u64 (G j))).setCell ⟨blk, off + j, none⟩ (.int .u64 (G i))).frozen? ⟨g, 0, none⟩ = _
    rw [World.frozen?_setCell, World.frozen?_setCell]
    exact h.free
set_option maxHeartbeats 16000000 in
set_option maxRecDepth 100000 in
theorem so_break (w0 w : World) (blk off n cap a b : Nat) (d : Array Int) (h : Rr w0 blk off n d w) (hab : a + 12 < b) (hb : b ≤ n) :
    Calls Try.prog 37 #[.slice (some ⟨blk, off, none⟩) n cap, .int .i64 a, .int .i64 b] w fun e w' =>
      e = .returned (.tuple #[]) ∧ Sr w0 blk off n a b d (fun _ => True) w' := by
  have few := h.few
  have HZ : Hid (b ≤ d.size) := Lib.hid (by rw [h.size]; exact hb)
  obtain ⟨L, hL⟩ : ∃ L, L = b - a := ⟨_, rfl⟩
  obtain ⟨q, hq⟩ : ∃ q, q = L / 4 := ⟨_, rfl⟩
  obtain ⟨J, hJ⟩ : ∃ J, J = a + q * 2 := ⟨_, rfl⟩
  obtain ⟨J0, hJ0⟩ : ∃ J0, J0 = J - 1 := ⟨_, rfl⟩
  obtain ⟨J2, hJ2⟩ : ∃ J2, J2 = J + 1 := ⟨_, rfl⟩
  have eL : (b : Int) - (a : Int) = (L : Int) := by omega
  have e4 : (L : Int) / 4 = (q : Int) := by omega
  have eJ : (a : Int) + (q : Int) * 2 = (J : Int) := by omega
  have eJ0 : (J : Int) - 1 = (J0 : Int) := by omega
  have eJ2 : (J : Int) + 1 = (J2 : Int) := by omega
  have hL8 : 8 ≤ L := by omega
  have hq0 : q ≤ n := by omega
  have hL1 : L ≤ n := by omega
  have hLb : a + L ≤ b := by omega
  have hJa : a ≤ J0 := by omega
  have hJb : J2 < b := by omega
  have hJJ : J0 ≤ J2 + 1 := by omega
  have HB := Lib.hid (h.boxedQ (L : Int))
  clear h hL hq hJ hJ0 hJ2
  go_enter Try.func37, Try.ntmps37
  go_wp2_with (go_at_call 46; (with_reducible refine (power_any L _ (by omega) (by omega)).mono ?_); rintro e w1 ⟨⟨m, rfl, hm0, hm⟩, hw1⟩)
  have K1 : Hid (Sq w0 blk off n d w.heap.size w1) := Lib.hid (hw1 ▸ HB.out)
  clear hw1
  obtain ⟨m1, hm1⟩ : ∃ m1, m1 = m - 1 := ⟨_, rfl⟩
  have em : (m : Int) - 1 = (m1 : Int) := by omega
  have hm2 : m1 < 2 * L := by omega
  clear hm1
  go_loopw [9] (fun vi wr => ∃ (i : Nat) (dk : Array Int), vi = .int .i64 i ∧ a ≤ i ∧ i ≤ J2 + 1 ∧ Hid (Sq w0 blk off n dk w.heap.size wr) ∧ Hid (PermIn a b d dk)) (fun vi _ => J2 + 1 - (intOf vi).toNat)
  case atStart => exact ⟨J0, d, rfl, hJa, by omega, K1, Lib.hid (permIn_refl _ _ _)⟩
  case round =>
    obtain ⟨i, dk, rfl, hi1, hi2, hK, hP⟩ := hrel
    by_cases hle : i ≤ J2
    · go_wp2_with (go_at_call 47; (with_reducible refine (xor_next w0 wr blk off n w.heap.size dk hK.out).mono ?_); rintro e w2 ⟨r, rfl, hr, k2⟩; obtain ⟨o, ho, ho2⟩ := and_cut r m1 L hr hm2 (by omega); replace k2 := Lib.hid k2)
      · have hLo : L ≤ o := by assumption
        obtain ⟨p, hp⟩ : ∃ p, p = o - L := ⟨_, rfl⟩
        have eo : (o : Int) - (L : Int) = (p : Int) := by omega
        have hp2 : p < L := by omega
        simp only [eo]
        clear hp ho
        have li : i < n := by omega
        have lo : a + p < n := by omega
        have tp : ((a : Int) + (p : Int)).toNat = a + p := by omega
        have y0 : (0 : Int) ≤ (a : Int) + (p : Int) := by omega
        obtain ⟨G, hG⟩ : ∃ G : Nat → Int, ∀ t, G t = dk[t]! := ⟨fun t => dk[t]!, fun _ => rfl⟩
        have hcw : ∀ t, t < n → w2.cell? ⟨blk, off + t, none⟩ = some (.int .u64 (G t)) := fun t ht => by rw [hG]; exact k2.out.row.cell ht
        have hfw : ∀ t, t < n → w2.frozen? ⟨blk, off + t, none⟩ = false := fun t ht => k2.out.row.free ht
        have HG := Lib.hid hG
        clear hG
        by_cases hio : i = a + p
        · subst hio
          have v1 := w64 ((a : Int) + (p : Int)) (by omega) (by omega)
          go_wp2
          go_region
          all_goals go_wp2
          go_roundw
          case rel => exact ⟨(a + p) + 1, swp dk (a + p) (a + p), by (first | go_num | (congr 1; omega)), by omega, by omega, Lib.hid (sq_swap k2.out HG 1 (a + p) (a + p) li lo), Lib.hid (permIn_trans _ _ _ _ _ hP.out (swp_permIn dk a b (a + p) (a + p) (by omega) (by omega) (by omega) (by omega) (by rw [hP.out.1]; exact HZ.out)))⟩
          case measure => simp [intOf]; omega
        · have hne : ¬ i = a + p := hio
          have hne' : ¬ a + p = i := fun e => hio e.symm
          have v1 := w64 ((a : Int) + (p : Int)) (by omega) (by omega)
          go_wp2
          go_region
          all_goals go_wp2
          go_roundw
          case rel => exact ⟨i + 1, swp dk i (a + p), by go_num, by omega, by omega, Lib.hid (sq_swap k2.out HG 1 i (a + p) li lo), Lib.hid (permIn_trans _ _ _ _ _ hP.out (swp_permIn dk a b i (a + p) (by omega) (by omega) (by omega) (by omega) (by rw [hP.out.1]; exact HZ.out)))⟩
          case measure => simp [intOf]; omega
      · have hp2 : o < L := by omega
        clear ho
        have li : i < n := by omega
        have lo : a + o < n := by omega
        have to : ((a : Int) + (o : Int)).toNat = a + o := by omega
        have y0 : (0 : Int) ≤ (a : Int) + (o : Int) := by omega
        obtain ⟨G, hG⟩ : ∃ G : Nat → Int, ∀ t, G t = dk[t]! := ⟨fun t => dk[t]!, fun _ => rfl⟩
        have hcw : ∀ t, t < n → w2.cell? ⟨blk, off + t, none⟩ = some (.int .u64 (G t)) := fun t ht => by rw [hG]; exact k2.out.row.cell ht
        have hfw : ∀ t, t < n → w2.frozen? ⟨blk, off + t, none⟩ = false := fun t ht => k2.out.row.free ht
        have HG := Lib.hid hG
        clear hG
        by_cases hio : i = a + o
        · subst hio
          have v1 := w64 ((a : Int) + (o : Int)) (by omega) (by omega)
          go_wp2
          go_region
          all_goals go_wp2
          go_roundw
          case rel => exact ⟨(a + o) + 1, swp dk (a + o) (a + o), by (first | go_num | (congr 1; omega)), by omega, by omega, Lib.hid (sq_swap k2.out HG 1 (a + o) (a + o) li lo), Lib.hid (permIn_trans _ _ _ _ _ hP.out (swp_permIn dk a b (a + o) (a + o) (by omega) (by omega) (by omega) (by omega) (by rw [hP.out.1]; exact HZ.out)))⟩
          case measure => simp [intOf]; omega
        · have hne : ¬ i = a + o := hio
          have hne' : ¬ a + o = i := fun e => hio e.symm
          have v1 := w64 ((a : Int) + (o : Int)) (by omega) (by omega)
          go_wp2
          go_region
          all_goals go_wp2
          go_roundw
          case rel => exact ⟨i + 1, swp dk i (a + o), by go_num, by omega, by omega, Lib.hid (sq_swap k2.out HG 1 i (a + o) li lo), Lib.hid (permIn_trans _ _ _ _ _ hP.out (swp_permIn dk a b i (a + o) (by omega) (by omega) (by omega) (by omega) (by rw [hP.out.1]; exact HZ.out)))⟩
          case measure => simp [intOf]; omega
    · go_wp2
      go_end0
      exact ⟨rfl, dk, hK.out.row, hP.out, trivial⟩
end Go.Proofs.Ytepnjolldbgglaa.Kb
