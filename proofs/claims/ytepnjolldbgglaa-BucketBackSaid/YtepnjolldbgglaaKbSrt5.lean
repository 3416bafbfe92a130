
/- The number about which a row is parted is chosen; the text walked. -/
import Derived.Test.YtepnjolldbgglaaKbSrt4
namespace Go.Proofs.Ytepnjolldbgglaa.Kb
open Go.RowKit Go.Sort
set_option maxHeartbeats 8000000 in
set_option maxRecDepth 100000 in
theorem so_medadj (w0 w : World) (blk off n cap a g lo hi : Nat) (d : Array Int) (h : Sp w0 blk off n d g w) (hn : hi ≤ n) (ha : lo + 1 ≤ a ∧ a + 1 < hi) :
    Calls Try.prog 48 #[.slice (some ⟨blk, off, none⟩) n cap, .int .i64 a, .pointer (some ⟨g, 0, none⟩)] w fun e w' =>
      ∃ x : Nat, e = .returned (.int .i64 x) ∧ (lo ≤ x ∧ x < hi) ∧ Sp w0 blk off n d g w' := by
  have few := h.row.few
  have H := Lib.hid h
  clear h
  obtain ⟨a1, h1⟩ : ∃ a1, a1 = a - 1 := ⟨_, rfl⟩
  obtain ⟨a2, h2⟩ : ∃ a2, a2 = a + 1 := ⟨_, rfl⟩
  have e1 : (a : Int) - 1 = (a1 : Int) := by omega
  have e2 : (a : Int) + 1 = (a2 : Int) := by omega
  have l0 : lo ≤ a ∧ a < hi := by omega
  have l1 : lo ≤ a1 ∧ a1 < hi := by omega
  have l2 : lo ≤ a2 ∧ a2 < hi := by omega
  clear h1 h2
  go_enter Try.func48, Try.ntmps48
  go_wp2_with (go_at_call 49; (with_reducible refine (so_median w0 w blk off n cap a1 a a2 g lo hi d H.out hn l1 l0 l2).mono ?_); rintro e w1 ⟨x, rfl, hx, k1⟩)
  go_ret
  exact ⟨x, rfl, hx, k1⟩
theorem Rr.boxed {w0 w : World} {blk off n : Nat} {d : Array Int} (h : Rr w0 blk off n d w) (s : Int) : Sp w0 blk off n d w.heap.size (w.alloc (.cells #[.int .i64 s] 3)) :=
  ⟨h.alloc _, h.le, ⟨s, by simp⟩, by simp⟩
set_option maxHeartbeats 8000000 in
set_option maxRecDepth 100000 in
theorem so_choose (w0 w : World) (blk off n cap a b : Nat) (d : Array Int) (h : Rr w0 blk off n d w) (hab : a + 12 < b) (hb : b ≤ n) :
    Calls Try.prog 38 #[.slice (some ⟨blk, off, none⟩) n cap, .int .i64 a, .int .i64 b] w fun e w' =>
      ∃ (x : Nat) (t : Int), e = .returned (.tuple #[.int .i64 x, .int .i64 t]) ∧ (a ≤ x ∧ x < b) ∧ Rr w0 blk off n d w' := by
  have few := h.few
  have H := Lib.hid h
  have HB := Lib.hid (h.boxed 0)
  clear h
  obtain ⟨L, hL⟩ : ∃ L, L = b - a := ⟨_, rfl⟩
  obtain ⟨q, hq⟩ : ∃ q, q = L / 4 := ⟨_, rfl⟩
  obtain ⟨I, hI⟩ : ∃ I, I = a + q := ⟨_, rfl⟩
  obtain ⟨J, hJ⟩ : ∃ J, J = a + q * 2 := ⟨_, rfl⟩
  obtain ⟨K, hK⟩ : ∃ K, K = a + q * 3 := ⟨_, rfl⟩
  have eL : (b : Int) - (a : Int) = (L : Int) := by omega
  have e4 : (L : Int) / 4 = (q : Int) := by omega
  have eI : (a : Int) + (q : Int) = (I : Int) := by omega
  have eJ : (a : Int) + (q : Int) * 2 = (J : Int) := by omega
  have eK : (a : Int) + (q : Int) * 3 = (K : Int) := by omega
  have lI : a ≤ I ∧ I < b := by omega
  have lJ : a ≤ J ∧ J < b := by omega
  have lK : a ≤ K ∧ K < b := by omega
  have hL8 : 8 ≤ L := by omega
  have m50 : 50 ≤ L → (a + 1 ≤ I ∧ I + 1 < b) ∧ (a + 1 ≤ J ∧ J + 1 < b) ∧ (a + 1 ≤ K ∧ K + 1 < b) := by omega
  have hq0 : q ≤ n := by omega
  have hL1 : L ≤ n := by omega
  have HM := Lib.hid m50
  clear hL hq hI hJ hK m50
  by_cases h50 : 50 ≤ L
  · go_enter Try.func38, Try.ntmps38
    go_wp2_with (go_at_call 48; (with_reducible refine (so_medadj w0 _ blk off n cap I w.heap.size a b d HB.out hb (HM.out h50).1).mono ?_); rintro e w1 ⟨x1, rfl, hx1, k1⟩; replace k1 := Lib.hid k1)
    go_wp2_with (go_at_call 48; (with_reducible refine (so_medadj w0 w1 blk off n cap J w.heap.size a b d k1.out hb (HM.out h50).2.1).mono ?_); rintro e w2 ⟨x2, rfl, hx2, k2⟩; replace k2 := Lib.hid k2)
    go_wp2_with (go_at_call 48; (with_reducible refine (so_medadj w0 w2 blk off n cap K w.heap.size a b d k2.out hb (HM.out h50).2.2).mono ?_); rintro e w3 ⟨x3, rfl, hx3, k3⟩; replace k3 := Lib.hid k3)
    go_wp2_with (go_at_call 49; (with_reducible refine (so_median w0 w3 blk off n cap x1 x2 x3 w.heap.size a b d k3.out hb hx1 hx2 hx3).mono ?_); rintro e w4 ⟨x, rfl, hx, k4⟩; obtain ⟨s, hs⟩ := k4.at'; replace k4 := Lib.hid k4)
    all_goals go_wp2
    all_goals go_ret2
    all_goals exact ⟨x, _, rfl, hx, k4.out.row⟩
  · go_enter Try.func38, Try.ntmps38
    go_wp2_with (go_at_call 49; (with_reducible refine (so_median w0 _ blk off n cap I J K w.heap.size a b d HB.out hb lI lJ lK).mono ?_); rintro e w4 ⟨x, rfl, hx, k4⟩; obtain ⟨s, hs⟩ := k4.at'; replace k4 := Lib.hid k4)
    all_goals go_wp2
    all_goals go_ret2
    all_goals exact ⟨x, _, rfl, hx, k4.out.row⟩
end Go.Proofs.Ytepnjolldbgglaa.Kb
