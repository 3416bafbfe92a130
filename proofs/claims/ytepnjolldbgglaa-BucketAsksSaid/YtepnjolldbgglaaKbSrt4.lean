
/- A range turned round; the choice of a number about which a row is parted; the text walked. -/
import Derived.Test.YtepnjolldbgglaaKbSrt0
import Derived.Test.YtepnjolldbgglaaKbSrtM
namespace Go.Proofs.Ytepnjolldbgglaa.Kb
open Go.RowKit Go.Sort
set_option maxHeartbeats 8000000 in
set_option maxRecDepth 100000 in
theorem so_rev (w0 w : World) (blk off n cap a b : Nat) (d : Array Int) (h : Rr w0 blk off n d w) (hab : a < b) (hb : b ≤ n) :
    Calls Try.prog 39 #[.slice (some ⟨blk, off, none⟩) n cap, .int .i64 a, .int .i64 b] w fun e w' =>
      e = .returned (.tuple #[]) ∧ Sr w0 blk off n a b d (fun _ => True) w' := by
  have few := h.few
  have H := Lib.hid h
  have hsz := h.size
  have HZ : Hid (b ≤ d.size) := Lib.hid (by omega)
  clear h hsz
  obtain ⟨b1, hb1⟩ : ∃ b1, b1 = b - 1 := ⟨_, rfl⟩
  have eb : (b : Int) - 1 = (b1 : Int) := by omega
  have hbb : b1 < b := by omega
  have hba : a ≤ b1 := by omega
  clear hb1
  go_enter Try.func39, Try.ntmps39
  go_wp2
  go_loopw [6, 7] (fun vi vj wr => ∃ (i j : Nat) (dk : Array Int), vi = .int .i64 i ∧ vj = .int .i64 j ∧ a ≤ i ∧ i ≤ j + 1 ∧ j < b ∧ Hid (Rr w0 blk off n dk wr ∧ PermIn a b d dk)) (fun vi vj _ => (intOf vj + 1 - intOf vi).toNat)
  case atStart => exact ⟨a, b1, d, rfl, rfl, Nat.le_refl _, by omega, by omega, Lib.hid ⟨H.out, permIn_refl _ _ _⟩⟩
  case round =>
    obtain ⟨i, j, dk, rfl, rfl, hi1, hi2, hj1, hK⟩ := hrel
    by_cases hlt : i < j
    · obtain ⟨G, hG⟩ : ∃ G : Nat → Int, ∀ t, G t = dk[t]! := ⟨fun t => dk[t]!, fun _ => rfl⟩
      have hcw : ∀ t, t < n → wr.cell? ⟨blk, off + t, none⟩ = some (.int .u64 (G t)) := fun t ht => by rw [hG]; exact hK.out.1.cell ht
      have hfw : ∀ t, t < n → wr.frozen? ⟨blk, off + t, none⟩ = false := fun t ht => hK.out.1.free ht
      have HG := Lib.hid hG
      clear hG
      have hne : ¬ i = j := by omega
      have hne' : ¬ j = i := by omega
      have li : i < n := by omega
      have lj : j < n := by omega
      go_wp2
      go_region
      all_goals go_wp2
      go_roundw
      case rel => exact ⟨i + 1, j - 1, swp dk i j, by go_num, by first | (congr 1; done) | (congr 1; omega), by omega, by omega, by omega, Lib.hid ⟨hK.out.1.swapG HG _ _ _ li lj, permIn_trans _ _ _ _ _ hK.out.2 (swp_permIn dk a b i j hi1 (by omega) (by omega) hj1 (by rw [hK.out.2.1]; exact HZ.out))⟩⟩
      case measure => simp [intOf]; omega
    · go_wp2
      go_end0
      exact ⟨rfl, dk, hK.out.1, hK.out.2, trivial⟩
/-- The row, and a counter beside it. -/
structure Sp (w0 : World) (blk off n : Nat) (d : Array Int) (g : Nat) (w : World) : Prop where
  row : Rr w0 blk off n d w
  new : w0.heap.size ≤ g
  at' : ∃ s, w.cell? ⟨g, 0, none⟩ = some (.int .i64 s)
  free : w.frozen? ⟨g, 0, none⟩ = false
theorem Sp.drewN {w0 w : World} {blk off n g : Nat} {d : Array Int} (h : Sp w0 blk off n d g w) (q : Nat) : Sp w0 blk off n d g (w.drewN q) := ⟨h.row.drewN q, h.new, h.at', h.free⟩
theorem Sp.set {w0 w : World} {blk off n g : Nat} {d : Array Int} (h : Sp w0 blk off n d g w) (s : Int) : Sp w0 blk off n d g (w.setCell ⟨g, 0, none⟩ (.int .i64 s)) := by
  obtain ⟨t, ht⟩ := h.at'
  exact ⟨h.row.setNew g 0 _ h.new, h.new, ⟨s, by rw [World.cell?_setCell_same (h := ht)]⟩, by rw [World.frozen?_setCell]; exact h.free⟩
set_option maxHeartbeats 8000000 in
set_option maxRecDepth 100000 in
theorem so_order2 (w0 w : World) (blk off n cap a b g : Nat) (d : Array Int) (h : Sp w0 blk off n d g w) (ha : a < n) (hb : b < n) :
    Calls Try.prog 50 #[.slice (some ⟨blk, off, none⟩) n cap, .int .i64 a, .int .i64 b, .pointer (some ⟨g, 0, none⟩)] w fun e w' =>
      ∃ x y : Nat, e = .returned (.tuple #[.int .i64 x, .int .i64 y]) ∧ (x = a ∧ y = b ∨ x = b ∧ y = a) ∧ Sp w0 blk off n d g w' := by
  have few := h.row.few
  obtain ⟨s, hs⟩ := h.at'
  have hf := h.free
  have H := Lib.hid h
  obtain ⟨G, hG⟩ : ∃ G : Nat → Int, ∀ t, G t = d[t]! := ⟨fun t => d[t]!, fun _ => rfl⟩
  have hcw : ∀ t, t < n → w.cell? ⟨blk, off + t, none⟩ = some (.int .u64 (G t)) := fun t ht => by rw [hG]; exact h.row.cell ht
  have HG := Lib.hid hG
  clear hG h
  go_enter Try.func50, Try.ntmps50
  go_wp2
  go_quiet (first | (go_at_call 29; refine Calls.quiet_of_same (less_any _ _ _)))
  go_wp2
  · go_ret2
    exact ⟨b, a, rfl, .inr ⟨rfl, rfl⟩, (H.out.drewN nq).set _⟩
  · go_ret2
    exact ⟨a, b, rfl, .inl ⟨rfl, rfl⟩, H.out.drewN nq⟩
set_option maxHeartbeats 8000000 in
set_option maxRecDepth 100000 in
theorem so_median (w0 w : World) (blk off n cap a b c g lo hi : Nat) (d : Array Int) (h : Sp w0 blk off n d g w) (hn : hi ≤ n) (ha : lo ≤ a ∧ a < hi) (hb : lo ≤ b ∧ b < hi) (hc : lo ≤ c ∧ c < hi) :
    Calls Try.prog 49 #[.slice (some ⟨blk, off, none⟩) n cap, .int .i64 a, .int .i64 b, .int .i64 c, .pointer (some ⟨g, 0, none⟩)] w fun e w' =>
      ∃ x : Nat, e = .returned (.int .i64 x) ∧ (lo ≤ x ∧ x < hi) ∧ Sp w0 blk off n d g w' := by
  have H := Lib.hid h
  clear h
  go_enter Try.func49, Try.ntmps49
  go_wp2_with (go_at_call 50; (with_reducible refine (so_order2 w0 w blk off n cap a b g d H.out (by omega) (by omega)).mono ?_); rintro e w1 ⟨x1, y1, rfl, h1, k1⟩)
  have K1 := Lib.hid k1
  have hx1 : lo ≤ x1 ∧ x1 < hi := by omega
  have hy1 : lo ≤ y1 ∧ y1 < hi := by omega
  clear k1 h1
  go_wp2_with (go_at_call 50; (with_reducible refine (so_order2 w0 w1 blk off n cap y1 c g d K1.out (by omega) (by omega)).mono ?_); rintro e w2 ⟨x2, y2, rfl, h2, k2⟩)
  have K2 := Lib.hid k2
  have hx2 : lo ≤ x2 ∧ x2 < hi := by omega
  clear k2 h2
  go_wp2_with (go_at_call 50; (with_reducible refine (so_order2 w0 w2 blk off n cap x1 x2 g d K2.out (by omega) (by omega)).mono ?_); rintro e w3 ⟨x3, y3, rfl, h3, k3⟩)
  have K3 := Lib.hid k3
  have hy3 : lo ≤ y3 ∧ y3 < hi := by omega
  clear k3 h3
  go_wp2
  go_ret
  exact ⟨y3, rfl, hy3, K3.out⟩
end Go.Proofs.Ytepnjolldbgglaa.Kb
