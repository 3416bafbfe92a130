/- A range turned round; the choice of a number about which a row is parted; the text walked. The number about which a row is parted is chosen; the text walked. Some patterns are broken: three numbers change places with others, by a sequence that looks like chance; the text walked. Some patterns are broken; the text walked. -/
import Derived.Laws.BitsAllLaws
import Derived.Laws.Bits64b
import Derived.Laws.Closers25b
import Derived.Lib.BitFns
import Derived.Lib.Strings
import Derived.Lib.Small
import Derived.Lib.Walk
import Derived.Test.YtelfacchhclgnaaGreatMu24
section
namespace Go.Proofs.YtelfacchhclgnaaGreat.Kb
set_option maxRecDepth 20000
open Go.RowKit Go.Sort
set_option maxHeartbeats 8000000 in
set_option maxRecDepth 100000 in
theorem so_rev (w0 w : World) (blk off n cap a b : Nat) (d : Array Int) (h : Rr w0 blk off n d w) (hab : a < b) (hb : b ≤ n) :
    Calls Tryz.prog 167 #[.slice (some ⟨blk, off, none⟩) n cap, .int .i64 a, .int .i64 b] w fun e w' =>
      e = .returned (.tuple #[]) ∧ Sr w0 blk off n a b d (fun _ => True) w' := by
  have few := h.few
  have H := Lib.hid h
  have hsz := h.size
  have HZ : Hid (b ≤ d.size) := Lib.hid (by omega)
  clear h hsz
  obtain ⟨b1, hb1⟩ : ∃ b1, b1 = b - 1 := ⟨_, rfl⟩
  have eb : (b : Int) - 1 = (b1 : Int) := by omega
  have hbb : b1 < b := by omega
  have hba : a ≤ b1 := by omega
  clear hb1
  go_enter Tryz.func167, Tryz.ntmps167
  go_wp2
  go_loopw [6, 7] (fun vi vj wr => ∃ (i j : Nat) (dk : Array Int), vi = .int .i64 i ∧ vj = .int .i64 j ∧ a ≤ i ∧ i ≤ j + 1 ∧ j < b ∧ Hid (Rr w0 blk off n dk wr ∧ PermIn a b d dk)) (fun vi vj _ => (intOf vj + 1 - intOf vi).toNat)
  case atStart => exact ⟨a, b1, d, rfl, rfl, Nat.le_refl _, by omega, by omega, Lib.hid ⟨H.out, permIn_refl _ _ _⟩⟩
  case round =>
    obtain ⟨i, j, dk, rfl, rfl, hi1, hi2, hj1, hK⟩ := hrel
    by_cases hlt : i < j
    · obtain ⟨G, hG⟩ : ∃ G : Nat → Int, ∀ t, G t = dk[t]! := ⟨fun t => dk[t]!, fun _ => rfl⟩
      have hcw : ∀ t, t < n → wr.cell? ⟨blk, off + t, none⟩ = some (.int .u64 (G t)) := fun t ht => by rw [hG]; exact hK.out.1.cell ht
      have hfw : ∀ t, t < n → wr.frozen? ⟨blk, off + t, none⟩ = false := fun t ht => hK.out.1.free ht
      have HG := Lib.hid hG
      clear hG
      have hne : ¬ i = j := by omega
      have hne' : ¬ j = i := by omega
      have li : i < n := by omega
      have lj : j < n := by omega
      go_wp2
      go_region
      all_goals go_wp2
      go_roundw
      case rel => exact ⟨i + 1, j - 1, swp dk i j, by go_num, by first | (congr 1; done) | (congr 1; omega), by omega, by omega, by omega, Lib.hid ⟨hK.out.1.swapG HG _ _ _ li lj, permIn_trans _ _ _ _ _ hK.out.2 (swp_permIn dk a b i j hi1 (by omega) (by omega) hj1 (by rw [hK.out.2.1]; exact HZ.out))⟩⟩
      case measure => simp [intOf]; omega
    · go_wp2
      go_end0
      exact ⟨rfl, dk, hK.out.1, hK.out.2, trivial⟩
/-- The row, and a counter beside it. -/
structure Sp (w0 : World) (blk off n : Nat) (d : Array Int) (g : Nat) (w : World) : Prop where
  row : Rr w0 blk off n d w
  new : w0.heap.size ≤ g
  at' : ∃ s, w.cell? ⟨g, 0, none⟩ = some (.int .i64 s)
  free : w.frozen? ⟨g, 0, none⟩ = false
theorem Sp.drewN {w0 w : World} {blk off n g : Nat} {d : Array Int} (h : Sp w0 blk off n d g w) (q : Nat) : Sp w0 blk off n d g (w.drewN q) := ⟨h.row.drewN q, h.new, h.at', h.free⟩
theorem Sp.set {w0 w : World} {blk off n g : Nat} {d : Array Int} (h : Sp w0 blk off n d g w) (s : Int) : Sp w0 blk off n d g (w.setCell ⟨g, 0, none⟩ (.int .i64 s)) := by
  obtain ⟨t, ht⟩ := h.at'
  exact ⟨h.row.setNew g 0 _ h.new, h.new, ⟨s, by rw [World.cell?_setCell_same (h := ht)]⟩, by rw [World.frozen?_setCell]; exact h.free⟩
set_option maxHeartbeats 8000000 in
set_option maxRecDepth 100000 in
theorem so_order2 (w0 w : World) (blk off n cap a b g : Nat) (d : Array Int) (h : Sp w0 blk off n d g w) (ha : a < n) (hb : b < n) :
    Calls Tryz.prog 186 #[.slice (some ⟨blk, off, none⟩) n cap, .int .i64 a, .int .i64 b, .pointer (some ⟨g, 0, none⟩)] w fun e w' =>
      ∃ x y : Nat, e = .returned (.tuple #[.int .i64 x, .int .i64 y]) ∧ (x = a ∧ y = b ∨ x = b ∧ y = a) ∧ Sp w0 blk off n d g w' := by
  have few := h.row.few
  obtain ⟨s, hs⟩ := h.at'
  have hf := h.free
  have H := Lib.hid h
  obtain ⟨G, hG⟩ : ∃ G : Nat → Int, ∀ t, G t = d[t]! := ⟨fun t => d[t]!, fun _ => rfl⟩
  have hcw : ∀ t, t < n → w.cell? ⟨blk, off + t, none⟩ = some (.int .u64 (G t)) := fun t ht => by rw [hG]; exact h.row.cell ht
  have HG := Lib.hid hG
  clear hG h
  go_enter Tryz.func186, Tryz.ntmps186
  go_wp2
  go_quiet (first | (go_at_call 118; refine Calls.quiet_of_same (less_any _ _ _)))
  go_wp2
  · go_ret2
    exact ⟨b, a, rfl, .inr ⟨rfl, rfl⟩, (H.out.drewN nq).set _⟩
  · go_ret2
    exact ⟨a, b, rfl, .inl ⟨rfl, rfl⟩, H.out.drewN nq⟩
set_option maxHeartbeats 8000000 in
set_option maxRecDepth 100000 in
theorem so_median (w0 w : World) (blk off n cap a b c g lo hi : Nat) (d : Array Int) (h : Sp w0 blk off n d g w) (hn : hi ≤ n) (ha : lo ≤ a ∧ a < hi) (hb : lo ≤ b ∧ b < hi) (hc : lo ≤ c ∧ c < hi) :
    Calls Tryz.prog 184 #[.slice (some ⟨blk, off, none⟩) n cap, .int .i64 a, .int .i64 b, .int .i64 c, .pointer (some ⟨g, 0, none⟩)] w fun e w' =>
      ∃ x : Nat, e = .returned (.int .i64 x) ∧ (lo ≤ x ∧ x < hi) ∧ Sp w0 blk off n d g w' := by
  have H := Lib.hid h
  clear h
  go_enter Tryz.func184, Tryz.ntmps184
  go_wp2_with (go_at_call 186; (with_reducible refine (so_order2 w0 w blk off n cap a b g d H.out (by omega) (by omega)).mono ?_); rintro e w1 ⟨x1, y1, rfl, h1, k1⟩)
  have K1 := Lib.hid k1
  have hx1 : lo ≤ x1 ∧ x1 < hi := by omega
  have hy1 : lo ≤ y1 ∧ y1 < hi := by omega
  clear k1 h1
  go_wp2_with (go_at_call 186; (with_reducible refine (so_order2 w0 w1 blk off n cap y1 c g d K1.out (by omega) (by omega)).mono ?_); rintro e w2 ⟨x2, y2, rfl, h2, k2⟩)
  have K2 := Lib.hid k2
  have hx2 : lo ≤ x2 ∧ x2 < hi := by omega
  clear k2 h2
  go_wp2_with (go_at_call 186; (with_reducible refine (so_order2 w0 w2 blk off n cap x1 x2 g d K2.out (by omega) (by omega)).mono ?_); rintro e w3 ⟨x3, y3, rfl, h3, k3⟩)
  have K3 := Lib.hid k3
  have hy3 : lo ≤ y3 ∧ y3 < hi := by omega
  clear k3 h3
  go_wp2
  go_ret
  exact ⟨y3, rfl, hy3, K3.out⟩
end Go.Proofs.YtelfacchhclgnaaGreat.Kb
end
section
namespace Go.Proofs.YtelfacchhclgnaaGreat.Kb
set_option maxRecDepth 20000
open Go.RowKit Go.Sort
set_option maxHeartbeats 8000000 in
set_option maxRecDepth 100000 in
theorem so_medadj (w0 w : World) (blk off n cap a g lo hi : Nat) (d : Array Int) (h : Sp w0 blk off n d g w) (hn : hi ≤ n) (ha : lo + 1 ≤ a ∧ a + 1 < hi) :
    Calls Tryz.prog 183 #[.slice (some ⟨blk, off, none⟩) n cap, .int .i64 a, .pointer (some ⟨g, 0, none⟩)] w fun e w' =>
      ∃ x : Nat, e = .returned (.int .i64 x) ∧ (lo ≤ x ∧ x < hi) ∧ Sp w0 blk off n d g w' := by
  have few := h.row.few
  have H := Lib.hid h
  clear h
  obtain ⟨a1, h1⟩ : ∃ a1, a1 = a - 1 := ⟨_, rfl⟩
  obtain ⟨a2, h2⟩ : ∃ a2, a2 = a + 1 := ⟨_, rfl⟩
  have e1 : (a : Int) - 1 = (a1 : Int) := by omega
  have e2 : (a : Int) + 1 = (a2 : Int) := by omega
  have l0 : lo ≤ a ∧ a < hi := by omega
  have l1 : lo ≤ a1 ∧ a1 < hi := by omega
  have l2 : lo ≤ a2 ∧ a2 < hi := by omega
  clear h1 h2
  go_enter Tryz.func183, Tryz.ntmps183
  go_wp2_with (go_at_call 184; (with_reducible refine (so_median w0 w blk off n cap a1 a a2 g lo hi d H.out hn l1 l0 l2).mono ?_); rintro e w1 ⟨x, rfl, hx, k1⟩)
  go_ret
  exact ⟨x, rfl, hx, k1⟩
theorem Rr.boxed {w0 w : World} {blk off n : Nat} {d : Array Int} (h : Rr w0 blk off n d w) (s : Int) : Sp w0 blk off n d w.heap.size (w.alloc (.cells #[.int .i64 s] 3)) :=
  ⟨h.alloc _, h.le, ⟨s, by simp⟩, by simp⟩
set_option maxHeartbeats 8000000 in
set_option maxRecDepth 100000 in
theorem so_choose (w0 w : World) (blk off n cap a b : Nat) (d : Array Int) (h : Rr w0 blk off n d w) (hab : a + 12 < b) (hb : b ≤ n) :
    Calls Tryz.prog 166 #[.slice (some ⟨blk, off, none⟩) n cap, .int .i64 a, .int .i64 b] w fun e w' =>
      ∃ (x : Nat) (t : Int), e = .returned (.tuple #[.int .i64 x, .int .i64 t]) ∧ (a ≤ x ∧ x < b) ∧ Rr w0 blk off n d w' := by
  have few := h.few
  have H := Lib.hid h
  have HB := Lib.hid (h.boxed 0)
  clear h
  obtain ⟨L, hL⟩ : ∃ L, L = b - a := ⟨_, rfl⟩
  obtain ⟨q, hq⟩ : ∃ q, q = L / 4 := ⟨_, rfl⟩
  obtain ⟨I, hI⟩ : ∃ I, I = a + q := ⟨_, rfl⟩
  obtain ⟨J, hJ⟩ : ∃ J, J = a + q * 2 := ⟨_, rfl⟩
  obtain ⟨K, hK⟩ : ∃ K, K = a + q * 3 := ⟨_, rfl⟩
  have eL : (b : Int) - (a : Int) = (L : Int) := by omega
  have e4 : (L : Int) / 4 = (q : Int) := by omega
  have eI : (a : Int) + (q : Int) = (I : Int) := by omega
  have eJ : (a : Int) + (q : Int) * 2 = (J : Int) := by omega
  have eK : (a : Int) + (q : Int) * 3 = (K : Int) := by omega
  have lI : a ≤ I ∧ I < b := by omega
  have lJ : a ≤ J ∧ J < b := by omega
  have lK : a ≤ K ∧ K < b := by omega
  have hL8 : 8 ≤ L := by omega
  have m50 : 50 ≤ L → (a + 1 ≤ I ∧ I + 1 < b) ∧ (a + 1 ≤ J ∧ J + 1 < b) ∧ (a + 1 ≤ K ∧ K + 1 < b) := by omega
  have hq0 : q ≤ n := by omega
  have hL1 : L ≤ n := by omega
  have HM := Lib.hid m50
  clear hL hq hI hJ hK m50
  by_cases h50 : 50 ≤ L
  · go_enter Tryz.func166, Tryz.ntmps166
    go_wp2_with (go_at_call 183; (with_reducible refine (so_medadj w0 _ blk off n cap I w.heap.size a b d HB.out hb (HM.out h50).1).mono ?_); rintro e w1 ⟨x1, rfl, hx1, k1⟩; replace k1 := Lib.hid k1)
    go_wp2_with (go_at_call 183; (with_reducible refine (so_medadj w0 w1 blk off n cap J w.heap.size a b d k1.out hb (HM.out h50).2.1).mono ?_); rintro e w2 ⟨x2, rfl, hx2, k2⟩; replace k2 := Lib.hid k2)
    go_wp2_with (go_at_call 183; (with_reducible refine (so_medadj w0 w2 blk off n cap K w.heap.size a b d k2.out hb (HM.out h50).2.2).mono ?_); rintro e w3 ⟨x3, rfl, hx3, k3⟩; replace k3 := Lib.hid k3)
    go_wp2_with (go_at_call 184; (with_reducible refine (so_median w0 w3 blk off n cap x1 x2 x3 w.heap.size a b d k3.out hb hx1 hx2 hx3).mono ?_); rintro e w4 ⟨x, rfl, hx, k4⟩; obtain ⟨s, hs⟩ := k4.at'; replace k4 := Lib.hid k4)
    all_goals go_wp2
    all_goals go_ret2
    all_goals exact ⟨x, _, rfl, hx, k4.out.row⟩
  · go_enter Tryz.func166, Tryz.ntmps166
    go_wp2_with (go_at_call 184; (with_reducible refine (so_median w0 _ blk off n cap I J K w.heap.size a b d HB.out hb lI lJ lK).mono ?_); rintro e w4 ⟨x, rfl, hx, k4⟩; obtain ⟨s, hs⟩ := k4.at'; replace k4 := Lib.hid k4)
    all_goals go_wp2
    all_goals go_ret2
    all_goals exact ⟨x, _, rfl, hx, k4.out.row⟩
end Go.Proofs.YtelfacchhclgnaaGreat.Kb
end
section
namespace Go.Proofs.YtelfacchhclgnaaGreat.Kb
set_option maxRecDepth 20000
open Go.RowKit Go.Sort
theorem bitLen_eq {w : Nat} (hw : w < 2 ^ 64) (h0 : w ≠ 0) : Lib.bitLen w = w.log2 + 1 := by
  have h1 := Nat.log2_self_le h0
  have h2 : w < 2 ^ (w.log2 + 1) := Nat.lt_log2_self
  rw [Lib.bitLen_shift w.log2 w h1 hw]
  have e : w / 2 ^ w.log2 = 1 := by
    have hp : 0 < 2 ^ w.log2 := Nat.two_pow_pos _
    apply Nat.div_eq_of_lt_le
    · omega
    · rw [Nat.pow_succ] at h2; omega
  rw [e]
  rfl

theorem ltab_size : Lib.len8tab.size = 256 := by decide +kernel
theorem tab_all : ∀ n, n < 256 → ((Lib.len8tab[n]?).getD 0).toNat = Lib.bitLen n ∧ Lib.bitLen n ≤ 8 := by decide +kernel
theorem tab_len (b : Int) (h0 : 0 ≤ b) (h : b < 256) (hi : b.toNat < Lib.len8tab.size) : wrap64 ((Lib.len8tab[b.toNat]'hi).toNat : Int) = (Lib.bitLen b.toNat : Int) ∧ Lib.bitLen b.toNat ≤ 8 := by
  obtain ⟨h1, h2⟩ := tab_all b.toNat (by omega)
  rw [getElem?_pos Lib.len8tab b.toNat hi] at h1
  refine ⟨?_, h2⟩
  have e : ((Lib.len8tab[b.toNat]'hi).toNat : Int) = (Lib.bitLen b.toNat : Int) := by rw [← h1]; rfl
  rw [e]; unfold wrap64; omega
theorem len_fin (x b : Int) (k : Nat) (h0 : 0 ≤ x) (h1 : x ≤ 18446744073709551615) (hb0 : 0 ≤ b) (hb1 : b < 256) (hb : b.toNat = x.toNat / 2 ^ k) (hx : 2 ^ k ≤ x.toNat) (hk : k ≤ 56)
    (hi : b.toNat < Lib.len8tab.size) : wrap64 ((k : Int) + wrap64 ((Lib.len8tab[b.toNat]'hi).toNat : Int)) = (Lib.bitLen x.toNat : Int) := by
  obtain ⟨e, l⟩ := tab_len b hb0 hb1 hi
  have s := Lib.bitLen_shift k x.toNat hx (by omega)
  rw [e, s, ← hb]
  unfold wrap64
  omega
set_option maxHeartbeats 4000000 in
set_option maxRecDepth 100000 in
theorem len64_any (x : Int) (w : World) (h0 : 0 ≤ x) (h1 : x ≤ 18446744073709551615) :
    Calls Tryz.prog 172 #[.int .u64 x] w fun e w' => e = .returned (.int .i64 (Lib.bitLen x.toNat)) ∧ w = w' := by
  have hsz := ltab_size
  go_enter Tryz.func172, Tryz.ntmps172
  go_wp2
  all_goals (go_ret; refine ⟨congrArg Ending.returned (congrArg (Value.int IntKind.i64) ?_), rfl⟩)
  all_goals first
    | exact len_fin x (x / 4294967296 / 65536 / 256) 56 h0 h1 (by omega) (by omega) (by omega) (by omega) (by decide) _
    | exact len_fin x (x / 4294967296 / 65536) 48 h0 h1 (by omega) (by omega) (by omega) (by omega) (by decide) _
    | exact len_fin x (x / 4294967296 / 256) 40 h0 h1 (by omega) (by omega) (by omega) (by omega) (by decide) _
    | exact len_fin x (x / 4294967296) 32 h0 h1 (by omega) (by omega) (by omega) (by omega) (by decide) _
    | exact len_fin x (x / 65536 / 256) 24 h0 h1 (by omega) (by omega) (by omega) (by omega) (by decide) _
    | exact len_fin x (x / 65536) 16 h0 h1 (by omega) (by omega) (by omega) (by omega) (by decide) _
    | exact len_fin x (x / 256) 8 h0 h1 (by omega) (by omega) (by omega) (by omega) (by decide) _
    | exact (by
        obtain ⟨e, l⟩ := tab_len x h0 (by omega) (by omega)
        rw [e]; unfold wrap64; omega)
theorem len_any (x : Int) (w : World) (h0 : 0 ≤ x) (h1 : x ≤ 18446744073709551615) :
    Calls Tryz.prog 153 #[.int .u64 x] w fun e w' => e = .returned (.int .i64 (Lib.bitLen x.toNat)) ∧ w = w' := by
  go_enter Tryz.func153, Tryz.ntmps153
  go_wp2_with (go_at_call 172; refine (len64_any x _ h0 h1).mono ?_; rintro e w' ⟨rfl, rfl⟩)
  go_ret
  exact ⟨rfl, rfl⟩
set_option maxHeartbeats 4000000 in
theorem power_any (L : Nat) (w : World) (h1 : 0 < L) (h2 : L < 4611686018427387904) :
    Calls Tryz.prog 181 #[.int .i64 L] w fun e w' => (∃ m : Nat, e = .returned (.int .u64 m) ∧ 0 < m ∧ m ≤ 2 * L) ∧ w = w' := by
  obtain ⟨k, hk⟩ : ∃ k, k = Lib.bitLen L := ⟨_, rfl⟩
  have hl : Lib.bitLen L = L.log2 + 1 := bitLen_eq (by omega) (by omega)
  have h3 : 2 ^ L.log2 ≤ L := Nat.log2_self_le (by omega)
  have h4 : L.log2 < 62 := (Nat.log2_lt (by omega)).2 (by omega)
  have hp0 : 0 < 2 ^ (L.log2 + 1) := Nat.two_pow_pos _
  have hp : 2 ^ (L.log2 + 1) ≤ 2 * L := by rw [Nat.pow_succ]; omega
  have hw1 : 0 ≤ (2 : Int) ^ (L.log2 + 1) ∧ (2 : Int) ^ (L.log2 + 1) ≤ 18446744073709551615 := by
    have e : ((2 ^ (L.log2 + 1) : Nat) : Int) = (2 : Int) ^ (L.log2 + 1) := by simp
    rw [← e]; omega
  have hk2 : k < 64 := by omega
  have e0 : ((L : Int)).toNat = L := rfl
  go_enter Tryz.func181, Tryz.ntmps181
  go_wp2_with (go_at_call 153; refine (len_any _ _ (by omega) (by omega)).mono ?_; rintro e w' ⟨rfl, rfl⟩)
  go_ret
  refine ⟨⟨2 ^ (L.log2 + 1), ?_, by omega, by omega⟩, rfl⟩
  exact congrArg (fun z => Ending.returned (Value.int .u64 z)) (by simp)
/-- The row, and a number that turns beside it. -/
structure Sq (w0 : World) (blk off n : Nat) (d : Array Int) (g : Nat) (w : World) : Prop where
  row : Rr w0 blk off n d w
  new : w0.heap.size ≤ g
  at' : ∃ s, w.cell? ⟨g, 0, none⟩ = some (.int .u64 s)
  free : w.frozen? ⟨g, 0, none⟩ = false
section
variable {w0 w : World} {blk off n g : Nat} {d : Array Int}
theorem Sq.drewN (h : Sq w0 blk off n d g w) (q : Nat) : Sq w0 blk off n d g (w.drewN q) := ⟨h.row.drewN q, h.new, h.at', h.free⟩
theorem Sq.set (h : Sq w0 blk off n d g w) (s : Int) : Sq w0 blk off n d g (w.setCell ⟨g, 0, none⟩ (.int .u64 s)) := by
  obtain ⟨t, ht⟩ := h.at'
  exact ⟨h.row.setNew g 0 _ h.new, h.new, ⟨s, by rw [World.cell?_setCell_same (h := ht)]⟩, by rw [World.frozen?_setCell]; exact h.free⟩
theorem Rr.boxedQ (h : Rr w0 blk off n d w) (s : Int) : Sq w0 blk off n d w.heap.size (w.alloc (.cells #[.int .u64 s] 200)) :=
  ⟨h.alloc _, h.le, ⟨s, by simp⟩, by simp⟩
end
set_option maxHeartbeats 4000000 in
theorem xor_next (w0 w : World) (blk off n g : Nat) (d : Array Int) (h : Sq w0 blk off n d g w) :
    Calls Tryz.prog 182 #[.pointer (some ⟨g, 0, none⟩)] w fun e w' => ∃ r : Nat, e = .returned (.int .u64 r) ∧ r < 18446744073709551616 ∧ Sq w0 blk off n d g w' := by
  obtain ⟨s, hs⟩ := h.at'
  have hf := h.free
  have H := Lib.hid h
  have h3 : ∀ x1 x2 x3 : Int, (((w.setCell ⟨g, 0, none⟩ (.int .u64 x1)).setCell ⟨g, 0, none⟩ (.int .u64 x2)).setCell ⟨g, 0, none⟩ (.int .u64 x3)).cell? ⟨g, 0, none⟩ = some (.int .u64 x3) := by
    intro x1 x2 x3
    have a1 := World.cell?_setCell_same (v := .int .u64 x1) (h := hs)
    have a2 := World.cell?_setCell_same (v := .int .u64 x2) (h := a1)
    rw [World.cell?_setCell_same (h := a2)]
  clear h
  go_enter Tryz.func182, Tryz.ntmps182
  go_wp2
  go_region
  all_goals go_wp2
  go_region
  all_goals go_wp2
  go_region
  all_goals go_wp2
  go_ret
  generalize hx : bits BinOp.xor IntKind.u64 (bits BinOp.xor IntKind.u64 (bits BinOp.xor IntKind.u64 s (IntKind.u64.wrap (s * 8192))) (bits BinOp.xor IntKind.u64 s (IntKind.u64.wrap (s * 8192)) / 128)) _ = x
  have hb := bits_within .xor .u64 (bits BinOp.xor IntKind.u64 (bits BinOp.xor IntKind.u64 s (IntKind.u64.wrap (s * 8192))) (bits BinOp.xor IntKind.u64 s (IntKind.u64.wrap (s * 8192)) / 128)) (IntKind.u64.wrap (bits BinOp.xor IntKind.u64 (bits BinOp.xor IntKind.u64 s (IntKind.u64.wrap (s * 8192))) (bits BinOp.xor IntKind.u64 s (IntKind.u64.wrap (s * 8192)) / 128) * 131072))
  rw [hx] at hb
  have hb1 : 0 ≤ x ∧ x ≤ 18446744073709551615 := hb
  refine ⟨x.toNat, ?_, by omega, ?_⟩
  · exact congrArg (fun z => Ending.returned (Value.int .u64 z)) (by omega)
  · exact ((((H.out.set _).set _).set _).drewN 3)
end Go.Proofs.YtelfacchhclgnaaGreat.Kb
end
section
namespace Go.Proofs.YtelfacchhclgnaaGreat.Kb
set_option maxRecDepth 20000
open Go.RowKit Go.Sort
theorem and_cut (r m1 L : Nat) (hr : r < 18446744073709551616) (hm : m1 < 2 * L) (hL : L < 4611686018427387904) : ∃ o : Nat, bits BinOp.and IntKind.u64 (r : Int) (m1 : Int) = (o : Int) ∧ o < 2 * L :=
  ⟨r &&& m1, bits_and_u64_nat r m1 hr (by omega), Nat.lt_of_le_of_lt Nat.and_le_right hm⟩
theorem sq_swap {w0 w : World} {blk off n g : Nat} {d : Array Int} {G : Nat → Int} (h : Sq w0 blk off n d g w) (hG : Hid (∀ t, G t = d[t]!)) (q i j : Nat) (hi : i < n) (hj : j < n) :
    Sq w0 blk off n (swp d i j) g (((w.setCell ⟨blk, off + i, none⟩ (.int .u64 (G j))).setCell ⟨blk, off + j, none⟩ (.int .u64 (G i))).drewN q) := by
  have hne : blk ≠ g := by have := h.new; have := h.row.lt; omega
  obtain ⟨s, hs⟩ := h.at'
  refine ⟨h.row.swapG hG q i j hi hj, h.new, ⟨s, ?_⟩, ?_⟩
  · show ((w.setCell ⟨blk, off + i, none⟩ (.int .u64 (G j))).setCell ⟨blk, off + j, none⟩ (.int .u64 (G i))).cell? ⟨g, 0, none⟩ = _
    rw [World.cell?_setCell_other (h := by simp), World.cell?_setCell_other (h := by simp)]
    exact hs
  · show ((w.setCell ⟨blk, off + i, none⟩ (.int .u64 (G j))).setCell ⟨blk, off + j, none⟩ (.int .u64 (G i))).frozen? ⟨g, 0, none⟩ = _
    rw [World.frozen?_setCell, World.frozen?_setCell]
    exact h.free
set_option maxHeartbeats 16000000 in
set_option maxRecDepth 100000 in
theorem so_break (w0 w : World) (blk off n cap a b : Nat) (d : Array Int) (h : Rr w0 blk off n d w) (hab : a + 12 < b) (hb : b ≤ n) :
    Calls Tryz.prog 165 #[.slice (some ⟨blk, off, none⟩) n cap, .int .i64 a, .int .i64 b] w fun e w' =>
      e = .returned (.tuple #[]) ∧ Sr w0 blk off n a b d (fun _ => True) w' := by
  have few := h.few
  have HZ : Hid (b ≤ d.size) := Lib.hid (by rw [h.size]; exact hb)
  obtain ⟨L, hL⟩ : ∃ L, L = b - a := ⟨_, rfl⟩
  obtain ⟨q, hq⟩ : ∃ q, q = L / 4 := ⟨_, rfl⟩
  obtain ⟨J, hJ⟩ : ∃ J, J = a + q * 2 := ⟨_, rfl⟩
  obtain ⟨J0, hJ0⟩ : ∃ J0, J0 = J - 1 := ⟨_, rfl⟩
  obtain ⟨J2, hJ2⟩ : ∃ J2, J2 = J + 1 := ⟨_, rfl⟩
  have eL : (b : Int) - (a : Int) = (L : Int) := by omega
  have e4 : (L : Int) / 4 = (q : Int) := by omega
  have eJ : (a : Int) + (q : Int) * 2 = (J : Int) := by omega
  have eJ0 : (J : Int) - 1 = (J0 : Int) := by omega
  have eJ2 : (J : Int) + 1 = (J2 : Int) := by omega
  have hL8 : 8 ≤ L := by omega
  have hq0 : q ≤ n := by omega
  have hL1 : L ≤ n := by omega
  have hLb : a + L ≤ b := by omega
  have hJa : a ≤ J0 := by omega
  have hJb : J2 < b := by omega
  have hJJ : J0 ≤ J2 + 1 := by omega
  have HB := Lib.hid (h.boxedQ (L : Int))
  clear h hL hq hJ hJ0 hJ2
  go_enter Tryz.func165, Tryz.ntmps165
  go_wp2_with (go_at_call 181; (with_reducible refine (power_any L _ (by omega) (by omega)).mono ?_); rintro e w1 ⟨⟨m, rfl, hm0, hm⟩, hw1⟩)
  have K1 : Hid (Sq w0 blk off n d w.heap.size w1) := Lib.hid (hw1 ▸ HB.out)
  clear hw1
  obtain ⟨m1, hm1⟩ : ∃ m1, m1 = m - 1 := ⟨_, rfl⟩
  have em : (m : Int) - 1 = (m1 : Int) := by omega
  have hm2 : m1 < 2 * L := by omega
  clear hm1
  go_loopw [9] (fun vi wr => ∃ (i : Nat) (dk : Array Int), vi = .int .i64 i ∧ a ≤ i ∧ i ≤ J2 + 1 ∧ Hid (Sq w0 blk off n dk w.heap.size wr) ∧ Hid (PermIn a b d dk)) (fun vi _ => J2 + 1 - (intOf vi).toNat)
  case atStart => exact ⟨J0, d, rfl, hJa, by omega, K1, Lib.hid (permIn_refl _ _ _)⟩
  case round =>
    obtain ⟨i, dk, rfl, hi1, hi2, hK, hP⟩ := hrel
    by_cases hle : i ≤ J2
    · go_wp2_with (go_at_call 182; (with_reducible refine (xor_next w0 wr blk off n w.heap.size dk hK.out).mono ?_); rintro e w2 ⟨r, rfl, hr, k2⟩; obtain ⟨o, ho, ho2⟩ := and_cut r m1 L hr hm2 (by omega); replace k2 := Lib.hid k2)
      · have hLo : L ≤ o := by assumption
        obtain ⟨p, hp⟩ : ∃ p, p = o - L := ⟨_, rfl⟩
        have eo : (o : Int) - (L : Int) = (p : Int) := by omega
        have hp2 : p < L := by omega
        simp only [eo]
        clear hp ho
        have li : i < n := by omega
        have lo : a + p < n := by omega
        have tp : ((a : Int) + (p : Int)).toNat = a + p := by omega
        have y0 : (0 : Int) ≤ (a : Int) + (p : Int) := by omega
        obtain ⟨G, hG⟩ : ∃ G : Nat → Int, ∀ t, G t = dk[t]! := ⟨fun t => dk[t]!, fun _ => rfl⟩
        have hcw : ∀ t, t < n → w2.cell? ⟨blk, off + t, none⟩ = some (.int .u64 (G t)) := fun t ht => by rw [hG]; exact k2.out.row.cell ht
        have hfw : ∀ t, t < n → w2.frozen? ⟨blk, off + t, none⟩ = false := fun t ht => k2.out.row.free ht
        have HG := Lib.hid hG
        clear hG
        by_cases hio : i = a + p
        · subst hio
          have v1 := w64 ((a : Int) + (p : Int)) (by omega) (by omega)
          go_wp2
          go_region
          all_goals go_wp2
          go_roundw
          case rel => exact ⟨(a + p) + 1, swp dk (a + p) (a + p), by (first | go_num | (congr 1; omega)), by omega, by omega, Lib.hid (sq_swap k2.out HG 1 (a + p) (a + p) li lo), Lib.hid (permIn_trans _ _ _ _ _ hP.out (swp_permIn dk a b (a + p) (a + p) (by omega) (by omega) (by omega) (by omega) (by rw [hP.out.1]; exact HZ.out)))⟩
          case measure => simp [intOf]; omega
        · have hne : ¬ i = a + p := hio
          have hne' : ¬ a + p = i := fun e => hio e.symm
          have v1 := w64 ((a : Int) + (p : Int)) (by omega) (by omega)
          go_wp2
          go_region
          all_goals go_wp2
          go_roundw
          case rel => exact ⟨i + 1, swp dk i (a + p), by go_num, by omega, by omega, Lib.hid (sq_swap k2.out HG 1 i (a + p) li lo), Lib.hid (permIn_trans _ _ _ _ _ hP.out (swp_permIn dk a b i (a + p) (by omega) (by omega) (by omega) (by omega) (by rw [hP.out.1]; exact HZ.out)))⟩
          case measure => simp [intOf]; omega
      · have hp2 : o < L := by omega
        clear ho
        have li : i < n := by omega
        have lo : a + o < n := by omega
        have to : ((a : Int) + (o : Int)).toNat = a + o := by omega
        have y0 : (0 : Int) ≤ (a : Int) + (o : Int) := by omega
        obtain ⟨G, hG⟩ : ∃ G : Nat → Int, ∀ t, G t = dk[t]! := ⟨fun t => dk[t]!, fun _ => rfl⟩
        have hcw : ∀ t, t < n → w2.cell? ⟨blk, off + t, none⟩ = some (.int .u64 (G t)) := fun t ht => by rw [hG]; exact k2.out.row.cell ht
        have hfw : ∀ t, t < n → w2.frozen? ⟨blk, off + t, none⟩ = false := fun t ht => k2.out.row.free ht
        have HG := Lib.hid hG
        clear hG
        by_cases hio : i = a + o
        · subst hio
          have v1 := w64 ((a : Int) + (o : Int)) (by omega) (by omega)
          go_wp2
          go_region
          all_goals go_wp2
          go_roundw
          case rel => exact ⟨(a + o) + 1, swp dk (a + o) (a + o), by (first | go_num | (congr 1; omega)), by omega, by omega, Lib.hid (sq_swap k2.out HG 1 (a + o) (a + o) li lo), Lib.hid (permIn_trans _ _ _ _ _ hP.out (swp_permIn dk a b (a + o) (a + o) (by omega) (by omega) (by omega) (by omega) (by rw [hP.out.1]; exact HZ.out)))⟩
          case measure => simp [intOf]; omega
        · have hne : ¬ i = a + o := hio
          have hne' : ¬ a + o = i := fun e => hio e.symm
          have v1 := w64 ((a : Int) + (o : Int)) (by omega) (by omega)
          go_wp2
          go_region
          all_goals go_wp2
          go_roundw
          case rel => exact ⟨i + 1, swp dk i (a + o), by go_num, by omega, by omega, Lib.hid (sq_swap k2.out HG 1 i (a + o) li lo), Lib.hid (permIn_trans _ _ _ _ _ hP.out (swp_permIn dk a b i (a + o) (by omega) (by omega) (by omega) (by omega) (by rw [hP.out.1]; exact HZ.out)))⟩
          case measure => simp [intOf]; omega
    · go_wp2
      go_end0
      exact ⟨rfl, dk, hK.out.row, hP.out, trivial⟩
end Go.Proofs.YtelfacchhclgnaaGreat.Kb
end
