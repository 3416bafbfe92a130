
/- Some patterns are broken: three numbers change places with others, by a sequence that looks like chance; the text walked. -/
import Derived.Test.YtepnjolldbgglaaKbSrt4
import Derived.Laws.BitsAllLaws
import Derived.Laws.Bits64b
import Derived.Laws.Closers25b
import Derived.Lib.BitFns
import Derived.Lib.Strings
import Derived.Lib.Small
import Derived.Lib.Walk
namespace Go.Proofs.Ytepnjolldbgglaa.Kb
open Go.RowKit Go.Sort
theorem bitLen_eq {w : Nat} (hw : w < 2 ^ 64) (h0 : w ≠ 0) : Lib.bitLen w = w.log2 + 1 := by
  have h1 := Nat.log2_self_le h0
  have h2 : w < 2 ^ (w.log2 + 1) := Nat.lt_log2_self
  rw [Lib.bitLen_shift w.log2 w h1 hw]
  have e : w / 2 ^ w.log2 = 1 := by
    have hp : 0 < 2 ^ w.log2 := Nat.two_pow_pos _
    apply Nat.div_eq_of_lt_le
    · omega
    · rw [Nat.pow_succ] at h2; omega
  rw [e]
  rfl

theorem ltab_size : Lib.len8tab.size = 256 := by decide +kernel
theorem tab_all : ∀ n, n < 256 → ((Lib.len8tab[n]?).getD 0).toNat = Lib.bitLen n ∧ Lib.bitLen n ≤ 8 := by decide +kernel
theorem tab_len (b : Int) (h0 : 0 ≤ b) (h : b < 256) (hi : b.toNat < Lib.len8tab.size) : wrap64 ((Lib.len8tab[b.toNat]'hi).toNat : Int) = (Lib.bitLen b.toNat : Int) ∧ Lib.bitLen b.toNat ≤ 8 := by
  obtain ⟨h1, h2⟩ := tab_all b.toNat (by omega)
  rw [getElem?_pos Lib.len8tab b.toNat hi] at h1
  refine ⟨?_, h2⟩
  have e : ((Lib.len8tab[b.toNat]'hi).toNat : Int) = (Lib.bitLen b.toNat : Int) := by rw [← h1]; rfl
  rw [e]; unfold wrap64; omega
theorem len_fin (x b : Int) (k : Nat) (h0 : 0 ≤ x) (h1 : x ≤ 18446744073709551615) (hb0 : 0 ≤ b) (hb1 : b < 256) (hb : b.toNat = x.toNat / 2 ^ k) (hx : 2 ^ k ≤ x.toNat) (hk : k ≤ 56)
    (hi : b.toNat < Lib.len8tab.size) : wrap64 ((k : Int) + wrap64 ((Lib.len8tab[b.toNat]'hi).toNat : Int)) = (Lib.bitLen x.toNat : Int) := by
  obtain ⟨e, l⟩ := tab_len b hb0 hb1 hi
  have s := Lib.bitLen_shift k x.toNat hx (by omega)
  rw [e, s, ← hb]
  unfold wrap64
  omega
set_option maxHeartbeats 4000000 in
set_option maxRecDepth 100000 in
theorem len64_any (x : Int) (w : World) (h0 : 0 ≤ x) (h1 : x ≤ 18446744073709551615) :
    Calls Try.prog 44 #[.int .u64 x] w fun e w' => e = .returned (.int .i64 (Lib.bitLen x.toNat)) ∧ w = w' := by
  have hsz := ltab_size
  go_enter Try.func44, Try.ntmps44
  go_wp2
  all_goals (go_ret; refine ⟨congrArg Ending.returned (congrArg (Value.int IntKind.i64) ?_), rfl⟩)
  all_goals first
    | exact len_fin x (x / 4294967296 / 65536 / 256) 56 h0 h1 (by omega) (by omega) (by omega) (by omega) (by decide) _
    | exact len_fin x (x / 4294967296 / 65536) 48 h0 h1 (by omega) (by omega) (by omega) (by omega) (by decide) _
    | exact len_fin x (x / 4294967296 / 256) 40 h0 h1 (by omega) (by omega) (by omega) (by omega) (by decide) _
    | exact len_fin x (x / 4294967296) 32 h0 h1 (by omega) (by omega) (by omega) (by omega) (by decide) _
    | exact len_fin x (x / 65536 / 256) 24 h0 h1 (by omega) (by omega) (by omega) (by omega) (by decide) _
    | exact len_fin x (x / 65536) 16 h0 h1 (by omega) (by omega) (by omega) (by omega) (by decide) _
    | exact len_fin x (x / 256) 8 h0 h1 (by omega) (by omega) (by omega) (by omega) (by decide) _
    | exact (by
        obtain ⟨e, l⟩ := tab_len x h0 (by omega) (by omega)
        rw [e]; unfold wrap64; omega)
theorem len_any (x : Int) (w : World) (h0 : 0 ≤ x) (h1 : x ≤ 18446744073709551615) :
    Calls Try.prog 33 #[.int .u64 x] w fun e w' => e = .returned (.int .i64 (Lib.bitLen x.toNat)) ∧ w = w' := by
  go_enter Try.func33, Try.ntmps33
  go_wp2_with (go_at_call 44; refine (len64_any x _ h0 h1).mono ?_; rintro e w' ⟨rfl, rfl⟩)
  go_ret
  exact ⟨rfl, rfl⟩
set_option maxHeartbeats 4000000 in
theorem power_any (L : Nat) (w : World) (h1 : 0 < L) (h2 : L < 4611686018427387904) :
    Calls Try.prog 46 #[.int .i64 L] w fun e w' => (∃ m : Nat, e = .returned (.int .u64 m) ∧ 0 < m ∧ m ≤ 2 * L) ∧ w = w' := by
  obtain ⟨k, hk⟩ : ∃ k, k = Lib.bitLen L := ⟨_, rfl⟩
  have hl : Lib.bitLen L = L.log2 + 1 := bitLen_eq (by omega) (by omega)
  have h3 : 2 ^ L.log2 ≤ L := Nat.log2_self_le (by omega)
  have h4 : L.log2 < 62 := (Nat.log2_lt (by omega)).2 (by omega)
  have hp0 : 0 < 2 ^ (L.log2 + 1) := Nat.two_pow_pos _
  have hp : 2 ^ (L.log2 + 1) ≤ 2 * L := by rw [Nat.pow_succ]; omega
  have hw1 : 0 ≤ (2 : Int) ^ (L.log2 + 1) ∧ (2 : Int) ^ (L.log2 + 1) ≤ 18446744073709551615 := by
    have e : ((2 ^ (L.log2 + 1) : Nat) : Int) = (2 : Int) ^ (L.log2 + 1) := by simp
    rw [← e]; omega
  have hk2 : k < 64 := by omega
  have e0 : ((L : Int)).toNat = L := rfl
  go_enter Try.func46, Try.ntmps46
  go_wp2_with (go_at_call 33; refine (len_any _ _ (by omega) (by omega)).mono ?_; rintro e w' ⟨rfl, rfl⟩)
  go_ret
  refine ⟨⟨2 ^ (L.log2 + 1), ?_, by omega, by omega⟩, rfl⟩
  exact congrArg (fun z => Ending.returned (Value.int .u64 z)) (by simp)
/-- The row, and a number that turns beside it. -/
structure Sq (w0 : World) (blk off n : Nat) (d : Array Int) (g : Nat) (w : World) : Prop where
  row : Rr w0 blk off n d w
  new : w0.heap.size ≤ g
  at' : ∃ s, w.cell? ⟨g, 0, none⟩ = some (.int .u64 s)
  free : w.frozen? ⟨g, 0, none⟩ = false
section
variable {w0 w : World} {blk off n g : Nat} {d : Array Int}
theorem Sq.drewN (h : Sq w0 blk off n d g w) (q : Nat) : Sq w0 blk off n d g (w.drewN q) := ⟨h.row.drewN q, h.new, h.at', h.free⟩
theorem Sq.set (h : Sq w0 blk off n d g w) (s : Int) : Sq w0 blk off n d g (w.setCell ⟨g, 0, none⟩ (.int .u64 s)) := by
  obtain ⟨t, ht⟩ := h.at'
  exact ⟨h.row.setNew g 0 _ h.new, h.new, ⟨s, by rw [World.cell?_setCell_same (h := ht)]⟩, by rw [World.frozen?_setCell]; exact h.free⟩
theorem Rr.boxedQ (h : Rr w0 blk off n d w) (s : Int) : Sq w0 blk off n d w.heap.size (w.alloc (.cells #[.int .u64 s] 59)) :=
  ⟨h.alloc _, h.le, ⟨s, by simp⟩, by simp⟩
end
set_option maxHeartbeats 4000000 in
theorem xor_next (w0 w : World) (blk off n g : Nat) (d : Array Int) (h : Sq w0 blk off n d g w) :
    Calls Try.prog 47 #[.pointer (some ⟨g, 0, none⟩)] w fun e w' => ∃ r : Nat, e = .returned (.int .u64 r) ∧ r < 18446744073709551616 ∧ Sq w0 blk off n d g w' := by
  obtain ⟨s, hs⟩ := h.at'
  have hf := h.free
  have H := Lib.hid h
  have h3 : ∀ x1 x2 x3 : Int, (((w.setCell ⟨g, 0, none⟩ (.int .u64 x1)).setCell ⟨g, 0, none⟩ (.int .u64 x2)).setCell ⟨g, 0, none⟩ (.int .u64 x3)).cell? ⟨g, 0, none⟩ = some (.int .u64 x3) := by
    intro x1 x2 x3
    have a1 := World.cell?_setCell_same (v := .int .u64 x1) (h := hs)
    have a2 := World.cell?_setCell_same (v := .int .u64 x2) (h := a1)
    rw [World.cell?_setCell_same (h := a2)]
  clear h
  go_enter Try.func47, Try.ntmps47
  go_wp2
  go_region
  all_goals go_wp2
  go_region
  all_goals go_wp2
  go_region
  all_goals go_wp2
  go_ret
  generalize hx : bits BinOp.xor IntKind.u64 (bits BinOp.xor IntKind.u64 (bits BinOp.xor IntKind.u64 s (IntKind.u64.wrap (s * 8192))) (bits BinOp.xor IntKind.u64 s (IntKind.u64.wrap (s * 8192)) / 128)) _ = x
  have hb := bits_within .xor .u64 (bits BinOp.xor IntKind.u64 (bits BinOp.xor IntKind.u64 s (IntKind.u64.wrap (s * 8192))) (bits BinOp.xor IntKind.u64 s (IntKind.u64.wrap (s * 8192)) / 128)) (IntKind.u64.wrap (bits BinOp.xor IntKind.u64 (bits BinOp.xor IntKind.u64 s (IntKind.u64.wrap (s * 8192))) (bits BinOp.xor IntKind.u64 s (IntKind.u64.wrap (s * 8192)) / 128) * 131072))
  rw [hx] at hb
  have hb1 : 0 ≤ x ∧ x ≤ 18446744073709551615 := hb
  refine ⟨x.toNat, ?_, by omega, ?_⟩
  · exact congrArg (fun z => Ending.returned (Value.int .u64 z)) (by omega)
  · exact ((((H.out.set _).set _).set _).drewN 3)
end Go.Proofs.Ytepnjolldbgglaa.Kb
