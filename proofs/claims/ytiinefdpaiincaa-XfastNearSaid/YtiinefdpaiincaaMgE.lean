/- How many unlike beginnings keys have (stepstoneref11), what a trie and an x-fast trie use; the texts walked. What a trie and an x-fast trie use (stepstoneref11); the texts walked. What a set of keys by its methods must keep (layers 11, 12, 14): a law's side walks on this alone. -/
import Derived.Test.YtiinefdpaiincaaMgC
import Derived.Test.YtiinefdpaiincaaMgD
section
namespace Go.Proofs.Ytiinefdpaiincaa
set_option maxRecDepth 4000
open Go.RowKit
namespace K
def kc (xs : List Nat) (b j : Nat) : Bool := decide (j = 0) || (decide (0 < b) && !decide ((xs[j]?).getD 0 / 2 ^ (64 - b) = (xs[j - 1]?).getD 0 / 2 ^ (64 - b)))
def kd (xs : List Nat) (b : Nat) : Nat → Nat
  | 0 => 0
  | j + 1 => kd xs b j + if kc xs b j then 1 else 0
/-- How many unlike beginnings of b bits. -/
def kinds (xs : List Nat) (b : Nat) : Nat := kd xs b xs.length
theorem kd_le (xs : List Nat) (b : Nat) : ∀ j, kd xs b j ≤ j
  | 0 => Nat.le_refl _
  | j + 1 => by
    have := kd_le xs b j
    unfold kd
    split <;> omega
theorem kinds_le (xs : List Nat) (b : Nat) : kinds xs b ≤ xs.length := kd_le _ _ _
theorem div_ne (a a' b : Nat) : ((a : Int) / 2 ^ (64 - b) != (a' : Int) / 2 ^ (64 - b)) = !decide (a / 2 ^ (64 - b) = a' / 2 ^ (64 - b)) := by
  have e : ∀ x : Nat, (x : Int) / 2 ^ (64 - b) = ((x / 2 ^ (64 - b) : Nat) : Int) := fun x => by
    rw [Int.natCast_ediv]
    simp
  rw [e, e]
  generalize a / 2 ^ (64 - b) = p
  generalize a' / 2 ^ (64 - b) = q
  by_cases h : p = q
  · subst h; simp
  · rw [decide_eq_false h]
    have h2 : ((p : Int) == (q : Int)) = false := by rw [Bool.eq_false_iff]; intro e; rw [beq_iff_eq] at e; omega
    rw [bne, h2]
end K
set_option maxHeartbeats 2000000 in
theorem k_kinds (w : World) (v : Value) (xs : List Nat) (h : KX w v xs) (hl : xs.length ≤ 1000000) (b : Nat) (hb : b ≤ 64) :
    Calls Try.prog 40 #[v, .int .i64 (b : Int)] w fun e w' => e = .returned (.int .i64 (K.kinds xs b : Nat)) ∧ Below w.heap.size w w' := by
  have hE := Lib.hid (show K.kinds xs b = K.kd xs b xs.length from rfl)
  have hS := Lib.hid (fun j => show K.kd xs b (j + 1) = K.kd xs b j + if K.kc xs b j then 1 else 0 from rfl)
  have hLe := Lib.hid (K.kd_le xs b)
  have hK := Lib.hid (fun j => show K.kc xs b j = (decide (j = 0) || (decide (0 < b) && !decide ((xs[j]?).getD 0 / 2 ^ (64 - b) = (xs[j - 1]?).getD 0 / 2 ^ (64 - b)))) from rfl)
  have h0 := Lib.hid (show K.kd xs b 0 = 0 from rfl)
  generalize K.kinds xs b = X at *
  generalize K.kd xs b = kd at *
  generalize K.kc xs b = kc at *
  rcases h.form with ⟨rfl, rfl⟩ | ⟨g, c, rfl, hc, hg, hcells⟩
  · have hX : X = 0 := hE.out.trans h0.out
    subst hX
    clear h
    go_enter Try.func40, Try.ntmps40
    go_wp2
    go_loop [5, 10] (fun n i => n = .int .i64 0 ∧ i = .int .i64 0) (fun _ _ => 0)
    case atStart => exact ⟨rfl, rfl⟩
    case round =>
      obtain ⟨rfl, rfl⟩ := hrel
      go_wp2
      go_ret
      exact ⟨rfl, Below.refl _ _⟩
  · have hC := Lib.hid hcells
    clear hcells h
    go_enter Try.func40, Try.ntmps40
    go_wp2
    go_loopw [5, 10] (fun n i wr => ∃ j : Nat, j ≤ xs.length ∧ i = .int .i64 j ∧ n = .int .i64 ((kd j : Nat) : Int) ∧ Below w.heap.size w wr) (fun _ i _ => xs.length - (intOf i).toNat)
    case atStart => exact ⟨0, by omega, rfl, by rw [h0.out]; rfl, Below.refl _ _⟩
    case round =>
      obtain ⟨j, hj, rfl, rfl, hbl⟩ := hrel
      have HB := Lib.hid hbl
      by_cases hlt : j < xs.length
      · have c0 := (hbl.cell (p := ⟨g, j, none⟩) hg).trans (hC.out j hlt)
        have hjz : (j : Int) < (xs.length : Int) := by omega
        have hd1 : decide ((j : Int) < (xs.length : Int)) = true := decide_eq_true (by omega)
        have hd2 : decide (j < xs.length) = true := decide_eq_true hlt
        have wj : IntKind.i64.wrap ((j : Int) + 1) = (j : Int) + 1 := IntWalk.i64_in _ (by omega)
        have hs := Lib.hid (hS.out j)
        have hk := hK.out j
        rw [List.getElem?_eq_getElem hlt] at hk
        have hnl := hLe.out j
        generalize hn1 : kd (j + 1) = n1 at hs
        have HN1 := Lib.hid hn1
        clear hn1
        generalize kd j = n at *
        have wn : IntKind.i64.wrap ((n : Int) + 1) = (n : Int) + 1 := IntWalk.i64_in _ (by omega)
        have hsT : Hid (kc j = true → (n1 : Int) = (n : Int) + 1) := Lib.hid (fun h => by rw [hs.out, h]; simp)
        have hsF : Hid (kc j = false → n1 = n) := Lib.hid (fun h => by rw [hs.out, h]; simp)
        cases j with
        | zero =>
          have hr := hsT.out (by rw [hk]; rfl)
          clear hk hbl hC hs hsT hsF
          generalize xs[0] = a at *
          have HR := Lib.hid hr
          clear hr
          go_wp2
          go_quiet (fail)
          go_wp2
          go_roundw
          case rel => exact ⟨1, by omega, rfl, by rw [HN1.out, HR.out], below_drewN HB.out _⟩
          case measure => simp [intOf]; omega
        | succ j =>
          have c1 := (hbl.cell (p := ⟨g, j, none⟩) hg).trans (hC.out j (by omega))
          have hjz2 : (j : Int) < (xs.length : Int) := by omega
          have he1 : ((j : Int) + 1 == 0) = false := by rw [Bool.eq_false_iff]; intro e; rw [beq_iff_eq] at e; omega
          have hw2 : IntKind.i64.wrap ((j : Int) + 1 - 1) = (j : Int) := by rw [show ((j : Int) + 1) - 1 = (j : Int) by omega]; exact IntWalk.i64_in _ (by omega)
          rw [show j + 1 - 1 = j by omega, List.getElem?_eq_getElem (by omega)] at hk
          generalize xs[j + 1] = a at *
          generalize xs[j] = a' at *
          simp only [Option.getD_some] at hk
          by_cases hb0 : b = 0
          · have hr := Lib.hid (hsF.out (by rw [hk, hb0]; simp))
            subst hb0
            clear hk hbl hC hs hsT hsF
            go_wp2
            go_quiet (fail)
            go_wp2
            go_roundw
            case rel => exact ⟨j + 2, by omega, by go_num, by rw [HN1.out, hr.out], below_drewN HB.out _⟩
            case measure => simp [intOf]; omega
          · have hb1 : decide ((0 : Int) < (b : Int)) = true := decide_eq_true (by omega)
            have hb2 : decide (0 < b) = true := decide_eq_true (by omega)
            have hw3 : IntKind.i64.wrap (64 - (b : Int)) = 64 - (b : Int) := IntWalk.i64_in _ (by omega)
            have hdv := K.div_ne a a' b
            have hk2 : kc (j + 1) = !decide (a / 2 ^ (64 - b) = a' / 2 ^ (64 - b)) := by rw [hk, hb2]; simp
            by_cases hq : a / 2 ^ (64 - b) = a' / 2 ^ (64 - b)
            · rw [decide_eq_true hq] at hdv hk2
              have hr := Lib.hid (hsF.out hk2)
              simp only [Bool.not_true] at hdv
              clear hk hk2 hq hbl hC hs hsT hsF
              go_wp2
              go_quiet (fail)
              go_wp2
              go_roundw
              case rel => exact ⟨j + 2, by omega, by go_num, by rw [HN1.out, hr.out], below_drewN HB.out _⟩
              case measure => simp [intOf]; omega
            · rw [decide_eq_false hq] at hdv hk2
              have hr := Lib.hid (hsT.out hk2)
              simp only [Bool.not_false] at hdv
              clear hk hk2 hq hbl hC hs hsT hsF
              go_wp2
              go_quiet (fail)
              go_wp2
              go_roundw
              case rel => exact ⟨j + 2, by omega, by go_num, by rw [HN1.out, hr.out], below_drewN HB.out _⟩
              case measure => simp [intOf]; omega
      · obtain rfl : j = xs.length := by omega
        have hd1 : decide ((xs.length : Int) < (xs.length : Int)) = false := decide_eq_false (by omega)
        rw [← hE.out]
        go_wp2
        go_ret
        exact ⟨rfl, HB.out⟩
end Go.Proofs.Ytiinefdpaiincaa
end
section
namespace Go.Proofs.Ytiinefdpaiincaa
set_option maxRecDepth 4000
open Go.RowKit
namespace K
/-- What a trie uses: how many unlike beginnings of 0 bits, and of 4, 10, .. 58. -/
def trs (xs : List Nat) : Nat → Nat
  | 0 => kinds xs 0
  | j + 1 => trs xs j + kinds xs (4 + 6 * j)
def trie (xs : List Nat) : Nat := trs xs 10
theorem trs_le (xs : List Nat) : ∀ j, trs xs j ≤ (j + 1) * xs.length
  | 0 => by simpa [trs] using kinds_le xs 0
  | j + 1 => by
    have h1 := trs_le xs j
    have h2 := kinds_le xs (4 + 6 * j)
    show trs xs j + kinds xs (4 + 6 * j) ≤ (j + 1 + 1) * xs.length
    rw [Nat.add_mul (j + 1)]
    omega
/-- What an x-fast trie uses. -/
def xfs (xs : List Nat) : Nat → Nat
  | 0 => xs.length
  | j + 1 => xfs xs j + kinds xs j
def xfast (xs : List Nat) : Nat := xfs xs 65
theorem xfs_le (xs : List Nat) : ∀ j, xfs xs j ≤ (j + 1) * xs.length
  | 0 => by simp [xfs]
  | j + 1 => by
    have h1 := xfs_le xs j
    have h2 := kinds_le xs j
    show xfs xs j + kinds xs j ≤ (j + 1 + 1) * xs.length
    rw [Nat.add_mul (j + 1)]
    omega
end K
set_option maxHeartbeats 2000000 in
theorem k_xfast (w : World) (v : Value) (xs : List Nat) (h : KX w v xs) (hl : xs.length ≤ 1000000) :
    Calls Try.prog 11 #[v] w fun e w' => e = .returned (.int .i64 (K.xfast xs : Nat)) ∧ Below w.heap.size w w' := by
  have hlen : ∃ A c, v = .slice A xs.length c := by
    rcases h.form with ⟨rfl, rfl⟩ | ⟨g, c, rfl, _⟩
    · exact ⟨none, 0, rfl⟩
    · exact ⟨_, _, rfl⟩
  have hkn := Lib.hid (fun (W : World) (hW : Below w.heap.size w W) (b : Nat) (hb : b ≤ 64) => k_kinds W v xs (h.below hW) hl b hb)
  have hE := Lib.hid (show K.xfast xs = K.xfs xs 65 from rfl)
  have h0 := Lib.hid (show K.xfs xs 0 = xs.length from rfl)
  have hS := Lib.hid (fun j => show K.xfs xs (j + 1) = K.xfs xs j + K.kinds xs j from rfl)
  have hLe : Hid (∀ j, j ≤ 65 → K.xfs xs j ≤ 66000000) := Lib.hid (fun j hj => Nat.le_trans (K.xfs_le xs j) (by
    have : (j + 1) * xs.length ≤ 66 * 1000000 := Nat.mul_le_mul (by omega) hl
    omega))
  clear h
  obtain ⟨A, c, rfl⟩ := hlen
  generalize K.xfast xs = X at *
  generalize K.xfs xs = trs at *
  generalize K.kinds xs = kn at *
  go_enter Try.func11, Try.ntmps11
  go_wp2
  go_loopw [3, 4] (fun n i wr => ∃ j : Nat, j ≤ 65 ∧ i = .int .i64 (j : Int) ∧ n = .int .i64 ((trs j : Nat) : Int) ∧ Below w.heap.size w wr) (fun _ i => fun _ => 65 - (intOf i).toNat)
  case atStart => exact ⟨0, by omega, rfl, by rw [h0.out], Below.refl _ _⟩
  case round =>
    obtain ⟨j, hj, rfl, rfl, hbl⟩ := hrel
    have HBL := Lib.hid hbl
    by_cases hlt : j < 65
    · have hd1 : decide ((j : Int) ≤ 64) = true := decide_eq_true (by omega)
      have hd2 : decide (j ≤ 64) = true := decide_eq_true (by omega)
      have hc := Lib.hid (hkn.out wr hbl j (by omega))
      have hs := Lib.hid (hS.out j)
      have hl1 := hLe.out (j + 1) (by omega)
      have hsz : trs j + kn j ≤ 66000000 := by rw [← hs.out]; exact hl1
      clear hbl hl1
      generalize hn : trs j = n at *
      generalize hm : kn j = m at *
      have HN := Lib.hid hn
      clear hn hm
      have w1 : IntKind.i64.wrap ((n : Int) + (m : Int)) = ((n + m : Nat) : Int) := by rw [IntWalk.i64_in _ (by omega)]; omega
      have w2 : IntKind.i64.wrap ((j : Int) + 1) = ((j + 1 : Nat) : Int) := by rw [IntWalk.i64_in _ (by omega)]; omega
      go_wp2_with (go_at_call 40; (with_reducible refine hc.out.mono ?_); rintro e w3 ⟨rfl, hD⟩; have HB3 := Lib.hid hD; clear hD)
      go_roundw
      case rel => exact ⟨j + 1, by omega, by rfl, by rw [hs.out]; rfl, HBL.out.trans (HB3.out.mono HBL.out.size)⟩
      case measure => simp [intOf]; omega
    · obtain rfl : j = 65 := by omega
      rw [← hE.out]
      go_wp2
      go_ret
      exact ⟨rfl, HBL.out⟩
end Go.Proofs.Ytiinefdpaiincaa
end
section
namespace Go.Proofs.Ytiinefdpaiincaa
set_option maxRecDepth 4000
open Go.RowKit
namespace K
/-- Nothing is written but in the blocks O. -/
structure Chg (w w' : World) (O : Nat → Prop) : Prop where
  os : w'.os = w.os
  tape : w'.tape = w.tape
  output : w'.output = w.output
  size : w.heap.size ≤ w'.heap.size
  block : ∀ g, g < w.heap.size → ¬ O g → w'.heap[g]? = w.heap[g]?
theorem Chg.of_below {w w' : World} {O : Nat → Prop} (h : Below w.heap.size w w') : Chg w w' O := ⟨h.os, h.tape, h.output, h.size, fun g hg _ => h.block g hg⟩
theorem Chg.trans {w w1 w2 : World} {O O1 : Nat → Prop} (h : Chg w w1 O) (h1 : Chg w1 w2 O1) (hO : ∀ j, O1 j → O j ∨ w.heap.size ≤ j) : Chg w w2 O :=
  ⟨h1.os.trans h.os, h1.tape.trans h.tape, h1.output.trans h.output, Nat.le_trans h.size h1.size, fun g hg hn => (h1.block g (Nat.lt_of_lt_of_le hg h.size) (fun h2 => by rcases hO g h2 with h3 | h3; exact hn h3; omega)).trans (h.block g hg hn)⟩
theorem Chg.below {w w' : World} {O : Nat → Prop} {B : Nat} (h : Chg w w' O) (hB : B ≤ w.heap.size) (hO : ∀ j, O j → B ≤ j) : Below B w w' := by
  refine ⟨h.os, h.tape, h.output, Nat.le_trans (by first | exact hB | exact h.size) (by first | exact h.size | exact Nat.le_refl _), fun g hg => h.block g (Nat.lt_of_lt_of_le hg hB) (fun h2 => by have := hO g h2; omega)⟩
theorem Chg.kx {w w' : World} {O : Nat → Prop} (h : Chg w w' O) {v : Value} {xs : List Nat} (hk : KX w v xs) (hv : ∀ g, v.ownBlock = some g → ¬ O g) : KX w' v xs := by
  refine ⟨hk.1, ?_⟩
  rcases hk.2 with hn | ⟨g, cap, cur, e, hb0, hg, rest⟩
  · exact .inl hn
  · exact .inr ⟨g, cap, cur, e, hb0, (h.block g (Array.getElem?_eq_some_iff.1 hg).1 (hv g (by subst e; rfl))).trans hg, rest⟩
end K
end Go.Proofs.Ytiinefdpaiincaa
end
