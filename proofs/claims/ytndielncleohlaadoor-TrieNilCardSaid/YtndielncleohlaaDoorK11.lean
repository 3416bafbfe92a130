
/- How many unlike beginnings keys have (stepstoneref11), what a trie and an x-fast trie use; the texts walked. -/
import Derived.Test.YtndielncleohlaaDoorK5
namespace Go.Proofs.YtndielncleohlaaDoor
set_option maxRecDepth 4000
open Go.RowKit
namespace K
def kc (xs : List Nat) (b j : Nat) : Bool := decide (j = 0) || (decide (0 < b) && !decide ((xs[j]?).getD 0 / 2 ^ (64 - b) = (xs[j - 1]?).getD 0 / 2 ^ (64 - b)))
def kd (xs : List Nat) (b : Nat) : Nat → Nat
  | 0 => 0
  | j + 1 => kd xs b j + if kc xs b j then 1 else 0
/-- How many unlike beginnings of b bits. -/
def kinds (xs : List Nat) (b : Nat) : Nat := kd xs b xs.length
theorem kd_le (xs : List Nat) (b : Nat) : ∀ j, kd xs b j ≤ j
  | 0 => Nat.le_refl _
  | j + 1 => by
    have := kd_le xs b j
    unfold kd
    split <;> omega
theorem kinds_le (xs : List Nat) (b : Nat) : kinds xs b ≤ xs.length := kd_le _ _ _
theorem div_ne (a a' b : Nat) : ((a : Int) / 2 ^ (64 - b) != (a' : Int) / 2 ^ (64 - b)) = !decide (a / 2 ^ (64 - b) = a' / 2 ^ (64 - b)) := by
  have e : ∀ x : Nat, (x : Int) / 2 ^ (64 - b) = ((x / 2 ^ (64 - b) : Nat) : Int) := fun x => by
    rw [Int.natCast_ediv]
    simp
  rw [e, e]
  generalize a / 2 ^ (64 - b) = p
  generalize a' / 2 ^ (64 - b) = q
  by_cases h : p = q
  · subst h; simp
  · rw [decide_eq_false h]
    have h2 : ((p : Int) == (q : Int)) = false := by rw [Bool.eq_false_iff]; intro e; rw [beq_iff_eq] at e; omega
    rw [bne, h2]
end K
set_option maxHeartbeats 2000000 in
theorem k_kinds (w : World) (v : Value) (xs : List Nat) (h : KX w v xs) (hl : xs.length ≤ 1000000) (b : Nat) (hb : b ≤ 64) :
    Calls Tryd.prog 41 #[v, .int .i64 (b : Int)] w fun e w' => e = .returned (.int .i64 (K.kinds xs b : Nat)) ∧ Below w.heap.size w w' := by
  have hE := Lib.hid (show K.kinds xs b = K.kd xs b xs.length from rfl)
  have hS := Lib.hid (fun j => show K.kd xs b (j + 1) = K.kd xs b j + if K.kc xs b j then 1 else 0 from rfl)
  have hLe := Lib.hid (K.kd_le xs b)
  have hK := Lib.hid (fun j => show K.kc xs b j = (decide (j = 0) || (decide (0 < b) && !decide ((xs[j]?).getD 0 / 2 ^ (64 - b) = (xs[j - 1]?).getD 0 / 2 ^ (64 - b)))) from rfl)
  have h0 := Lib.hid (show K.kd xs b 0 = 0 from rfl)
  generalize K.kinds xs b = X at *
  generalize K.kd xs b = kd at *
  generalize K.kc xs b = kc at *
  rcases h.form with ⟨rfl, rfl⟩ | ⟨g, c, rfl, hc, hg, hcells⟩
  · have hX : X = 0 := hE.out.trans h0.out
    subst hX
    clear h
    go_enter Tryd.func41, Tryd.ntmps41
    go_wp2
    go_loop [5, 10] (fun n i => n = .int .i64 0 ∧ i = .int .i64 0) (fun _ _ => 0)
    case atStart => exact ⟨rfl, rfl⟩
    case round =>
      obtain ⟨rfl, rfl⟩ := hrel
      go_wp2
      go_ret
      exact ⟨rfl, Below.refl _ _⟩
  · have hC := Lib.hid hcells
    clear hcells h
    go_enter Tryd.func41, Tryd.ntmps41
    go_wp2
    go_loopw [5, 10] (fun n i wr => ∃ j : Nat, j ≤ xs.length ∧ i = .int .i64 j ∧ n = .int .i64 ((kd j : Nat) : Int) ∧ Below w.heap.size w wr) (fun _ i _ => xs.length - (intOf i).toNat)
    case atStart => exact ⟨0, by omega, rfl, by rw [h0.out]; rfl, Below.refl _ _⟩
    case round =>
      obtain ⟨j, hj, rfl, rfl, hbl⟩ := hrel
      have HB := Lib.hid hbl
      by_cases hlt : j < xs.length
      · have c0 := (hbl.cell (p := ⟨g, j, none⟩) hg).trans (hC.out j hlt)
        have hjz : (j : Int) < (xs.length : Int) := by omega
        have hd1 : decide ((j : Int) < (xs.length : Int)) = true := decide_eq_true (by omega)
        have hd2 : decide (j < xs.length) = true := decide_eq_true hlt
        have wj : IntKind.i64.wrap ((j : Int) + 1) = (j : Int) + 1 := IntWalk.i64_in _ (by omega)
        have hs := Lib.hid (hS.out j)
        have hk := hK.out j
        rw [List.getElem?_eq_getElem hlt] at hk
        have hnl := hLe.out j
        generalize hn1 : kd (j + 1) = n1 at hs
        have HN1 := Lib.hid hn1
        clear hn1
        generalize kd j = n at *
        have wn : IntKind.i64.wrap ((n : Int) + 1) = (n : Int) + 1 := IntWalk.i64_in _ (by omega)
        have hsT : Hid (kc j = true → (n1 : Int) = (n : Int) + 1) := Lib.hid (fun h => by rw [hs.out, h]; simp)
        have hsF : Hid (kc j = false → n1 = n) := Lib.hid (fun h => by rw [hs.out, h]; simp)
        cases j with
        | zero =>
          have hr := hsT.out (by rw [hk]; rfl)
          clear hk hbl hC hs hsT hsF
          generalize xs[0] = a at *
          have HR := Lib.hid hr
          clear hr
          go_wp2
          go_quiet (fail)
          go_wp2
          go_roundw
          case rel => exact ⟨1, by omega, rfl, by rw [HN1.out, HR.out], below_drewN HB.out _⟩
          case measure => simp [intOf]; omega
        | succ j =>
          have c1 := (hbl.cell (p := ⟨g, j, none⟩) hg).trans (hC.out j (by omega))
          have hjz2 : (j : Int) < (xs.length : Int) := by omega
          have he1 : ((j : Int) + 1 == 0) = false := by rw [Bool.eq_false_iff]; intro e; rw [beq_iff_eq] at e; omega
          have hw2 : IntKind.i64.wrap ((j : Int) + 1 - 1) = (j : Int) := by rw [show ((j : Int) + 1) - 1 = (j : Int) by omega]; exact IntWalk.i64_in _ (by omega)
          rw [show j + 1 - 1 = j by omega, List.getElem?_eq_getElem (by omega)] at hk
          generalize xs[j + 1] = a at *
          generalize xs[j] = a' at *
          simp only [Option.getD_some] at hk
          by_cases hb0 : b = 0
          · have hr := Lib.hid (hsF.out (by rw [hk, hb0]; simp))
            subst hb0
            clear hk hbl hC hs hsT hsF
            go_wp2
            go_quiet (fail)
            go_wp2
            go_roundw
            case rel => exact ⟨j + 2, by omega, by go_num, by rw [HN1.out, hr.out], below_drewN HB.out _⟩
            case measure => simp [intOf]; omega
          · have hb1 : decide ((0 : Int) < (b : Int)) = true := decide_eq_true (by omega)
            have hb2 : decide (0 < b) = true := decide_eq_true (by omega)
            have hw3 : IntKind.i64.wrap (64 - (b : Int)) = 64 - (b : Int) := IntWalk.i64_in _ (by omega)
            have hdv := K.div_ne a a' b
            have hk2 : kc (j + 1) = !decide (a / 2 ^ (64 - b) = a' / 2 ^ (64 - b)) := by rw [hk, hb2]; simp
            by_cases hq : a / 2 ^ (64 - b) = a' / 2 ^ (64 - b)
            · rw [decide_eq_true hq] at hdv hk2
              have hr := Lib.hid (hsF.out hk2)
              simp only [Bool.not_true] at hdv
              clear hk hk2 hq hbl hC hs hsT hsF
              go_wp2
              go_quiet (fail)
              go_wp2
              go_roundw
              case rel => exact ⟨j + 2, by omega, by go_num, by rw [HN1.out, hr.out], below_drewN HB.out _⟩
              case measure => simp [intOf]; omega
            · rw [decide_eq_false hq] at hdv hk2
              have hr := Lib.hid (hsT.out hk2)
              simp only [Bool.not_false] at hdv
              clear hk hk2 hq hbl hC hs hsT hsF
              go_wp2
              go_quiet (fail)
              go_wp2
              go_roundw
              case rel => exact ⟨j + 2, by omega, by go_num, by rw [HN1.out, hr.out], below_drewN HB.out _⟩
              case measure => simp [intOf]; omega
      · obtain rfl : j = xs.length := by omega
        have hd1 : decide ((xs.length : Int) < (xs.length : Int)) = false := decide_eq_false (by omega)
        rw [← hE.out]
        go_wp2
        go_ret
        exact ⟨rfl, HB.out⟩
end Go.Proofs.YtndielncleohlaaDoor
