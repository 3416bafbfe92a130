/- A nil trie: Rank, Select, Each; the texts walked. -/
import Derived.Test.YtbiingpdchoppaaDoorMxU25
namespace Go.Proofs.YtbiingpdchoppaaDoor
set_option maxRecDepth 40000
open Go.RowKit
theorem t_rank_nil (w : World) (k : Int) : Calls Tryd.prog 36 #[.pointer none, .int .u64 k] w fun e w' => e = .returned (.int .i64 0) ∧ w = w' := by
  go_enter Tryd.func36, Tryd.ntmps36
  go_wp2
  go_ret
  exact ⟨rfl, rfl⟩
theorem t_select_nil (w : World) (i : Int) : Calls Tryd.prog 35 #[.pointer none, .int .i64 i] w fun e w' => e = .returned (.tuple #[.int .u64 0, .bool false]) ∧ Below w.heap.size w w' := by
  by_cases hi : i < 0
  · have d0 : decide (i < 0) = true := decide_eq_true hi
    clear hi
    go_enter Tryd.func35, Tryd.ntmps35
    go_wp2
    go_ret2
    exact ⟨rfl, Below.refl _ _⟩
  · have d0 : decide (i < 0) = false := decide_eq_false hi
    have d1 : decide (0 ≤ i) = true := decide_eq_true (by omega)
    clear hi
    go_enter Tryd.func35, Tryd.ntmps35
    go_wp2_with (go_at_call 32; (with_reducible refine (t_len_nil w).mono ?_); rintro e w' ⟨rfl, rfl⟩)
    go_ret2
    exact ⟨rfl, Below.refl _ _⟩
theorem t_each_nil (w : World) (B : Nat) (A : Option Addr) (n c : Nat) (ks : List Nat) (hn : ks.length = n) (hn2 : n ≤ 1000000) (hR : Reads w B 1 A n (wv ks)) :
    Calls Tryd.prog 33 #[.pointer none, .slice A n c] w fun e w' => e = .returned (.int .i64 0) ∧ w = w' := by
  have HN := Lib.hid hn
  have HRD := Lib.hid hR
  clear hR hn
  go_enter Tryd.func33, Tryd.ntmps33
  go_wp2
  go_loopw [5, 10] (fun acc ix wr => ∃ j : Nat, j ≤ n ∧ acc = .int .i64 0 ∧ ix = .int .i64 (j : Int) ∧ Hid (w = wr)) (fun _ ix _ => n - (intOf ix).toNat)
  case atStart => exact ⟨0, by omega, rfl, rfl, rfl⟩
  case round =>
    obtain ⟨j, hj, rfl, rfl, hW⟩ := hrel
    obtain rfl : w = wr := hW.out
    rcases Nat.lt_or_ge j n with hjr | hjr
    · have hjk : j < ks.length := by rw [HN.out]; exact hjr
      obtain ⟨ad, u, rfl, _, hu, hcell⟩ := HRD.out.at_ hjr
      have hu2 : u = .int .u64 ((ks[j] : Nat) : Int) := by
        have : (wv ks)[j]? = some (.int .u64 ((ks[j] : Nat) : Int)) := by simp [wv, hjk]
        rw [this] at hu
        exact (Option.some.inj hu).symm
      subst hu2
      generalize ks[j] = k at *
      have gk : (j : Int) < (n : Int) := by omega
      have wj : IntKind.i64.wrap ((j : Int) + 1) = ((j + 1 : Nat) : Int) := by rw [IntWalk.i64_in _ (by omega)]; omega
      clear hu hjk
      go_wp2_with (go_at_call 23; (with_reducible refine (t_insert_nil w k).mono ?_); rintro e w' ⟨rfl, rfl⟩)
      go_roundw
      case rel => exact ⟨j + 1, by omega, rfl, by go_num, by first | exact Lib.hid rfl | trivial⟩
      case measure => simp [intOf]; omega
    · obtain rfl : j = n := by omega
      have g0 : decide ((j : Int) < (j : Int)) = false := decide_eq_false (by omega)
      go_wp2
      go_ret
      exact ⟨rfl, rfl⟩
end Go.Proofs.YtbiingpdchoppaaDoor
