
/- Two lists of entries that are alike; the text walked. -/
import Derived.Test.YtkpfgbcjimkfeaaHAct
import Derived.Laws.StructEq
namespace Go.Proofs.Ytkpfgbcjimkfeaa
open Go.RowKit
set_option maxHeartbeats 1000000 in
theorem h_same (w : World) (v v' : Value) (es : List (H.Key × Nat)) (h : LX w v es) (h' : LX w v' es) (hl : es.length ≤ 4611686018427387904) :
    Calls Try.prog 11 #[v, v'] w fun e w' => e = .returned (.bool true) ∧ ∃ n, w' = w.drewN n := by
  have hne : ((es.length : Int) != (es.length : Int)) = false := by simp
  rcases h.form with ⟨rfl, rfl⟩ | ⟨g, c, rfl, hc, hg, hcells⟩
  · rcases h'.form with ⟨rfl, _⟩ | ⟨g', c', rfl, _, _, _⟩
    all_goals
      go_enter Try.func11, Try.ntmps11
      go_wp2
      go_loop [13] (fun i => i = .int .i64 0) (fun _ => 0)
      case atStart => rfl
      case round =>
        obtain rfl := hrel
        go_wp2
        go_ret
        exact ⟨rfl, 0, rfl⟩
  · rcases h'.form with ⟨rfl, rfl⟩ | ⟨g', c', rfl, hc', hg', hcells'⟩
    · go_enter Try.func11, Try.ntmps11
      go_wp2
      go_loop [13] (fun i => i = .int .i64 0) (fun _ => 0)
      case atStart => rfl
      case round =>
        obtain rfl := hrel
        go_wp2
        go_ret
        exact ⟨rfl, 0, rfl⟩
    · have hC := Lib.hid hcells
      have hC' := Lib.hid hcells'
      clear hcells hcells'
      go_enter Try.func11, Try.ntmps11
      go_wp2
      go_loopw [13] (fun i wr => ∃ k n : Nat, k ≤ es.length ∧ i = .int .i64 k ∧ wr = w.drewN n) (fun i _ => es.length - (intOf i).toNat)
      case atStart => exact ⟨0, 0, by omega, rfl, rfl⟩
      case round =>
        obtain ⟨k, n, hk, rfl, rfl⟩ := hrel
        by_cases hlt : k < es.length
        · obtain ⟨c0, c1, c2⟩ := hC.out k hlt
          obtain ⟨d0, d1, d2⟩ := hC'.out k hlt
          generalize es[k].1.1 = a at *
          generalize es[k].1.2 = b at *
          generalize es[k].2 = x at *
          go_wp2
          go_quiet (fail)
          go_wp2
          go_roundw
          case rel => exact ⟨k + 1, _, by omega, by go_num, rfl⟩
          case measure => simp [intOf]; omega
        · go_wp2
          go_ret
          exact ⟨rfl, _, rfl⟩
end Go.Proofs.Ytkpfgbcjimkfeaa
