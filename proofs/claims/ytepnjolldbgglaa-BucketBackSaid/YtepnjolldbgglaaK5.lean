
/- The document's lists of keys (stepstoneref11): a list made of keys; the text walked. -/
import Derived.Test.YtepnjolldbgglaaK4
namespace Go.Proofs.Ytepnjolldbgglaa
set_option maxRecDepth 4000
open Go.RowKit
namespace K
def off (xs : List Nat) : List Nat := xs.foldl add []
theorem add_len (xs : List Nat) (k : Nat) : (add xs k).length ≤ xs.length + 1 := by
  unfold add
  split
  · omega
  · rw [List.length_append, List.length_cons, List.length_take, List.length_drop]
    have := fi_le xs k
    omega
theorem off_snoc (xs : List Nat) (k : Nat) (h : k < xs.length) : off (xs.take (k + 1)) = add (off (xs.take k)) xs[k] := by
  unfold off
  rw [List.take_succ_eq_append_getElem h, List.foldl_append]
  rfl
theorem off_len (xs : List Nat) : ∀ k, (off (xs.take k)).length ≤ k
  | 0 => by simp [off]
  | k + 1 => by
    rcases Nat.lt_or_ge k xs.length with h | h
    · rw [off_snoc xs k h]
      have := add_len (off (xs.take k)) xs[k]
      have := off_len xs k
      omega
    · rw [List.take_of_length_le (by omega), ← List.take_of_length_le h]
      have := off_len xs k
      omega
end K
set_option maxHeartbeats 2000000 in
theorem k_of (w : World) (v : Value) (xs : List Nat) (h : KX w v xs) (hl : xs.length ≤ 1000000) :
    Calls Try.prog 8 #[v] w (KLP w (.slice none 0 0) (K.off xs)) := by
  have hL := Lib.hid (K.off_len xs)
  have hS := Lib.hid (K.off_snoc xs)
  have hE := Lib.hid (show K.off xs = K.off (xs.take xs.length) by rw [List.take_length])
  rcases h.form with ⟨rfl, rfl⟩ | ⟨g, c, rfl, hc, hg, hcells⟩
  · clear h
    go_enter Try.func8, Try.ntmps8
    go_wp2
    go_loop [3, 8] (fun v i => v = .slice none 0 0 ∧ i = .int .i64 0) (fun _ _ => 0)
    case atStart => exact ⟨rfl, rfl⟩
    case round =>
      obtain ⟨rfl, rfl⟩ := hrel
      go_wp2
      go_ret
      exact ⟨_, rfl, KX.nil _, Below.refl _ _, .inl rfl⟩
  · have hC := Lib.hid hcells
    clear hcells h
    go_enter Try.func8, Try.ntmps8
    go_wp2
    go_loopw [3, 8] (fun v i wr => ∃ j : Nat, j ≤ xs.length ∧ i = .int .i64 j ∧ KX wr v (K.off (xs.take j)) ∧ Below w.heap.size w wr ∧ (v = .slice none 0 0 ∨ ∀ g, v.ownBlock = some g → w.heap.size ≤ g)) (fun _ i _ => xs.length - (intOf i).toNat)
    case atStart => exact ⟨0, by omega, rfl, by simpa [K.off] using KX.nil w, Below.refl _ _, .inl rfl⟩
    case round =>
      obtain ⟨j, hj, rfl, hK, hb, hv⟩ := hrel
      by_cases hlt : j < xs.length
      · have c0 := (hb.cell (p := ⟨g, j, none⟩) hg).trans (hC.out j hlt)
        have hjz : (j : Int) < (xs.length : Int) := by omega
        have hs := Lib.hid (hS.out j hlt)
        have hadd := Lib.hid (k_add wr _ _ hK (by have := hL.out j; omega) xs[j])
        rw [← hs.out] at hadd
        have hB := Lib.hid hb
        have hV := Lib.hid hv
        clear hK hb hv hs
        obtain ⟨ys, hys⟩ : ∃ ys, K.off (xs.take (j + 1)) = ys := ⟨_, rfl⟩
        rw [hys] at hadd
        have hY := Lib.hid hys
        clear hys
        generalize xs[j] = a at *
        go_wp2_with (go_at_call 20; (with_reducible refine hadd.out.mono ?_); rintro e w2 ⟨v2, rfl, hK2, hb2, hv2⟩; have HK2 := Lib.hid hK2; have HB2 := Lib.hid hb2; have HV2 := Lib.hid hv2; clear hK2 hb2 hv2)
        go_roundw
        case rel => exact ⟨j + 1, by omega, by go_num, hY.out ▸ HK2.out, hB.out.trans (HB2.out.mono hB.out.size), HV2.out.elim (fun e => e ▸ hV.out) (fun h => .inr fun g e => Nat.le_trans hB.out.size (h g e))⟩
        case measure => simp [intOf]; omega
      · obtain rfl : j = xs.length := by omega
        rw [← hE.out] at hK
        go_wp2
        go_ret
        exact ⟨_, rfl, hK, hb, hv⟩
end Go.Proofs.Ytepnjolldbgglaa
