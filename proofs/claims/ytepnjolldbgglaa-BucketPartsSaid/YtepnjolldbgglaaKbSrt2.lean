
/- The heap is built and emptied; the text walked. -/
import Derived.Test.YtepnjolldbgglaaKbSrt1
namespace Go.Proofs.Ytepnjolldbgglaa.Kb
open Go.RowKit Go.Sort
set_option maxHeartbeats 8000000 in
set_option maxRecDepth 100000 in
theorem so_heap (w0 w : World) (blk off n cap a b : Nat) (d : Array Int) (h : Rr w0 blk off n d w) (hab : a < b) (hb : b ≤ n) :
    Calls Try.prog 36 #[.slice (some ⟨blk, off, none⟩) n cap, .int .i64 a, .int .i64 b] w fun e w' =>
      e = .returned (.tuple #[]) ∧ Sr w0 blk off n a b d (SortedIn ltInt a b) w' := by
  have few := h.few
  suffices H : Calls Try.prog 36 #[.slice (some ⟨blk, off, none⟩) n cap, .int .i64 a, .int .i64 b] w fun e w' =>
      e = .returned (.tuple #[]) ∧ Rr w0 blk off n (heapSort ltInt d a b) w' from
    H.mono fun e w' hw => ⟨hw.1, _, hw.2, (heapSort_holds swo_ltInt d a b (by omega) (by rw [h.size]; exact hb)).1, (heapSort_holds swo_ltInt d a b (by omega) (by rw [h.size]; exact hb)).2⟩
  have H := Lib.hid h
  clear h
  obtain ⟨L, hL⟩ : ∃ L, L = b - a := ⟨_, rfl⟩
  obtain ⟨m, hm⟩ : ∃ m, m = (L - 1) / 2 := ⟨_, rfl⟩
  obtain ⟨L1, hL1⟩ : ∃ L1, L1 = L - 1 := ⟨_, rfl⟩
  obtain ⟨B, hB⟩ : ∃ B, B = heapBuild ltInt L a (m + 1) d := ⟨_, rfl⟩
  have hE : heapSort ltInt d a b = heapPop ltInt a (L1 + 1) B := by
    unfold heapSort; rw [hB, hm, hL1, hL, show b - a - 1 + 1 = b - a by omega]
  have HE := Lib.hid hE
  have eL : (b : Int) - (a : Int) = (L : Int) := by omega
  have e1 : (L : Int) - 1 = (L1 : Int) := by omega
  have em : (L1 : Int) / 2 = (m : Int) := by omega
  have hLb : a + L = b := by omega
  have hl1 : L1 + 1 = L := by omega
  have hmL : m < L := by omega
  have HLb := Lib.hid hLb
  have HL1 := Lib.hid hl1
  have HB := Lib.hid hB
  clear hE hL hm hL1 hLb hl1 hB
  have hL0 : 0 ≤ (L1 : Int) := by omega
  go_enter Try.func36, Try.ntmps36
  go_wp2
  go_loopw [9] (fun vi wr => ∃ (dk : Array Int), (∃ t : Nat, vi = .int .i64 t ∧ t < L ∧ Hid (Rr w0 blk off n dk wr ∧ heapBuild ltInt L a (t + 1) dk = B)) ∨ (vi = .int .i64 (-1) ∧ Hid (Rr w0 blk off n dk wr ∧ dk = B))) (fun vi _ => (intOf vi + 1).toNat)
  case atStart => exact ⟨d, .inl ⟨m, by simp, hmL, Lib.hid ⟨H.out, HB.out.symm⟩⟩⟩
  case round =>
    obtain ⟨dk, hrel⟩ := hrel
    rcases hrel with ⟨t, rfl, ht, hK⟩ | ⟨rfl, hK⟩
    · have hL2 : a + L ≤ n := by have := HLb.out; omega
      go_wp2_with (go_at_call 45; refine (so_sift w0 _ blk off n cap t L a dk hK.out.1 hL2 (by omega)).mono ?_; rintro e w' ⟨rfl, hw'⟩; replace hw' := Lib.hid hw')
      go_roundw
      case rel =>
        refine ⟨siftDown ltInt L a t dk, ?_⟩
        rcases Nat.eq_zero_or_pos t with h0 | h0
        · exact .inr ⟨by subst h0; rfl, Lib.hid ⟨hw'.out, by subst h0; exact hK.out.2⟩⟩
        · exact .inl ⟨t - 1, by congr 1; omega, by omega, Lib.hid ⟨hw'.out, by rw [show t - 1 + 1 = t by omega]; exact hK.out.2⟩⟩
      case measure => first | (simp [intOf]; done) | (simp [intOf]; omega)
    · go_wp2
      go_loopw [10] (fun vi wr => ∃ (dk : Array Int), (∃ t : Nat, vi = .int .i64 t ∧ t < L ∧ Hid (Rr w0 blk off n dk wr ∧ heapPop ltInt a (t + 1) dk = heapSort ltInt d a b)) ∨ (vi = .int .i64 (-1) ∧ Hid (Rr w0 blk off n dk wr ∧ dk = heapSort ltInt d a b))) (fun vi _ => (intOf vi + 1).toNat)
      case atStart => exact ⟨dk, .inl ⟨L1, by simp, by have := HL1.out; omega, Lib.hid ⟨hK.out.1, by rw [hK.out.2]; exact HE.out.symm⟩⟩⟩
      case round =>
        obtain ⟨dk2, hrel⟩ := hrel
        rcases hrel with ⟨t, rfl, ht, hJ⟩ | ⟨rfl, hJ⟩
        · have hL2 : a + L ≤ n := by have := HLb.out; omega
          obtain ⟨G, hG⟩ : ∃ G : Nat → Int, ∀ t, G t = dk2[t]! := ⟨fun t => dk2[t]!, fun _ => rfl⟩
          have hcw : ∀ t, t < n → wr.cell? ⟨blk, off + t, none⟩ = some (.int .u64 (G t)) := fun t ht => by rw [hG]; exact hJ.out.1.cell ht
          have hfw : ∀ t, t < n → wr.frozen? ⟨blk, off + t, none⟩ = false := fun t ht => hJ.out.1.free ht
          have HG := Lib.hid hG
          clear hG
          have tT : ((a : Int) + (t : Int)).toNat = a + t := by omega
          have l0 : a < n := by omega
          have l1 : a + t < n := by omega
          have y0 : (0 : Int) ≤ (a : Int) + (t : Int) := by omega
          have v1 := w64 ((a : Int) + (t : Int)) (by omega) (by omega)
          rcases Nat.eq_zero_or_pos t with h0 | h0
          · subst h0
            go_wp2
            go_region
            all_goals go_wp2_with (go_at_call 45; refine (so_sift w0 _ blk off n cap 0 0 a (swp dk2 a (a + 0)) (hJ.out.1.swapG HG 1 a (a + 0) l0 l1) (by omega) (by omega)).mono ?_; rintro e w' ⟨rfl, hw'⟩; replace hw' := Lib.hid hw')
            go_roundw
            case rel => exact ⟨_, .inr ⟨rfl, Lib.hid ⟨hw'.out, hJ.out.2⟩⟩⟩
            case measure => simp [intOf]
          · have hne : ¬ t = 0 := by omega
            go_wp2
            go_region
            all_goals go_wp2_with (go_at_call 45; refine (so_sift w0 _ blk off n cap 0 t a (swp dk2 a (a + t)) (hJ.out.1.swapG HG 1 a (a + t) l0 l1) (by omega) (by omega)).mono ?_; rintro e w' ⟨rfl, hw'⟩; replace hw' := Lib.hid hw')
            go_roundw
            case rel => exact ⟨_, .inl ⟨t - 1, by first | (congr 1; done) | (congr 1; omega), by omega, Lib.hid ⟨hw'.out, by rw [show t - 1 + 1 = t by omega]; exact hJ.out.2⟩⟩⟩
            case measure => first | (simp [intOf]; done) | (simp [intOf]; omega)
        · go_wp2
          go_end0
          exact ⟨rfl, by rw [← hJ.out.2]; exact hJ.out.1⟩
end Go.Proofs.Ytepnjolldbgglaa.Kb
