
/- The heap: one number goes down; the heap is built and emptied; the text walked. -/
import Derived.Test.YtepnjolldbgglaaKbSrt0
namespace Go.Proofs.Ytepnjolldbgglaa.Kb
open Go.RowKit Go.Sort
theorem sd_stop {hi F root : Nat} (d : Array Int) (h : hi ≤ 2 * root + 1) : siftDown ltInt hi F root d = d := by
  rw [siftDown, dif_pos h]
theorem sd_two {hi F root c : Nat} {d : Array Int} (h : c = 2 * root + 1) (h2 : c + 1 < hi) (hl : ltInt d[F + c]! d[F + c + 1]! = true) :
    siftDown ltInt hi F root d = if ltInt d[F + root]! d[F + (c + 1)]! then siftDown ltInt hi F (c + 1) (swp d (F + root) (F + (c + 1))) else d := by
  subst h
  rw [siftDown, dif_neg (by omega), if_pos (by simp [hl]; omega), dif_pos (by omega)]
  cases ltInt d[F + root]! d[F + (2 * root + 1 + 1)]! <;> simp
theorem sd_one {hi F root c : Nat} {d : Array Int} (h : c = 2 * root + 1) (h1 : c < hi) (hl : hi ≤ c + 1 ∨ ltInt d[F + c]! d[F + c + 1]! = false) :
    siftDown ltInt hi F root d = if ltInt d[F + root]! d[F + c]! then siftDown ltInt hi F c (swp d (F + root) (F + c)) else d := by
  subst h
  rw [siftDown, dif_neg (by omega), if_neg (by rcases hl with hl | hl; simp; omega; simp [hl])]
  cases ltInt d[F + root]! d[F + (2 * root + 1)]! <;> simp
set_option maxHeartbeats 8000000 in
set_option maxRecDepth 100000 in
theorem so_sift (w0 w : World) (blk off n cap lo hi F : Nat) (d : Array Int) (h : Rr w0 blk off n d w) (hF : F + hi ≤ n) (hlo : lo ≤ n) :
    Calls Try.prog 45 #[.slice (some ⟨blk, off, none⟩) n cap, .int .i64 lo, .int .i64 hi, .int .i64 F] w fun e w' =>
      e = .returned (.tuple #[]) ∧ Rr w0 blk off n (siftDown ltInt hi F lo d) w' := by
  have few := h.few
  have H := Lib.hid h
  clear h
  go_enter Try.func45, Try.ntmps45
  go_wp2
  go_loopw [8] (fun vr wr => ∃ (r : Nat) (dk : Array Int), vr = .int .i64 r ∧ r ≤ n ∧ Hid (Rr w0 blk off n dk wr ∧ siftDown ltInt hi F r dk = siftDown ltInt hi F lo d)) (fun vr _ => hi - (intOf vr).toNat)
  case atStart => exact ⟨lo, d, rfl, hlo, Lib.hid ⟨H.out, rfl⟩⟩
  case round =>
    obtain ⟨r, dk, rfl, hr, hK⟩ := hrel
    obtain ⟨c, hc⟩ : ∃ c : Nat, c = 2 * r + 1 := ⟨_, rfl⟩
    have ec : (2 : Int) * (r : Int) + 1 = (c : Int) := by omega
    have HC := Lib.hid hc
    obtain ⟨G, hG⟩ : ∃ G : Nat → Int, ∀ t, G t = dk[t]! := ⟨fun t => dk[t]!, fun _ => rfl⟩
    have hcw : ∀ t, t < n → wr.cell? ⟨blk, off + t, none⟩ = some (.int .u64 (G t)) := fun t ht => by rw [hG]; exact hK.out.1.cell ht
    have hfw : ∀ t, t < n → wr.frozen? ⟨blk, off + t, none⟩ = false := fun t ht => hK.out.1.free ht
    have HG := Lib.hid hG
    clear hG
    have fin2 : ltInt (G (F + c)) (G (F + c + 1)) = true → c + 1 < hi → (ltInt (G (F + r)) (G (F + (c + 1))) = false → dk = siftDown ltInt hi F lo d) ∧ (ltInt (G (F + r)) (G (F + (c + 1))) = true → siftDown ltInt hi F (c + 1) (swp dk (F + r) (F + (c + 1))) = siftDown ltInt hi F lo d) := by
      rw [HG.out, HG.out, HG.out, HG.out, ← hK.out.2]
      intro e h2
      rw [sd_two hc h2 e]
      exact ⟨fun e => by simp [e], fun e => by simp [e]⟩
    have fin1 : (hi ≤ c + 1 ∨ ltInt (G (F + c)) (G (F + c + 1)) = false) → c < hi → (ltInt (G (F + r)) (G (F + c)) = false → dk = siftDown ltInt hi F lo d) ∧ (ltInt (G (F + r)) (G (F + c)) = true → siftDown ltInt hi F c (swp dk (F + r) (F + c)) = siftDown ltInt hi F lo d) := by
      rw [HG.out, HG.out, HG.out, ← hK.out.2]
      intro e h2
      rw [sd_one hc h2 e]
      exact ⟨fun e => by simp [e], fun e => by simp [e]⟩
    have F2 := Lib.hid fin2
    have F1 := Lib.hid fin1
    clear fin1 fin2
    have stop : hi ≤ c → siftDown ltInt hi F r dk = dk := fun h => sd_stop dk (by omega)
    clear hc
    by_cases h1 : c < hi
    · have tR : ((F : Int) + (r : Int)).toNat = F + r := by omega
      have tC : ((F : Int) + (c : Int)).toNat = F + c := by omega
      have tD : ((F : Int) + (c : Int) + 1).toNat = F + c + 1 := by omega
      have tE : ((F : Int) + ((c : Int) + 1)).toNat = F + (c + 1) := by omega
      have l1 : F + r < n := by omega
      have l2 : F + c < n := by omega
      have y0 : (0 : Int) ≤ (F : Int) + (r : Int) := by omega
      have y1 : (0 : Int) ≤ (F : Int) + (c : Int) := by omega
      have y2 : (0 : Int) ≤ (F : Int) + (c : Int) + 1 := by omega
      have y3 : (0 : Int) ≤ (F : Int) + ((c : Int) + 1) := by omega
      by_cases h2 : c + 1 < hi
      · have l3 : F + c + 1 < n := by omega
        have l4 : F + (c + 1) < n := by omega
        have hd : decide ((c : Int) + 1 < (hi : Int)) = true := by rw [decide_eq_true_eq]; omega
        obtain ⟨v0, v1, v2, v3, v4⟩ : IntKind.i64.wrap ((c : Int) + 1) = (c : Int) + 1 ∧ IntKind.i64.wrap ((F : Int) + (r : Int)) = (F : Int) + (r : Int) ∧ IntKind.i64.wrap ((F : Int) + (c : Int)) = (F : Int) + (c : Int) ∧ IntKind.i64.wrap ((F : Int) + (c : Int) + 1) = (F : Int) + (c : Int) + 1 ∧ IntKind.i64.wrap ((F : Int) + ((c : Int) + 1)) = (F : Int) + ((c : Int) + 1) := ⟨w64 _ (by omega) (by omega), w64 _ (by omega) (by omega), w64 _ (by omega) (by omega), w64 _ (by omega) (by omega), w64 _ (by omega) (by omega)⟩
        go_wp2
        go_quiet (first | (go_at_call 29; refine Calls.quiet_of_same (less_any _ _ _)) | (go_at_call 29; exact less_more _ _ _ _ _))
        go_wp2
        all_goals go_quiet (first | (go_at_call 29; refine Calls.quiet_of_same (less_any _ _ _)) | (go_at_call 29; exact less_more _ _ _ _ _))
        all_goals go_wp2
        · have e1 : ltInt (G (F + c)) (G (F + c + 1)) = true := by assumption
          have e2 : ltInt (G (F + r)) (G (F + (c + 1))) = false := by simpa using ‹(!ltInt (G (F + r)) (G (F + (c + 1)))) = true›
          refine bodyPost_ret (results_none rfl _ _ _) rfl ?_
          exact ⟨rfl, by rw [← (F2.out e1 h2).1 e2]; exact (hK.out.1.drewN _).drewN _⟩
        · have e1 : ltInt (G (F + c)) (G (F + c + 1)) = true := by assumption
          have e2 : ltInt (G (F + r)) (G (F + (c + 1))) = true := by simpa using ‹(!ltInt (G (F + r)) (G (F + (c + 1)))) = false›
          go_region
          all_goals go_wp2
          go_roundw
          case rel => exact ⟨c + 1, _, by go_num, by omega, Lib.hid ⟨hK.out.1.swapG HG _ _ _ l1 l4, (F2.out e1 h2).2 e2⟩⟩
          case measure => simp [intOf]; have := HC.out; omega
        · have e1 : hi ≤ c + 1 ∨ ltInt (G (F + c)) (G (F + c + 1)) = false := .inr ‹_›
          have e2 : ltInt (G (F + r)) (G (F + c)) = false := by simpa using ‹(!ltInt (G (F + r)) (G (F + c))) = true›
          refine bodyPost_ret (results_none rfl _ _ _) rfl ?_
          exact ⟨rfl, by rw [← (F1.out e1 h1).1 e2]; exact (hK.out.1.drewN _).drewN _⟩
        · have e1 : hi ≤ c + 1 ∨ ltInt (G (F + c)) (G (F + c + 1)) = false := .inr ‹_›
          have e2 : ltInt (G (F + r)) (G (F + c)) = true := by simpa using ‹(!ltInt (G (F + r)) (G (F + c))) = false›
          go_region
          all_goals go_wp2
          go_roundw
          case rel => exact ⟨c, _, rfl, by omega, Lib.hid ⟨hK.out.1.swapG HG _ _ _ l1 l2, (F1.out e1 h1).2 e2⟩⟩
          case measure => simp [intOf]; have := HC.out; omega
      · have hd : decide ((c : Int) + 1 < (hi : Int)) = false := by rw [decide_eq_false_iff_not]; omega
        obtain ⟨v0, v1, v2⟩ : IntKind.i64.wrap ((c : Int) + 1) = (c : Int) + 1 ∧ IntKind.i64.wrap ((F : Int) + (r : Int)) = (F : Int) + (r : Int) ∧ IntKind.i64.wrap ((F : Int) + (c : Int)) = (F : Int) + (c : Int) := ⟨w64 _ (by omega) (by omega), w64 _ (by omega) (by omega), w64 _ (by omega) (by omega)⟩
        go_wp2
        go_quiet (first | (go_at_call 29; refine Calls.quiet_of_same (less_any _ _ _)) | (go_at_call 29; exact less_more _ _ _ _ _))
        go_wp2
        go_quiet (first | (go_at_call 29; refine Calls.quiet_of_same (less_any _ _ _)) | (go_at_call 29; exact less_more _ _ _ _ _))
        go_wp2
        · have e1 : hi ≤ c + 1 ∨ ltInt (G (F + c)) (G (F + c + 1)) = false := .inl (by omega)
          have e2 : ltInt (G (F + r)) (G (F + c)) = false := by simpa using ‹(!ltInt (G (F + r)) (G (F + c))) = true›
          refine bodyPost_ret (results_none rfl _ _ _) rfl ?_
          exact ⟨rfl, by rw [← (F1.out e1 h1).1 e2]; exact (hK.out.1.drewN _).drewN _⟩
        · have e1 : hi ≤ c + 1 ∨ ltInt (G (F + c)) (G (F + c + 1)) = false := .inl (by omega)
          have e2 : ltInt (G (F + r)) (G (F + c)) = true := by simpa using ‹(!ltInt (G (F + r)) (G (F + c))) = false›
          go_region
          all_goals go_wp2
          go_roundw
          case rel => exact ⟨c, _, rfl, by omega, Lib.hid ⟨hK.out.1.swapG HG _ _ _ l1 l2, (F1.out e1 h1).2 e2⟩⟩
          case measure => simp [intOf]; have := HC.out; omega
    · go_wp2
      go_end0
      exact ⟨rfl, by rw [← hK.out.2, stop (by omega)]; exact hK.out.1⟩
end Go.Proofs.Ytepnjolldbgglaa.Kb
