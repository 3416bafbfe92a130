
/- A row that is nearly in order is put in order, where few steps will do; the text walked. -/
import Derived.Test.YtepnjolldbgglaaKbSrt0
import Derived.Test.YtepnjolldbgglaaKbSrtM
namespace Go.Proofs.Ytepnjolldbgglaa.Kb
open Go.RowKit Go.Sort
theorem sorted_far {a i j k : Nat} {d : Array Int} (h : SortedIn ltInt a i d) (hj : i ≤ j) (hk : i ≤ k) : SortedIn ltInt a i (swp d j k) := by
  intro p q h1 h2 h3
  rw [swp_other d j k p (by omega) (by omega), swp_other d j k q (by omega) (by omega)]
  exact h p q h1 h2 h3
theorem sorted_short {a i : Nat} {d : Array Int} (h : i ≤ a + 1) : SortedIn ltInt a i d := fun p q h1 h2 h3 => by omega
theorem ins_start {a i i1 : Nat} {d : Array Int} (h : SortedIn ltInt a i d) (hi : i1 + 1 = i) : Ins ltInt a i1 i1 (swp d i i1) :=
  ⟨fun p q h1 h2 h3 h4 h5 => by
    rw [swp_other d i i1 p (by omega) h4, swp_other d i i1 q (by omega) h5]
    exact h p q h1 h2 (by omega), fun q h1 h2 => by omega⟩
theorem ins_step {a j i : Nat} {d : Array Int} (h : Ins ltInt a j i d) (hl : ltInt d[j]! d[j - 1]! = true) (haj : a < j) (hs : j < d.size) : Ins ltInt a (j - 1) i (swp d j (j - 1)) := by
  cases j with
  | zero => omega
  | succ k => exact Ins.step h hl (by omega) hs
/-- Nothing from a up to b is less than what stands ahead of a. -/
def Bel (a b : Nat) (d : Array Int) : Prop := 0 < a → ∀ k, a ≤ k → k < b → d[a - 1]! ≤ d[k]!
theorem Bel.perm {a b : Nat} {d dk : Array Int} (h : Bel a b d) (hp : PermIn a b d dk) (hb : b ≤ d.size) : Bel a b dk := fun h0 k h1 h2 => by
  rw [hp.2.1 (a - 1) (.inl (by omega))]
  exact permIn_all d dk a b (fun x => d[a - 1]! ≤ x) hb hp (fun i h3 h4 => h h0 i h3 h4) k h1 h2
theorem below_no {a b : Nat} {d dk : Array Int} (h : Bel a b d) (hp : PermIn a b d dk) (hb : b ≤ dk.size) (hab : a < b) (h0 : 1 ≤ a) : ltInt dk[a]! dk[a - 1]! = false := by
  have := h.perm hp (by rw [← hp.1]; exact hb) (by omega) a (Nat.le_refl _) hab
  simpa [ltInt] using this
set_option maxHeartbeats 40000000 in
set_option maxRecDepth 100000 in
theorem so_partial (w0 w : World) (blk off n cap a b : Nat) (d : Array Int) (h : Rr w0 blk off n d w) (hab : a < b) (hb : b ≤ n) (hbel : Bel a b d) :
    Calls Try.prog 40 #[.slice (some ⟨blk, off, none⟩) n cap, .int .i64 a, .int .i64 b] w fun e w' =>
      ∃ t : Bool, e = .returned (.bool t) ∧ Sr w0 blk off n a b d (fun d' => t = true → SortedIn ltInt a b d') w' := by
  have few := h.few
  have HZ : Hid (b ≤ d.size) := Lib.hid (by rw [h.size]; exact hb)
  have H := Lib.hid h
  have HBL := Lib.hid hbel
  obtain ⟨L, hL⟩ : ∃ L, L = b - a := ⟨_, rfl⟩
  have eL : (b : Int) - (a : Int) = (L : Int) := by omega
  have hLn : L ≤ n := by omega
  clear h hbel hL
  go_enter Try.func40, Try.ntmps40
  go_wp2
  go_loopw [7, 8] (fun vi vs wr => ∃ (s i : Nat) (dk : Array Int), vi = .int .i64 i ∧ vs = .int .i64 s ∧ s ≤ 5 ∧ a < i ∧ i ≤ b ∧ Hid (Rr w0 blk off n dk wr ∧ PermIn a b d dk ∧ SortedIn ltInt a i dk)) (fun _ vs _ => 5 - (intOf vs).toNat)
  case atStart => exact ⟨0, a + 1, d, by go_num, rfl, by omega, by omega, by omega, Lib.hid ⟨H.out, permIn_refl _ _ _, sorted_short (Nat.le_refl _)⟩⟩
  case round =>
    obtain ⟨s, i0, dk, rfl, rfl, hs, hi1, hi2, hK⟩ := hrel
    by_cases hs5 : s < 5
    · have hs5' : decide ((s : Int) < 5) = true := by rw [decide_eq_true_eq]; omega
      go_wp2
      go_loopw [7] (fun vi wr => ∃ (i : Nat), vi = .int .i64 i ∧ a < i ∧ i ≤ b ∧ Hid (Rr w0 blk off n dk wr ∧ PermIn a b d dk ∧ SortedIn ltInt a i dk)) (fun vi _ => b - (intOf vi).toNat)
      case atStart => exact ⟨i0, rfl, hi1, hi2, hK⟩
      case round =>
        clear hK hi1 hi2
        obtain ⟨i, rfl, hi1, hi2, hK⟩ := hrel
        obtain ⟨G, hG⟩ : ∃ G : Nat → Int, ∀ t, G t = dk[t]! := ⟨fun t => dk[t]!, fun _ => rfl⟩
        have hcw : ∀ t, t < n → wr.cell? ⟨blk, off + t, none⟩ = some (.int .u64 (G t)) := fun t ht => by rw [hG]; exact hK.out.1.cell ht
        have hfw : ∀ t, t < n → wr.frozen? ⟨blk, off + t, none⟩ = false := fun t ht => hK.out.1.free ht
        have HG := Lib.hid hG
        clear hG
        by_cases hib : i < b
        · have li : i < n := by omega
          have li1 : i - 1 < n := by omega
          have hbq : ((i : Int) == (b : Int)) = false := by rw [beq_eq_false_iff_ne]; omega
          by_cases h50 : L < 50
          · have h50' : (L : Int) < 50 := by omega
            go_wp2
            go_quiet (first | (go_at_call 29; refine Calls.quiet_of_same (less_any _ _ _)) | (go_at_call 29; exact less_more _ _ _ _ _))
            go_wp2
            · have e : (!ltInt (G i) (G (i - 1))) = true := by assumption
              go_roundw
              case rel => exact ⟨i + 1, by go_num, by omega, by omega, Lib.hid ⟨hK.out.1.drewN _, hK.out.2.1, SortedIn.snoc swo_ltInt hK.out.2.2 (by rw [← HG.out, ← HG.out]; simpa using e)⟩⟩
              case measure => simp [intOf]; omega
            · go_ret
              exact ⟨false, rfl, dk, hK.out.1.drewN _, hK.out.2.1, fun e => by cases e⟩
          · have h50' : ¬ (L : Int) < 50 := by omega
            have h50'' : 50 ≤ (L : Int) := by omega
            go_wp2
            go_quiet (first | (go_at_call 29; refine Calls.quiet_of_same (less_any _ _ _)) | (go_at_call 29; exact less_more _ _ _ _ _))
            go_wp2
            · have e : (!ltInt (G i) (G (i - 1))) = true := by assumption
              go_roundw
              case rel => exact ⟨i + 1, by go_num, by omega, by omega, Lib.hid ⟨hK.out.1.drewN _, hK.out.2.1, SortedIn.snoc swo_ltInt hK.out.2.2 (by rw [← HG.out, ← HG.out]; simpa using e)⟩⟩
              case measure => simp [intOf]; omega
            · have hlt : (!ltInt (G i) (G (i - 1))) = false := by assumption
              clear hlt
              obtain ⟨i1, hi⟩ : ∃ i1, i1 + 1 = i := ⟨i - 1, by omega⟩
              obtain ⟨u, hu⟩ : ∃ u, u = i - a := ⟨_, rfl⟩
              obtain ⟨t, ht⟩ : ∃ t, t = b - i := ⟨_, rfl⟩
              have hai1 : a ≤ i1 := by omega
              have hu2 : i ≤ a + u := by omega
              have ht2 : i + t ≤ b := by omega
              have li2 : i1 < n := by omega
              have hne : ¬ i = i1 := by omega
              have hne' : ¬ i1 = i := by omega
              have eu : (i : Int) - (a : Int) = (u : Int) := by omega
              have et : (b : Int) - (i : Int) = (t : Int) := by omega
              have ei : (i : Int) - 1 = (i1 : Int) := by omega
              have HI1 := Lib.hid hi
              have hN := Lib.hid hK.out.2.2
              clear hi hu ht
              by_cases hu : 2 ≤ u
              · have hu' : 2 ≤ (u : Int) := by omega
                by_cases ht : 2 ≤ t
                · have ht' : 2 ≤ (t : Int) := by omega
                  go_region
                  all_goals go_wp2
                  go_loopw [9] (fun vj wr => ∃ (j : Nat) (dj : Array Int), vj = .int .i64 j ∧ a ≤ j ∧ j ≤ i1 ∧ Hid (Rr w0 blk off n dj wr ∧ PermIn a b d dj ∧ Ins ltInt a j i1 dj)) (fun vj _ => (intOf vj).toNat)
                  case atStart => exact ⟨i1, swp dk i i1, rfl, by omega, Nat.le_refl _, Lib.hid ⟨hK.out.1.swapG HG (nq + 1) i i1 li li2, permIn_trans _ _ _ _ _ hK.out.2.1 (swp_permIn dk a b i i1 (by omega) hib hai1 (by omega) (by rw [hK.out.2.1.1]; exact HZ.out)), ins_start hN.out HI1.out⟩⟩
                  case round =>
                    obtain ⟨j, dj, rfl, hj1, hj2, hJ⟩ := hrel
                    by_cases hj0 : 1 ≤ j
                    · have hj0' : 1 ≤ (j : Int) := by omega
                      have lj : j < n := by omega
                      have lj1 : j - 1 < n := by omega
                      obtain ⟨G, hG⟩ : ∃ G : Nat → Int, ∀ t, G t = dj[t]! := ⟨fun t => dj[t]!, fun _ => rfl⟩
                      have hcw : ∀ t, t < n → wr.cell? ⟨blk, off + t, none⟩ = some (.int .u64 (G t)) := fun t ht => by rw [hG]; exact hJ.out.1.cell ht
                      have hfw : ∀ t, t < n → wr.frozen? ⟨blk, off + t, none⟩ = false := fun t ht => hJ.out.1.free ht
                      have HG := Lib.hid hG
                      clear hG
                      go_wp2
                      go_quiet (first | (go_at_call 29; refine Calls.quiet_of_same (less_any _ _ _)) | (go_at_call 29; exact less_more _ _ _ _ _))
                      go_wp2
                      · have e : (!ltInt (G j) (G (j - 1))) = true := by assumption
                        have hM : Hid (Rr w0 blk off n dj (wr.drewN nq) ∧ PermIn a b d dj ∧ SortedIn ltInt a i dj) := Lib.hid ⟨hJ.out.1.drewN _, hJ.out.2.1, by
                          have hh := Ins.stop swo_ltInt hJ.out.2.2 (.inr (by rw [← HG.out, ← HG.out]; simpa using e))
                          rw [HI1.out] at hh; exact hh⟩
                        clear e
                        go_loopw [10] (fun vj wr => ∃ (j : Nat) (dj : Array Int), vj = .int .i64 j ∧ i + 1 ≤ j ∧ j ≤ b ∧ Hid (Rr w0 blk off n dj wr ∧ PermIn a b d dj ∧ SortedIn ltInt a i dj)) (fun vj _ => b - (intOf vj).toNat)
                        case atStart => exact ⟨i + 1, dj, by go_num, Nat.le_refl _, by omega, Lib.hid ⟨hM.out.1, hM.out.2.1, hM.out.2.2⟩⟩
                        case round =>
                          obtain ⟨j, dj, rfl, hj1, hj2, hJ⟩ := hrel
                          by_cases hjb : j < b
                          · have lj : j < n := by omega
                            have lj1 : j - 1 < n := by omega
                            obtain ⟨G, hG⟩ : ∃ G : Nat → Int, ∀ t, G t = dj[t]! := ⟨fun t => dj[t]!, fun _ => rfl⟩
                            have hcw : ∀ t, t < n → wr.cell? ⟨blk, off + t, none⟩ = some (.int .u64 (G t)) := fun t ht => by rw [hG]; exact hJ.out.1.cell ht
                            have hfw : ∀ t, t < n → wr.frozen? ⟨blk, off + t, none⟩ = false := fun t ht => hJ.out.1.free ht
                            have HG := Lib.hid hG
                            clear hG
                            go_wp2
                            go_quiet (first | (go_at_call 29; refine Calls.quiet_of_same (less_any _ _ _)) | (go_at_call 29; exact less_more _ _ _ _ _))
                            go_wp2
                            · have e : (!ltInt (G j) (G (j - 1))) = true := by assumption
                              go_roundw
                              case rel => exact ⟨s + 1, i, dj, rfl, by go_num, by omega, hi1, by omega, Lib.hid ⟨hJ.out.1.drewN _, hJ.out.2.1, hJ.out.2.2⟩⟩
                              case measure => simp [intOf]; omega
                            · go_region
                              all_goals go_wp2
                              go_roundw
                              case rel => exact ⟨j + 1, swp dj j (j - 1), by go_num, by omega, by omega, Lib.hid ⟨hJ.out.1.swapG HG _ j (j - 1) lj lj1, permIn_trans _ _ _ _ _ hJ.out.2.1 (swp_permIn dj a b j (j - 1) (by omega) hjb (by omega) (by omega) (by rw [hJ.out.2.1.1]; exact HZ.out)), sorted_far hJ.out.2.2 (by omega) (by omega)⟩⟩
                              case measure => simp [intOf]; omega
                          · go_wp2
                            go_roundw
                            case rel => exact ⟨s + 1, i, dj, rfl, by go_num, by omega, hi1, by omega, Lib.hid ⟨hJ.out.1, hJ.out.2.1, hJ.out.2.2⟩⟩
                            case measure => simp [intOf]; omega
                      · have e : (!ltInt (G j) (G (j - 1))) = false := by assumption
                        have hl : ltInt dj[j]! dj[j - 1]! = true := by rw [← HG.out, ← HG.out]; simpa using e
                        have haj : a < j := by
                          rcases Nat.lt_or_eq_of_le hj1 with h | h
                          · exact h
                          · subst h; rw [below_no HBL.out hJ.out.2.1 (by rw [hJ.out.2.1.1]; exact HZ.out) (by omega) hj0] at hl; cases hl
                        have HL := Lib.hid hl
                        clear hl e
                        have hne : ¬ j = j - 1 := by omega
                        go_region
                        all_goals go_wp2
                        go_roundw
                        case rel => exact ⟨j - 1, swp dj j (j - 1), by first | (congr 1; done) | (congr 1; omega), by omega, by omega, Lib.hid ⟨hJ.out.1.swapG HG _ j (j - 1) lj lj1, permIn_trans _ _ _ _ _ hJ.out.2.1 (swp_permIn dj a b j (j - 1) (by omega) (by omega) (by omega) (by omega) (by rw [hJ.out.2.1.1]; exact HZ.out)), ins_step hJ.out.2.2 HL.out haj (by rw [hJ.out.2.1.1]; have := HZ.out; omega)⟩⟩
                        case measure => simp [intOf]; omega
                    · have hj0' : ¬ 1 ≤ (j : Int) := by omega
                      have hM : Hid (Rr w0 blk off n dj wr ∧ PermIn a b d dj ∧ SortedIn ltInt a i dj) := Lib.hid ⟨hJ.out.1, hJ.out.2.1, by
                        have hh := Ins.stop swo_ltInt hJ.out.2.2 (.inl (by omega))
                        rw [HI1.out] at hh; exact hh⟩
                      go_wp2
                      go_loopw [10] (fun vj wr => ∃ (j : Nat) (dj : Array Int), vj = .int .i64 j ∧ i + 1 ≤ j ∧ j ≤ b ∧ Hid (Rr w0 blk off n dj wr ∧ PermIn a b d dj ∧ SortedIn ltInt a i dj)) (fun vj _ => b - (intOf vj).toNat)
                      case atStart => exact ⟨i + 1, dj, by go_num, Nat.le_refl _, by omega, Lib.hid ⟨hM.out.1, hM.out.2.1, hM.out.2.2⟩⟩
                      case round =>
                        obtain ⟨j, dj, rfl, hj1, hj2, hJ⟩ := hrel
                        by_cases hjb : j < b
                        · have lj : j < n := by omega
                          have lj1 : j - 1 < n := by omega
                          obtain ⟨G, hG⟩ : ∃ G : Nat → Int, ∀ t, G t = dj[t]! := ⟨fun t => dj[t]!, fun _ => rfl⟩
                          have hcw : ∀ t, t < n → wr.cell? ⟨blk, off + t, none⟩ = some (.int .u64 (G t)) := fun t ht => by rw [hG]; exact hJ.out.1.cell ht
                          have hfw : ∀ t, t < n → wr.frozen? ⟨blk, off + t, none⟩ = false := fun t ht => hJ.out.1.free ht
                          have HG := Lib.hid hG
                          clear hG
                          go_wp2
                          go_quiet (first | (go_at_call 29; refine Calls.quiet_of_same (less_any _ _ _)) | (go_at_call 29; exact less_more _ _ _ _ _))
                          go_wp2
                          · have e : (!ltInt (G j) (G (j - 1))) = true := by assumption
                            go_roundw
                            case rel => exact ⟨s + 1, i, dj, rfl, by go_num, by omega, hi1, by omega, Lib.hid ⟨hJ.out.1.drewN _, hJ.out.2.1, hJ.out.2.2⟩⟩
                            case measure => simp [intOf]; omega
                          · go_region
                            all_goals go_wp2
                            go_roundw
                            case rel => exact ⟨j + 1, swp dj j (j - 1), by go_num, by omega, by omega, Lib.hid ⟨hJ.out.1.swapG HG _ j (j - 1) lj lj1, permIn_trans _ _ _ _ _ hJ.out.2.1 (swp_permIn dj a b j (j - 1) (by omega) hjb (by omega) (by omega) (by rw [hJ.out.2.1.1]; exact HZ.out)), sorted_far hJ.out.2.2 (by omega) (by omega)⟩⟩
                            case measure => simp [intOf]; omega
                        · go_wp2
                          go_roundw
                          case rel => exact ⟨s + 1, i, dj, rfl, by go_num, by omega, hi1, by omega, Lib.hid ⟨hJ.out.1, hJ.out.2.1, hJ.out.2.2⟩⟩
                          case measure => simp [intOf]; omega
                · have ht' : ¬ 2 ≤ (t : Int) := by omega
                  go_region
                  all_goals go_wp2
                  go_loopw [9] (fun vj wr => ∃ (j : Nat) (dj : Array Int), vj = .int .i64 j ∧ a ≤ j ∧ j ≤ i1 ∧ Hid (Rr w0 blk off n dj wr ∧ PermIn a b d dj ∧ Ins ltInt a j i1 dj)) (fun vj _ => (intOf vj).toNat)
                  case atStart => exact ⟨i1, swp dk i i1, rfl, by omega, Nat.le_refl _, Lib.hid ⟨hK.out.1.swapG HG (nq + 1) i i1 li li2, permIn_trans _ _ _ _ _ hK.out.2.1 (swp_permIn dk a b i i1 (by omega) hib hai1 (by omega) (by rw [hK.out.2.1.1]; exact HZ.out)), ins_start hN.out HI1.out⟩⟩
                  case round =>
                    obtain ⟨j, dj, rfl, hj1, hj2, hJ⟩ := hrel
                    by_cases hj0 : 1 ≤ j
                    · have hj0' : 1 ≤ (j : Int) := by omega
                      have lj : j < n := by omega
                      have lj1 : j - 1 < n := by omega
                      obtain ⟨G, hG⟩ : ∃ G : Nat → Int, ∀ t, G t = dj[t]! := ⟨fun t => dj[t]!, fun _ => rfl⟩
                      have hcw : ∀ t, t < n → wr.cell? ⟨blk, off + t, none⟩ = some (.int .u64 (G t)) := fun t ht => by rw [hG]; exact hJ.out.1.cell ht
                      have hfw : ∀ t, t < n → wr.frozen? ⟨blk, off + t, none⟩ = false := fun t ht => hJ.out.1.free ht
                      have HG := Lib.hid hG
                      clear hG
                      go_wp2
                      go_quiet (first | (go_at_call 29; refine Calls.quiet_of_same (less_any _ _ _)) | (go_at_call 29; exact less_more _ _ _ _ _))
                      go_wp2
                      · have e : (!ltInt (G j) (G (j - 1))) = true := by assumption
                        have hM : Hid (Rr w0 blk off n dj (wr.drewN nq) ∧ PermIn a b d dj ∧ SortedIn ltInt a i dj) := Lib.hid ⟨hJ.out.1.drewN _, hJ.out.2.1, by
                          have hh := Ins.stop swo_ltInt hJ.out.2.2 (.inr (by rw [← HG.out, ← HG.out]; simpa using e))
                          rw [HI1.out] at hh; exact hh⟩
                        clear e
                        go_roundw
                        case rel => exact ⟨s + 1, i, dj, rfl, by go_num, by omega, hi1, by omega, Lib.hid ⟨hM.out.1, hM.out.2.1, hM.out.2.2⟩⟩
                        case measure => simp [intOf]; omega
                      · have e : (!ltInt (G j) (G (j - 1))) = false := by assumption
                        have hl : ltInt dj[j]! dj[j - 1]! = true := by rw [← HG.out, ← HG.out]; simpa using e
                        have haj : a < j := by
                          rcases Nat.lt_or_eq_of_le hj1 with h | h
                          · exact h
                          · subst h; rw [below_no HBL.out hJ.out.2.1 (by rw [hJ.out.2.1.1]; exact HZ.out) (by omega) hj0] at hl; cases hl
                        have HL := Lib.hid hl
                        clear hl e
                        have hne : ¬ j = j - 1 := by omega
                        go_region
                        all_goals go_wp2
                        go_roundw
                        case rel => exact ⟨j - 1, swp dj j (j - 1), by first | (congr 1; done) | (congr 1; omega), by omega, by omega, Lib.hid ⟨hJ.out.1.swapG HG _ j (j - 1) lj lj1, permIn_trans _ _ _ _ _ hJ.out.2.1 (swp_permIn dj a b j (j - 1) (by omega) (by omega) (by omega) (by omega) (by rw [hJ.out.2.1.1]; exact HZ.out)), ins_step hJ.out.2.2 HL.out haj (by rw [hJ.out.2.1.1]; have := HZ.out; omega)⟩⟩
                        case measure => simp [intOf]; omega
                    · have hj0' : ¬ 1 ≤ (j : Int) := by omega
                      have hM : Hid (Rr w0 blk off n dj wr ∧ PermIn a b d dj ∧ SortedIn ltInt a i dj) := Lib.hid ⟨hJ.out.1, hJ.out.2.1, by
                        have hh := Ins.stop swo_ltInt hJ.out.2.2 (.inl (by omega))
                        rw [HI1.out] at hh; exact hh⟩
                      go_wp2
                      go_roundw
                      case rel => exact ⟨s + 1, i, dj, rfl, by go_num, by omega, hi1, by omega, Lib.hid ⟨hM.out.1, hM.out.2.1, hM.out.2.2⟩⟩
                      case measure => simp [intOf]; omega
              · have hu' : ¬ 2 ≤ (u : Int) := by omega
                by_cases ht : 2 ≤ t
                · have ht' : 2 ≤ (t : Int) := by omega
                  have hM : Hid (PermIn a b d (swp dk i i1) ∧ SortedIn ltInt a i (swp dk i i1)) := Lib.hid ⟨permIn_trans _ _ _ _ _ hK.out.2.1 (swp_permIn dk a b i i1 (by omega) hib hai1 (by omega) (by rw [hK.out.2.1.1]; exact HZ.out)), sorted_short (by omega)⟩
                  go_region
                  all_goals go_wp2
                  go_loopw [10] (fun vj wr => ∃ (j : Nat) (dj : Array Int), vj = .int .i64 j ∧ i + 1 ≤ j ∧ j ≤ b ∧ Hid (Rr w0 blk off n dj wr ∧ PermIn a b d dj ∧ SortedIn ltInt a i dj)) (fun vj _ => b - (intOf vj).toNat)
                  case atStart => exact ⟨i + 1, (swp dk i i1), by go_num, Nat.le_refl _, by omega, Lib.hid ⟨hK.out.1.swapG HG (nq + 1) i i1 li li2, hM.out.1, hM.out.2⟩⟩
                  case round =>
                    obtain ⟨j, dj, rfl, hj1, hj2, hJ⟩ := hrel
                    by_cases hjb : j < b
                    · have lj : j < n := by omega
                      have lj1 : j - 1 < n := by omega
                      obtain ⟨G, hG⟩ : ∃ G : Nat → Int, ∀ t, G t = dj[t]! := ⟨fun t => dj[t]!, fun _ => rfl⟩
                      have hcw : ∀ t, t < n → wr.cell? ⟨blk, off + t, none⟩ = some (.int .u64 (G t)) := fun t ht => by rw [hG]; exact hJ.out.1.cell ht
                      have hfw : ∀ t, t < n → wr.frozen? ⟨blk, off + t, none⟩ = false := fun t ht => hJ.out.1.free ht
                      have HG := Lib.hid hG
                      clear hG
                      go_wp2
                      go_quiet (first | (go_at_call 29; refine Calls.quiet_of_same (less_any _ _ _)) | (go_at_call 29; exact less_more _ _ _ _ _))
                      go_wp2
                      · have e : (!ltInt (G j) (G (j - 1))) = true := by assumption
                        go_roundw
                        case rel => exact ⟨s + 1, i, dj, rfl, by go_num, by omega, hi1, by omega, Lib.hid ⟨hJ.out.1.drewN _, hJ.out.2.1, hJ.out.2.2⟩⟩
                        case measure => simp [intOf]; omega
                      · go_region
                        all_goals go_wp2
                        go_roundw
                        case rel => exact ⟨j + 1, swp dj j (j - 1), by go_num, by omega, by omega, Lib.hid ⟨hJ.out.1.swapG HG _ j (j - 1) lj lj1, permIn_trans _ _ _ _ _ hJ.out.2.1 (swp_permIn dj a b j (j - 1) (by omega) hjb (by omega) (by omega) (by rw [hJ.out.2.1.1]; exact HZ.out)), sorted_far hJ.out.2.2 (by omega) (by omega)⟩⟩
                        case measure => simp [intOf]; omega
                    · go_wp2
                      go_roundw
                      case rel => exact ⟨s + 1, i, dj, rfl, by go_num, by omega, hi1, by omega, Lib.hid ⟨hJ.out.1, hJ.out.2.1, hJ.out.2.2⟩⟩
                      case measure => simp [intOf]; omega
                · have ht' : ¬ 2 ≤ (t : Int) := by omega
                  exfalso; omega
        · have hbi : i = b := by omega
          subst hbi
          go_wp2
          go_quiet (first | (go_at_call 29; refine Calls.quiet_of_same (less_any _ _ _)) | (go_at_call 29; exact less_more _ _ _ _ _))
          go_wp2
          go_ret
          exact ⟨true, rfl, dk, hK.out.1.drewN _, hK.out.2.1, fun _ => hK.out.2.2⟩
    · go_wp2
      go_ret
      exact ⟨false, rfl, dk, hK.out.1, hK.out.2.1, fun e => by cases e⟩
end Go.Proofs.Ytepnjolldbgglaa.Kb
