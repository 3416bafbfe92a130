/- A row is parted about one of its numbers; the text walked. -/
import Derived.Test.YtelfacchhclgnaaGreatMu24
namespace Go.Proofs.YtelfacchhclgnaaGreat.Kb
set_option maxRecDepth 20000
open Go.RowKit Go.Sort
set_option maxHeartbeats 40000000 in
set_option maxRecDepth 100000 in
theorem so_parteq (w0 w : World) (blk off n cap a b v : Nat) (d : Array Int) (h : Rr w0 blk off n d w) (hav : a ≤ v) (hvb : v < b) (hb : b ≤ n) :
    Calls Tryz.prog 169 #[.slice (some ⟨blk, off, none⟩) n cap, .int .i64 a, .int .i64 b, .int .i64 v] w fun e w' =>
      ∃ m : Nat, e = .returned (.int .i64 m) ∧ a < m ∧ m ≤ b ∧ Sr w0 blk off n a b d (fun d' => (∀ k, a ≤ k → k < m → d'[k]! ≤ d[v]!) ∧ ∀ k, m ≤ k → k < b → d[v]! < d'[k]!) w' := by
  have few := h.few
  have hsz := h.size
  obtain ⟨p, hp⟩ : ∃ p, p = d[v]! := ⟨_, rfl⟩
  obtain ⟨b1, hb1⟩ : ∃ b1, b1 = b - 1 := ⟨_, rfl⟩
  have hS : Pt Le Gt a b (a + 1) b1 p d (swp d a v) := by rw [hp, hb1]; exact Pt.start hav hvb (by omega)
  have HS := Lib.hid hS
  have HZ : Hid (b ≤ d.size) := Lib.hid (by omega)
  have eb : (b : Int) - 1 = (b1 : Int) := by omega
  have hbb : b1 < b := by omega
  have hba : a ≤ b1 := by omega
  try rw [← hp]
  have HPV := Lib.hid hp
  clear hp hS hb1 hsz
  have hK : Hid (Rr w0 blk off n d w) := Lib.hid h
  have la : a < n := by omega
  have lv : v < n := by omega
  obtain ⟨G, hG⟩ : ∃ G : Nat → Int, ∀ t, G t = d[t]! := ⟨fun t => d[t]!, fun _ => rfl⟩
  have hcw : ∀ t, t < n → w.cell? ⟨blk, off + t, none⟩ = some (.int .u64 (G t)) := fun t ht => by rw [hG]; exact hK.out.cell ht
  have hfw : ∀ t, t < n → w.frozen? ⟨blk, off + t, none⟩ = false := fun t ht => hK.out.free ht
  have HG := Lib.hid hG
  clear hG
  rcases Nat.eq_or_lt_of_le hav with e0 | e0
  · subst e0
    clear hav
    go_enter Tryz.func169, Tryz.ntmps169
    go_wp2
    go_region
    all_goals go_wp2
    go_loopw [9, 10] (fun vi vj wr => ∃ (i j : Nat) (dk : Array Int), vi = .int .i64 i ∧ vj = .int .i64 j ∧ a < i ∧ i ≤ j + 1 ∧ j < b ∧ Hid (Rr w0 blk off n dk wr ∧ Pt Le Gt a b i j p d dk)) (fun vi vj _ => (intOf vj + 1 - intOf vi).toNat)
    case atStart => exact ⟨a + 1, b1, swp d a a, by go_num, rfl, by omega, by omega, by omega, (Lib.hid ⟨hK.out.swapG HG _ a a la (by omega), HS.out⟩)⟩
    case round =>
      obtain ⟨i, j, dk, rfl, rfl, hi1, hi2, hj1, hJ⟩ := hrel
      clear hcw hfw HG
      go_wp2
      go_loopw [9] (fun vi wr => ∃ i1 : Nat, vi = .int .i64 i1 ∧ a < i1 ∧ i1 ≤ j + 1 ∧ i ≤ i1 ∧ Hid (Rr w0 blk off n dk wr ∧ Pt Le Gt a b i1 j p d dk)) (fun vi _ => j + 1 - (intOf vi).toNat)
      case atStart => exact ⟨i, rfl, by omega, by omega, Nat.le_refl _, hJ⟩
      case round =>
        obtain ⟨i1, rfl, hl1, hu1, ho1, hK1⟩ := hrel
        obtain ⟨G, hG⟩ : ∃ G : Nat → Int, ∀ t, G t = dk[t]! := ⟨fun t => dk[t]!, fun _ => rfl⟩
        have hcw : ∀ t, t < n → wr.cell? ⟨blk, off + t, none⟩ = some (.int .u64 (G t)) := fun t ht => by rw [hG]; exact hK1.out.1.cell ht
        have hfw : ∀ t, t < n → wr.frozen? ⟨blk, off + t, none⟩ = false := fun t ht => hK1.out.1.free ht
        have HG := Lib.hid hG
        clear hG
        have hp := hK1.out.2.top
        rw [← HG.out] at hp
        have HP := Lib.hid hp
        clear hp
        have la : a < n := by omega
        by_cases hle1 : i1 ≤ j
        · have ll : i1 < n := by omega
          go_wp2
          go_quiet (first | (go_at_call 118; refine Calls.quiet_of_same (less_any _ _ _)) | (go_at_call 118; exact less_more _ _ _ _ _))
          go_wp2
          · have e : (!ltInt (G a) (G i1)) = true := by assumption
            go_roundw
            case rel => exact ⟨i1 + 1, by go_num, by omega, by omega, by omega, Lib.hid ⟨hK1.out.1.drewN _, hK1.out.2.next (by rw [← HG.out]; exact le_n HP.out e)⟩⟩
            case measure => simp [intOf]; omega
          · have e : (!ltInt (G a) (G i1)) = false := by assumption
            have E1 : Hid (Gt p dk[i1]!) := Lib.hid (by rw [← HG.out]; exact gt_n HP.out e)
            clear e
            clear hcw hfw HP HG ll
            go_loopw [10] (fun vi wr => ∃ j2 : Nat, vi = .int .i64 j2 ∧ i1 ≤ j2 + 1 ∧ j2 < b ∧ j2 ≤ j ∧ Hid (Rr w0 blk off n dk wr ∧ Pt Le Gt a b i1 j2 p d dk)) (fun vi _ => (intOf vi).toNat)
            case atStart => exact ⟨j, rfl, by omega, by omega, Nat.le_refl _, (Lib.hid ⟨hK1.out.1.drewN _, hK1.out.2⟩)⟩
            case round =>
              obtain ⟨j2, rfl, hl2, hu2, ho2, hK2⟩ := hrel
              obtain ⟨G, hG⟩ : ∃ G : Nat → Int, ∀ t, G t = dk[t]! := ⟨fun t => dk[t]!, fun _ => rfl⟩
              have hcw : ∀ t, t < n → wr.cell? ⟨blk, off + t, none⟩ = some (.int .u64 (G t)) := fun t ht => by rw [hG]; exact hK2.out.1.cell ht
              have hfw : ∀ t, t < n → wr.frozen? ⟨blk, off + t, none⟩ = false := fun t ht => hK2.out.1.free ht
              have HG := Lib.hid hG
              clear hG
              have hp := hK2.out.2.top
              rw [← HG.out] at hp
              have HP := Lib.hid hp
              clear hp
              have la : a < n := by omega
              by_cases hle2 : i1 ≤ j2
              · have ll : j2 < n := by omega
                go_wp2
                go_quiet (first | (go_at_call 118; refine Calls.quiet_of_same (less_any _ _ _)) | (go_at_call 118; exact less_more _ _ _ _ _))
                go_wp2
                · have e : ltInt (G a) (G j2) = true := by assumption
                  go_roundw
                  case rel => exact ⟨j2 - 1, by first | (congr 1; done) | (congr 1; omega), by omega, by omega, by omega, Lib.hid ⟨hK2.out.1.drewN _, hK2.out.2.prev (by rw [← HG.out]; exact gt_y HP.out e) (by omega)⟩⟩
                  case measure => simp [intOf]; omega
                · have e : ltInt (G a) (G j2) = false := by assumption
                  have E2 : Hid (Le p dk[j2]!) := Lib.hid (by rw [← HG.out]; exact le_y HP.out e)
                  clear e
                  have hij : i1 < j2 := lt_of (U := Le) (V := Gt) (i := i1) (j := j2) (fun _ _ => not_legt) (by omega) E1.out E2.out
                  have hne : ¬ i1 = j2 := by omega
                  have hne' : ¬ j2 = i1 := by omega
                  have hng : ¬ j2 < i1 := by omega
                  have li : i1 < n := by omega
                  go_region
                  all_goals go_wp2
                  go_roundw
                  case rel => exact ⟨i1 + 1, j2 - 1, swp dk i1 j2, by go_num, by first | (congr 1; done) | (congr 1; omega), by omega, by omega, by omega, Lib.hid ⟨hK2.out.1.swapG HG _ _ _ (by omega) (by omega), hK2.out.2.swap (by omega) hij (by omega) HZ.out E2.out E1.out⟩⟩
                  case measure => simp [intOf]; omega
              · have hgt : j2 < i1 := by omega
                go_wp2
                go_quiet (first | (go_at_call 118; refine Calls.quiet_of_same (less_any _ _ _)) | (go_at_call 118; exact less_more _ _ _ _ _))
                go_wp2
                go_ret
                exact ⟨i1, rfl, by omega, by omega, dk, hK2.out.1.drewN _, hK2.out.2.perm, hK2.out.2.ends hgt⟩
        · have hgt : j < i1 := by omega
          go_wp2
          go_quiet (first | (go_at_call 118; refine Calls.quiet_of_same (less_any _ _ _)) | (go_at_call 118; exact less_more _ _ _ _ _))
          go_wp2
          clear hcw hfw HP HG
          go_loopw [10] (fun vi wr => ∃ j3 : Nat, vi = .int .i64 j3 ∧ i1 ≤ j3 + 1 ∧ j3 < b ∧ j3 ≤ j ∧ Hid (Rr w0 blk off n dk wr ∧ Pt Le Gt a b i1 j3 p d dk)) (fun vi _ => (intOf vi).toNat)
          case atStart => exact ⟨j, rfl, by omega, by omega, Nat.le_refl _, (Lib.hid ⟨hK1.out.1.drewN _, hK1.out.2⟩)⟩
          case round =>
            obtain ⟨j3, rfl, hl3, hu3, ho3, hK3⟩ := hrel
            obtain ⟨G, hG⟩ : ∃ G : Nat → Int, ∀ t, G t = dk[t]! := ⟨fun t => dk[t]!, fun _ => rfl⟩
            have hcw : ∀ t, t < n → wr.cell? ⟨blk, off + t, none⟩ = some (.int .u64 (G t)) := fun t ht => by rw [hG]; exact hK3.out.1.cell ht
            have hfw : ∀ t, t < n → wr.frozen? ⟨blk, off + t, none⟩ = false := fun t ht => hK3.out.1.free ht
            have HG := Lib.hid hG
            clear hG
            have hp := hK3.out.2.top
            rw [← HG.out] at hp
            have HP := Lib.hid hp
            clear hp
            have la : a < n := by omega
            by_cases hle3 : i1 ≤ j3
            · exfalso; omega
            · have hgt : j3 < i1 := by omega
              go_wp2
              go_quiet (first | (go_at_call 118; refine Calls.quiet_of_same (less_any _ _ _)) | (go_at_call 118; exact less_more _ _ _ _ _))
              go_wp2
              go_ret
              exact ⟨i1, rfl, by omega, by omega, dk, hK3.out.1.drewN _, hK3.out.2.perm, hK3.out.2.ends hgt⟩
  · have hne0 : ¬ a = v := by omega
    have hne1 : ¬ v = a := by omega
    go_enter Tryz.func169, Tryz.ntmps169
    go_wp2
    go_region
    all_goals go_wp2
    go_loopw [9, 10] (fun vi vj wr => ∃ (i j : Nat) (dk : Array Int), vi = .int .i64 i ∧ vj = .int .i64 j ∧ a < i ∧ i ≤ j + 1 ∧ j < b ∧ Hid (Rr w0 blk off n dk wr ∧ Pt Le Gt a b i j p d dk)) (fun vi vj _ => (intOf vj + 1 - intOf vi).toNat)
    case atStart => exact ⟨a + 1, b1, swp d a v, by go_num, rfl, by omega, by omega, by omega, (Lib.hid ⟨hK.out.swapG HG _ a v la (by omega), HS.out⟩)⟩
    case round =>
      obtain ⟨i, j, dk, rfl, rfl, hi1, hi2, hj1, hJ⟩ := hrel
      clear hcw hfw HG
      go_wp2
      go_loopw [9] (fun vi wr => ∃ i4 : Nat, vi = .int .i64 i4 ∧ a < i4 ∧ i4 ≤ j + 1 ∧ i ≤ i4 ∧ Hid (Rr w0 blk off n dk wr ∧ Pt Le Gt a b i4 j p d dk)) (fun vi _ => j + 1 - (intOf vi).toNat)
      case atStart => exact ⟨i, rfl, by omega, by omega, Nat.le_refl _, hJ⟩
      case round =>
        obtain ⟨i4, rfl, hl4, hu4, ho4, hK4⟩ := hrel
        obtain ⟨G, hG⟩ : ∃ G : Nat → Int, ∀ t, G t = dk[t]! := ⟨fun t => dk[t]!, fun _ => rfl⟩
        have hcw : ∀ t, t < n → wr.cell? ⟨blk, off + t, none⟩ = some (.int .u64 (G t)) := fun t ht => by rw [hG]; exact hK4.out.1.cell ht
        have hfw : ∀ t, t < n → wr.frozen? ⟨blk, off + t, none⟩ = false := fun t ht => hK4.out.1.free ht
        have HG := Lib.hid hG
        clear hG
        have hp := hK4.out.2.top
        rw [← HG.out] at hp
        have HP := Lib.hid hp
        clear hp
        have la : a < n := by omega
        by_cases hle4 : i4 ≤ j
        · have ll : i4 < n := by omega
          go_wp2
          go_quiet (first | (go_at_call 118; refine Calls.quiet_of_same (less_any _ _ _)) | (go_at_call 118; exact less_more _ _ _ _ _))
          go_wp2
          · have e : (!ltInt (G a) (G i4)) = true := by assumption
            go_roundw
            case rel => exact ⟨i4 + 1, by go_num, by omega, by omega, by omega, Lib.hid ⟨hK4.out.1.drewN _, hK4.out.2.next (by rw [← HG.out]; exact le_n HP.out e)⟩⟩
            case measure => simp [intOf]; omega
          · have e : (!ltInt (G a) (G i4)) = false := by assumption
            have E4 : Hid (Gt p dk[i4]!) := Lib.hid (by rw [← HG.out]; exact gt_n HP.out e)
            clear e
            clear hcw hfw HP HG ll
            go_loopw [10] (fun vi wr => ∃ j5 : Nat, vi = .int .i64 j5 ∧ i4 ≤ j5 + 1 ∧ j5 < b ∧ j5 ≤ j ∧ Hid (Rr w0 blk off n dk wr ∧ Pt Le Gt a b i4 j5 p d dk)) (fun vi _ => (intOf vi).toNat)
            case atStart => exact ⟨j, rfl, by omega, by omega, Nat.le_refl _, (Lib.hid ⟨hK4.out.1.drewN _, hK4.out.2⟩)⟩
            case round =>
              obtain ⟨j5, rfl, hl5, hu5, ho5, hK5⟩ := hrel
              obtain ⟨G, hG⟩ : ∃ G : Nat → Int, ∀ t, G t = dk[t]! := ⟨fun t => dk[t]!, fun _ => rfl⟩
              have hcw : ∀ t, t < n → wr.cell? ⟨blk, off + t, none⟩ = some (.int .u64 (G t)) := fun t ht => by rw [hG]; exact hK5.out.1.cell ht
              have hfw : ∀ t, t < n → wr.frozen? ⟨blk, off + t, none⟩ = false := fun t ht => hK5.out.1.free ht
              have HG := Lib.hid hG
              clear hG
              have hp := hK5.out.2.top
              rw [← HG.out] at hp
              have HP := Lib.hid hp
              clear hp
              have la : a < n := by omega
              by_cases hle5 : i4 ≤ j5
              · have ll : j5 < n := by omega
                go_wp2
                go_quiet (first | (go_at_call 118; refine Calls.quiet_of_same (less_any _ _ _)) | (go_at_call 118; exact less_more _ _ _ _ _))
                go_wp2
                · have e : ltInt (G a) (G j5) = true := by assumption
                  go_roundw
                  case rel => exact ⟨j5 - 1, by first | (congr 1; done) | (congr 1; omega), by omega, by omega, by omega, Lib.hid ⟨hK5.out.1.drewN _, hK5.out.2.prev (by rw [← HG.out]; exact gt_y HP.out e) (by omega)⟩⟩
                  case measure => simp [intOf]; omega
                · have e : ltInt (G a) (G j5) = false := by assumption
                  have E5 : Hid (Le p dk[j5]!) := Lib.hid (by rw [← HG.out]; exact le_y HP.out e)
                  clear e
                  have hij : i4 < j5 := lt_of (U := Le) (V := Gt) (i := i4) (j := j5) (fun _ _ => not_legt) (by omega) E4.out E5.out
                  have hne : ¬ i4 = j5 := by omega
                  have hne' : ¬ j5 = i4 := by omega
                  have hng : ¬ j5 < i4 := by omega
                  have li : i4 < n := by omega
                  go_region
                  all_goals go_wp2
                  go_roundw
                  case rel => exact ⟨i4 + 1, j5 - 1, swp dk i4 j5, by go_num, by first | (congr 1; done) | (congr 1; omega), by omega, by omega, by omega, Lib.hid ⟨hK5.out.1.swapG HG _ _ _ (by omega) (by omega), hK5.out.2.swap (by omega) hij (by omega) HZ.out E5.out E4.out⟩⟩
                  case measure => simp [intOf]; omega
              · have hgt : j5 < i4 := by omega
                go_wp2
                go_quiet (first | (go_at_call 118; refine Calls.quiet_of_same (less_any _ _ _)) | (go_at_call 118; exact less_more _ _ _ _ _))
                go_wp2
                go_ret
                exact ⟨i4, rfl, by omega, by omega, dk, hK5.out.1.drewN _, hK5.out.2.perm, hK5.out.2.ends hgt⟩
        · have hgt : j < i4 := by omega
          go_wp2
          go_quiet (first | (go_at_call 118; refine Calls.quiet_of_same (less_any _ _ _)) | (go_at_call 118; exact less_more _ _ _ _ _))
          go_wp2
          clear hcw hfw HP HG
          go_loopw [10] (fun vi wr => ∃ j6 : Nat, vi = .int .i64 j6 ∧ i4 ≤ j6 + 1 ∧ j6 < b ∧ j6 ≤ j ∧ Hid (Rr w0 blk off n dk wr ∧ Pt Le Gt a b i4 j6 p d dk)) (fun vi _ => (intOf vi).toNat)
          case atStart => exact ⟨j, rfl, by omega, by omega, Nat.le_refl _, (Lib.hid ⟨hK4.out.1.drewN _, hK4.out.2⟩)⟩
          case round =>
            obtain ⟨j6, rfl, hl6, hu6, ho6, hK6⟩ := hrel
            obtain ⟨G, hG⟩ : ∃ G : Nat → Int, ∀ t, G t = dk[t]! := ⟨fun t => dk[t]!, fun _ => rfl⟩
            have hcw : ∀ t, t < n → wr.cell? ⟨blk, off + t, none⟩ = some (.int .u64 (G t)) := fun t ht => by rw [hG]; exact hK6.out.1.cell ht
            have hfw : ∀ t, t < n → wr.frozen? ⟨blk, off + t, none⟩ = false := fun t ht => hK6.out.1.free ht
            have HG := Lib.hid hG
            clear hG
            have hp := hK6.out.2.top
            rw [← HG.out] at hp
            have HP := Lib.hid hp
            clear hp
            have la : a < n := by omega
            by_cases hle6 : i4 ≤ j6
            · exfalso; omega
            · have hgt : j6 < i4 := by omega
              go_wp2
              go_quiet (first | (go_at_call 118; refine Calls.quiet_of_same (less_any _ _ _)) | (go_at_call 118; exact less_more _ _ _ _ _))
              go_wp2
              go_ret
              exact ⟨i4, rfl, by omega, by omega, dk, hK6.out.1.drewN _, hK6.out.2.perm, hK6.out.2.ends hgt⟩
set_option maxHeartbeats 40000000 in
set_option maxRecDepth 100000 in
theorem so_part (w0 w : World) (blk off n cap a b v : Nat) (d : Array Int) (h : Rr w0 blk off n d w) (hav : a ≤ v) (hvb : v < b) (hb : b ≤ n) :
    Calls Tryz.prog 170 #[.slice (some ⟨blk, off, none⟩) n cap, .int .i64 a, .int .i64 b, .int .i64 v] w fun e w' =>
      ∃ (m : Nat) (t : Bool), e = .returned (.tuple #[.int .i64 m, .bool t]) ∧ a ≤ m ∧ m < b ∧ Sr w0 blk off n a b d (fun d' => (∀ k, a ≤ k → k < m → d'[k]! < d'[m]!) ∧ ∀ k, m < k → k < b → d'[m]! ≤ d'[k]!) w' := by
  have few := h.few
  have hsz := h.size
  obtain ⟨p, hp⟩ : ∃ p, p = d[v]! := ⟨_, rfl⟩
  obtain ⟨b1, hb1⟩ : ∃ b1, b1 = b - 1 := ⟨_, rfl⟩
  have hS : Pt Lo Hi a b (a + 1) b1 p d (swp d a v) := by rw [hp, hb1]; exact Pt.start hav hvb (by omega)
  have HS := Lib.hid hS
  have HZ : Hid (b ≤ d.size) := Lib.hid (by omega)
  have eb : (b : Int) - 1 = (b1 : Int) := by omega
  have hbb : b1 < b := by omega
  have hba : a ≤ b1 := by omega
  try rw [← hp]
  have HPV := Lib.hid hp
  clear hp hS hb1 hsz
  have hK : Hid (Rr w0 blk off n d w) := Lib.hid h
  have la : a < n := by omega
  have lv : v < n := by omega
  obtain ⟨G, hG⟩ : ∃ G : Nat → Int, ∀ t, G t = d[t]! := ⟨fun t => d[t]!, fun _ => rfl⟩
  have hcw : ∀ t, t < n → w.cell? ⟨blk, off + t, none⟩ = some (.int .u64 (G t)) := fun t ht => by rw [hG]; exact hK.out.cell ht
  have hfw : ∀ t, t < n → w.frozen? ⟨blk, off + t, none⟩ = false := fun t ht => hK.out.free ht
  have HG := Lib.hid hG
  clear hG
  rcases Nat.eq_or_lt_of_le hav with e0 | e0
  · subst e0
    clear hav
    go_enter Tryz.func170, Tryz.ntmps170
    go_wp2
    go_region
    all_goals go_wp2
    clear hcw hfw
    go_loopw [10] (fun vi wr => ∃ i7 : Nat, vi = .int .i64 i7 ∧ a < i7 ∧ i7 ≤ b1 + 1 ∧ (a + 1) ≤ i7 ∧ Hid (Rr w0 blk off n (swp d a a) wr ∧ Pt Lo Hi a b i7 b1 p d (swp d a a))) (fun vi _ => b1 + 1 - (intOf vi).toNat)
    case atStart => exact ⟨(a + 1), by go_num, by omega, by omega, Nat.le_refl _, (Lib.hid ⟨hK.out.swapG HG _ a a la (by omega), HS.out⟩)⟩
    case round =>
      obtain ⟨i7, rfl, hl7, hu7, ho7, hK7⟩ := hrel
      obtain ⟨G, hG⟩ : ∃ G : Nat → Int, ∀ t, G t = (swp d a a)[t]! := ⟨fun t => (swp d a a)[t]!, fun _ => rfl⟩
      have hcw : ∀ t, t < n → wr.cell? ⟨blk, off + t, none⟩ = some (.int .u64 (G t)) := fun t ht => by rw [hG]; exact hK7.out.1.cell ht
      have hfw : ∀ t, t < n → wr.frozen? ⟨blk, off + t, none⟩ = false := fun t ht => hK7.out.1.free ht
      have HG := Lib.hid hG
      clear hG
      have hp := hK7.out.2.top
      rw [← HG.out] at hp
      have HP := Lib.hid hp
      clear hp
      have la : a < n := by omega
      by_cases hle7 : i7 ≤ b1
      · have ll : i7 < n := by omega
        go_wp2
        go_quiet (first | (go_at_call 118; refine Calls.quiet_of_same (less_any _ _ _)) | (go_at_call 118; exact less_more _ _ _ _ _))
        go_wp2
        · have e : ltInt (G i7) (G a) = true := by assumption
          go_roundw
          case rel => exact ⟨i7 + 1, by go_num, by omega, by omega, by omega, Lib.hid ⟨hK7.out.1.drewN _, hK7.out.2.next (by rw [← HG.out]; exact lo_y HP.out e)⟩⟩
          case measure => simp [intOf]; omega
        · have e : ltInt (G i7) (G a) = false := by assumption
          have E7 : Hid (Hi p (swp d a a)[i7]!) := Lib.hid (by rw [← HG.out]; exact hi_y HP.out e)
          clear e
          clear hcw hfw HP HG ll
          go_loopw [11] (fun vi wr => ∃ j8 : Nat, vi = .int .i64 j8 ∧ i7 ≤ j8 + 1 ∧ j8 < b ∧ j8 ≤ b1 ∧ Hid (Rr w0 blk off n (swp d a a) wr ∧ Pt Lo Hi a b i7 j8 p d (swp d a a))) (fun vi _ => (intOf vi).toNat)
          case atStart => exact ⟨b1, rfl, by omega, by omega, Nat.le_refl _, (Lib.hid ⟨hK7.out.1.drewN _, hK7.out.2⟩)⟩
          case round =>
            obtain ⟨j8, rfl, hl8, hu8, ho8, hK8⟩ := hrel
            obtain ⟨G, hG⟩ : ∃ G : Nat → Int, ∀ t, G t = (swp d a a)[t]! := ⟨fun t => (swp d a a)[t]!, fun _ => rfl⟩
            have hcw : ∀ t, t < n → wr.cell? ⟨blk, off + t, none⟩ = some (.int .u64 (G t)) := fun t ht => by rw [hG]; exact hK8.out.1.cell ht
            have hfw : ∀ t, t < n → wr.frozen? ⟨blk, off + t, none⟩ = false := fun t ht => hK8.out.1.free ht
            have HG := Lib.hid hG
            clear hG
            have hp := hK8.out.2.top
            rw [← HG.out] at hp
            have HP := Lib.hid hp
            clear hp
            have la : a < n := by omega
            by_cases hle8 : i7 ≤ j8
            · have ll : j8 < n := by omega
              go_wp2
              go_quiet (first | (go_at_call 118; refine Calls.quiet_of_same (less_any _ _ _)) | (go_at_call 118; exact less_more _ _ _ _ _))
              go_wp2
              · have e : (!ltInt (G j8) (G a)) = true := by assumption
                go_roundw
                case rel => exact ⟨j8 - 1, by first | (congr 1; done) | (congr 1; omega), by omega, by omega, by omega, Lib.hid ⟨hK8.out.1.drewN _, hK8.out.2.prev (by rw [← HG.out]; exact hi_n HP.out e) (by omega)⟩⟩
                case measure => simp [intOf]; omega
              · have e : (!ltInt (G j8) (G a)) = false := by assumption
                have E8 : Hid (Lo p (swp d a a)[j8]!) := Lib.hid (by rw [← HG.out]; exact lo_n HP.out e)
                clear e
                have hij : i7 < j8 := lt_of (U := Lo) (V := Hi) (i := i7) (j := j8) (fun _ _ => not_lohi) (by omega) E7.out E8.out
                have hne : ¬ i7 = j8 := by omega
                have hne' : ¬ j8 = i7 := by omega
                have hng : ¬ j8 < i7 := by omega
                have li : i7 < n := by omega
                have ej0 : (j8 : Int) - 1 = ((j8 - 1 : Nat) : Int) := by omega
                have EJ := Lib.hid ej0
                clear ej0
                go_region
                all_goals go_wp2
                go_loopw [10, 11] (fun vi vj wr => ∃ (i j : Nat) (dk : Array Int), vi = .int .i64 i ∧ vj = .int .i64 j ∧ a < i ∧ i ≤ j + 1 ∧ j < b ∧ Hid (Rr w0 blk off n dk wr ∧ Pt Lo Hi a b i j p d dk)) (fun vi vj _ => (intOf vj + 1 - intOf vi).toNat)
                case atStart => exact ⟨i7 + 1, j8 - 1, swp (swp d a a) i7 j8, by go_num, by first | (congr 1; done) | (congr 1; omega), by omega, by omega, by omega, Lib.hid ⟨hK8.out.1.swapG HG _ _ _ (by omega) (by omega), hK8.out.2.swap (by omega) hij (by omega) HZ.out E8.out E7.out⟩⟩
                case round =>
                  obtain ⟨i, j, dk, rfl, rfl, hi1, hi2, hj1, hJ⟩ := hrel
                  clear hcw hfw HG
                  go_wp2
                  go_loopw [10] (fun vi wr => ∃ i9 : Nat, vi = .int .i64 i9 ∧ a < i9 ∧ i9 ≤ j + 1 ∧ i ≤ i9 ∧ Hid (Rr w0 blk off n dk wr ∧ Pt Lo Hi a b i9 j p d dk)) (fun vi _ => j + 1 - (intOf vi).toNat)
                  case atStart => exact ⟨i, rfl, by omega, by omega, Nat.le_refl _, hJ⟩
                  case round =>
                    obtain ⟨i9, rfl, hl9, hu9, ho9, hK9⟩ := hrel
                    obtain ⟨G, hG⟩ : ∃ G : Nat → Int, ∀ t, G t = dk[t]! := ⟨fun t => dk[t]!, fun _ => rfl⟩
                    have hcw : ∀ t, t < n → wr.cell? ⟨blk, off + t, none⟩ = some (.int .u64 (G t)) := fun t ht => by rw [hG]; exact hK9.out.1.cell ht
                    have hfw : ∀ t, t < n → wr.frozen? ⟨blk, off + t, none⟩ = false := fun t ht => hK9.out.1.free ht
                    have HG := Lib.hid hG
                    clear hG
                    have hp := hK9.out.2.top
                    rw [← HG.out] at hp
                    have HP := Lib.hid hp
                    clear hp
                    have la : a < n := by omega
                    by_cases hle9 : i9 ≤ j
                    · have ll : i9 < n := by omega
                      go_wp2
                      go_quiet (first | (go_at_call 118; refine Calls.quiet_of_same (less_any _ _ _)) | (go_at_call 118; exact less_more _ _ _ _ _))
                      go_wp2
                      · have e : ltInt (G i9) (G a) = true := by assumption
                        go_roundw
                        case rel => exact ⟨i9 + 1, by go_num, by omega, by omega, by omega, Lib.hid ⟨hK9.out.1.drewN _, hK9.out.2.next (by rw [← HG.out]; exact lo_y HP.out e)⟩⟩
                        case measure => simp [intOf]; omega
                      · have e : ltInt (G i9) (G a) = false := by assumption
                        have E9 : Hid (Hi p dk[i9]!) := Lib.hid (by rw [← HG.out]; exact hi_y HP.out e)
                        clear e
                        clear hcw hfw HP HG ll
                        go_loopw [11] (fun vi wr => ∃ j10 : Nat, vi = .int .i64 j10 ∧ i9 ≤ j10 + 1 ∧ j10 < b ∧ j10 ≤ j ∧ Hid (Rr w0 blk off n dk wr ∧ Pt Lo Hi a b i9 j10 p d dk)) (fun vi _ => (intOf vi).toNat)
                        case atStart => exact ⟨j, rfl, by omega, by omega, Nat.le_refl _, (Lib.hid ⟨hK9.out.1.drewN _, hK9.out.2⟩)⟩
                        case round =>
                          obtain ⟨j10, rfl, hl10, hu10, ho10, hK10⟩ := hrel
                          obtain ⟨G, hG⟩ : ∃ G : Nat → Int, ∀ t, G t = dk[t]! := ⟨fun t => dk[t]!, fun _ => rfl⟩
                          have hcw : ∀ t, t < n → wr.cell? ⟨blk, off + t, none⟩ = some (.int .u64 (G t)) := fun t ht => by rw [hG]; exact hK10.out.1.cell ht
                          have hfw : ∀ t, t < n → wr.frozen? ⟨blk, off + t, none⟩ = false := fun t ht => hK10.out.1.free ht
                          have HG := Lib.hid hG
                          clear hG
                          have hp := hK10.out.2.top
                          rw [← HG.out] at hp
                          have HP := Lib.hid hp
                          clear hp
                          have la : a < n := by omega
                          by_cases hle10 : i9 ≤ j10
                          · have ll : j10 < n := by omega
                            go_wp2
                            go_quiet (first | (go_at_call 118; refine Calls.quiet_of_same (less_any _ _ _)) | (go_at_call 118; exact less_more _ _ _ _ _))
                            go_wp2
                            · have e : (!ltInt (G j10) (G a)) = true := by assumption
                              go_roundw
                              case rel => exact ⟨j10 - 1, by first | (congr 1; done) | (congr 1; omega), by omega, by omega, by omega, Lib.hid ⟨hK10.out.1.drewN _, hK10.out.2.prev (by rw [← HG.out]; exact hi_n HP.out e) (by omega)⟩⟩
                              case measure => simp [intOf]; omega
                            · have e : (!ltInt (G j10) (G a)) = false := by assumption
                              have E10 : Hid (Lo p dk[j10]!) := Lib.hid (by rw [← HG.out]; exact lo_n HP.out e)
                              clear e
                              have hij : i9 < j10 := lt_of (U := Lo) (V := Hi) (i := i9) (j := j10) (fun _ _ => not_lohi) (by omega) E9.out E10.out
                              have hne : ¬ i9 = j10 := by omega
                              have hne' : ¬ j10 = i9 := by omega
                              have hng : ¬ j10 < i9 := by omega
                              have li : i9 < n := by omega
                              go_region
                              all_goals go_wp2
                              go_roundw
                              case rel => exact ⟨i9 + 1, j10 - 1, swp dk i9 j10, by go_num, by first | (congr 1; done) | (congr 1; omega), by omega, by omega, by omega, Lib.hid ⟨hK10.out.1.swapG HG _ _ _ (by omega) (by omega), hK10.out.2.swap (by omega) hij (by omega) HZ.out E10.out E9.out⟩⟩
                              case measure => simp [intOf]; omega
                          · have hgt : j10 < i9 := by omega
                            go_wp2
                            go_quiet (first | (go_at_call 118; refine Calls.quiet_of_same (less_any _ _ _)) | (go_at_call 118; exact less_more _ _ _ _ _))
                            go_wp2
                            have haj : a ≤ j10 := by omega
                            have lj : j10 < n := by omega
                            rcases Nat.eq_or_lt_of_le haj with e9 | e9
                            · have e9' : j10 = a := e9.symm
                              have E9 := Lib.hid e9'
                              clear e9 e9'
                              have hea : (j10 : Int) = (a : Int) := by have := E9.out; omega
                              go_region
                              all_goals go_wp2
                              all_goals go_ret2
                              all_goals have L0 := Pt.last (by have ee : i9 = j10 + 1 := (by omega); rw [← ee]; exact hK10.out.2) haj (by omega) HZ.out
                              all_goals have L := L0
                              all_goals rw [E9.out] at L
                              all_goals first
                                | exact ⟨a, false, rfl, Nat.le_refl _, by omega, _, hK10.out.1.swapG HG (nq + 1) a a la la, L.1, by rw [L.2.1]; exact L.2.2.1, by rw [L.2.1]; exact L.2.2.2⟩
                                | exact ⟨j10, false, rfl, haj, by omega, swp dk j10 a, by rw [E9.out]; exact hK10.out.1.swapG HG (nq + 1) a a la la, L0.1, by rw [L0.2.1]; exact L0.2.2.1, by rw [L0.2.1]; exact L0.2.2.2⟩
                            · have hne8 : ¬ a = j10 := by omega
                              have hne9 : ¬ j10 = a := by omega
                              go_region
                              all_goals go_wp2
                              go_ret2
                              have L := Pt.last (by have ee : i9 = j10 + 1 := (by omega); rw [← ee]; exact hK10.out.2) haj (by omega) HZ.out
                              exact ⟨j10, false, rfl, haj, by omega, _, hK10.out.1.swapG HG _ j10 a lj la, L.1, by rw [L.2.1]; exact L.2.2.1, by rw [L.2.1]; exact L.2.2.2⟩
                    · have hgt : j < i9 := by omega
                      go_wp2
                      go_quiet (first | (go_at_call 118; refine Calls.quiet_of_same (less_any _ _ _)) | (go_at_call 118; exact less_more _ _ _ _ _))
                      go_wp2
                      clear hcw hfw HP HG
                      go_loopw [11] (fun vi wr => ∃ j11 : Nat, vi = .int .i64 j11 ∧ i9 ≤ j11 + 1 ∧ j11 < b ∧ j11 ≤ j ∧ Hid (Rr w0 blk off n dk wr ∧ Pt Lo Hi a b i9 j11 p d dk)) (fun vi _ => (intOf vi).toNat)
                      case atStart => exact ⟨j, rfl, by omega, by omega, Nat.le_refl _, (Lib.hid ⟨hK9.out.1.drewN _, hK9.out.2⟩)⟩
                      case round =>
                        obtain ⟨j11, rfl, hl11, hu11, ho11, hK11⟩ := hrel
                        obtain ⟨G, hG⟩ : ∃ G : Nat → Int, ∀ t, G t = dk[t]! := ⟨fun t => dk[t]!, fun _ => rfl⟩
                        have hcw : ∀ t, t < n → wr.cell? ⟨blk, off + t, none⟩ = some (.int .u64 (G t)) := fun t ht => by rw [hG]; exact hK11.out.1.cell ht
                        have hfw : ∀ t, t < n → wr.frozen? ⟨blk, off + t, none⟩ = false := fun t ht => hK11.out.1.free ht
                        have HG := Lib.hid hG
                        clear hG
                        have hp := hK11.out.2.top
                        rw [← HG.out] at hp
                        have HP := Lib.hid hp
                        clear hp
                        have la : a < n := by omega
                        by_cases hle11 : i9 ≤ j11
                        · exfalso; omega
                        · have hgt : j11 < i9 := by omega
                          go_wp2
                          go_quiet (first | (go_at_call 118; refine Calls.quiet_of_same (less_any _ _ _)) | (go_at_call 118; exact less_more _ _ _ _ _))
                          go_wp2
                          have haj : a ≤ j11 := by omega
                          have lj : j11 < n := by omega
                          rcases Nat.eq_or_lt_of_le haj with e9 | e9
                          · have e9' : j11 = a := e9.symm
                            have E9 := Lib.hid e9'
                            clear e9 e9'
                            have hea : (j11 : Int) = (a : Int) := by have := E9.out; omega
                            go_region
                            all_goals go_wp2
                            all_goals go_ret2
                            all_goals have L0 := Pt.last (by have ee : i9 = j11 + 1 := (by omega); rw [← ee]; exact hK11.out.2) haj (by omega) HZ.out
                            all_goals have L := L0
                            all_goals rw [E9.out] at L
                            all_goals first
                              | exact ⟨a, false, rfl, Nat.le_refl _, by omega, _, hK11.out.1.swapG HG (nq + 1) a a la la, L.1, by rw [L.2.1]; exact L.2.2.1, by rw [L.2.1]; exact L.2.2.2⟩
                              | exact ⟨j11, false, rfl, haj, by omega, swp dk j11 a, by rw [E9.out]; exact hK11.out.1.swapG HG (nq + 1) a a la la, L0.1, by rw [L0.2.1]; exact L0.2.2.1, by rw [L0.2.1]; exact L0.2.2.2⟩
                          · have hne8 : ¬ a = j11 := by omega
                            have hne9 : ¬ j11 = a := by omega
                            go_region
                            all_goals go_wp2
                            go_ret2
                            have L := Pt.last (by have ee : i9 = j11 + 1 := (by omega); rw [← ee]; exact hK11.out.2) haj (by omega) HZ.out
                            exact ⟨j11, false, rfl, haj, by omega, _, hK11.out.1.swapG HG _ j11 a lj la, L.1, by rw [L.2.1]; exact L.2.2.1, by rw [L.2.1]; exact L.2.2.2⟩
            · have hgt : j8 < i7 := by omega
              go_wp2
              go_quiet (first | (go_at_call 118; refine Calls.quiet_of_same (less_any _ _ _)) | (go_at_call 118; exact less_more _ _ _ _ _))
              go_wp2
              have haj : a ≤ j8 := by omega
              have lj : j8 < n := by omega
              rcases Nat.eq_or_lt_of_le haj with e9 | e9
              · have e9' : j8 = a := e9.symm
                have E9 := Lib.hid e9'
                clear e9 e9'
                have hea : (j8 : Int) = (a : Int) := by have := E9.out; omega
                go_region
                all_goals go_wp2
                all_goals go_ret2
                all_goals have L0 := Pt.last (by have ee : i7 = j8 + 1 := (by omega); rw [← ee]; exact hK8.out.2) haj (by omega) HZ.out
                all_goals have L := L0
                all_goals rw [E9.out] at L
                all_goals first
                  | exact ⟨a, true, rfl, Nat.le_refl _, by omega, _, hK8.out.1.swapG HG (nq + 1) a a la la, L.1, by rw [L.2.1]; exact L.2.2.1, by rw [L.2.1]; exact L.2.2.2⟩
                  | exact ⟨j8, true, rfl, haj, by omega, swp (swp d a a) j8 a, by rw [E9.out]; exact hK8.out.1.swapG HG (nq + 1) a a la la, L0.1, by rw [L0.2.1]; exact L0.2.2.1, by rw [L0.2.1]; exact L0.2.2.2⟩
              · have hne8 : ¬ a = j8 := by omega
                have hne9 : ¬ j8 = a := by omega
                go_region
                all_goals go_wp2
                go_ret2
                have L := Pt.last (by have ee : i7 = j8 + 1 := (by omega); rw [← ee]; exact hK8.out.2) haj (by omega) HZ.out
                exact ⟨j8, true, rfl, haj, by omega, _, hK8.out.1.swapG HG _ j8 a lj la, L.1, by rw [L.2.1]; exact L.2.2.1, by rw [L.2.1]; exact L.2.2.2⟩
      · have hgt : b1 < i7 := by omega
        go_wp2
        go_quiet (first | (go_at_call 118; refine Calls.quiet_of_same (less_any _ _ _)) | (go_at_call 118; exact less_more _ _ _ _ _))
        go_wp2
        clear hcw hfw HP HG
        go_loopw [11] (fun vi wr => ∃ j12 : Nat, vi = .int .i64 j12 ∧ i7 ≤ j12 + 1 ∧ j12 < b ∧ j12 ≤ b1 ∧ Hid (Rr w0 blk off n (swp d a a) wr ∧ Pt Lo Hi a b i7 j12 p d (swp d a a))) (fun vi _ => (intOf vi).toNat)
        case atStart => exact ⟨b1, rfl, by omega, by omega, Nat.le_refl _, (Lib.hid ⟨hK7.out.1.drewN _, hK7.out.2⟩)⟩
        case round =>
          obtain ⟨j12, rfl, hl12, hu12, ho12, hK12⟩ := hrel
          obtain ⟨G, hG⟩ : ∃ G : Nat → Int, ∀ t, G t = (swp d a a)[t]! := ⟨fun t => (swp d a a)[t]!, fun _ => rfl⟩
          have hcw : ∀ t, t < n → wr.cell? ⟨blk, off + t, none⟩ = some (.int .u64 (G t)) := fun t ht => by rw [hG]; exact hK12.out.1.cell ht
          have hfw : ∀ t, t < n → wr.frozen? ⟨blk, off + t, none⟩ = false := fun t ht => hK12.out.1.free ht
          have HG := Lib.hid hG
          clear hG
          have hp := hK12.out.2.top
          rw [← HG.out] at hp
          have HP := Lib.hid hp
          clear hp
          have la : a < n := by omega
          by_cases hle12 : i7 ≤ j12
          · exfalso; omega
          · have hgt : j12 < i7 := by omega
            go_wp2
            go_quiet (first | (go_at_call 118; refine Calls.quiet_of_same (less_any _ _ _)) | (go_at_call 118; exact less_more _ _ _ _ _))
            go_wp2
            have haj : a ≤ j12 := by omega
            have lj : j12 < n := by omega
            rcases Nat.eq_or_lt_of_le haj with e9 | e9
            · have e9' : j12 = a := e9.symm
              have E9 := Lib.hid e9'
              clear e9 e9'
              have hea : (j12 : Int) = (a : Int) := by have := E9.out; omega
              go_region
              all_goals go_wp2
              all_goals go_ret2
              all_goals have L0 := Pt.last (by have ee : i7 = j12 + 1 := (by omega); rw [← ee]; exact hK12.out.2) haj (by omega) HZ.out
              all_goals have L := L0
              all_goals rw [E9.out] at L
              all_goals first
                | exact ⟨a, true, rfl, Nat.le_refl _, by omega, _, hK12.out.1.swapG HG (nq + 1) a a la la, L.1, by rw [L.2.1]; exact L.2.2.1, by rw [L.2.1]; exact L.2.2.2⟩
                | exact ⟨j12, true, rfl, haj, by omega, swp (swp d a a) j12 a, by rw [E9.out]; exact hK12.out.1.swapG HG (nq + 1) a a la la, L0.1, by rw [L0.2.1]; exact L0.2.2.1, by rw [L0.2.1]; exact L0.2.2.2⟩
            · have hne8 : ¬ a = j12 := by omega
              have hne9 : ¬ j12 = a := by omega
              go_region
              all_goals go_wp2
              go_ret2
              have L := Pt.last (by have ee : i7 = j12 + 1 := (by omega); rw [← ee]; exact hK12.out.2) haj (by omega) HZ.out
              exact ⟨j12, true, rfl, haj, by omega, _, hK12.out.1.swapG HG _ j12 a lj la, L.1, by rw [L.2.1]; exact L.2.2.1, by rw [L.2.1]; exact L.2.2.2⟩
  · have hne0 : ¬ a = v := by omega
    have hne1 : ¬ v = a := by omega
    go_enter Tryz.func170, Tryz.ntmps170
    go_wp2
    go_region
    all_goals go_wp2
    clear hcw hfw
    go_loopw [10] (fun vi wr => ∃ i13 : Nat, vi = .int .i64 i13 ∧ a < i13 ∧ i13 ≤ b1 + 1 ∧ (a + 1) ≤ i13 ∧ Hid (Rr w0 blk off n (swp d a v) wr ∧ Pt Lo Hi a b i13 b1 p d (swp d a v))) (fun vi _ => b1 + 1 - (intOf vi).toNat)
    case atStart => exact ⟨(a + 1), by go_num, by omega, by omega, Nat.le_refl _, (Lib.hid ⟨hK.out.swapG HG _ a v la (by omega), HS.out⟩)⟩
    case round =>
      obtain ⟨i13, rfl, hl13, hu13, ho13, hK13⟩ := hrel
      obtain ⟨G, hG⟩ : ∃ G : Nat → Int, ∀ t, G t = (swp d a v)[t]! := ⟨fun t => (swp d a v)[t]!, fun _ => rfl⟩
      have hcw : ∀ t, t < n → wr.cell? ⟨blk, off + t, none⟩ = some (.int .u64 (G t)) := fun t ht => by rw [hG]; exact hK13.out.1.cell ht
      have hfw : ∀ t, t < n → wr.frozen? ⟨blk, off + t, none⟩ = false := fun t ht => hK13.out.1.free ht
      have HG := Lib.hid hG
      clear hG
      have hp := hK13.out.2.top
      rw [← HG.out] at hp
      have HP := Lib.hid hp
      clear hp
      have la : a < n := by omega
      by_cases hle13 : i13 ≤ b1
      · have ll : i13 < n := by omega
        go_wp2
        go_quiet (first | (go_at_call 118; refine Calls.quiet_of_same (less_any _ _ _)) | (go_at_call 118; exact less_more _ _ _ _ _))
        go_wp2
        · have e : ltInt (G i13) (G a) = true := by assumption
          go_roundw
          case rel => exact ⟨i13 + 1, by go_num, by omega, by omega, by omega, Lib.hid ⟨hK13.out.1.drewN _, hK13.out.2.next (by rw [← HG.out]; exact lo_y HP.out e)⟩⟩
          case measure => simp [intOf]; omega
        · have e : ltInt (G i13) (G a) = false := by assumption
          have E13 : Hid (Hi p (swp d a v)[i13]!) := Lib.hid (by rw [← HG.out]; exact hi_y HP.out e)
          clear e
          clear hcw hfw HP HG ll
          go_loopw [11] (fun vi wr => ∃ j14 : Nat, vi = .int .i64 j14 ∧ i13 ≤ j14 + 1 ∧ j14 < b ∧ j14 ≤ b1 ∧ Hid (Rr w0 blk off n (swp d a v) wr ∧ Pt Lo Hi a b i13 j14 p d (swp d a v))) (fun vi _ => (intOf vi).toNat)
          case atStart => exact ⟨b1, rfl, by omega, by omega, Nat.le_refl _, (Lib.hid ⟨hK13.out.1.drewN _, hK13.out.2⟩)⟩
          case round =>
            obtain ⟨j14, rfl, hl14, hu14, ho14, hK14⟩ := hrel
            obtain ⟨G, hG⟩ : ∃ G : Nat → Int, ∀ t, G t = (swp d a v)[t]! := ⟨fun t => (swp d a v)[t]!, fun _ => rfl⟩
            have hcw : ∀ t, t < n → wr.cell? ⟨blk, off + t, none⟩ = some (.int .u64 (G t)) := fun t ht => by rw [hG]; exact hK14.out.1.cell ht
            have hfw : ∀ t, t < n → wr.frozen? ⟨blk, off + t, none⟩ = false := fun t ht => hK14.out.1.free ht
            have HG := Lib.hid hG
            clear hG
            have hp := hK14.out.2.top
            rw [← HG.out] at hp
            have HP := Lib.hid hp
            clear hp
            have la : a < n := by omega
            by_cases hle14 : i13 ≤ j14
            · have ll : j14 < n := by omega
              go_wp2
              go_quiet (first | (go_at_call 118; refine Calls.quiet_of_same (less_any _ _ _)) | (go_at_call 118; exact less_more _ _ _ _ _))
              go_wp2
              · have e : (!ltInt (G j14) (G a)) = true := by assumption
                go_roundw
                case rel => exact ⟨j14 - 1, by first | (congr 1; done) | (congr 1; omega), by omega, by omega, by omega, Lib.hid ⟨hK14.out.1.drewN _, hK14.out.2.prev (by rw [← HG.out]; exact hi_n HP.out e) (by omega)⟩⟩
                case measure => simp [intOf]; omega
              · have e : (!ltInt (G j14) (G a)) = false := by assumption
                have E14 : Hid (Lo p (swp d a v)[j14]!) := Lib.hid (by rw [← HG.out]; exact lo_n HP.out e)
                clear e
                have hij : i13 < j14 := lt_of (U := Lo) (V := Hi) (i := i13) (j := j14) (fun _ _ => not_lohi) (by omega) E13.out E14.out
                have hne : ¬ i13 = j14 := by omega
                have hne' : ¬ j14 = i13 := by omega
                have hng : ¬ j14 < i13 := by omega
                have li : i13 < n := by omega
                have ej0 : (j14 : Int) - 1 = ((j14 - 1 : Nat) : Int) := by omega
                have EJ := Lib.hid ej0
                clear ej0
                go_region
                all_goals go_wp2
                go_loopw [10, 11] (fun vi vj wr => ∃ (i j : Nat) (dk : Array Int), vi = .int .i64 i ∧ vj = .int .i64 j ∧ a < i ∧ i ≤ j + 1 ∧ j < b ∧ Hid (Rr w0 blk off n dk wr ∧ Pt Lo Hi a b i j p d dk)) (fun vi vj _ => (intOf vj + 1 - intOf vi).toNat)
                case atStart => exact ⟨i13 + 1, j14 - 1, swp (swp d a v) i13 j14, by go_num, by first | (congr 1; done) | (congr 1; omega), by omega, by omega, by omega, Lib.hid ⟨hK14.out.1.swapG HG _ _ _ (by omega) (by omega), hK14.out.2.swap (by omega) hij (by omega) HZ.out E14.out E13.out⟩⟩
                case round =>
                  obtain ⟨i, j, dk, rfl, rfl, hi1, hi2, hj1, hJ⟩ := hrel
                  clear hcw hfw HG
                  go_wp2
                  go_loopw [10] (fun vi wr => ∃ i15 : Nat, vi = .int .i64 i15 ∧ a < i15 ∧ i15 ≤ j + 1 ∧ i ≤ i15 ∧ Hid (Rr w0 blk off n dk wr ∧ Pt Lo Hi a b i15 j p d dk)) (fun vi _ => j + 1 - (intOf vi).toNat)
                  case atStart => exact ⟨i, rfl, by omega, by omega, Nat.le_refl _, hJ⟩
                  case round =>
                    obtain ⟨i15, rfl, hl15, hu15, ho15, hK15⟩ := hrel
                    obtain ⟨G, hG⟩ : ∃ G : Nat → Int, ∀ t, G t = dk[t]! := ⟨fun t => dk[t]!, fun _ => rfl⟩
                    have hcw : ∀ t, t < n → wr.cell? ⟨blk, off + t, none⟩ = some (.int .u64 (G t)) := fun t ht => by rw [hG]; exact hK15.out.1.cell ht
                    have hfw : ∀ t, t < n → wr.frozen? ⟨blk, off + t, none⟩ = false := fun t ht => hK15.out.1.free ht
                    have HG := Lib.hid hG
                    clear hG
                    have hp := hK15.out.2.top
                    rw [← HG.out] at hp
                    have HP := Lib.hid hp
                    clear hp
                    have la : a < n := by omega
                    by_cases hle15 : i15 ≤ j
                    · have ll : i15 < n := by omega
                      go_wp2
                      go_quiet (first | (go_at_call 118; refine Calls.quiet_of_same (less_any _ _ _)) | (go_at_call 118; exact less_more _ _ _ _ _))
                      go_wp2
                      · have e : ltInt (G i15) (G a) = true := by assumption
                        go_roundw
                        case rel => exact ⟨i15 + 1, by go_num, by omega, by omega, by omega, Lib.hid ⟨hK15.out.1.drewN _, hK15.out.2.next (by rw [← HG.out]; exact lo_y HP.out e)⟩⟩
                        case measure => simp [intOf]; omega
                      · have e : ltInt (G i15) (G a) = false := by assumption
                        have E15 : Hid (Hi p dk[i15]!) := Lib.hid (by rw [← HG.out]; exact hi_y HP.out e)
                        clear e
                        clear hcw hfw HP HG ll
                        go_loopw [11] (fun vi wr => ∃ j16 : Nat, vi = .int .i64 j16 ∧ i15 ≤ j16 + 1 ∧ j16 < b ∧ j16 ≤ j ∧ Hid (Rr w0 blk off n dk wr ∧ Pt Lo Hi a b i15 j16 p d dk)) (fun vi _ => (intOf vi).toNat)
                        case atStart => exact ⟨j, rfl, by omega, by omega, Nat.le_refl _, (Lib.hid ⟨hK15.out.1.drewN _, hK15.out.2⟩)⟩
                        case round =>
                          obtain ⟨j16, rfl, hl16, hu64, ho16, hK16⟩ := hrel
                          obtain ⟨G, hG⟩ : ∃ G : Nat → Int, ∀ t, G t = dk[t]! := ⟨fun t => dk[t]!, fun _ => rfl⟩
                          have hcw : ∀ t, t < n → wr.cell? ⟨blk, off + t, none⟩ = some (.int .u64 (G t)) := fun t ht => by rw [hG]; exact hK16.out.1.cell ht
                          have hfw : ∀ t, t < n → wr.frozen? ⟨blk, off + t, none⟩ = false := fun t ht => hK16.out.1.free ht
                          have HG := Lib.hid hG
                          clear hG
                          have hp := hK16.out.2.top
                          rw [← HG.out] at hp
                          have HP := Lib.hid hp
                          clear hp
                          have la : a < n := by omega
                          by_cases hle16 : i15 ≤ j16
                          · have ll : j16 < n := by omega
                            go_wp2
                            go_quiet (first | (go_at_call 118; refine Calls.quiet_of_same (less_any _ _ _)) | (go_at_call 118; exact less_more _ _ _ _ _))
                            go_wp2
                            · have e : (!ltInt (G j16) (G a)) = true := by assumption
                              go_roundw
                              case rel => exact ⟨j16 - 1, by first | (congr 1; done) | (congr 1; omega), by omega, by omega, by omega, Lib.hid ⟨hK16.out.1.drewN _, hK16.out.2.prev (by rw [← HG.out]; exact hi_n HP.out e) (by omega)⟩⟩
                              case measure => simp [intOf]; omega
                            · have e : (!ltInt (G j16) (G a)) = false := by assumption
                              have E16 : Hid (Lo p dk[j16]!) := Lib.hid (by rw [← HG.out]; exact lo_n HP.out e)
                              clear e
                              have hij : i15 < j16 := lt_of (U := Lo) (V := Hi) (i := i15) (j := j16) (fun _ _ => not_lohi) (by omega) E15.out E16.out
                              have hne : ¬ i15 = j16 := by omega
                              have hne' : ¬ j16 = i15 := by omega
                              have hng : ¬ j16 < i15 := by omega
                              have li : i15 < n := by omega
                              go_region
                              all_goals go_wp2
                              go_roundw
                              case rel => exact ⟨i15 + 1, j16 - 1, swp dk i15 j16, by go_num, by first | (congr 1; done) | (congr 1; omega), by omega, by omega, by omega, Lib.hid ⟨hK16.out.1.swapG HG _ _ _ (by omega) (by omega), hK16.out.2.swap (by omega) hij (by omega) HZ.out E16.out E15.out⟩⟩
                              case measure => simp [intOf]; omega
                          · have hgt : j16 < i15 := by omega
                            go_wp2
                            go_quiet (first | (go_at_call 118; refine Calls.quiet_of_same (less_any _ _ _)) | (go_at_call 118; exact less_more _ _ _ _ _))
                            go_wp2
                            have haj : a ≤ j16 := by omega
                            have lj : j16 < n := by omega
                            rcases Nat.eq_or_lt_of_le haj with e9 | e9
                            · have e9' : j16 = a := e9.symm
                              have E9 := Lib.hid e9'
                              clear e9 e9'
                              have hea : (j16 : Int) = (a : Int) := by have := E9.out; omega
                              go_region
                              all_goals go_wp2
                              all_goals go_ret2
                              all_goals have L0 := Pt.last (by have ee : i15 = j16 + 1 := (by omega); rw [← ee]; exact hK16.out.2) haj (by omega) HZ.out
                              all_goals have L := L0
                              all_goals rw [E9.out] at L
                              all_goals first
                                | exact ⟨a, false, rfl, Nat.le_refl _, by omega, _, hK16.out.1.swapG HG (nq + 1) a a la la, L.1, by rw [L.2.1]; exact L.2.2.1, by rw [L.2.1]; exact L.2.2.2⟩
                                | exact ⟨j16, false, rfl, haj, by omega, swp dk j16 a, by rw [E9.out]; exact hK16.out.1.swapG HG (nq + 1) a a la la, L0.1, by rw [L0.2.1]; exact L0.2.2.1, by rw [L0.2.1]; exact L0.2.2.2⟩
                            · have hne8 : ¬ a = j16 := by omega
                              have hne9 : ¬ j16 = a := by omega
                              go_region
                              all_goals go_wp2
                              go_ret2
                              have L := Pt.last (by have ee : i15 = j16 + 1 := (by omega); rw [← ee]; exact hK16.out.2) haj (by omega) HZ.out
                              exact ⟨j16, false, rfl, haj, by omega, _, hK16.out.1.swapG HG _ j16 a lj la, L.1, by rw [L.2.1]; exact L.2.2.1, by rw [L.2.1]; exact L.2.2.2⟩
                    · have hgt : j < i15 := by omega
                      go_wp2
                      go_quiet (first | (go_at_call 118; refine Calls.quiet_of_same (less_any _ _ _)) | (go_at_call 118; exact less_more _ _ _ _ _))
                      go_wp2
                      clear hcw hfw HP HG
                      go_loopw [11] (fun vi wr => ∃ j17 : Nat, vi = .int .i64 j17 ∧ i15 ≤ j17 + 1 ∧ j17 < b ∧ j17 ≤ j ∧ Hid (Rr w0 blk off n dk wr ∧ Pt Lo Hi a b i15 j17 p d dk)) (fun vi _ => (intOf vi).toNat)
                      case atStart => exact ⟨j, rfl, by omega, by omega, Nat.le_refl _, (Lib.hid ⟨hK15.out.1.drewN _, hK15.out.2⟩)⟩
                      case round =>
                        obtain ⟨j17, rfl, hl17, hu17, ho17, hK17⟩ := hrel
                        obtain ⟨G, hG⟩ : ∃ G : Nat → Int, ∀ t, G t = dk[t]! := ⟨fun t => dk[t]!, fun _ => rfl⟩
                        have hcw : ∀ t, t < n → wr.cell? ⟨blk, off + t, none⟩ = some (.int .u64 (G t)) := fun t ht => by rw [hG]; exact hK17.out.1.cell ht
                        have hfw : ∀ t, t < n → wr.frozen? ⟨blk, off + t, none⟩ = false := fun t ht => hK17.out.1.free ht
                        have HG := Lib.hid hG
                        clear hG
                        have hp := hK17.out.2.top
                        rw [← HG.out] at hp
                        have HP := Lib.hid hp
                        clear hp
                        have la : a < n := by omega
                        by_cases hle17 : i15 ≤ j17
                        · exfalso; omega
                        · have hgt : j17 < i15 := by omega
                          go_wp2
                          go_quiet (first | (go_at_call 118; refine Calls.quiet_of_same (less_any _ _ _)) | (go_at_call 118; exact less_more _ _ _ _ _))
                          go_wp2
                          have haj : a ≤ j17 := by omega
                          have lj : j17 < n := by omega
                          rcases Nat.eq_or_lt_of_le haj with e9 | e9
                          · have e9' : j17 = a := e9.symm
                            have E9 := Lib.hid e9'
                            clear e9 e9'
                            have hea : (j17 : Int) = (a : Int) := by have := E9.out; omega
                            go_region
                            all_goals go_wp2
                            all_goals go_ret2
                            all_goals have L0 := Pt.last (by have ee : i15 = j17 + 1 := (by omega); rw [← ee]; exact hK17.out.2) haj (by omega) HZ.out
                            all_goals have L := L0
                            all_goals rw [E9.out] at L
                            all_goals first
                              | exact ⟨a, false, rfl, Nat.le_refl _, by omega, _, hK17.out.1.swapG HG (nq + 1) a a la la, L.1, by rw [L.2.1]; exact L.2.2.1, by rw [L.2.1]; exact L.2.2.2⟩
                              | exact ⟨j17, false, rfl, haj, by omega, swp dk j17 a, by rw [E9.out]; exact hK17.out.1.swapG HG (nq + 1) a a la la, L0.1, by rw [L0.2.1]; exact L0.2.2.1, by rw [L0.2.1]; exact L0.2.2.2⟩
                          · have hne8 : ¬ a = j17 := by omega
                            have hne9 : ¬ j17 = a := by omega
                            go_region
                            all_goals go_wp2
                            go_ret2
                            have L := Pt.last (by have ee : i15 = j17 + 1 := (by omega); rw [← ee]; exact hK17.out.2) haj (by omega) HZ.out
                            exact ⟨j17, false, rfl, haj, by omega, _, hK17.out.1.swapG HG _ j17 a lj la, L.1, by rw [L.2.1]; exact L.2.2.1, by rw [L.2.1]; exact L.2.2.2⟩
            · have hgt : j14 < i13 := by omega
              go_wp2
              go_quiet (first | (go_at_call 118; refine Calls.quiet_of_same (less_any _ _ _)) | (go_at_call 118; exact less_more _ _ _ _ _))
              go_wp2
              have haj : a ≤ j14 := by omega
              have lj : j14 < n := by omega
              rcases Nat.eq_or_lt_of_le haj with e9 | e9
              · have e9' : j14 = a := e9.symm
                have E9 := Lib.hid e9'
                clear e9 e9'
                have hea : (j14 : Int) = (a : Int) := by have := E9.out; omega
                go_region
                all_goals go_wp2
                all_goals go_ret2
                all_goals have L0 := Pt.last (by have ee : i13 = j14 + 1 := (by omega); rw [← ee]; exact hK14.out.2) haj (by omega) HZ.out
                all_goals have L := L0
                all_goals rw [E9.out] at L
                all_goals first
                  | exact ⟨a, true, rfl, Nat.le_refl _, by omega, _, hK14.out.1.swapG HG (nq + 1) a a la la, L.1, by rw [L.2.1]; exact L.2.2.1, by rw [L.2.1]; exact L.2.2.2⟩
                  | exact ⟨j14, true, rfl, haj, by omega, swp (swp d a v) j14 a, by rw [E9.out]; exact hK14.out.1.swapG HG (nq + 1) a a la la, L0.1, by rw [L0.2.1]; exact L0.2.2.1, by rw [L0.2.1]; exact L0.2.2.2⟩
              · have hne8 : ¬ a = j14 := by omega
                have hne9 : ¬ j14 = a := by omega
                go_region
                all_goals go_wp2
                go_ret2
                have L := Pt.last (by have ee : i13 = j14 + 1 := (by omega); rw [← ee]; exact hK14.out.2) haj (by omega) HZ.out
                exact ⟨j14, true, rfl, haj, by omega, _, hK14.out.1.swapG HG _ j14 a lj la, L.1, by rw [L.2.1]; exact L.2.2.1, by rw [L.2.1]; exact L.2.2.2⟩
      · have hgt : b1 < i13 := by omega
        go_wp2
        go_quiet (first | (go_at_call 118; refine Calls.quiet_of_same (less_any _ _ _)) | (go_at_call 118; exact less_more _ _ _ _ _))
        go_wp2
        clear hcw hfw HP HG
        go_loopw [11] (fun vi wr => ∃ j18 : Nat, vi = .int .i64 j18 ∧ i13 ≤ j18 + 1 ∧ j18 < b ∧ j18 ≤ b1 ∧ Hid (Rr w0 blk off n (swp d a v) wr ∧ Pt Lo Hi a b i13 j18 p d (swp d a v))) (fun vi _ => (intOf vi).toNat)
        case atStart => exact ⟨b1, rfl, by omega, by omega, Nat.le_refl _, (Lib.hid ⟨hK13.out.1.drewN _, hK13.out.2⟩)⟩
        case round =>
          obtain ⟨j18, rfl, hl18, hu18, ho18, hK18⟩ := hrel
          obtain ⟨G, hG⟩ : ∃ G : Nat → Int, ∀ t, G t = (swp d a v)[t]! := ⟨fun t => (swp d a v)[t]!, fun _ => rfl⟩
          have hcw : ∀ t, t < n → wr.cell? ⟨blk, off + t, none⟩ = some (.int .u64 (G t)) := fun t ht => by rw [hG]; exact hK18.out.1.cell ht
          have hfw : ∀ t, t < n → wr.frozen? ⟨blk, off + t, none⟩ = false := fun t ht => hK18.out.1.free ht
          have HG := Lib.hid hG
          clear hG
          have hp := hK18.out.2.top
          rw [← HG.out] at hp
          have HP := Lib.hid hp
          clear hp
          have la : a < n := by omega
          by_cases hle18 : i13 ≤ j18
          · exfalso; omega
          · have hgt : j18 < i13 := by omega
            go_wp2
            go_quiet (first | (go_at_call 118; refine Calls.quiet_of_same (less_any _ _ _)) | (go_at_call 118; exact less_more _ _ _ _ _))
            go_wp2
            have haj : a ≤ j18 := by omega
            have lj : j18 < n := by omega
            rcases Nat.eq_or_lt_of_le haj with e9 | e9
            · have e9' : j18 = a := e9.symm
              have E9 := Lib.hid e9'
              clear e9 e9'
              have hea : (j18 : Int) = (a : Int) := by have := E9.out; omega
              go_region
              all_goals go_wp2
              all_goals go_ret2
              all_goals have L0 := Pt.last (by have ee : i13 = j18 + 1 := (by omega); rw [← ee]; exact hK18.out.2) haj (by omega) HZ.out
              all_goals have L := L0
              all_goals rw [E9.out] at L
              all_goals first
                | exact ⟨a, true, rfl, Nat.le_refl _, by omega, _, hK18.out.1.swapG HG (nq + 1) a a la la, L.1, by rw [L.2.1]; exact L.2.2.1, by rw [L.2.1]; exact L.2.2.2⟩
                | exact ⟨j18, true, rfl, haj, by omega, swp (swp d a v) j18 a, by rw [E9.out]; exact hK18.out.1.swapG HG (nq + 1) a a la la, L0.1, by rw [L0.2.1]; exact L0.2.2.1, by rw [L0.2.1]; exact L0.2.2.2⟩
            · have hne8 : ¬ a = j18 := by omega
              have hne9 : ¬ j18 = a := by omega
              go_region
              all_goals go_wp2
              go_ret2
              have L := Pt.last (by have ee : i13 = j18 + 1 := (by omega); rw [← ee]; exact hK18.out.2) haj (by omega) HZ.out
              exact ⟨j18, true, rfl, haj, by omega, _, hK18.out.1.swapG HG _ j18 a lj la, L.1, by rw [L.2.1]; exact L.2.2.1, by rw [L.2.1]; exact L.2.2.2⟩
end Go.Proofs.YtelfacchhclgnaaGreat.Kb
