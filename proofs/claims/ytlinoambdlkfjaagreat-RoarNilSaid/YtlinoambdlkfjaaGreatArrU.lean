
/- Add, Drop, Part; the text walked. -/
import Derived.Test.YtlinoambdlkfjaaGreatArrS
import Derived.Test.YtlinoambdlkfjaaGreatArrN
namespace Go.Proofs.YtlinoambdlkfjaaGreat.A
set_option maxRecDepth 40000
open Go.RowKit
theorem copy_any (w : World) (B n c : Nat) (A : Option Addr) (xs : List Int) (hn : n = xs.length) (hr : Rh w B A xs) (hB : B ≤ w.heap.size) (few : n ≤ 1000000) :
    Calls Tryz.prog 72 #[.slice (some ⟨w.heap.size, 0, none⟩) 1 1] (w.alloc (.cells #[.slice A n c] 84)) fun e w' => ∃ v, e = .returned v ∧ w'.ownsRow w.heap.size 50 1 v xs.length (hv xs) ∧ Below w.heap.size w w' := by
  have HP := Lib.hid (rh_cell (c := c) hr hn hB)
  have hcat : cat [(A, c, xs)] = xs := by simp [cat]
  have hB1 : B ≤ (w.alloc (.cells #[.slice A n c] 84)).heap.size := by simp; omega
  have hb0 := (Below.refl w.heap.size w).alloc (Nat.le_refl _) (.cells #[.slice A n c] 84)
  have c1 := concat_any (w.alloc (.cells #[.slice A n c] 84)) B w.heap.size 0 1 [(A, c, xs)] HP.out hB1 (by simp) (by rw [hcat, ← hn]; omega) (by simp)
  rw [hcat] at c1
  have c2 : Calls Tryz.prog 72 #[.slice (some ⟨w.heap.size, 0, none⟩) 1 1] (w.alloc (.cells #[.slice A n c] 84)) _ := c1
  refine c2.mono ?_
  rintro e w2 ⟨v, rfl, h1, h2⟩
  exact ⟨v, rfl, own_low h1 (by simp), hb0.trans (h2.mono (by simp))⟩
theorem parts_drew {w : World} {B g off : Nat} {L : List Part} (h : Parts w B g off L) (k : Nat) : Parts (w.drewN k) B g off L := h
theorem cat_three (w : World) (B n1 c1 n3 c3 : Nat) (A1 A3 : Option Addr) (xs1 xs3 : List Int) (v : Int) (h1 : n1 = xs1.length) (h3 : n3 = xs3.length) (r1 : Rh w B A1 xs1) (r3 : Rh w B A3 xs3) (hB : B ≤ w.heap.size) (f1 : n1 ≤ 1000000) (f3 : n3 ≤ 1000000) :
    Calls Tryz.prog 72 #[.slice (some ⟨w.heap.size + 1, 0, none⟩) 3 3] ((w.alloc (.cells #[.int .u16 v] 50)).alloc (.cells #[.slice A1 n1 c1, .slice (some ⟨w.heap.size, 0, none⟩) 1 1, .slice A3 n3 c3] 84)).drew
      fun e w' => ∃ v', e = .returned v' ∧ w'.ownsRow w.heap.size 50 1 v' (xs1 ++ ([v] ++ xs3)).length (hv (xs1 ++ ([v] ++ xs3))) ∧ Below w.heap.size w w' := by
  subst h1 h3
  have b1 := (Below.refl w.heap.size w).alloc (Nat.le_refl _) (.cells #[.int .u16 v] 50)
  have z1 : (w.alloc (.cells #[.int .u16 v] 50)).heap.size = w.heap.size + 1 := by simp
  have R2 : Rh (w.alloc (.cells #[.int .u16 v] 50)) (w.heap.size + 1) (some ⟨w.heap.size, 0, none⟩) [v] := rh_new w [v]
  have R1 := (r1.below b1 hB).more (show B ≤ w.heap.size + 1 by omega)
  have R3 := (r3.below b1 hB).more (show B ≤ w.heap.size + 1 by omega)
  clear r1 r3
  generalize w.alloc (.cells #[.int .u16 v] 50) = W at *
  have b2 := (Below.refl W.heap.size W).alloc (Nat.le_refl _) (.cells #[.slice A1 xs1.length c1, .slice (some ⟨w.heap.size, 0, none⟩) 1 1, .slice A3 xs3.length c3] 84)
  have HP : Parts (W.alloc (.cells #[.slice A1 xs1.length c1, .slice (some ⟨w.heap.size, 0, none⟩) 1 1, .slice A3 xs3.length c3] 84)) (w.heap.size + 1) (w.heap.size + 1) 0 [(A1, c1, xs1), (some ⟨w.heap.size, 0, none⟩, 1, [v]), (A3, c3, xs3)] := by
    intro k hk
    rw [← z1]
    rw [← z1] at R1 R2 R3
    match k, hk with
    | 0, _ => exact ⟨by rw [Nat.zero_add, World.cell?_alloc_new]; rfl, R1.below b2 (Nat.le_refl _)⟩
    | 1, _ => exact ⟨by rw [Nat.zero_add, World.cell?_alloc_new]; rfl, R2.below b2 (Nat.le_refl _)⟩
    | 2, _ => exact ⟨by rw [Nat.zero_add, World.cell?_alloc_new]; rfl, R3.below b2 (Nat.le_refl _)⟩
  have hcat : cat [(A1, c1, xs1), (some ⟨w.heap.size, 0, none⟩, 1, [v]), (A3, c3, xs3)] = xs1 ++ ([v] ++ xs3) := by simp [cat]
  have hl : (xs1 ++ ([v] ++ xs3)).length ≤ 1099511627776 := by simp; omega
  have c1 := concat_any (W.alloc (.cells #[.slice A1 xs1.length c1, .slice (some ⟨w.heap.size, 0, none⟩) 1 1, .slice A3 xs3.length c3] 84)).drew (w.heap.size + 1) (w.heap.size + 1) 0 3 [(A1, c1, xs1), (some ⟨w.heap.size, 0, none⟩, 1, [v]), (A3, c3, xs3)] HP (by simp [World.drew]; omega) (by simp [World.drew]; omega) (by rw [hcat]; exact hl) (by simp)
  rw [hcat] at c1
  refine c1.mono ?_
  rintro e w2 ⟨v', rfl, g1, g2⟩
  exact ⟨v', rfl, own_low g1 (by simp [World.drew]; omega), b1.trans ((b2.mono (by omega)).trans (Below.mono (show Below _ _ _ from ⟨g2.os, g2.tape, g2.output, g2.size, g2.block⟩) (by simp [World.drew]; omega)))⟩
def AddP (w : World) (n : Nat) (xs : List Int) (v : Int) (e : Ending) (w' : World) : Prop := ∃ (val : Value) (zs : List Int), e = .returned (.tuple #[val, .bool (!decide (v ∈ xs))]) ∧ zs.Pairwise (· < ·) ∧ (∀ x, x ∈ zs ↔ x ∈ xs ∨ x = v) ∧ zs.length ≤ n + 1 ∧ w'.ownsRow w.heap.size 50 1 val zs.length (hv zs) ∧ Below w.heap.size w w'
set_option maxHeartbeats 8000000 in
set_option maxRecDepth 100000 in
theorem a_add (w : World) (B n c : Nat) (A : Option Addr) (xs : List Int) (v : Int) (hn : n = xs.length) (hr : Rh w B A xs) (hs : xs.Pairwise (· < ·)) (hB : B ≤ w.heap.size) (hc : n ≤ c) (few : n ≤ 1000000) :
    Calls Tryz.prog 51 #[.slice A n c, .int .u16 v] w (AddP w n xs v) := by
  have HS := Lib.hid (a_search w B n c A xs v hn hr hs few)
  by_cases hv : v ∈ xs
  · have hd : decide (v ∈ xs) = true := decide_eq_true hv
    rw [hd] at HS
    have HC := Lib.hid (copy_any w B n c A xs hn hr hB few)
    have HV := Lib.hid hv
    have HSS := Lib.hid hs
    have HN := Lib.hid hn
    unfold AddP
    rw [hd]
    generalize M.rRank xs v = r at *
    clear hn hr hs hB hv hd
    go_enter Tryz.func51, Tryz.ntmps51
    go_wp2_with (first
      | (go_at_call 71; (with_reducible refine HS.out.mono ?_); rintro e w' ⟨rfl, rfl⟩)
      | (go_at_call 72; (with_reducible refine HC.out.mono ?_); rintro e w2 ⟨val, rfl, h1, h2⟩; replace h1 := Lib.hid h1; replace h2 := Lib.hid h2))
    go_ret2
    exact ⟨val, xs, rfl, HSS.out, fun x => ⟨.inl, fun h => h.elim id (fun e => e ▸ HV.out)⟩, by have := HN.out; omega, h1.out, h2.out⟩
  · have hd : decide (v ∈ xs) = false := decide_eq_false hv
    rw [hd] at HS
    have HH := rank_half hs v
    have hrl := rank_le xs v
    unfold AddP
    rw [hd]
    generalize M.rRank xs v = r at *
    have SRT := Lib.hid (sort_add hs HH hv)
    have MEM := Lib.hid (mem_add (xs := xs) (v := v) (r := r))
    have R1 := Lib.hid (rh_take (l := r) hr)
    have R3 := Lib.hid (cutA_rh (l := r) (h := n) hr hn (by omega) (Nat.le_refl _) hc)
    obtain ⟨g1, g2⟩ := cut_h A n c r (r : Int) rfl (by omega) hc
    obtain ⟨g3, g4⟩ := cut_l A n c r (r : Int) rfl (by omega)
    have hrc : (r : Int) ≤ (c : Int) := by omega
    have hrn : (r : Int) ≤ (n : Int) := by omega
    have HN := Lib.hid hn
    have HB := Lib.hid hB
    clear hn hs hrl hr hv hd HH hB
    go_enter Tryz.func51, Tryz.ntmps51
    go_wp2_with (go_at_call 71; (with_reducible refine HS.out.mono ?_); rintro e w' ⟨rfl, rfl⟩)
    have HC := Lib.hid (cat_three w B r c (n - r) (c - r) A (cutA A r c) (xs.take r) (xs.drop r) v (by rw [List.length_take]; have := HN.out; omega) (by rw [List.length_drop, HN.out]) R1.out (by have h := R3.out; rw [HN.out, List.take_length] at h; exact h) HB.out (by omega) (by omega))
    have HLL : Hid ((xs.take r ++ ([v] ++ xs.drop r)).length ≤ n + 1) := by
      show _ ≤ _
      rw [List.length_append, List.length_append, List.length_take, List.length_drop]
      have := HN.out
      simp
      omega
    clear R1 R3 HN HB
    generalize xs.take r ++ ([v] ++ xs.drop r) = ys at *
    go_region_held3 (fun _ => True) (trivial) (first
      | (go_at_call 72; (with_reducible refine HC.out.mono ?_); rintro e w2 ⟨val, rfl, h1, h2⟩; replace h1 := Lib.hid h1; replace h2 := Lib.hid h2))
    all_goals
      go_wp2
      go_ret2
      exact ⟨val, ys, rfl, SRT.out, MEM.out, HLL.out, h1.out, h2.out⟩
theorem cat_two (w : World) (B n1 c1 n3 c3 : Nat) (A1 A3 : Option Addr) (xs1 xs3 : List Int) (h1 : n1 = xs1.length) (h3 : n3 = xs3.length) (R1 : Rh w B A1 xs1) (R3 : Rh w B A3 xs3) (hB : B ≤ w.heap.size) (f1 : n1 ≤ 1000000) (f3 : n3 ≤ 1000000) :
    Calls Tryz.prog 72 #[.slice (some ⟨w.heap.size, 0, none⟩) 2 2] (w.alloc (.cells #[.slice A1 n1 c1, .slice A3 n3 c3] 84)).drew
      fun e w' => ∃ v', e = .returned v' ∧ w'.ownsRow w.heap.size 50 1 v' (xs1 ++ xs3).length (hv (xs1 ++ xs3)) ∧ Below w.heap.size w w' := by
  subst h1 h3
  have b2 := (Below.refl w.heap.size w).alloc (Nat.le_refl _) (.cells #[.slice A1 xs1.length c1, .slice A3 xs3.length c3] 84)
  have HP : Parts (w.alloc (.cells #[.slice A1 xs1.length c1, .slice A3 xs3.length c3] 84)) B w.heap.size 0 [(A1, c1, xs1), (A3, c3, xs3)] := by
    intro k hk
    match k, hk with
    | 0, _ => exact ⟨by rw [Nat.zero_add, World.cell?_alloc_new]; rfl, R1.below b2 hB⟩
    | 1, _ => exact ⟨by rw [Nat.zero_add, World.cell?_alloc_new]; rfl, R3.below b2 hB⟩
  have hcat : cat [(A1, c1, xs1), (A3, c3, xs3)] = xs1 ++ xs3 := by simp [cat]
  have hl : (xs1 ++ xs3).length ≤ 1099511627776 := by simp; omega
  have c1 := concat_any (w.alloc (.cells #[.slice A1 xs1.length c1, .slice A3 xs3.length c3] 84)).drew B w.heap.size 0 2 [(A1, c1, xs1), (A3, c3, xs3)] HP (by simp [World.drew]; omega) (by simp [World.drew]) (by rw [hcat]; exact hl) (by simp)
  rw [hcat] at c1
  refine c1.mono ?_
  rintro e w2 ⟨v', rfl, g1, g2⟩
  exact ⟨v', rfl, own_low g1 (by simp [World.drew]), b2.trans (Below.mono (show Below _ _ _ from ⟨g2.os, g2.tape, g2.output, g2.size, g2.block⟩) (by simp [World.drew]))⟩
def DropP (w : World) (n : Nat) (xs : List Int) (v : Int) (e : Ending) (w' : World) : Prop := ∃ (val : Value) (zs : List Int), e = .returned (.tuple #[val, .bool (decide (v ∈ xs))]) ∧ zs.Pairwise (· < ·) ∧ (∀ x, x ∈ zs ↔ x ∈ xs ∧ x ≠ v) ∧ zs.length ≤ n ∧ w'.ownsRow w.heap.size 50 1 val zs.length (hv zs) ∧ Below w.heap.size w w'
set_option maxHeartbeats 8000000 in
set_option maxRecDepth 100000 in
theorem a_drop (w : World) (B n c : Nat) (A : Option Addr) (xs : List Int) (v : Int) (hn : n = xs.length) (hr : Rh w B A xs) (hs : xs.Pairwise (· < ·)) (hB : B ≤ w.heap.size) (hc : n ≤ c) (few : n ≤ 1000000) :
    Calls Tryz.prog 54 #[.slice A n c, .int .u16 v] w (DropP w n xs v) := by
  have HS := Lib.hid (a_search w B n c A xs v hn hr hs few)
  by_cases hv : v ∈ xs
  · have hd : decide (v ∈ xs) = true := decide_eq_true hv
    rw [hd] at HS
    have HH := rank_half hs v
    obtain ⟨hrl, hre⟩ := (mem_at HH.1 HH.2 hs).1 hv
    unfold DropP
    rw [hd]
    generalize M.rRank xs v = r at *
    have SRT := Lib.hid (sort_drop (r := r) hs)
    have MEM := Lib.hid (mem_drop hs hrl hre)
    have R1 := Lib.hid (rh_take (l := r) hr)
    have R3 := Lib.hid (cutA_rh (l := r + 1) (h := n) hr hn (by omega) (Nat.le_refl _) hc)
    obtain ⟨g1, g2⟩ := cut_h A n c r (r : Int) rfl (by omega) hc
    obtain ⟨g3, g4⟩ := cut_l A n c (r + 1) ((r : Int) + 1) (by omega) (by omega)
    have hrc : (r : Int) ≤ (c : Int) := by omega
    have hrn : (r : Int) + 1 ≤ (n : Int) := by omega
    have wr1 : IntKind.i64.wrap ((r : Int) + 1) = (r : Int) + 1 := IntWalk.i64_in _ (by omega)
    have HN := Lib.hid hn
    have HB := Lib.hid hB
    have HRL := Lib.hid hrl
    clear hn hs hrl hre hr hv hd HH hB
    go_enter Tryz.func54, Tryz.ntmps54
    go_wp2_with (go_at_call 71; (with_reducible refine HS.out.mono ?_); rintro e w' ⟨rfl, rfl⟩)
    have HC := Lib.hid (cat_two w B r c (n - (r + 1)) (c - (r + 1)) A (cutA A (r + 1) c) (xs.take r) (xs.drop (r + 1)) (by rw [List.length_take]; have := HRL.out; omega) (by rw [List.length_drop, HN.out]) R1.out (by have h := R3.out; rw [HN.out, List.take_length] at h; exact h) HB.out (by omega) (by omega))
    have HLL : Hid ((xs.take r ++ xs.drop (r + 1)).length ≤ n) := by
      show _ ≤ _
      rw [List.length_append, List.length_take, List.length_drop]
      have := HN.out
      omega
    clear R1 R3 HN HB HRL
    generalize xs.take r ++ xs.drop (r + 1) = ys at *
    go_region_held3 (fun _ => True) (trivial) (first
      | (go_at_call 72; (with_reducible refine HC.out.mono ?_); rintro e w2 ⟨val, rfl, h1, h2⟩; replace h1 := Lib.hid h1; replace h2 := Lib.hid h2))
    all_goals
      go_wp2
      go_ret2
      exact ⟨val, ys, rfl, SRT.out, MEM.out, HLL.out, h1.out, h2.out⟩
  · have hd : decide (v ∈ xs) = false := decide_eq_false hv
    rw [hd] at HS
    have HC := Lib.hid (copy_any w B n c A xs hn hr hB few)
    have HV := Lib.hid hv
    have HSS := Lib.hid hs
    have HN := Lib.hid hn
    unfold DropP
    rw [hd]
    generalize M.rRank xs v = r at *
    clear hn hr hs hB hv hd
    go_enter Tryz.func54, Tryz.ntmps54
    go_wp2_with (first
      | (go_at_call 71; (with_reducible refine HS.out.mono ?_); rintro e w' ⟨rfl, rfl⟩)
      | (go_at_call 72; (with_reducible refine HC.out.mono ?_); rintro e w2 ⟨val, rfl, h1, h2⟩; replace h1 := Lib.hid h1; replace h2 := Lib.hid h2))
    go_ret2
    exact ⟨val, xs, rfl, HSS.out, fun x => ⟨fun h => ⟨h, fun e => HV.out (e ▸ h)⟩, fun h => h.1⟩, by have := HN.out; omega, h1.out, h2.out⟩
end Go.Proofs.YtlinoambdlkfjaaGreat.A
