/- Add, Drop, Part; the text walked. array.Is, and the awake test of the laws; the text walked. A bucket's functions (Has, Add, Drop, Next, Prev, Split, Merge, Of, Is), told by the document's lists of keys; the texts walked. A bucket's Merge, Of and Is, told by the document's lists of keys; the texts walked. A bucket's halves; the text walked. -/
import Derived.Test.YtialjokdaniofaaGreatMp25
import Derived.Test.YtialjokdaniofaaGreatMp02
section
namespace Go.Proofs.YtialjokdaniofaaGreat.Kb
set_option maxRecDepth 20000
open Go.RowKit Go.Shelf
theorem rh_lit (w : World) (xs : List Int) (hne : ∀ k (h : k < xs.length), (w.alloc (.cells (hv xs).toArray 22)).cell? ⟨w.heap.size, 0 + k, none⟩ = some (.int .u64 xs[k])) : Rh (w.alloc (.cells (hv xs).toArray 22)) (w.heap.size + 1) (some ⟨w.heap.size, 0, none⟩) xs :=
  fun _ => ⟨w.heap.size, 0, rfl, by omega, hne⟩
theorem lit_cell (w : World) (xs : List Int) (k : Nat) (h : k < xs.length) : (w.alloc (.cells (hv xs).toArray 22)).cell? ⟨w.heap.size, 0 + k, none⟩ = some (.int .u64 xs[k]) := by
  rw [Nat.zero_add, World.cell?_alloc_new]
  simp [hv, h]
theorem rh_new (w : World) (xs : List Int) : Rh (w.alloc (.cells (hv xs).toArray 22)) (w.heap.size + 1) (some ⟨w.heap.size, 0, none⟩) xs := rh_lit w xs (lit_cell w xs)
theorem own_reads {w : World} {base : Nat} {v : Value} {xs : List Int} (h : w.ownsRow base 22 1 v xs.length (hv xs)) : ∃ A c, v = .slice A xs.length c ∧ Rh w w.heap.size A xs ∧ xs.length ≤ c := by
  have hc := own_cap h
  obtain ⟨A, c, rfl, hr, _⟩ := Rh.of_own h
  exact ⟨A, c, rfl, hr, hc A c rfl⟩
theorem copy_any (w : World) (B n c : Nat) (A : Option Addr) (xs : List Int) (hn : n = xs.length) (hr : Rh w B A xs) (hB : B ≤ w.heap.size) (few : n ≤ 1000000) :
    Calls Tryz.prog 86 #[.slice (some ⟨w.heap.size, 0, none⟩) 1 1] (w.alloc (.cells #[.slice A n c] 47)) fun e w' => ∃ v, e = .returned v ∧ w'.ownsRow w.heap.size 22 1 v xs.length (hv xs) ∧ Below w.heap.size w w' := by
  have HP := Lib.hid (rh_cell (c := c) hr hn hB)
  have hcat : cat [(A, c, xs)] = xs := by simp [cat]
  have hB1 : B ≤ (w.alloc (.cells #[.slice A n c] 47)).heap.size := by simp; omega
  have hb0 := (Below.refl w.heap.size w).alloc (Nat.le_refl _) (.cells #[.slice A n c] 47)
  have c1 := concat_any (w.alloc (.cells #[.slice A n c] 47)) B w.heap.size 0 1 [(A, c, xs)] HP.out hB1 (by simp) (by rw [hcat, ← hn]; omega) (by simp)
  rw [hcat] at c1
  have c2 : Calls Tryz.prog 86 #[.slice (some ⟨w.heap.size, 0, none⟩) 1 1] (w.alloc (.cells #[.slice A n c] 47)) _ := c1
  refine c2.mono ?_
  rintro e w2 ⟨v, rfl, h1, h2⟩
  exact ⟨v, rfl, own_low h1 (by simp), hb0.trans (h2.mono (by simp))⟩
theorem cat_three (w : World) (B n1 c1 n3 c3 : Nat) (A1 A3 : Option Addr) (xs1 xs3 : List Int) (v : Int) (h1 : n1 = xs1.length) (h3 : n3 = xs3.length) (r1 : Rh w B A1 xs1) (r3 : Rh w B A3 xs3) (hB : B ≤ w.heap.size) (f1 : n1 ≤ 1000000) (f3 : n3 ≤ 1000000) :
    Calls Tryz.prog 86 #[.slice (some ⟨w.heap.size + 1, 0, none⟩) 3 3] ((w.alloc (.cells #[.int .u64 v] 22)).alloc (.cells #[.slice A1 n1 c1, .slice (some ⟨w.heap.size, 0, none⟩) 1 1, .slice A3 n3 c3] 47)).drew
      fun e w' => ∃ v', e = .returned v' ∧ w'.ownsRow w.heap.size 22 1 v' (xs1 ++ ([v] ++ xs3)).length (hv (xs1 ++ ([v] ++ xs3))) ∧ Below w.heap.size w w' := by
  subst h1 h3
  have b1 := (Below.refl w.heap.size w).alloc (Nat.le_refl _) (.cells #[.int .u64 v] 22)
  have z1 : (w.alloc (.cells #[.int .u64 v] 22)).heap.size = w.heap.size + 1 := by simp
  have R2 : Rh (w.alloc (.cells #[.int .u64 v] 22)) (w.heap.size + 1) (some ⟨w.heap.size, 0, none⟩) [v] := rh_new w [v]
  have R1 := (r1.below b1 hB).more (show B ≤ w.heap.size + 1 by omega)
  have R3 := (r3.below b1 hB).more (show B ≤ w.heap.size + 1 by omega)
  clear r1 r3
  generalize w.alloc (.cells #[.int .u64 v] 22) = W at *
  have b2 := (Below.refl W.heap.size W).alloc (Nat.le_refl _) (.cells #[.slice A1 xs1.length c1, .slice (some ⟨w.heap.size, 0, none⟩) 1 1, .slice A3 xs3.length c3] 47)
  have HP : Parts (W.alloc (.cells #[.slice A1 xs1.length c1, .slice (some ⟨w.heap.size, 0, none⟩) 1 1, .slice A3 xs3.length c3] 47)) (w.heap.size + 1) (w.heap.size + 1) 0 [(A1, c1, xs1), (some ⟨w.heap.size, 0, none⟩, 1, [v]), (A3, c3, xs3)] := by
    intro k hk
    rw [← z1]
    rw [← z1] at R1 R2 R3
    match k, hk with
    | 0, _ => exact ⟨by rw [Nat.zero_add, World.cell?_alloc_new]; rfl, R1.below b2 (Nat.le_refl _)⟩
    | 1, _ => exact ⟨by rw [Nat.zero_add, World.cell?_alloc_new]; rfl, R2.below b2 (Nat.le_refl _)⟩
    | 2, _ => exact ⟨by rw [Nat.zero_add, World.cell?_alloc_new]; rfl, R3.below b2 (Nat.le_refl _)⟩
  have hcat : cat [(A1, c1, xs1), (some ⟨w.heap.size, 0, none⟩, 1, [v]), (A3, c3, xs3)] = xs1 ++ ([v] ++ xs3) := by simp [cat]
  have hl : (xs1 ++ ([v] ++ xs3)).length ≤ 1099511627776 := by simp; omega
  have c1 := concat_any (W.alloc (.cells #[.slice A1 xs1.length c1, .slice (some ⟨w.heap.size, 0, none⟩) 1 1, .slice A3 xs3.length c3] 47)).drew (w.heap.size + 1) (w.heap.size + 1) 0 3 [(A1, c1, xs1), (some ⟨w.heap.size, 0, none⟩, 1, [v]), (A3, c3, xs3)] HP (by simp [World.drew]; omega) (by simp [World.drew]; omega) (by rw [hcat]; exact hl) (by simp)
  rw [hcat] at c1
  refine c1.mono ?_
  rintro e w2 ⟨v', rfl, g1, g2⟩
  exact ⟨v', rfl, own_low g1 (by simp [World.drew]; omega), b1.trans ((b2.mono (by omega)).trans (Below.mono (show Below _ _ _ from ⟨g2.os, g2.tape, g2.output, g2.size, g2.block⟩) (by simp [World.drew]; omega)))⟩
def AddP (w : World) (n : Nat) (xs : List Int) (v : Int) (e : Ending) (w' : World) : Prop := ∃ (val : Value) (zs : List Int), e = .returned (.tuple #[val, .bool (!decide (v ∈ xs))]) ∧ zs.Pairwise (· < ·) ∧ (∀ x, x ∈ zs ↔ x ∈ xs ∨ x = v) ∧ zs.length ≤ n + 1 ∧ w'.ownsRow w.heap.size 22 1 val zs.length (hv zs) ∧ Below w.heap.size w w'
set_option maxHeartbeats 8000000 in
set_option maxRecDepth 100000 in
theorem a_add (w : World) (B n c : Nat) (A : Option Addr) (xs : List Int) (v : Int) (hn : n = xs.length) (hr : Rh w B A xs) (hs : xs.Pairwise (· < ·)) (hB : B ≤ w.heap.size) (hc : n ≤ c) (few : n ≤ 1000000) :
    Calls Tryz.prog 48 #[.slice A n c, .int .u64 v] w (AddP w n xs v) := by
  have HS := Lib.hid (a_search w B n c A xs v hn hr hs few)
  by_cases hv : v ∈ xs
  · have hd : decide (v ∈ xs) = true := decide_eq_true hv
    rw [hd] at HS
    have HC := Lib.hid (copy_any w B n c A xs hn hr hB few)
    have HV := Lib.hid hv
    have HSS := Lib.hid hs
    have HN := Lib.hid hn
    unfold AddP
    rw [hd]
    generalize M.rRank xs v = r at *
    clear hn hr hs hB hv hd
    go_enter Tryz.func48, Tryz.ntmps48
    go_wp2_with (first
      | (go_at_call 85; (with_reducible refine HS.out.mono ?_); rintro e w' ⟨rfl, rfl⟩)
      | (go_at_call 86; (with_reducible refine HC.out.mono ?_); rintro e w2 ⟨val, rfl, h1, h2⟩; replace h1 := Lib.hid h1; replace h2 := Lib.hid h2))
    go_ret2
    exact ⟨val, xs, rfl, HSS.out, fun x => ⟨.inl, fun h => h.elim id (fun e => e ▸ HV.out)⟩, by have := HN.out; omega, h1.out, h2.out⟩
  · have hd : decide (v ∈ xs) = false := decide_eq_false hv
    rw [hd] at HS
    have HH := rank_half hs v
    have hrl := rank_le xs v
    unfold AddP
    rw [hd]
    generalize M.rRank xs v = r at *
    have SRT := Lib.hid (sort_add hs HH hv)
    have MEM := Lib.hid (mem_add (xs := xs) (v := v) (r := r))
    have R1 := Lib.hid (rh_take (l := r) hr)
    have R3 := Lib.hid (cutA_rh (l := r) (h := n) hr hn (by omega) (Nat.le_refl _) hc)
    obtain ⟨g1, g2⟩ := cut_h A n c r (r : Int) rfl (by omega) hc
    obtain ⟨g3, g4⟩ := cut_l A n c r (r : Int) rfl (by omega)
    have hrc : (r : Int) ≤ (c : Int) := by omega
    have hrn : (r : Int) ≤ (n : Int) := by omega
    have HN := Lib.hid hn
    have HB := Lib.hid hB
    clear hn hs hrl hr hv hd HH hB
    go_enter Tryz.func48, Tryz.ntmps48
    go_wp2_with (go_at_call 85; (with_reducible refine HS.out.mono ?_); rintro e w' ⟨rfl, rfl⟩)
    have HC := Lib.hid (cat_three w B r c (n - r) (c - r) A (cutA A r c) (xs.take r) (xs.drop r) v (by rw [List.length_take]; have := HN.out; omega) (by rw [List.length_drop, HN.out]) R1.out (by have h := R3.out; rw [HN.out, List.take_length] at h; exact h) HB.out (by omega) (by omega))
    have HLL : Hid ((xs.take r ++ ([v] ++ xs.drop r)).length ≤ n + 1) := by
      show _ ≤ _
      rw [List.length_append, List.length_append, List.length_take, List.length_drop]
      have := HN.out
      simp
      omega
    clear R1 R3 HN HB
    generalize xs.take r ++ ([v] ++ xs.drop r) = ys at *
    go_region_held3 (fun _ => True) (trivial) (first
      | (go_at_call 86; (with_reducible refine HC.out.mono ?_); rintro e w2 ⟨val, rfl, h1, h2⟩; replace h1 := Lib.hid h1; replace h2 := Lib.hid h2))
    all_goals
      go_wp2
      go_ret2
      exact ⟨val, ys, rfl, SRT.out, MEM.out, HLL.out, h1.out, h2.out⟩
def DropP (w : World) (n : Nat) (xs : List Int) (v : Int) (e : Ending) (w' : World) : Prop := ∃ (val : Value) (zs : List Int), e = .returned (.tuple #[val, .bool (decide (v ∈ xs))]) ∧ zs.Pairwise (· < ·) ∧ (∀ x, x ∈ zs ↔ x ∈ xs ∧ x ≠ v) ∧ zs.length ≤ n ∧ w'.ownsRow w.heap.size 22 1 val zs.length (hv zs) ∧ Below w.heap.size w w'
end Go.Proofs.YtialjokdaniofaaGreat.Kb
end
section
namespace Go.Proofs.YtialjokdaniofaaGreat.Kb
set_option maxRecDepth 20000
open Go.RowKit
end Go.Proofs.YtialjokdaniofaaGreat.Kb
end
section
namespace Go.Proofs.YtialjokdaniofaaGreat.Kb
set_option maxRecDepth 20000
open Go.RowKit Go.Shelf
abbrev iz (xs : List Nat) : List Int := xs.map fun x : Nat => (x : Int)
instance upDec (xs : List Nat) : Decidable (K.Up xs) := inferInstanceAs (Decidable (xs.Pairwise (· < ·)))
theorem iz_len (xs : List Nat) : (iz xs).length = xs.length := by simp
theorem hv_iz (xs : List Nat) : hv (iz xs) = wv xs := by simp [hv, wv]
theorem iz_up {xs : List Nat} (h : K.Up xs) : (iz xs).Pairwise (· < ·) := by
  unfold K.Up at h
  rw [List.pairwise_map]
  exact h.imp fun hab => by omega
theorem iz_mem {xs : List Nat} {x : Int} : x ∈ iz xs ↔ ∃ k : Nat, k ∈ xs ∧ (k : Int) = x := by simp [iz]
theorem iz_mem' {xs : List Nat} {k : Nat} : (k : Int) ∈ iz xs ↔ k ∈ xs := by
  rw [iz_mem]
  exact ⟨fun ⟨j, hj, e⟩ => (by omega : j = k) ▸ hj, fun h => ⟨k, h, rfl⟩⟩
theorem iz_back {zs : List Int} {ys : List Nat} (hz : zs.Pairwise (· < ·)) (hy : K.Up ys) (h : ∀ x, x ∈ zs ↔ x ∈ iz ys) : zs = iz ys := M.sorted_ext hz (iz_up hy) h
theorem rank_fi {xs : List Nat} (h : K.Up xs) (k : Nat) : M.rRank (iz xs) (k : Int) = K.fi xs k := by
  refine rank_at (by rw [iz_len]; exact K.fi_le xs k) (fun j hj hlt => ?_) (fun j hj hle => ?_)
  · obtain ⟨h1, h2⟩ := K.fi_lt hlt
    simp only [List.getElem_map]
    omega
  · have hj' : j < xs.length := by simpa using hj
    have h1 := K.fi_at (xs := xs) (k := k) (by omega)
    simp only [List.getElem_map]
    rcases Nat.lt_or_eq_of_le hle with e | e
    · have := K.up_lt h e hj'; omega
    · simp only [e] at h1; omega
theorem mem_fo {xs : List Nat} (h : K.Up xs) (k : Nat) : decide ((k : Int) ∈ iz xs) = K.fo xs k := by
  rw [Bool.eq_iff_iff, decide_eq_true_iff, iz_mem', K.fo_mem h]
theorem kx_rh {w : World} {v : Value} {xs : List Nat} (h : KX w v xs) : ∃ A c, v = .slice A xs.length c ∧ Rh w w.heap.size A (iz xs) ∧ xs.length ≤ c := by
  have h2 : w.ownsRow 0 22 1 v (iz xs).length (hv (iz xs)) := by rw [hv_iz, iz_len]; exact h
  obtain ⟨A, c, h3, h4, h5⟩ := own_reads h2
  rw [iz_len] at h3 h5
  exact ⟨A, c, h3, h4, h5⟩
/-- A new row with these keys. -/
def KN (w w' : World) (v : Value) (xs : List Nat) : Prop := w'.ownsRow w.heap.size 22 1 v xs.length (wv xs)
theorem KN.kx {w w' : World} {v : Value} {xs : List Nat} (h : KN w w' v xs) : KX w' v xs := own_low h (Nat.zero_le _)
theorem KN.new {w w' : World} {v : Value} {xs : List Nat} (h : KN w w' v xs) {g : Nat} (hg : v.ownBlock = some g) : w.heap.size ≤ g ∧ g < w'.heap.size := h.lt g hg
theorem KN.of {w w' : World} {v : Value} {zs : List Int} {xs : List Nat} (h : w'.ownsRow w.heap.size 22 1 v zs.length (hv zs)) (e : zs = iz xs) : KN w w' v xs := by
  subst e
  rw [hv_iz, iz_len] at h
  exact h
section
variable (w : World) (v : Value) (xs : List Nat) (h : KX w v xs) (hu : K.Up xs) (few : xs.length ≤ 1000000) (k : Nat)
include h hu few
theorem b_search : Calls Tryz.prog 85 #[v, .int .u64 (k : Int)] w fun e w' => e = .returned (.tuple #[.int .i64 (K.fi xs k : Nat), .bool (K.fo xs k)]) ∧ w = w' := by
  obtain ⟨A, c, rfl, hr, hc⟩ := kx_rh h
  have H := a_search w w.heap.size xs.length c A (iz xs) (k : Int) (iz_len xs).symm hr (iz_up hu) few
  rw [rank_fi hu, mem_fo hu] at H
  exact H
theorem b_add : Calls Tryz.prog 48 #[v, .int .u64 (k : Int)] w fun e w' => ∃ v', e = .returned (.tuple #[v', .bool (!K.fo xs k)]) ∧ KN w w' v' (K.add xs k) ∧ Below w.heap.size w w' := by
  obtain ⟨A, c, rfl, hr, hc⟩ := kx_rh h
  refine (a_add w w.heap.size xs.length c A (iz xs) (k : Int) (iz_len xs).symm hr (iz_up hu) (Nat.le_refl _) hc few).mono ?_
  rintro e w' ⟨val, zs, rfl, h1, h2, h3, h4, h5⟩
  rw [mem_fo hu]
  refine ⟨val, rfl, KN.of h4 (iz_back h1 (K.add_up hu k) fun x => ?_), h5⟩
  rw [h2 x, iz_mem, iz_mem]
  constructor
  · rintro (⟨j, hj, rfl⟩ | rfl)
    · exact ⟨j, (K.add_mem hu k j).2 (.inr hj), rfl⟩
    · exact ⟨k, (K.add_mem hu k k).2 (.inl rfl), rfl⟩
  · rintro ⟨j, hj, rfl⟩
    rcases (K.add_mem hu k j).1 hj with rfl | hj
    · exact .inr rfl
    · exact .inl ⟨j, hj, rfl⟩
end
set_option maxHeartbeats 2000000 in
theorem b_at_no (w : World) (v : Value) (xs : List Nat) (h : KX w v xs) (i : Int) (hi : i < 0 ∨ (xs.length : Int) ≤ i) :
    Calls Tryz.prog 104 #[v, .int .i64 i] w fun e w' => e = .returned (.tuple #[.int .u64 0, .bool false]) ∧ w = w' := by
  obtain ⟨A, c, rfl, hr, hc⟩ := kx_rh h
  clear h hr
  rcases Int.lt_or_le i 0 with h0 | h0
  · have hd : decide (i < 0) = true := decide_eq_true h0
    go_enter Tryz.func104, Tryz.ntmps104
    go_wp2
    go_ret2
    exact ⟨rfl, rfl⟩
  · obtain ⟨j, rfl⟩ : ∃ j : Nat, i = (j : Int) := ⟨i.toNat, by omega⟩
    have hd : decide ((j : Int) < 0) = false := decide_eq_false (by omega)
    have hd2 : decide ((xs.length : Int) ≤ (j : Int)) = true := decide_eq_true (by omega)
    have hd3 : decide (xs.length ≤ j) = true := decide_eq_true (by omega)
    go_enter Tryz.func104, Tryz.ntmps104
    go_wp2
    go_ret2
    exact ⟨rfl, rfl⟩
set_option maxHeartbeats 2000000 in
theorem b_at_yes (w : World) (v : Value) (xs : List Nat) (h : KX w v xs) (j : Nat) (hj : j < xs.length) :
    Calls Tryz.prog 104 #[v, .int .i64 (j : Int)] w fun e w' => e = .returned (.tuple #[.int .u64 (xs[j] : Nat), .bool true]) ∧ w = w' := by
  rcases h.form with ⟨rfl, rfl⟩ | ⟨g, c, rfl, hc, hg, hcells⟩
  · simp at hj
  · have c0 := hcells j hj
    generalize xs[j] = a at *
    clear hcells h
    generalize xs.length = n at *
    have hd : decide ((j : Int) < 0) = false := decide_eq_false (by omega)
    have hd2 : decide ((n : Int) ≤ (j : Int)) = false := decide_eq_false (by omega)
    have hd3 : decide (n ≤ j) = false := decide_eq_false (by omega)
    go_enter Tryz.func104, Tryz.ntmps104
    go_wp2
    go_ret2
    exact ⟨rfl, rfl⟩
section
variable (w : World) (v : Value) (xs : List Nat) (h : KX w v xs) (hu : K.Up xs) (few : xs.length ≤ 1000000) (k : Nat)
include h hu few
set_option maxHeartbeats 2000000 in
theorem b_next : Calls Tryz.prog 59 #[v, .int .u64 (k : Int)] w fun e w' => e = .returned (.tuple #[.int .u64 (K.nx xs k : Nat), .bool (K.nxb xs k)]) ∧ w = w' := by
  have H := Lib.hid (b_search w v xs h hu few k)
  have H2 : Hid (Calls Tryz.prog 104 #[v, .int .i64 (K.fi xs k : Nat)] w fun e w' => e = .returned (.tuple #[.int .u64 (K.nx xs k : Nat), .bool (K.nxb xs k)]) ∧ w = w') := Lib.hid (by
    unfold K.nx K.nxb
    by_cases hF : K.fi xs k < xs.length
    · rw [decide_eq_true hF, List.getElem?_eq_getElem hF]
      exact b_at_yes w v xs h _ hF
    · rw [decide_eq_false hF, List.getElem?_eq_none (by omega)]
      exact b_at_no w v xs h _ (.inr (by omega)))
  clear h hu few
  generalize K.fi xs k = F at *
  go_enter Tryz.func59, Tryz.ntmps59
  go_wp2_with (first
    | (go_at_call 85; (with_reducible refine H.out.mono ?_); rintro e w' ⟨rfl, rfl⟩)
    | (go_at_call 104; (with_reducible refine H2.out.mono ?_); rintro e w' ⟨rfl, rfl⟩))
  go_ret2
  exact ⟨rfl, rfl⟩
set_option maxHeartbeats 2000000 in
theorem b_prev : Calls Tryz.prog 61 #[v, .int .u64 (k : Int)] w fun e w' => e = .returned (.tuple #[.int .u64 (K.pv xs k : Nat), .bool (K.pvb xs k)]) ∧ w = w' := by
  have H := Lib.hid (b_search w v xs h hu few k)
  cases hG : K.fo xs k with
  | true =>
    obtain ⟨hF, hk⟩ := K.fo_lt hG
    have H2 : Hid (Calls Tryz.prog 104 #[v, .int .i64 (K.fi xs k : Nat)] w fun e w' => e = .returned (.tuple #[.int .u64 (K.pv xs k : Nat), .bool (K.pvb xs k)]) ∧ w = w') := Lib.hid (by
      have e1 : K.pv xs k = xs[K.fi xs k] := by unfold K.pv; rw [hG, if_pos rfl, hk]
      have e2 : K.pvb xs k = true := by unfold K.pvb; rw [hG]; rfl
      rw [e1, e2]
      exact b_at_yes w v xs h _ hF)
    rw [hG] at H
    clear h hu few hk hF hG
    generalize K.fi xs k = F at *
    go_enter Tryz.func61, Tryz.ntmps61
    go_wp2_with (first
      | (go_at_call 85; (with_reducible refine H.out.mono ?_); rintro e w' ⟨rfl, rfl⟩)
      | (go_at_call 104; (with_reducible refine H2.out.mono ?_); rintro e w' ⟨rfl, rfl⟩))
    go_ret2
    exact ⟨rfl, rfl⟩
  | false =>
    have hle := K.fi_le xs k
    obtain ⟨q, hq⟩ : ∃ q : Int, ((K.fi xs k : Nat) : Int) - 1 = q := ⟨_, rfl⟩
    have H2 : Hid (Calls Tryz.prog 104 #[v, .int .i64 q] w fun e w' => e = .returned (.tuple #[.int .u64 (K.pv xs k : Nat), .bool (K.pvb xs k)]) ∧ w = w') := Lib.hid (by
      unfold K.pv K.pvb
      rw [hG]
      by_cases hF : K.fi xs k = 0
      · rw [if_neg (by decide), if_pos hF, decide_eq_true hF]
        exact b_at_no w v xs h _ (.inl (by omega))
      · rw [if_neg (by decide), if_neg hF, decide_eq_false hF, List.getElem?_eq_getElem (show K.fi xs k - 1 < xs.length by omega)]
        obtain rfl : q = ((K.fi xs k - 1 : Nat) : Int) := by omega
        exact b_at_yes w v xs h _ (by omega))
    rw [hG] at H
    have hw : IntKind.i64.wrap (((K.fi xs k : Nat) : Int) - 1) = q := by rw [hq]; exact IntWalk.i64_in _ (by omega)
    clear h hu few hG hq hle
    generalize K.fi xs k = F at *
    go_enter Tryz.func61, Tryz.ntmps61
    go_wp2_with (first
      | (go_at_call 85; (with_reducible refine H.out.mono ?_); rintro e w' ⟨rfl, rfl⟩)
      | (go_at_call 104; (with_reducible refine H2.out.mono ?_); rintro e w' ⟨rfl, rfl⟩))
    go_ret2
    exact ⟨rfl, rfl⟩
end
end Go.Proofs.YtialjokdaniofaaGreat.Kb
end
section
namespace Go.Proofs.YtialjokdaniofaaGreat.Kb
set_option maxRecDepth 20000
open Go.RowKit Go.Shelf
end Go.Proofs.YtialjokdaniofaaGreat.Kb
end
section
namespace Go.Proofs.YtialjokdaniofaaGreat.Kb
set_option maxRecDepth 20000
open Go.RowKit Go.Shelf
/-- Concat of one slice that lies in a cell. -/
theorem cat_cell (W : World) (B g n c cp : Nat) (A : Option Addr) (xs : List Nat) (hb : B ≤ W.heap.size) (hr : Rh W B A (iz xs)) (hn : n = xs.length) (few : n ≤ 1000000) (hc : W.cell? ⟨g, 0, none⟩ = some (.slice A n c)) (hg : g < W.heap.size) :
    Calls Tryz.prog 86 #[.slice (some ⟨g, 0, none⟩) 1 cp] W fun e w' => ∃ v, e = .returned v ∧ KN W w' v xs ∧ Below W.heap.size W w' := by
  subst hn
  have HP : Parts W B g 0 [(A, c, iz xs)] := by
    intro k hk
    have hk0 : k = 0 := by simp at hk; exact hk
    subst hk0
    exact ⟨by simpa using hc, hr⟩
  have hcat : cat [(A, c, iz xs)] = iz xs := by simp [cat]
  have M := concat_any W B g 0 cp [(A, c, iz xs)] HP hb hg (by rw [hcat, iz_len]; omega) (by simp)
  rw [hcat] at M
  exact M.mono fun e w' ⟨v, h1, h2, h3⟩ => ⟨v, h1, KN.of h2 rfl, h3⟩
/-- What is left of a list that is parted. -/
def SplitP (w : World) (xs : List Nat) (e : Ending) (w' : World) : Prop := ∃ v1 v2, e = .returned (.tuple #[v1, v2]) ∧ KN w w' v1 (xs.take (xs.length - xs.length / 2)) ∧ KN w w' v2 (xs.drop (xs.length - xs.length / 2)) ∧ Below w.heap.size w w'
theorem KN.more {w W W' : World} {v : Value} {xs : List Nat} (h : KN w W v xs) (hb : Below W.heap.size W W') : KN w W' v xs := by
  refine ⟨h.1, ?_⟩
  rcases h.2 with hn | ⟨g, cap, cur, e, hb0, hg, rest⟩
  · exact .inl hn
  · exact .inr ⟨g, cap, cur, e, hb0, (hb.block g (Array.getElem?_eq_some_iff.1 hg).1).trans hg, rest⟩
theorem KN.low {w W W' : World} {v : Value} {xs : List Nat} (h : KN W W' v xs) (hb : w.heap.size ≤ W.heap.size) : KN w W' v xs := own_low h hb
theorem bel_a (w : World) (o : Obj) : Below w.heap.size w (w.alloc o) := (Below.refl _ _).alloc (Nat.le_refl _) _
theorem bel_d {B : Nat} {w W : World} (h : Below B w W) : Below B w W.drew := ⟨h.os, h.tape, h.output, h.size, h.block⟩
theorem bel_s {w W : World} (h : Below w.heap.size w W) (o : Obj) : Below w.heap.size w (W.alloc o) := h.alloc h.size _
theorem cell_new1 (W : World) (v : Value) (T : TypeId) : (W.alloc (.cells #[v] T)).cell? ⟨W.heap.size, 0, none⟩ = some v := by simp
theorem cell_old1 (W : World) (v : Value) (T : TypeId) (o : Obj) : ((W.alloc (.cells #[v] T)).alloc o).cell? ⟨W.heap.size, 0, none⟩ = some v :=
  ((bel_a (W.alloc (.cells #[v] T)) o).cell (p := ⟨W.heap.size, 0, none⟩) (by simp)).trans (cell_new1 W v T)
theorem cell_new1d (W : World) (v : Value) (T : TypeId) : (W.alloc (.cells #[v] T)).drew.cell? ⟨W.heap.size, 0, none⟩ = some v := cell_new1 W v T
theorem cell_old1d (W : World) (v : Value) (T : TypeId) (o : Obj) : ((W.alloc (.cells #[v] T)).alloc o).drew.cell? ⟨W.heap.size, 0, none⟩ = some v := cell_old1 W v T o
theorem cell_two (W : World) (v : Value) (T : TypeId) (o : Obj) : ((W.alloc o).alloc (.cells #[v] T)).cell? ⟨W.heap.size + 1, 0, none⟩ = some v := by
  have h := cell_new1 (W.alloc o) v T
  rw [show (W.alloc o).heap.size = W.heap.size + 1 by simp] at h
  exact h
theorem cell_twod (W : World) (v : Value) (T : TypeId) (o : Obj) : ((W.alloc o).alloc (.cells #[v] T)).drew.cell? ⟨W.heap.size + 1, 0, none⟩ = some v := cell_two W v T o
set_option maxHeartbeats 8000000 in
set_option maxRecDepth 100000 in
theorem b_split (w : World) (v : Value) (xs : List Nat) (h : KX w v xs) (few : xs.length ≤ 1000000) : Calls Tryz.prog 87 #[v] w (SplitP w xs) := by
  obtain ⟨A, c, rfl, hr, hc⟩ := kx_rh h
  obtain ⟨n, hn⟩ : ∃ n, n = xs.length := ⟨_, rfl⟩
  obtain ⟨m, hm⟩ : ∃ m, m = n - n / 2 := ⟨_, rfl⟩
  have e1 : Hid (iz (xs.take m) = (iz xs).take m) := Lib.hid (by simp)
  have e2 : Hid (iz (xs.drop m) = ((iz xs).take n).drop m) := Lib.hid (by rw [hn, ← iz_len xs, List.take_length]; simp)
  unfold SplitP
  rw [← hn] at hc few ⊢
  rw [← hm]
  have hmn : m ≤ n := by omega
  have R1 := rh_take (l := m) hr
  have R2 := cutA_rh (l := m) (h := n) hr (by rw [hn]; simp) hmn (Nat.le_refl _) hc
  obtain ⟨g1, g2⟩ := cut_h A n c m (m : Int) rfl hmn hc
  obtain ⟨g3, g4⟩ := cut_l A n c m (m : Int) rfl hmn
  obtain ⟨A3, hA3⟩ : ∃ A3, cutA A m c = A3 := ⟨_, rfl⟩
  obtain ⟨n3, hn3⟩ : ∃ n3, n - m = n3 := ⟨_, rfl⟩
  obtain ⟨c3, hc3⟩ : ∃ c3, c - m = c3 := ⟨_, rfl⟩
  rw [hA3, hn3, hc3] at g3 g4
  rw [hA3] at R2
  have H1 : Hid (∀ W g, Below w.heap.size w W → W.cell? ⟨g, 0, none⟩ = some (.slice A m c) → g < W.heap.size → Calls Tryz.prog 86 #[.slice (some ⟨g, 0, none⟩) 1 1] W fun e w' => ∃ v, e = .returned v ∧ KN W w' v (xs.take m) ∧ Below W.heap.size W w') :=
    Lib.hid fun W g hb hc hg => cat_cell W w.heap.size g m c 1 A _ hb.size ((by rw [e1.out]; exact R1 : Rh w w.heap.size A (iz (xs.take m))).below hb (Nat.le_refl _)) (by rw [List.length_take]; omega) (by omega) hc hg
  have H2 : Hid (∀ W g, Below w.heap.size w W → W.cell? ⟨g, 0, none⟩ = some (.slice A3 n3 c3) → g < W.heap.size → Calls Tryz.prog 86 #[.slice (some ⟨g, 0, none⟩) 1 1] W fun e w' => ∃ v, e = .returned v ∧ KN W w' v (xs.drop m) ∧ Below W.heap.size W w') :=
    Lib.hid fun W g hb hc hg => cat_cell W w.heap.size g n3 c3 1 A3 _ hb.size ((by rw [e2.out]; exact R2 : Rh w w.heap.size A3 (iz (xs.drop m))).below hb (Nat.le_refl _)) (by rw [List.length_drop]; omega) (by omega) hc hg
  have hq : (n : Int).tdiv 2 = ((n / 2 : Nat) : Int) := by rw [Int.tdiv_eq_ediv_of_nonneg (by omega)]; omega
  have hq2 : (n : Int) / 2 = ((n / 2 : Nat) : Int) := by omega
  have hs : (n : Int) - ((n / 2 : Nat) : Int) = (m : Int) := by omega
  have hw1 : IntKind.i64.wrap ((n / 2 : Nat) : Int) = ((n / 2 : Nat) : Int) := IntWalk.i64_in _ (by omega)
  have hw2 : IntKind.i64.wrap (m : Int) = (m : Int) := IntWalk.i64_in _ (by omega)
  have hmc : (m : Int) ≤ (c : Int) := by omega
  have hmn' : (m : Int) ≤ (n : Int) := by omega
  clear R1 R2 e1 e2 hr h hn hA3 hn3 hc3
  generalize xs.take m = X1 at *
  generalize xs.drop m = X2 at *
  generalize hQ : ((n / 2 : Nat) : Int) = Q at *
  have HQ := Lib.hid hQ
  clear hQ hm
  go_enter Tryz.func87, Tryz.ntmps87
  go_wp2
  go_region_held3 (fun _ => True) (trivial) (first
    | (go_at_call 86; (with_reducible refine (H1.out _ _ (by first | exact bel_a _ _ | exact bel_d (bel_a _ _) | exact bel_s (bel_a _ _) _ | exact bel_d (bel_s (bel_a _ _) _) | exact bel_s (bel_d (bel_a _ _)) _ | exact bel_d (bel_s (bel_d (bel_a _ _)) _)) (by first | assumption | exact cell_new1 _ _ _ | exact cell_new1d _ _ _ | exact cell_old1 _ _ _ _ | exact cell_old1d _ _ _ _ | exact cell_two _ _ _ _ | exact cell_twod _ _ _ _) (by first | (simp [World.drew]; done) | (simp [World.drew]; omega))).mono ?_); rintro e w2 ⟨v1, rfl, k1, b1⟩
       have HB2 : Hid (Below w.heap.size w w2) := Lib.hid (Below.trans (by first | exact bel_a _ _ | exact bel_d (bel_a _ _) | exact bel_s (bel_a _ _) _ | exact bel_d (bel_s (bel_a _ _) _) | exact bel_s (bel_d (bel_a _ _)) _ | exact bel_d (bel_s (bel_d (bel_a _ _)) _)) (b1.mono (by first | (simp [World.drew]; done) | (simp [World.drew]; omega))))
       have HK1 : Hid (KN w w2 v1 X1) := Lib.hid (k1.low (by first | (simp [World.drew]; done) | (simp [World.drew]; omega)))
       try (have hc2 : w2.cell? ⟨w.heap.size, 0, none⟩ = some (.slice A3 n3 c3) := (b1.cell (p := ⟨w.heap.size, 0, none⟩) (by first | (simp [World.drew]; done) | (simp [World.drew]; omega))).trans (by first | assumption | exact cell_new1 _ _ _ | exact cell_new1d _ _ _ | exact cell_old1 _ _ _ _ | exact cell_old1d _ _ _ _ | exact cell_two _ _ _ _ | exact cell_twod _ _ _ _))
       try (have hc2 : w2.cell? ⟨w.heap.size + 1, 0, none⟩ = some (.slice A3 n3 c3) := (b1.cell (p := ⟨w.heap.size + 1, 0, none⟩) (by first | (simp [World.drew]; done) | (simp [World.drew]; omega))).trans (by first | assumption | exact cell_new1 _ _ _ | exact cell_new1d _ _ _ | exact cell_old1 _ _ _ _ | exact cell_old1d _ _ _ _ | exact cell_two _ _ _ _ | exact cell_twod _ _ _ _))
       have hs2 : w.heap.size + 1 ≤ w2.heap.size ∧ True := ⟨(by have := b1.size; simp [World.drew] at this; omega), trivial⟩
       try (have hs3 : w.heap.size + 1 < w2.heap.size := (by have := b1.size; simp [World.drew] at this; omega))
       clear k1 b1)
    | (go_at_call 86; (with_reducible refine (H2.out _ _ (by first | exact HB2.out | exact bel_d HB2.out | exact bel_s HB2.out _ | exact bel_d (bel_s HB2.out _) | exact bel_s (bel_d HB2.out) _ | exact bel_d (bel_s (bel_d HB2.out) _)) (by first | assumption | exact cell_new1 _ _ _ | exact cell_new1d _ _ _ | exact cell_old1 _ _ _ _ | exact cell_old1d _ _ _ _ | exact cell_two _ _ _ _ | exact cell_twod _ _ _ _) (by first | omega | (simp; done) | (simp; omega))).mono ?_); rintro e w3 ⟨v2, rfl, k2, b2⟩
       have HB3 : Hid (Below w.heap.size w w3) := Lib.hid (Below.trans (by first | exact HB2.out | exact bel_d HB2.out | exact bel_s HB2.out _ | exact bel_d (bel_s HB2.out _) | exact bel_s (bel_d HB2.out) _ | exact bel_d (bel_s (bel_d HB2.out) _)) (b2.mono (by first | exact HB2.out.size | (have := HB2.out.size; simp; omega))))
       have HK2 : Hid (KN w w3 v2 X2) := Lib.hid (k2.low (by first | exact HB2.out.size | (have := HB2.out.size; simp; omega)))
       have HK3 : Hid (KN w w3 v1 X1) := Lib.hid (HK1.out.more (by first | exact b2 | exact Below.trans (bel_d (bel_a _ _)) (b2.mono (by simp)) | exact Below.trans (bel_a _ _) (b2.mono (by simp)) | exact Below.trans (bel_s (bel_d (Below.refl _ _)) _) (b2.mono (by simp))  | exact Below.trans (bel_d (bel_s (bel_d (Below.refl _ _)) _)) (b2.mono (by simp))))
       clear k2 b2))
  all_goals
    go_wp2
    go_ret2
    exact ⟨v1, v2, rfl, HK3.out, HK2.out, HB3.out⟩
end Go.Proofs.YtialjokdaniofaaGreat.Kb
end
