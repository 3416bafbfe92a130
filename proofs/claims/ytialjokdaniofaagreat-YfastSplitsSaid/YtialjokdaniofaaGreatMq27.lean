/- array: the search by halves, Rank, Has, Select, Next; the text walked. Cuts of lists of 64-bit numbers; Add, Drop, Part; the text walked. Add, Drop, Part; the text walked. array.Is, and the awake test of the laws; the text walked. -/
import Derived.Deep.RegionHeld3
import Derived.Test.YtialjokdaniofaaGreatMq26
section
namespace Go.Proofs.YtialjokdaniofaaGreat.Kb
set_option maxRecDepth 20000
open Go.RowKit
theorem rank_at {xs : List Int} {v : Int} {i : Nat} (hi : i ≤ xs.length) (h1 : ∀ k (h : k < xs.length), k < i → xs[k] < v) (h2 : ∀ k (h : k < xs.length), i ≤ k → v ≤ xs[k]) : M.rRank xs v = i := by
  unfold M.rRank
  have e1 : (xs.take i).filter (fun x => decide (x < v)) = xs.take i := List.filter_eq_self.2 fun x hx => by
    rw [List.mem_take_iff_getElem] at hx
    obtain ⟨k, hk, rfl⟩ := hx
    simpa using h1 k (by omega) (by omega)
  have e2 : (xs.drop i).filter (fun x => decide (x < v)) = [] := List.filter_eq_nil_iff.2 fun x hx => by
    rw [List.mem_drop_iff_getElem] at hx
    obtain ⟨k, hk, rfl⟩ := hx
    have := h2 (i + k) (by omega) (by omega)
    simp; omega
  conv => lhs; rw [← List.take_append_drop i xs]
  rw [List.filter_append, e1, e2]
  simp; omega
theorem mem_at {xs : List Int} {v : Int} {i : Nat} (h1 : ∀ k (h : k < xs.length), k < i → xs[k] < v) (h2 : ∀ k (h : k < xs.length), i ≤ k → v ≤ xs[k]) (hs : xs.Pairwise (· < ·)) : v ∈ xs ↔ ∃ h : i < xs.length, xs[i] = v := by
  constructor
  · intro hv
    obtain ⟨k, hk, he⟩ := List.mem_iff_getElem.1 hv
    rcases Nat.lt_trichotomy k i with h | h | h
    · have := h1 k hk h; omega
    · subst h; exact ⟨hk, he⟩
    · have q1 := List.pairwise_iff_getElem.1 hs i k (by omega) hk h
      have q2 := h2 i (by omega) (Nat.le_refl _)
      omega
  · rintro ⟨h, rfl⟩; exact List.getElem_mem h
/-- What the halves hold. -/
def Half (xs : List Int) (v : Int) (i j : Nat) : Prop := (∀ k (h : k < xs.length), k < i → xs[k] < v) ∧ (∀ k (h : k < xs.length), j ≤ k → v ≤ xs[k])
theorem half_up {xs : List Int} {v : Int} {i j h : Nat} (hs : xs.Pairwise (· < ·)) (hh : Half xs v i j) (hl : h < xs.length) (hy : xs[h] < v) : Half xs v (h + 1) j := by
  refine ⟨fun k hk hki => ?_, hh.2⟩
  rcases Nat.lt_or_eq_of_le (show k ≤ h by omega) with e | e
  · exact Int.lt_trans (List.pairwise_iff_getElem.1 hs k h hk hl e) hy
  · subst e; exact hy
theorem half_down {xs : List Int} {v : Int} {i j h : Nat} (hs : xs.Pairwise (· < ·)) (hh : Half xs v i j) (hl : h < xs.length) (hy : v ≤ xs[h]) : Half xs v i h := by
  refine ⟨hh.1, fun k hk hki => ?_⟩
  rcases Nat.lt_or_eq_of_le hki with e | e
  · exact Int.le_trans hy (Int.le_of_lt (List.pairwise_iff_getElem.1 hs h k hl hk e))
  · subst e; exact hy
set_option maxHeartbeats 1000000 in
theorem nan_any (x : Int) (w : World) : Calls Tryz.prog 119 #[.int .u64 x] w fun e w' => e = .returned (.bool false) ∧ w = w' := by
  go_enter Tryz.func119, Tryz.ntmps119
  go_wp2
  go_ret
  exact ⟨by simp, rfl⟩
set_option maxHeartbeats 8000000 in
set_option maxRecDepth 100000 in
theorem a_search (w : World) (B n c : Nat) (A : Option Addr) (xs : List Int) (v : Int) (hn : n = xs.length) (hr : Rh w B A xs) (hs : xs.Pairwise (· < ·)) (few : n ≤ 1000000) :
    Calls Tryz.prog 85 #[.slice A n c, .int .u64 v] w fun e w' => e = .returned (.tuple #[.int .i64 (M.rRank xs v : Nat), .bool (decide (v ∈ xs))]) ∧ w = w' := by
  have HN := Lib.hid hn
  have HS := Lib.hid hs
  have HR := Lib.hid hr
  clear hn hs hr
  go_enter Tryz.func85, Tryz.ntmps85
  go_wp2_with (fail)
  go_loop [7, 8] (fun vi vj => ∃ i j : Nat, vi = .int .i64 i ∧ vj = .int .i64 j ∧ i ≤ j ∧ j ≤ n ∧ Hid (Half xs v i j)) (fun vi vj => (intOf vj - intOf vi).toNat)
  case atStart => exact ⟨0, n, rfl, rfl, Nat.zero_le _, Nat.le_refl _, Lib.hid ⟨fun k _ h => by omega, fun k h h' => by have := HN.out; omega⟩⟩
  case round =>
    obtain ⟨i, j, rfl, rfl, hij, hjn, hH⟩ := hrel
    by_cases hlt : i < j
    · obtain ⟨h, hh⟩ : ∃ h, h = (i + j) / 2 := ⟨_, rfl⟩
      have eh : ((i : Int) + (j : Int)) / 2 = (h : Int) := by omega
      have hhi : i ≤ h := by omega
      have hhj : h < j := by omega
      clear hh
      have hhn : h < n := by omega
      have hhx : h < xs.length := by rw [← HN.out]; exact hhn
      obtain ⟨b, off, hA, _, hcell⟩ := HR.out.at hhx
      subst hA
      obtain ⟨y, hy⟩ : ∃ y, y = xs[h] := ⟨_, rfl⟩
      rw [← hy] at hcell
      have HY := Lib.hid hy
      clear hy
      have hs0 : 0 ≤ (i : Int) + (j : Int) := by omega
      have hs1 : (i : Int) + (j : Int) ≤ 2000000 := by omega
      go_wp2_with (go_at_call 118; refine (less_any _ _ _).mono ?_; rintro e w' ⟨rfl, rfl⟩)
      · have e : Sort.ltInt y v = true := by assumption
        go_round
        case rel => exact ⟨h + 1, j, by go_num, rfl, by omega, hjn, Lib.hid (half_up HS.out hH.out hhx (by rw [← HY.out]; exact lt_yes e))⟩
        case measure => simp [intOf]; omega
      · have e : Sort.ltInt y v = false := by assumption
        go_round
        case rel => exact ⟨i, h, rfl, rfl, hhi, by omega, Lib.hid (half_down HS.out hH.out hhx (by rw [← HY.out]; exact lt_no e))⟩
        case measure => simp [intOf]; omega
    · have hji : j = i := by omega
      subst hji
      have hrk : Hid (M.rRank xs v = j) := Lib.hid (rank_at (by rw [← HN.out]; exact hjn) hH.out.1 hH.out.2)
      have hmem : Hid (v ∈ xs ↔ ∃ h : j < xs.length, xs[j] = v) := Lib.hid (mem_at hH.out.1 hH.out.2 HS.out)
      by_cases hin : j < n
      · have hjx : j < xs.length := by rw [← HN.out]; exact hin
        obtain ⟨b, off, hA, _, hcell⟩ := HR.out.at hjx
        subst hA
        obtain ⟨y, hy⟩ : ∃ y, y = xs[j] := ⟨_, rfl⟩
        rw [← hy] at hcell
        have HY := Lib.hid hy
        clear hy
        by_cases hyv : y = v
        · have HM : Hid (v ∈ xs) := Lib.hid (hmem.out.2 ⟨hjx, by rw [← HY.out]; exact hyv⟩)
          subst hyv
          go_wp2_with (go_at_call 119; refine (nan_any _ _).mono ?_; rintro e w' ⟨rfl, rfl⟩)
          go_ret2
          exact ⟨by rw [hrk.out, decide_eq_true HM.out]; rfl, rfl⟩
        · have HM : Hid (¬ v ∈ xs) := Lib.hid (fun hv => by obtain ⟨_, h⟩ := hmem.out.1 hv; rw [← HY.out] at h; exact hyv h)
          have hyb : (y == v) = false := by simpa using hyv
          go_wp2_with (go_at_call 119; refine (nan_any _ _).mono ?_; rintro e w' ⟨rfl, rfl⟩)
          go_ret2
          exact ⟨by rw [hrk.out, decide_eq_false HM.out]; rfl, rfl⟩
      · have HM : Hid (¬ v ∈ xs) := Lib.hid (fun hv => by obtain ⟨h, _⟩ := hmem.out.1 hv; rw [← HN.out] at h; exact hin h)
        go_wp2_with (go_at_call 119; refine (nan_any _ _).mono ?_; rintro e w' ⟨rfl, rfl⟩)
        go_ret2
        exact ⟨by rw [hrk.out, decide_eq_false HM.out]; rfl, rfl⟩
theorem rank_le (xs : List Int) (v : Int) : M.rRank xs v ≤ xs.length := List.length_filter_le _ _
/-- What stands ahead of a rank is less, what stands from it on isn't. -/
theorem rank_half {xs : List Int} (hs : xs.Pairwise (· < ·)) (v : Int) : Half xs v (M.rRank xs v) (M.rRank xs v) := by
  induction xs with
  | nil => exact ⟨fun k h => by simp at h, fun k h => by simp at h⟩
  | cons a l ih =>
    rw [List.pairwise_cons] at hs
    obtain ⟨i1, i2⟩ := ih hs.2
    by_cases ha : a < v
    · have e : M.rRank (a :: l) v = M.rRank l v + 1 := by unfold M.rRank; rw [List.filter_cons, if_pos (by simpa using ha)]; rfl
      rw [e]
      refine ⟨fun k hk h => ?_, fun k hk h => ?_⟩
      · cases k with
        | zero => exact ha
        | succ k => exact i1 k (by simpa using hk) (by omega)
      · cases k with
        | zero => omega
        | succ k => exact i2 k (by simpa using hk) (by omega)
    · have hz : ∀ x ∈ a :: l, ¬ x < v := fun x hx => by
        rcases List.mem_cons.1 hx with rfl | hx
        · exact ha
        · have := hs.1 x hx; omega
      have e : M.rRank (a :: l) v = 0 := by
        unfold M.rRank
        rw [List.filter_eq_nil_iff.2 fun x hx => by simpa using hz x hx]
        rfl
      rw [e]
      exact ⟨fun k hk h => by omega, fun k hk _ => by have := hz _ (List.getElem_mem hk); omega⟩
def upv (xs : List Int) (v : Int) : Nat := if v ∈ xs then M.rRank xs v + 1 else M.rRank xs v
end Go.Proofs.YtialjokdaniofaaGreat.Kb
end
section
namespace Go.Proofs.YtialjokdaniofaaGreat.Kb
set_option maxRecDepth 20000
open Go.RowKit Go.Shelf
def cutA (A : Option Addr) (l c : Nat) : Option Addr := if c = l then A else A.map (·.add (l * 1))
theorem cutA_rh {w : World} {B n c l h : Nat} {A : Option Addr} {xs : List Int} (hr : Rh w B A xs) (hn : n = xs.length) (hl : l ≤ h) (hh : h ≤ n) (hc : n ≤ c) : Rh w B (cutA A l c) ((xs.take h).drop l) := by
  intro hne
  have hlen : ((xs.take h).drop l).length = h - l := by rw [List.length_drop, List.length_take]; omega
  have hlt : l < h := by
    rcases Nat.lt_or_ge l h with e | e
    · exact e
    · exact absurd (List.eq_nil_of_length_eq_zero (by omega)) hne
  obtain ⟨b, off, rfl, hb, hcl⟩ := hr (by intro e; subst e; simp at hn; omega)
  refine ⟨b, off + l, ?_, hb, fun k hk => ?_⟩
  · unfold cutA
    rw [if_neg (by omega)]
    show some _ = some _
    unfold Addr.add
    by_cases h0 : l = 0 <;> simp [h0]
  · have h2 : l + k < xs.length := by omega
    have := hcl (l + k) h2
    rw [show off + l + k = off + (l + k) by omega, this]
    simp
theorem cut_l (A : Option Addr) (n c l : Nat) (L : Int) (hL : L = (l : Int)) (hl : l ≤ n) : (∀ w, (Instr.sliceAt 47 (.slice A n c) (some (.int .i64 L)) none none).run Tryz.prog w = .ok (.slice (cutA A l c) (n - l) (c - l)) w) ∧
    (∀ w, (Instr.slice 47 (.slice A n c) (some (.int .i64 L)) none none).run Tryz.prog w = .ok (.slice (cutA A l c) (n - l) (c - l)) w) := by
  subst hL
  have hu : Tryz.prog.underlying 47 = some (.slice (Tryz.prog.elem 47)) := by kernel_rfl
  have hz : ∀ w, (Go.sizeOf (Tryz.prog.elem 47)).run Tryz.prog w = .ok 1 w := fun w => Tryz.sizeOf22 w
  have h2 : ∀ w, (Instr.slice 47 (.slice A n c) (some (.int .i64 (l : Int))) none none).run Tryz.prog w = .ok (sliced A l n c 1) w := fun w => by
    have h := run_slice_l (P := Tryz.prog) (w := w) (t := 47) (a := A) (len := n) (cap := c) (ht := hu) (kl := .i64) (l := (l : Int)) (h0 := by omega) (h1 := by omega)
    rw [h, hz]
    simp [Result.andThen]
  exact ⟨fun w => (run_sliceAt_slice (w := w) (h := hu) ..).trans (h2 w), h2⟩
theorem cut_h (A : Option Addr) (n c l : Nat) (L : Int) (hL : L = (l : Int)) (hl : l ≤ n) (hc : n ≤ c) : (∀ w, (Instr.sliceAt 47 (.slice A n c) none (some (.int .i64 L)) none).run Tryz.prog w = .ok (.slice A l c) w) ∧
    (∀ w, (Instr.slice 47 (.slice A n c) none (some (.int .i64 L)) none).run Tryz.prog w = .ok (.slice A l c) w) := by
  subst hL
  have hu : Tryz.prog.underlying 47 = some (.slice (Tryz.prog.elem 47)) := by kernel_rfl
  have hz : ∀ w, (Go.sizeOf (Tryz.prog.elem 47)).run Tryz.prog w = .ok 1 w := fun w => Tryz.sizeOf22 w
  have h2 : ∀ w, (Instr.slice 47 (.slice A n c) none (some (.int .i64 (l : Int))) none).run Tryz.prog w = .ok (.slice A l c) w := fun w => by
    have h := run_slice_h (P := Tryz.prog) (w := w) (t := 47) (a := A) (len := n) (cap := c) (ht := hu) (kh := .i64) (h := (l : Int)) (h0 := by omega) (h2 := by omega)
    rw [h, hz]
    simp [Result.andThen]
    cases A <;> simp [sliced, Addr.add]
  exact ⟨fun w => (run_sliceAt_slice (w := w) (h := hu) ..).trans (h2 w), h2⟩
theorem rh_take {w : World} {B l : Nat} {A : Option Addr} {xs : List Int} (hr : Rh w B A xs) : Rh w B A (xs.take l) := by
  intro hne
  obtain ⟨b, off, rfl, hb, hcl⟩ := hr (by intro e; subst e; simp at hne)
  refine ⟨b, off, rfl, hb, fun k hk => ?_⟩
  have h2 : k < xs.length := by rw [List.length_take] at hk; omega
  rw [hcl k h2]
  simp
theorem take_lt {xs : List Int} {v : Int} {r : Nat} (h : Half xs v r r) {x : Int} (hx : x ∈ xs.take r) : x < v := by
  obtain ⟨k, hk, rfl⟩ := List.getElem_of_mem hx
  rw [List.getElem_take]
  rw [List.length_take] at hk
  exact h.1 k (by omega) (by omega)
theorem drop_ge {xs : List Int} {v : Int} {r : Nat} (h : Half xs v r r) {x : Int} (hx : x ∈ xs.drop r) : v ≤ x := by
  obtain ⟨k, hk, rfl⟩ := List.getElem_of_mem hx
  rw [List.getElem_drop]
  rw [List.length_drop] at hk
  exact h.2 (r + k) (by omega) (by omega)
theorem sort_add {xs : List Int} {v : Int} {r : Nat} (hs : xs.Pairwise (· < ·)) (h : Half xs v r r) (hn : ¬ v ∈ xs) : (xs.take r ++ ([v] ++ xs.drop r)).Pairwise (· < ·) :=
  List.pairwise_append.2 ⟨hs.sublist (List.take_sublist _ _), List.pairwise_append.2 ⟨List.pairwise_singleton _ _, hs.sublist (List.drop_sublist _ _), fun x hx y hy => by
    rw [List.mem_singleton] at hx
    subst hx
    have h1 := drop_ge h hy
    have h2 : x ≠ y := fun e => hn (e ▸ List.mem_of_mem_drop hy)
    omega⟩, fun x hx y hy => by
    have h1 := take_lt h hx
    rcases List.mem_append.1 hy with h2 | h2
    · rw [List.mem_singleton] at h2; omega
    · have := drop_ge h h2; omega⟩
theorem mem_add {xs : List Int} {v : Int} {r : Nat} (x : Int) : x ∈ xs.take r ++ ([v] ++ xs.drop r) ↔ x ∈ xs ∨ x = v := by
  have h : x ∈ xs ↔ x ∈ xs.take r ∨ x ∈ xs.drop r := by rw [← List.mem_append, List.take_append_drop]
  rw [h, List.mem_append, List.mem_append, List.mem_singleton]
  constructor
  · rintro (h | h | h)
    · exact .inl (.inl h)
    · exact .inr h
    · exact .inl (.inr h)
  · rintro ((h | h) | h)
    · exact .inl h
    · exact .inr (.inr h)
    · exact .inr (.inl h)
end Go.Proofs.YtialjokdaniofaaGreat.Kb
end
section
namespace Go.Proofs.YtialjokdaniofaaGreat.Kb
set_option maxRecDepth 20000
open Go.RowKit Go.Shelf
theorem rh_lit (w : World) (xs : List Int) (hne : ∀ k (h : k < xs.length), (w.alloc (.cells (hv xs).toArray 22)).cell? ⟨w.heap.size, 0 + k, none⟩ = some (.int .u64 xs[k])) : Rh (w.alloc (.cells (hv xs).toArray 22)) (w.heap.size + 1) (some ⟨w.heap.size, 0, none⟩) xs :=
  fun _ => ⟨w.heap.size, 0, rfl, by omega, hne⟩
theorem lit_cell (w : World) (xs : List Int) (k : Nat) (h : k < xs.length) : (w.alloc (.cells (hv xs).toArray 22)).cell? ⟨w.heap.size, 0 + k, none⟩ = some (.int .u64 xs[k]) := by
  rw [Nat.zero_add, World.cell?_alloc_new]
  simp [hv, h]
theorem rh_new (w : World) (xs : List Int) : Rh (w.alloc (.cells (hv xs).toArray 22)) (w.heap.size + 1) (some ⟨w.heap.size, 0, none⟩) xs := rh_lit w xs (lit_cell w xs)
theorem own_reads {w : World} {base : Nat} {v : Value} {xs : List Int} (h : w.ownsRow base 22 1 v xs.length (hv xs)) : ∃ A c, v = .slice A xs.length c ∧ Rh w w.heap.size A xs ∧ xs.length ≤ c := by
  have hc := own_cap h
  obtain ⟨A, c, rfl, hr, _⟩ := Rh.of_own h
  exact ⟨A, c, rfl, hr, hc A c rfl⟩
theorem copy_any (w : World) (B n c : Nat) (A : Option Addr) (xs : List Int) (hn : n = xs.length) (hr : Rh w B A xs) (hB : B ≤ w.heap.size) (few : n ≤ 1000000) :
    Calls Tryz.prog 86 #[.slice (some ⟨w.heap.size, 0, none⟩) 1 1] (w.alloc (.cells #[.slice A n c] 47)) fun e w' => ∃ v, e = .returned v ∧ w'.ownsRow w.heap.size 22 1 v xs.length (hv xs) ∧ Below w.heap.size w w' := by
  have HP := Lib.hid (rh_cell (c := c) hr hn hB)
  have hcat : cat [(A, c, xs)] = xs := by simp [cat]
  have hB1 : B ≤ (w.alloc (.cells #[.slice A n c] 47)).heap.size := by simp; omega
  have hb0 := (Below.refl w.heap.size w).alloc (Nat.le_refl _) (.cells #[.slice A n c] 47)
  have c1 := concat_any (w.alloc (.cells #[.slice A n c] 47)) B w.heap.size 0 1 [(A, c, xs)] HP.out hB1 (by simp) (by rw [hcat, ← hn]; omega) (by simp)
  rw [hcat] at c1
  have c2 : Calls Tryz.prog 86 #[.slice (some ⟨w.heap.size, 0, none⟩) 1 1] (w.alloc (.cells #[.slice A n c] 47)) _ := c1
  refine c2.mono ?_
  rintro e w2 ⟨v, rfl, h1, h2⟩
  exact ⟨v, rfl, own_low h1 (by simp), hb0.trans (h2.mono (by simp))⟩
theorem cat_three (w : World) (B n1 c1 n3 c3 : Nat) (A1 A3 : Option Addr) (xs1 xs3 : List Int) (v : Int) (h1 : n1 = xs1.length) (h3 : n3 = xs3.length) (r1 : Rh w B A1 xs1) (r3 : Rh w B A3 xs3) (hB : B ≤ w.heap.size) (f1 : n1 ≤ 1000000) (f3 : n3 ≤ 1000000) :
    Calls Tryz.prog 86 #[.slice (some ⟨w.heap.size + 1, 0, none⟩) 3 3] ((w.alloc (.cells #[.int .u64 v] 22)).alloc (.cells #[.slice A1 n1 c1, .slice (some ⟨w.heap.size, 0, none⟩) 1 1, .slice A3 n3 c3] 47)).drew
      fun e w' => ∃ v', e = .returned v' ∧ w'.ownsRow w.heap.size 22 1 v' (xs1 ++ ([v] ++ xs3)).length (hv (xs1 ++ ([v] ++ xs3))) ∧ Below w.heap.size w w' := by
  subst h1 h3
  have b1 := (Below.refl w.heap.size w).alloc (Nat.le_refl _) (.cells #[.int .u64 v] 22)
  have z1 : (w.alloc (.cells #[.int .u64 v] 22)).heap.size = w.heap.size + 1 := by simp
  have R2 : Rh (w.alloc (.cells #[.int .u64 v] 22)) (w.heap.size + 1) (some ⟨w.heap.size, 0, none⟩) [v] := rh_new w [v]
  have R1 := (r1.below b1 hB).more (show B ≤ w.heap.size + 1 by omega)
  have R3 := (r3.below b1 hB).more (show B ≤ w.heap.size + 1 by omega)
  clear r1 r3
  generalize w.alloc (.cells #[.int .u64 v] 22) = W at *
  have b2 := (Below.refl W.heap.size W).alloc (Nat.le_refl _) (.cells #[.slice A1 xs1.length c1, .slice (some ⟨w.heap.size, 0, none⟩) 1 1, .slice A3 xs3.length c3] 47)
  have HP : Parts (W.alloc (.cells #[.slice A1 xs1.length c1, .slice (some ⟨w.heap.size, 0, none⟩) 1 1, .slice A3 xs3.length c3] 47)) (w.heap.size + 1) (w.heap.size + 1) 0 [(A1, c1, xs1), (some ⟨w.heap.size, 0, none⟩, 1, [v]), (A3, c3, xs3)] := by
    intro k hk
    rw [← z1]
    rw [← z1] at R1 R2 R3
    match k, hk with
    | 0, _ => exact ⟨by rw [Nat.zero_add, World.cell?_alloc_new]; rfl, R1.below b2 (Nat.le_refl _)⟩
    | 1, _ => exact ⟨by rw [Nat.zero_add, World.cell?_alloc_new]; rfl, R2.below b2 (Nat.le_refl _)⟩
    | 2, _ => exact ⟨by rw [Nat.zero_add, World.cell?_alloc_new]; rfl, R3.below b2 (Nat.le_refl _)⟩
  have hcat : cat [(A1, c1, xs1), (some ⟨w.heap.size, 0, none⟩, 1, [v]), (A3, c3, xs3)] = xs1 ++ ([v] ++ xs3) := by simp [cat]
  have hl : (xs1 ++ ([v] ++ xs3)).length ≤ 1099511627776 := by simp; omega
  have c1 := concat_any (W.alloc (.cells #[.slice A1 xs1.length c1, .slice (some ⟨w.heap.size, 0, none⟩) 1 1, .slice A3 xs3.length c3] 47)).drew (w.heap.size + 1) (w.heap.size + 1) 0 3 [(A1, c1, xs1), (some ⟨w.heap.size, 0, none⟩, 1, [v]), (A3, c3, xs3)] HP (by simp [World.drew]; omega) (by simp [World.drew]; omega) (by rw [hcat]; exact hl) (by simp)
  rw [hcat] at c1
  refine c1.mono ?_
  rintro e w2 ⟨v', rfl, g1, g2⟩
  exact ⟨v', rfl, own_low g1 (by simp [World.drew]; omega), b1.trans ((b2.mono (by omega)).trans (Below.mono (show Below _ _ _ from ⟨g2.os, g2.tape, g2.output, g2.size, g2.block⟩) (by simp [World.drew]; omega)))⟩
def AddP (w : World) (n : Nat) (xs : List Int) (v : Int) (e : Ending) (w' : World) : Prop := ∃ (val : Value) (zs : List Int), e = .returned (.tuple #[val, .bool (!decide (v ∈ xs))]) ∧ zs.Pairwise (· < ·) ∧ (∀ x, x ∈ zs ↔ x ∈ xs ∨ x = v) ∧ zs.length ≤ n + 1 ∧ w'.ownsRow w.heap.size 22 1 val zs.length (hv zs) ∧ Below w.heap.size w w'
set_option maxHeartbeats 8000000 in
set_option maxRecDepth 100000 in
theorem a_add (w : World) (B n c : Nat) (A : Option Addr) (xs : List Int) (v : Int) (hn : n = xs.length) (hr : Rh w B A xs) (hs : xs.Pairwise (· < ·)) (hB : B ≤ w.heap.size) (hc : n ≤ c) (few : n ≤ 1000000) :
    Calls Tryz.prog 48 #[.slice A n c, .int .u64 v] w (AddP w n xs v) := by
  have HS := Lib.hid (a_search w B n c A xs v hn hr hs few)
  by_cases hv : v ∈ xs
  · have hd : decide (v ∈ xs) = true := decide_eq_true hv
    rw [hd] at HS
    have HC := Lib.hid (copy_any w B n c A xs hn hr hB few)
    have HV := Lib.hid hv
    have HSS := Lib.hid hs
    have HN := Lib.hid hn
    unfold AddP
    rw [hd]
    generalize M.rRank xs v = r at *
    clear hn hr hs hB hv hd
    go_enter Tryz.func48, Tryz.ntmps48
    go_wp2_with (first
      | (go_at_call 85; (with_reducible refine HS.out.mono ?_); rintro e w' ⟨rfl, rfl⟩)
      | (go_at_call 86; (with_reducible refine HC.out.mono ?_); rintro e w2 ⟨val, rfl, h1, h2⟩; replace h1 := Lib.hid h1; replace h2 := Lib.hid h2))
    go_ret2
    exact ⟨val, xs, rfl, HSS.out, fun x => ⟨.inl, fun h => h.elim id (fun e => e ▸ HV.out)⟩, by have := HN.out; omega, h1.out, h2.out⟩
  · have hd : decide (v ∈ xs) = false := decide_eq_false hv
    rw [hd] at HS
    have HH := rank_half hs v
    have hrl := rank_le xs v
    unfold AddP
    rw [hd]
    generalize M.rRank xs v = r at *
    have SRT := Lib.hid (sort_add hs HH hv)
    have MEM := Lib.hid (mem_add (xs := xs) (v := v) (r := r))
    have R1 := Lib.hid (rh_take (l := r) hr)
    have R3 := Lib.hid (cutA_rh (l := r) (h := n) hr hn (by omega) (Nat.le_refl _) hc)
    obtain ⟨g1, g2⟩ := cut_h A n c r (r : Int) rfl (by omega) hc
    obtain ⟨g3, g4⟩ := cut_l A n c r (r : Int) rfl (by omega)
    have hrc : (r : Int) ≤ (c : Int) := by omega
    have hrn : (r : Int) ≤ (n : Int) := by omega
    have HN := Lib.hid hn
    have HB := Lib.hid hB
    clear hn hs hrl hr hv hd HH hB
    go_enter Tryz.func48, Tryz.ntmps48
    go_wp2_with (go_at_call 85; (with_reducible refine HS.out.mono ?_); rintro e w' ⟨rfl, rfl⟩)
    have HC := Lib.hid (cat_three w B r c (n - r) (c - r) A (cutA A r c) (xs.take r) (xs.drop r) v (by rw [List.length_take]; have := HN.out; omega) (by rw [List.length_drop, HN.out]) R1.out (by have h := R3.out; rw [HN.out, List.take_length] at h; exact h) HB.out (by omega) (by omega))
    have HLL : Hid ((xs.take r ++ ([v] ++ xs.drop r)).length ≤ n + 1) := by
      show _ ≤ _
      rw [List.length_append, List.length_append, List.length_take, List.length_drop]
      have := HN.out
      simp
      omega
    clear R1 R3 HN HB
    generalize xs.take r ++ ([v] ++ xs.drop r) = ys at *
    go_region_held3 (fun _ => True) (trivial) (first
      | (go_at_call 86; (with_reducible refine HC.out.mono ?_); rintro e w2 ⟨val, rfl, h1, h2⟩; replace h1 := Lib.hid h1; replace h2 := Lib.hid h2))
    all_goals
      go_wp2
      go_ret2
      exact ⟨val, ys, rfl, SRT.out, MEM.out, HLL.out, h1.out, h2.out⟩
def DropP (w : World) (n : Nat) (xs : List Int) (v : Int) (e : Ending) (w' : World) : Prop := ∃ (val : Value) (zs : List Int), e = .returned (.tuple #[val, .bool (decide (v ∈ xs))]) ∧ zs.Pairwise (· < ·) ∧ (∀ x, x ∈ zs ↔ x ∈ xs ∧ x ≠ v) ∧ zs.length ≤ n ∧ w'.ownsRow w.heap.size 22 1 val zs.length (hv zs) ∧ Below w.heap.size w w'
end Go.Proofs.YtialjokdaniofaaGreat.Kb
end
section
namespace Go.Proofs.YtialjokdaniofaaGreat.Kb
set_option maxRecDepth 20000
open Go.RowKit
end Go.Proofs.YtialjokdaniofaaGreat.Kb
end
