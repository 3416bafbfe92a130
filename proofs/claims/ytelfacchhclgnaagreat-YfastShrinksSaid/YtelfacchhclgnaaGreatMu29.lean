/- Cuts of lists of 64-bit numbers; Add, Drop, Part; the text walked. Add, Drop, Part; the text walked. array.Is, and the awake test of the laws; the text walked. A bucket's functions (Has, Add, Drop, Next, Prev, Split, Merge, Of, Is), told by the document's lists of keys; the texts walked. A bucket's Merge, Of and Is, told by the document's lists of keys; the texts walked. -/
import Derived.Deep.RegionHeld3
import Derived.Test.YtelfacchhclgnaaGreatMu28
import Derived.Test.YtelfacchhclgnaaGreatMu02
import Derived.Test.YtelfacchhclgnaaGreatMu03
section
namespace Go.Proofs.YtelfacchhclgnaaGreat.Kb
set_option maxRecDepth 20000
open Go.RowKit Go.Shelf
def cutA (A : Option Addr) (l c : Nat) : Option Addr := if c = l then A else A.map (·.add (l * 1))
theorem cutA_rh {w : World} {B n c l h : Nat} {A : Option Addr} {xs : List Int} (hr : Rh w B A xs) (hn : n = xs.length) (hl : l ≤ h) (hh : h ≤ n) (hc : n ≤ c) : Rh w B (cutA A l c) ((xs.take h).drop l) := by
  intro hne
  have hlen : ((xs.take h).drop l).length = h - l := by rw [List.length_drop, List.length_take]; omega
  have hlt : l < h := by
    rcases Nat.lt_or_ge l h with e | e
    · exact e
    · exact absurd (List.eq_nil_of_length_eq_zero (by omega)) hne
  obtain ⟨b, off, rfl, hb, hcl⟩ := hr (by intro e; subst e; simp at hn; omega)
  refine ⟨b, off + l, ?_, hb, fun k hk => ?_⟩
  · unfold cutA
    rw [if_neg (by omega)]
    show some _ = some _
    unfold Addr.add
    by_cases h0 : l = 0 <;> simp [h0]
  · have h2 : l + k < xs.length := by omega
    have := hcl (l + k) h2
    rw [show off + l + k = off + (l + k) by omega, this]
    simp
theorem cut_l (A : Option Addr) (n c l : Nat) (L : Int) (hL : L = (l : Int)) (hl : l ≤ n) : (∀ w, (Instr.sliceAt 47 (.slice A n c) (some (.int .i64 L)) none none).run Tryz.prog w = .ok (.slice (cutA A l c) (n - l) (c - l)) w) ∧
    (∀ w, (Instr.slice 47 (.slice A n c) (some (.int .i64 L)) none none).run Tryz.prog w = .ok (.slice (cutA A l c) (n - l) (c - l)) w) := by
  subst hL
  have hu : Tryz.prog.underlying 47 = some (.slice (Tryz.prog.elem 47)) := by kernel_rfl
  have hz : ∀ w, (Go.sizeOf (Tryz.prog.elem 47)).run Tryz.prog w = .ok 1 w := fun w => Tryz.sizeOf22 w
  have h2 : ∀ w, (Instr.slice 47 (.slice A n c) (some (.int .i64 (l : Int))) none none).run Tryz.prog w = .ok (sliced A l n c 1) w := fun w => by
    have h := run_slice_l (P := Tryz.prog) (w := w) (t := 47) (a := A) (len := n) (cap := c) (ht := hu) (kl := .i64) (l := (l : Int)) (h0 := by omega) (h1 := by omega)
    rw [h, hz]
    simp [Result.andThen]
  exact ⟨fun w => (run_sliceAt_slice (w := w) (h := hu) ..).trans (h2 w), h2⟩
theorem cut_h (A : Option Addr) (n c l : Nat) (L : Int) (hL : L = (l : Int)) (hl : l ≤ n) (hc : n ≤ c) : (∀ w, (Instr.sliceAt 47 (.slice A n c) none (some (.int .i64 L)) none).run Tryz.prog w = .ok (.slice A l c) w) ∧
    (∀ w, (Instr.slice 47 (.slice A n c) none (some (.int .i64 L)) none).run Tryz.prog w = .ok (.slice A l c) w) := by
  subst hL
  have hu : Tryz.prog.underlying 47 = some (.slice (Tryz.prog.elem 47)) := by kernel_rfl
  have hz : ∀ w, (Go.sizeOf (Tryz.prog.elem 47)).run Tryz.prog w = .ok 1 w := fun w => Tryz.sizeOf22 w
  have h2 : ∀ w, (Instr.slice 47 (.slice A n c) none (some (.int .i64 (l : Int))) none).run Tryz.prog w = .ok (.slice A l c) w := fun w => by
    have h := run_slice_h (P := Tryz.prog) (w := w) (t := 47) (a := A) (len := n) (cap := c) (ht := hu) (kh := .i64) (h := (l : Int)) (h0 := by omega) (h2 := by omega)
    rw [h, hz]
    simp [Result.andThen]
    cases A <;> simp [sliced, Addr.add]
  exact ⟨fun w => (run_sliceAt_slice (w := w) (h := hu) ..).trans (h2 w), h2⟩
theorem rh_take {w : World} {B l : Nat} {A : Option Addr} {xs : List Int} (hr : Rh w B A xs) : Rh w B A (xs.take l) := by
  intro hne
  obtain ⟨b, off, rfl, hb, hcl⟩ := hr (by intro e; subst e; simp at hne)
  refine ⟨b, off, rfl, hb, fun k hk => ?_⟩
  have h2 : k < xs.length := by rw [List.length_take] at hk; omega
  rw [hcl k h2]
  simp
theorem take_lt {xs : List Int} {v : Int} {r : Nat} (h : Half xs v r r) {x : Int} (hx : x ∈ xs.take r) : x < v := by
  obtain ⟨k, hk, rfl⟩ := List.getElem_of_mem hx
  rw [List.getElem_take]
  rw [List.length_take] at hk
  exact h.1 k (by omega) (by omega)
theorem drop_ge {xs : List Int} {v : Int} {r : Nat} (h : Half xs v r r) {x : Int} (hx : x ∈ xs.drop r) : v ≤ x := by
  obtain ⟨k, hk, rfl⟩ := List.getElem_of_mem hx
  rw [List.getElem_drop]
  rw [List.length_drop] at hk
  exact h.2 (r + k) (by omega) (by omega)
theorem sort_add {xs : List Int} {v : Int} {r : Nat} (hs : xs.Pairwise (· < ·)) (h : Half xs v r r) (hn : ¬ v ∈ xs) : (xs.take r ++ ([v] ++ xs.drop r)).Pairwise (· < ·) :=
  List.pairwise_append.2 ⟨hs.sublist (List.take_sublist _ _), List.pairwise_append.2 ⟨List.pairwise_singleton _ _, hs.sublist (List.drop_sublist _ _), fun x hx y hy => by
    rw [List.mem_singleton] at hx
    subst hx
    have h1 := drop_ge h hy
    have h2 : x ≠ y := fun e => hn (e ▸ List.mem_of_mem_drop hy)
    omega⟩, fun x hx y hy => by
    have h1 := take_lt h hx
    rcases List.mem_append.1 hy with h2 | h2
    · rw [List.mem_singleton] at h2; omega
    · have := drop_ge h h2; omega⟩
theorem mem_add {xs : List Int} {v : Int} {r : Nat} (x : Int) : x ∈ xs.take r ++ ([v] ++ xs.drop r) ↔ x ∈ xs ∨ x = v := by
  have h : x ∈ xs ↔ x ∈ xs.take r ∨ x ∈ xs.drop r := by rw [← List.mem_append, List.take_append_drop]
  rw [h, List.mem_append, List.mem_append, List.mem_singleton]
  constructor
  · rintro (h | h | h)
    · exact .inl (.inl h)
    · exact .inr h
    · exact .inl (.inr h)
  · rintro ((h | h) | h)
    · exact .inl h
    · exact .inr (.inr h)
    · exact .inr (.inl h)
theorem sort_drop {xs : List Int} {r : Nat} (hs : xs.Pairwise (· < ·)) : (xs.take r ++ xs.drop (r + 1)).Pairwise (· < ·) := by
  have h : (xs.take r ++ xs.drop (r + 1)).Sublist (xs.take r ++ xs.drop r) := List.Sublist.append (List.Sublist.refl _) (by rw [← List.drop_drop]; exact List.drop_sublist _ _)
  rw [List.take_append_drop] at h
  exact hs.sublist h
theorem mem_drop {xs : List Int} {v : Int} {r : Nat} (hs : xs.Pairwise (· < ·)) (hr : r < xs.length) (he : xs[r] = v) (x : Int) : x ∈ xs.take r ++ xs.drop (r + 1) ↔ x ∈ xs ∧ x ≠ v := by
  have h : x ∈ xs ↔ x ∈ xs.take r ∨ x = v ∨ x ∈ xs.drop (r + 1) := by
    conv => lhs; rw [← List.take_append_drop r xs, List.mem_append, List.drop_eq_getElem_cons hr, List.mem_cons, he]
  have h1 : x ∈ xs.take r → x ≠ v := fun hx => by
    obtain ⟨k, hk, rfl⟩ := List.getElem_of_mem hx
    rw [List.getElem_take, ← he]
    rw [List.length_take] at hk
    exact Int.ne_of_lt (List.pairwise_iff_getElem.1 hs k r (by omega) hr (by omega))
  have h2 : x ∈ xs.drop (r + 1) → x ≠ v := fun hx => by
    obtain ⟨k, hk, rfl⟩ := List.getElem_of_mem hx
    rw [List.getElem_drop, ← he]
    rw [List.length_drop] at hk
    exact (Int.ne_of_lt (List.pairwise_iff_getElem.1 hs r (r + 1 + k) hr (by omega) (by omega))).symm
  rw [h, List.mem_append]
  constructor
  · rintro (h | h)
    · exact ⟨.inl h, h1 h⟩
    · exact ⟨.inr (.inr h), h2 h⟩
  · rintro ⟨h | h | h, hne⟩
    · exact .inl h
    · exact absurd h hne
    · exact .inr h
end Go.Proofs.YtelfacchhclgnaaGreat.Kb
end
section
namespace Go.Proofs.YtelfacchhclgnaaGreat.Kb
set_option maxRecDepth 20000
open Go.RowKit Go.Shelf
theorem rh_lit (w : World) (xs : List Int) (hne : ∀ k (h : k < xs.length), (w.alloc (.cells (hv xs).toArray 22)).cell? ⟨w.heap.size, 0 + k, none⟩ = some (.int .u64 xs[k])) : Rh (w.alloc (.cells (hv xs).toArray 22)) (w.heap.size + 1) (some ⟨w.heap.size, 0, none⟩) xs :=
  fun _ => ⟨w.heap.size, 0, rfl, by omega, hne⟩
theorem lit_cell (w : World) (xs : List Int) (k : Nat) (h : k < xs.length) : (w.alloc (.cells (hv xs).toArray 22)).cell? ⟨w.heap.size, 0 + k, none⟩ = some (.int .u64 xs[k]) := by
  rw [Nat.zero_add, World.cell?_alloc_new]
  simp [hv, h]
theorem rh_new (w : World) (xs : List Int) : Rh (w.alloc (.cells (hv xs).toArray 22)) (w.heap.size + 1) (some ⟨w.heap.size, 0, none⟩) xs := rh_lit w xs (lit_cell w xs)
theorem own_reads {w : World} {base : Nat} {v : Value} {xs : List Int} (h : w.ownsRow base 22 1 v xs.length (hv xs)) : ∃ A c, v = .slice A xs.length c ∧ Rh w w.heap.size A xs ∧ xs.length ≤ c := by
  have hc := own_cap h
  obtain ⟨A, c, rfl, hr, _⟩ := Rh.of_own h
  exact ⟨A, c, rfl, hr, hc A c rfl⟩
theorem copy_any (w : World) (B n c : Nat) (A : Option Addr) (xs : List Int) (hn : n = xs.length) (hr : Rh w B A xs) (hB : B ≤ w.heap.size) (few : n ≤ 1000000) :
    Calls Tryz.prog 86 #[.slice (some ⟨w.heap.size, 0, none⟩) 1 1] (w.alloc (.cells #[.slice A n c] 47)) fun e w' => ∃ v, e = .returned v ∧ w'.ownsRow w.heap.size 22 1 v xs.length (hv xs) ∧ Below w.heap.size w w' := by
  have HP := Lib.hid (rh_cell (c := c) hr hn hB)
  have hcat : cat [(A, c, xs)] = xs := by simp [cat]
  have hB1 : B ≤ (w.alloc (.cells #[.slice A n c] 47)).heap.size := by simp; omega
  have hb0 := (Below.refl w.heap.size w).alloc (Nat.le_refl _) (.cells #[.slice A n c] 47)
  have c1 := concat_any (w.alloc (.cells #[.slice A n c] 47)) B w.heap.size 0 1 [(A, c, xs)] HP.out hB1 (by simp) (by rw [hcat, ← hn]; omega) (by simp)
  rw [hcat] at c1
  have c2 : Calls Tryz.prog 86 #[.slice (some ⟨w.heap.size, 0, none⟩) 1 1] (w.alloc (.cells #[.slice A n c] 47)) _ := c1
  refine c2.mono ?_
  rintro e w2 ⟨v, rfl, h1, h2⟩
  exact ⟨v, rfl, own_low h1 (by simp), hb0.trans (h2.mono (by simp))⟩
theorem cat_three (w : World) (B n1 c1 n3 c3 : Nat) (A1 A3 : Option Addr) (xs1 xs3 : List Int) (v : Int) (h1 : n1 = xs1.length) (h3 : n3 = xs3.length) (r1 : Rh w B A1 xs1) (r3 : Rh w B A3 xs3) (hB : B ≤ w.heap.size) (f1 : n1 ≤ 1000000) (f3 : n3 ≤ 1000000) :
    Calls Tryz.prog 86 #[.slice (some ⟨w.heap.size + 1, 0, none⟩) 3 3] ((w.alloc (.cells #[.int .u64 v] 22)).alloc (.cells #[.slice A1 n1 c1, .slice (some ⟨w.heap.size, 0, none⟩) 1 1, .slice A3 n3 c3] 47)).drew
      fun e w' => ∃ v', e = .returned v' ∧ w'.ownsRow w.heap.size 22 1 v' (xs1 ++ ([v] ++ xs3)).length (hv (xs1 ++ ([v] ++ xs3))) ∧ Below w.heap.size w w' := by
  subst h1 h3
  have b1 := (Below.refl w.heap.size w).alloc (Nat.le_refl _) (.cells #[.int .u64 v] 22)
  have z1 : (w.alloc (.cells #[.int .u64 v] 22)).heap.size = w.heap.size + 1 := by simp
  have R2 : Rh (w.alloc (.cells #[.int .u64 v] 22)) (w.heap.size + 1) (some ⟨w.heap.size, 0, none⟩) [v] := rh_new w [v]
  have R1 := (r1.below b1 hB).more (show B ≤ w.heap.size + 1 by omega)
  have R3 := (r3.below b1 hB).more (show B ≤ w.heap.size + 1 by omega)
  clear r1 r3
  generalize w.alloc (.cells #[.int .u64 v] 22) = W at *
  have b2 := (Below.refl W.heap.size W).alloc (Nat.le_refl _) (.cells #[.slice A1 xs1.length c1, .slice (some ⟨w.heap.size, 0, none⟩) 1 1, .slice A3 xs3.length c3] 47)
  have HP : Parts (W.alloc (.cells #[.slice A1 xs1.length c1, .slice (some ⟨w.heap.size, 0, none⟩) 1 1, .slice A3 xs3.length c3] 47)) (w.heap.size + 1) (w.heap.size + 1) 0 [(A1, c1, xs1), (some ⟨w.heap.size, 0, none⟩, 1, [v]), (A3, c3, xs3)] := by
    intro k hk
    rw [← z1]
    rw [← z1] at R1 R2 R3
    match k, hk with
    | 0, _ => exact ⟨by rw [Nat.zero_add, World.cell?_alloc_new]; rfl, R1.below b2 (Nat.le_refl _)⟩
    | 1, _ => exact ⟨by rw [Nat.zero_add, World.cell?_alloc_new]; rfl, R2.below b2 (Nat.le_refl _)⟩
    | 2, _ => exact ⟨by rw [Nat.zero_add, World.cell?_alloc_new]; rfl, R3.below b2 (Nat.le_refl _)⟩
  have hcat : cat [(A1, c1, xs1), (some ⟨w.heap.size, 0, none⟩, 1, [v]), (A3, c3, xs3)] = xs1 ++ ([v] ++ xs3) := by simp [cat]
  have hl : (xs1 ++ ([v] ++ xs3)).length ≤ 1099511627776 := by simp; omega
  have c1 := concat_any (W.alloc (.cells #[.slice A1 xs1.length c1, .slice (some ⟨w.heap.size, 0, none⟩) 1 1, .slice A3 xs3.length c3] 47)).drew (w.heap.size + 1) (w.heap.size + 1) 0 3 [(A1, c1, xs1), (some ⟨w.heap.size, 0, none⟩, 1, [v]), (A3, c3, xs3)] HP (by simp [World.drew]; omega) (by simp [World.drew]; omega) (by rw [hcat]; exact hl) (by simp)
  rw [hcat] at c1
  refine c1.mono ?_
  rintro e w2 ⟨v', rfl, g1, g2⟩
  exact ⟨v', rfl, own_low g1 (by simp [World.drew]; omega), b1.trans ((b2.mono (by omega)).trans (Below.mono (show Below _ _ _ from ⟨g2.os, g2.tape, g2.output, g2.size, g2.block⟩) (by simp [World.drew]; omega)))⟩
def AddP (w : World) (n : Nat) (xs : List Int) (v : Int) (e : Ending) (w' : World) : Prop := ∃ (val : Value) (zs : List Int), e = .returned (.tuple #[val, .bool (!decide (v ∈ xs))]) ∧ zs.Pairwise (· < ·) ∧ (∀ x, x ∈ zs ↔ x ∈ xs ∨ x = v) ∧ zs.length ≤ n + 1 ∧ w'.ownsRow w.heap.size 22 1 val zs.length (hv zs) ∧ Below w.heap.size w w'
set_option maxHeartbeats 8000000 in
set_option maxRecDepth 100000 in
theorem a_add (w : World) (B n c : Nat) (A : Option Addr) (xs : List Int) (v : Int) (hn : n = xs.length) (hr : Rh w B A xs) (hs : xs.Pairwise (· < ·)) (hB : B ≤ w.heap.size) (hc : n ≤ c) (few : n ≤ 1000000) :
    Calls Tryz.prog 48 #[.slice A n c, .int .u64 v] w (AddP w n xs v) := by
  have HS := Lib.hid (a_search w B n c A xs v hn hr hs few)
  by_cases hv : v ∈ xs
  · have hd : decide (v ∈ xs) = true := decide_eq_true hv
    rw [hd] at HS
    have HC := Lib.hid (copy_any w B n c A xs hn hr hB few)
    have HV := Lib.hid hv
    have HSS := Lib.hid hs
    have HN := Lib.hid hn
    unfold AddP
    rw [hd]
    generalize M.rRank xs v = r at *
    clear hn hr hs hB hv hd
    go_enter Tryz.func48, Tryz.ntmps48
    go_wp2_with (first
      | (go_at_call 85; (with_reducible refine HS.out.mono ?_); rintro e w' ⟨rfl, rfl⟩)
      | (go_at_call 86; (with_reducible refine HC.out.mono ?_); rintro e w2 ⟨val, rfl, h1, h2⟩; replace h1 := Lib.hid h1; replace h2 := Lib.hid h2))
    go_ret2
    exact ⟨val, xs, rfl, HSS.out, fun x => ⟨.inl, fun h => h.elim id (fun e => e ▸ HV.out)⟩, by have := HN.out; omega, h1.out, h2.out⟩
  · have hd : decide (v ∈ xs) = false := decide_eq_false hv
    rw [hd] at HS
    have HH := rank_half hs v
    have hrl := rank_le xs v
    unfold AddP
    rw [hd]
    generalize M.rRank xs v = r at *
    have SRT := Lib.hid (sort_add hs HH hv)
    have MEM := Lib.hid (mem_add (xs := xs) (v := v) (r := r))
    have R1 := Lib.hid (rh_take (l := r) hr)
    have R3 := Lib.hid (cutA_rh (l := r) (h := n) hr hn (by omega) (Nat.le_refl _) hc)
    obtain ⟨g1, g2⟩ := cut_h A n c r (r : Int) rfl (by omega) hc
    obtain ⟨g3, g4⟩ := cut_l A n c r (r : Int) rfl (by omega)
    have hrc : (r : Int) ≤ (c : Int) := by omega
    have hrn : (r : Int) ≤ (n : Int) := by omega
    have HN := Lib.hid hn
    have HB := Lib.hid hB
    clear hn hs hrl hr hv hd HH hB
    go_enter Tryz.func48, Tryz.ntmps48
    go_wp2_with (go_at_call 85; (with_reducible refine HS.out.mono ?_); rintro e w' ⟨rfl, rfl⟩)
    have HC := Lib.hid (cat_three w B r c (n - r) (c - r) A (cutA A r c) (xs.take r) (xs.drop r) v (by rw [List.length_take]; have := HN.out; omega) (by rw [List.length_drop, HN.out]) R1.out (by have h := R3.out; rw [HN.out, List.take_length] at h; exact h) HB.out (by omega) (by omega))
    have HLL : Hid ((xs.take r ++ ([v] ++ xs.drop r)).length ≤ n + 1) := by
      show _ ≤ _
      rw [List.length_append, List.length_append, List.length_take, List.length_drop]
      have := HN.out
      simp
      omega
    clear R1 R3 HN HB
    generalize xs.take r ++ ([v] ++ xs.drop r) = ys at *
    go_region_held3 (fun _ => True) (trivial) (first
      | (go_at_call 86; (with_reducible refine HC.out.mono ?_); rintro e w2 ⟨val, rfl, h1, h2⟩; replace h1 := Lib.hid h1; replace h2 := Lib.hid h2))
    all_goals
      go_wp2
      go_ret2
      exact ⟨val, ys, rfl, SRT.out, MEM.out, HLL.out, h1.out, h2.out⟩
theorem cat_two (w : World) (B n1 c1 n3 c3 : Nat) (A1 A3 : Option Addr) (xs1 xs3 : List Int) (h1 : n1 = xs1.length) (h3 : n3 = xs3.length) (R1 : Rh w B A1 xs1) (R3 : Rh w B A3 xs3) (hB : B ≤ w.heap.size) (f1 : n1 ≤ 1000000) (f3 : n3 ≤ 1000000) :
    Calls Tryz.prog 86 #[.slice (some ⟨w.heap.size, 0, none⟩) 2 2] (w.alloc (.cells #[.slice A1 n1 c1, .slice A3 n3 c3] 47)).drew
      fun e w' => ∃ v', e = .returned v' ∧ w'.ownsRow w.heap.size 22 1 v' (xs1 ++ xs3).length (hv (xs1 ++ xs3)) ∧ Below w.heap.size w w' := by
  subst h1 h3
  have b2 := (Below.refl w.heap.size w).alloc (Nat.le_refl _) (.cells #[.slice A1 xs1.length c1, .slice A3 xs3.length c3] 47)
  have HP : Parts (w.alloc (.cells #[.slice A1 xs1.length c1, .slice A3 xs3.length c3] 47)) B w.heap.size 0 [(A1, c1, xs1), (A3, c3, xs3)] := by
    intro k hk
    match k, hk with
    | 0, _ => exact ⟨by rw [Nat.zero_add, World.cell?_alloc_new]; rfl, R1.below b2 hB⟩
    | 1, _ => exact ⟨by rw [Nat.zero_add, World.cell?_alloc_new]; rfl, R3.below b2 hB⟩
  have hcat : cat [(A1, c1, xs1), (A3, c3, xs3)] = xs1 ++ xs3 := by simp [cat]
  have hl : (xs1 ++ xs3).length ≤ 1099511627776 := by simp; omega
  have c1 := concat_any (w.alloc (.cells #[.slice A1 xs1.length c1, .slice A3 xs3.length c3] 47)).drew B w.heap.size 0 2 [(A1, c1, xs1), (A3, c3, xs3)] HP (by simp [World.drew]; omega) (by simp [World.drew]) (by rw [hcat]; exact hl) (by simp)
  rw [hcat] at c1
  refine c1.mono ?_
  rintro e w2 ⟨v', rfl, g1, g2⟩
  exact ⟨v', rfl, own_low g1 (by simp [World.drew]), b2.trans (Below.mono (show Below _ _ _ from ⟨g2.os, g2.tape, g2.output, g2.size, g2.block⟩) (by simp [World.drew]))⟩
def DropP (w : World) (n : Nat) (xs : List Int) (v : Int) (e : Ending) (w' : World) : Prop := ∃ (val : Value) (zs : List Int), e = .returned (.tuple #[val, .bool (decide (v ∈ xs))]) ∧ zs.Pairwise (· < ·) ∧ (∀ x, x ∈ zs ↔ x ∈ xs ∧ x ≠ v) ∧ zs.length ≤ n ∧ w'.ownsRow w.heap.size 22 1 val zs.length (hv zs) ∧ Below w.heap.size w w'
set_option maxHeartbeats 8000000 in
set_option maxRecDepth 100000 in
theorem a_drop (w : World) (B n c : Nat) (A : Option Addr) (xs : List Int) (v : Int) (hn : n = xs.length) (hr : Rh w B A xs) (hs : xs.Pairwise (· < ·)) (hB : B ≤ w.heap.size) (hc : n ≤ c) (few : n ≤ 1000000) :
    Calls Tryz.prog 54 #[.slice A n c, .int .u64 v] w (DropP w n xs v) := by
  have HS := Lib.hid (a_search w B n c A xs v hn hr hs few)
  by_cases hv : v ∈ xs
  · have hd : decide (v ∈ xs) = true := decide_eq_true hv
    rw [hd] at HS
    have HH := rank_half hs v
    obtain ⟨hrl, hre⟩ := (mem_at HH.1 HH.2 hs).1 hv
    unfold DropP
    rw [hd]
    generalize M.rRank xs v = r at *
    have SRT := Lib.hid (sort_drop (r := r) hs)
    have MEM := Lib.hid (mem_drop hs hrl hre)
    have R1 := Lib.hid (rh_take (l := r) hr)
    have R3 := Lib.hid (cutA_rh (l := r + 1) (h := n) hr hn (by omega) (Nat.le_refl _) hc)
    obtain ⟨g1, g2⟩ := cut_h A n c r (r : Int) rfl (by omega) hc
    obtain ⟨g3, g4⟩ := cut_l A n c (r + 1) ((r : Int) + 1) (by omega) (by omega)
    have hrc : (r : Int) ≤ (c : Int) := by omega
    have hrn : (r : Int) + 1 ≤ (n : Int) := by omega
    have wr1 : IntKind.i64.wrap ((r : Int) + 1) = (r : Int) + 1 := IntWalk.i64_in _ (by omega)
    have HN := Lib.hid hn
    have HB := Lib.hid hB
    have HRL := Lib.hid hrl
    clear hn hs hrl hre hr hv hd HH hB
    go_enter Tryz.func54, Tryz.ntmps54
    go_wp2_with (go_at_call 85; (with_reducible refine HS.out.mono ?_); rintro e w' ⟨rfl, rfl⟩)
    have HC := Lib.hid (cat_two w B r c (n - (r + 1)) (c - (r + 1)) A (cutA A (r + 1) c) (xs.take r) (xs.drop (r + 1)) (by rw [List.length_take]; have := HRL.out; omega) (by rw [List.length_drop, HN.out]) R1.out (by have h := R3.out; rw [HN.out, List.take_length] at h; exact h) HB.out (by omega) (by omega))
    have HLL : Hid ((xs.take r ++ xs.drop (r + 1)).length ≤ n) := by
      show _ ≤ _
      rw [List.length_append, List.length_take, List.length_drop]
      have := HN.out
      omega
    clear R1 R3 HN HB HRL
    generalize xs.take r ++ xs.drop (r + 1) = ys at *
    go_region_held3 (fun _ => True) (trivial) (first
      | (go_at_call 86; (with_reducible refine HC.out.mono ?_); rintro e w2 ⟨val, rfl, h1, h2⟩; replace h1 := Lib.hid h1; replace h2 := Lib.hid h2))
    all_goals
      go_wp2
      go_ret2
      exact ⟨val, ys, rfl, SRT.out, MEM.out, HLL.out, h1.out, h2.out⟩
  · have hd : decide (v ∈ xs) = false := decide_eq_false hv
    rw [hd] at HS
    have HC := Lib.hid (copy_any w B n c A xs hn hr hB few)
    have HV := Lib.hid hv
    have HSS := Lib.hid hs
    have HN := Lib.hid hn
    unfold DropP
    rw [hd]
    generalize M.rRank xs v = r at *
    clear hn hr hs hB hv hd
    go_enter Tryz.func54, Tryz.ntmps54
    go_wp2_with (first
      | (go_at_call 85; (with_reducible refine HS.out.mono ?_); rintro e w' ⟨rfl, rfl⟩)
      | (go_at_call 86; (with_reducible refine HC.out.mono ?_); rintro e w2 ⟨val, rfl, h1, h2⟩; replace h1 := Lib.hid h1; replace h2 := Lib.hid h2))
    go_ret2
    exact ⟨val, xs, rfl, HSS.out, fun x => ⟨fun h => ⟨h, fun e => HV.out (e ▸ h)⟩, fun h => h.1⟩, by have := HN.out; omega, h1.out, h2.out⟩
end Go.Proofs.YtelfacchhclgnaaGreat.Kb
end
section
namespace Go.Proofs.YtelfacchhclgnaaGreat.Kb
set_option maxRecDepth 20000
open Go.RowKit
end Go.Proofs.YtelfacchhclgnaaGreat.Kb
end
section
namespace Go.Proofs.YtelfacchhclgnaaGreat.Kb
set_option maxRecDepth 20000
open Go.RowKit Go.Shelf
abbrev iz (xs : List Nat) : List Int := xs.map fun x : Nat => (x : Int)
instance upDec (xs : List Nat) : Decidable (K.Up xs) := inferInstanceAs (Decidable (xs.Pairwise (· < ·)))
theorem iz_len (xs : List Nat) : (iz xs).length = xs.length := by simp
theorem hv_iz (xs : List Nat) : hv (iz xs) = wv xs := by simp [hv, wv]
theorem iz_up {xs : List Nat} (h : K.Up xs) : (iz xs).Pairwise (· < ·) := by
  unfold K.Up at h
  rw [List.pairwise_map]
  exact h.imp fun hab => by omega
theorem iz_mem {xs : List Nat} {x : Int} : x ∈ iz xs ↔ ∃ k : Nat, k ∈ xs ∧ (k : Int) = x := by simp [iz]
theorem iz_mem' {xs : List Nat} {k : Nat} : (k : Int) ∈ iz xs ↔ k ∈ xs := by
  rw [iz_mem]
  exact ⟨fun ⟨j, hj, e⟩ => (by omega : j = k) ▸ hj, fun h => ⟨k, h, rfl⟩⟩
theorem iz_back {zs : List Int} {ys : List Nat} (hz : zs.Pairwise (· < ·)) (hy : K.Up ys) (h : ∀ x, x ∈ zs ↔ x ∈ iz ys) : zs = iz ys := M.sorted_ext hz (iz_up hy) h
theorem rank_fi {xs : List Nat} (h : K.Up xs) (k : Nat) : M.rRank (iz xs) (k : Int) = K.fi xs k := by
  refine rank_at (by rw [iz_len]; exact K.fi_le xs k) (fun j hj hlt => ?_) (fun j hj hle => ?_)
  · obtain ⟨h1, h2⟩ := K.fi_lt hlt
    simp only [List.getElem_map]
    omega
  · have hj' : j < xs.length := by simpa using hj
    have h1 := K.fi_at (xs := xs) (k := k) (by omega)
    simp only [List.getElem_map]
    rcases Nat.lt_or_eq_of_le hle with e | e
    · have := K.up_lt h e hj'; omega
    · simp only [e] at h1; omega
theorem mem_fo {xs : List Nat} (h : K.Up xs) (k : Nat) : decide ((k : Int) ∈ iz xs) = K.fo xs k := by
  rw [Bool.eq_iff_iff, decide_eq_true_iff, iz_mem', K.fo_mem h]
theorem kx_rh {w : World} {v : Value} {xs : List Nat} (h : KX w v xs) : ∃ A c, v = .slice A xs.length c ∧ Rh w w.heap.size A (iz xs) ∧ xs.length ≤ c := by
  have h2 : w.ownsRow 0 22 1 v (iz xs).length (hv (iz xs)) := by rw [hv_iz, iz_len]; exact h
  obtain ⟨A, c, h3, h4, h5⟩ := own_reads h2
  rw [iz_len] at h3 h5
  exact ⟨A, c, h3, h4, h5⟩
/-- A new row with these keys. -/
def KN (w w' : World) (v : Value) (xs : List Nat) : Prop := w'.ownsRow w.heap.size 22 1 v xs.length (wv xs)
theorem KN.kx {w w' : World} {v : Value} {xs : List Nat} (h : KN w w' v xs) : KX w' v xs := own_low h (Nat.zero_le _)
theorem KN.new {w w' : World} {v : Value} {xs : List Nat} (h : KN w w' v xs) {g : Nat} (hg : v.ownBlock = some g) : w.heap.size ≤ g ∧ g < w'.heap.size := h.lt g hg
theorem KN.of {w w' : World} {v : Value} {zs : List Int} {xs : List Nat} (h : w'.ownsRow w.heap.size 22 1 v zs.length (hv zs)) (e : zs = iz xs) : KN w w' v xs := by
  subst e
  rw [hv_iz, iz_len] at h
  exact h
section
variable (w : World) (v : Value) (xs : List Nat) (h : KX w v xs) (hu : K.Up xs) (few : xs.length ≤ 1000000) (k : Nat)
include h hu few
theorem b_search : Calls Tryz.prog 85 #[v, .int .u64 (k : Int)] w fun e w' => e = .returned (.tuple #[.int .i64 (K.fi xs k : Nat), .bool (K.fo xs k)]) ∧ w = w' := by
  obtain ⟨A, c, rfl, hr, hc⟩ := kx_rh h
  have H := a_search w w.heap.size xs.length c A (iz xs) (k : Int) (iz_len xs).symm hr (iz_up hu) few
  rw [rank_fi hu, mem_fo hu] at H
  exact H
theorem b_add : Calls Tryz.prog 48 #[v, .int .u64 (k : Int)] w fun e w' => ∃ v', e = .returned (.tuple #[v', .bool (!K.fo xs k)]) ∧ KN w w' v' (K.add xs k) ∧ Below w.heap.size w w' := by
  obtain ⟨A, c, rfl, hr, hc⟩ := kx_rh h
  refine (a_add w w.heap.size xs.length c A (iz xs) (k : Int) (iz_len xs).symm hr (iz_up hu) (Nat.le_refl _) hc few).mono ?_
  rintro e w' ⟨val, zs, rfl, h1, h2, h3, h4, h5⟩
  rw [mem_fo hu]
  refine ⟨val, rfl, KN.of h4 (iz_back h1 (K.add_up hu k) fun x => ?_), h5⟩
  rw [h2 x, iz_mem, iz_mem]
  constructor
  · rintro (⟨j, hj, rfl⟩ | rfl)
    · exact ⟨j, (K.add_mem hu k j).2 (.inr hj), rfl⟩
    · exact ⟨k, (K.add_mem hu k k).2 (.inl rfl), rfl⟩
  · rintro ⟨j, hj, rfl⟩
    rcases (K.add_mem hu k j).1 hj with rfl | hj
    · exact .inr rfl
    · exact .inl ⟨j, hj, rfl⟩
theorem b_drop : Calls Tryz.prog 54 #[v, .int .u64 (k : Int)] w fun e w' => ∃ v', e = .returned (.tuple #[v', .bool (K.fo xs k)]) ∧ KN w w' v' (K.drop xs k) ∧ Below w.heap.size w w' := by
  obtain ⟨A, c, rfl, hr, hc⟩ := kx_rh h
  refine (a_drop w w.heap.size xs.length c A (iz xs) (k : Int) (iz_len xs).symm hr (iz_up hu) (Nat.le_refl _) hc few).mono ?_
  rintro e w' ⟨val, zs, rfl, h1, h2, h3, h4, h5⟩
  rw [mem_fo hu]
  refine ⟨val, rfl, KN.of h4 (iz_back h1 (K.drop_up hu k) fun x => ?_), h5⟩
  rw [h2 x, iz_mem, iz_mem]
  constructor
  · rintro ⟨⟨j, hj, rfl⟩, hne⟩
    exact ⟨j, (K.drop_mem hu k j).2 ⟨fun e => hne (by rw [e]), hj⟩, rfl⟩
  · rintro ⟨j, hj, rfl⟩
    obtain ⟨a, b⟩ := (K.drop_mem hu k j).1 hj
    exact ⟨⟨j, b, rfl⟩, fun e => a (by omega)⟩
end
set_option maxHeartbeats 2000000 in
theorem b_at_no (w : World) (v : Value) (xs : List Nat) (h : KX w v xs) (i : Int) (hi : i < 0 ∨ (xs.length : Int) ≤ i) :
    Calls Tryz.prog 104 #[v, .int .i64 i] w fun e w' => e = .returned (.tuple #[.int .u64 0, .bool false]) ∧ w = w' := by
  obtain ⟨A, c, rfl, hr, hc⟩ := kx_rh h
  clear h hr
  rcases Int.lt_or_le i 0 with h0 | h0
  · have hd : decide (i < 0) = true := decide_eq_true h0
    go_enter Tryz.func104, Tryz.ntmps104
    go_wp2
    go_ret2
    exact ⟨rfl, rfl⟩
  · obtain ⟨j, rfl⟩ : ∃ j : Nat, i = (j : Int) := ⟨i.toNat, by omega⟩
    have hd : decide ((j : Int) < 0) = false := decide_eq_false (by omega)
    have hd2 : decide ((xs.length : Int) ≤ (j : Int)) = true := decide_eq_true (by omega)
    have hd3 : decide (xs.length ≤ j) = true := decide_eq_true (by omega)
    go_enter Tryz.func104, Tryz.ntmps104
    go_wp2
    go_ret2
    exact ⟨rfl, rfl⟩
set_option maxHeartbeats 2000000 in
theorem b_at_yes (w : World) (v : Value) (xs : List Nat) (h : KX w v xs) (j : Nat) (hj : j < xs.length) :
    Calls Tryz.prog 104 #[v, .int .i64 (j : Int)] w fun e w' => e = .returned (.tuple #[.int .u64 (xs[j] : Nat), .bool true]) ∧ w = w' := by
  rcases h.form with ⟨rfl, rfl⟩ | ⟨g, c, rfl, hc, hg, hcells⟩
  · simp at hj
  · have c0 := hcells j hj
    generalize xs[j] = a at *
    clear hcells h
    generalize xs.length = n at *
    have hd : decide ((j : Int) < 0) = false := decide_eq_false (by omega)
    have hd2 : decide ((n : Int) ≤ (j : Int)) = false := decide_eq_false (by omega)
    have hd3 : decide (n ≤ j) = false := decide_eq_false (by omega)
    go_enter Tryz.func104, Tryz.ntmps104
    go_wp2
    go_ret2
    exact ⟨rfl, rfl⟩
section
variable (w : World) (v : Value) (xs : List Nat) (h : KX w v xs) (hu : K.Up xs) (few : xs.length ≤ 1000000) (k : Nat)
include h hu few
set_option maxHeartbeats 2000000 in
theorem b_next : Calls Tryz.prog 59 #[v, .int .u64 (k : Int)] w fun e w' => e = .returned (.tuple #[.int .u64 (K.nx xs k : Nat), .bool (K.nxb xs k)]) ∧ w = w' := by
  have H := Lib.hid (b_search w v xs h hu few k)
  have H2 : Hid (Calls Tryz.prog 104 #[v, .int .i64 (K.fi xs k : Nat)] w fun e w' => e = .returned (.tuple #[.int .u64 (K.nx xs k : Nat), .bool (K.nxb xs k)]) ∧ w = w') := Lib.hid (by
    unfold K.nx K.nxb
    by_cases hF : K.fi xs k < xs.length
    · rw [decide_eq_true hF, List.getElem?_eq_getElem hF]
      exact b_at_yes w v xs h _ hF
    · rw [decide_eq_false hF, List.getElem?_eq_none (by omega)]
      exact b_at_no w v xs h _ (.inr (by omega)))
  clear h hu few
  generalize K.fi xs k = F at *
  go_enter Tryz.func59, Tryz.ntmps59
  go_wp2_with (first
    | (go_at_call 85; (with_reducible refine H.out.mono ?_); rintro e w' ⟨rfl, rfl⟩)
    | (go_at_call 104; (with_reducible refine H2.out.mono ?_); rintro e w' ⟨rfl, rfl⟩))
  go_ret2
  exact ⟨rfl, rfl⟩
set_option maxHeartbeats 2000000 in
theorem b_prev : Calls Tryz.prog 61 #[v, .int .u64 (k : Int)] w fun e w' => e = .returned (.tuple #[.int .u64 (K.pv xs k : Nat), .bool (K.pvb xs k)]) ∧ w = w' := by
  have H := Lib.hid (b_search w v xs h hu few k)
  cases hG : K.fo xs k with
  | true =>
    obtain ⟨hF, hk⟩ := K.fo_lt hG
    have H2 : Hid (Calls Tryz.prog 104 #[v, .int .i64 (K.fi xs k : Nat)] w fun e w' => e = .returned (.tuple #[.int .u64 (K.pv xs k : Nat), .bool (K.pvb xs k)]) ∧ w = w') := Lib.hid (by
      have e1 : K.pv xs k = xs[K.fi xs k] := by unfold K.pv; rw [hG, if_pos rfl, hk]
      have e2 : K.pvb xs k = true := by unfold K.pvb; rw [hG]; rfl
      rw [e1, e2]
      exact b_at_yes w v xs h _ hF)
    rw [hG] at H
    clear h hu few hk hF hG
    generalize K.fi xs k = F at *
    go_enter Tryz.func61, Tryz.ntmps61
    go_wp2_with (first
      | (go_at_call 85; (with_reducible refine H.out.mono ?_); rintro e w' ⟨rfl, rfl⟩)
      | (go_at_call 104; (with_reducible refine H2.out.mono ?_); rintro e w' ⟨rfl, rfl⟩))
    go_ret2
    exact ⟨rfl, rfl⟩
  | false =>
    have hle := K.fi_le xs k
    obtain ⟨q, hq⟩ : ∃ q : Int, ((K.fi xs k : Nat) : Int) - 1 = q := ⟨_, rfl⟩
    have H2 : Hid (Calls Tryz.prog 104 #[v, .int .i64 q] w fun e w' => e = .returned (.tuple #[.int .u64 (K.pv xs k : Nat), .bool (K.pvb xs k)]) ∧ w = w') := Lib.hid (by
      unfold K.pv K.pvb
      rw [hG]
      by_cases hF : K.fi xs k = 0
      · rw [if_neg (by decide), if_pos hF, decide_eq_true hF]
        exact b_at_no w v xs h _ (.inl (by omega))
      · rw [if_neg (by decide), if_neg hF, decide_eq_false hF, List.getElem?_eq_getElem (show K.fi xs k - 1 < xs.length by omega)]
        obtain rfl : q = ((K.fi xs k - 1 : Nat) : Int) := by omega
        exact b_at_yes w v xs h _ (by omega))
    rw [hG] at H
    have hw : IntKind.i64.wrap (((K.fi xs k : Nat) : Int) - 1) = q := by rw [hq]; exact IntWalk.i64_in _ (by omega)
    clear h hu few hG hq hle
    generalize K.fi xs k = F at *
    go_enter Tryz.func61, Tryz.ntmps61
    go_wp2_with (first
      | (go_at_call 85; (with_reducible refine H.out.mono ?_); rintro e w' ⟨rfl, rfl⟩)
      | (go_at_call 104; (with_reducible refine H2.out.mono ?_); rintro e w' ⟨rfl, rfl⟩))
    go_ret2
    exact ⟨rfl, rfl⟩
end
end Go.Proofs.YtelfacchhclgnaaGreat.Kb
end
section
namespace Go.Proofs.YtelfacchhclgnaaGreat.Kb
set_option maxRecDepth 20000
open Go.RowKit Go.Shelf
set_option maxHeartbeats 8000000 in
set_option maxRecDepth 100000 in
theorem merge_parts (w : World) (B gp cap n : Nat) (L : List Part) (hP : Parts w B gp 0 L) (hB : B ≤ w.heap.size) (hgp : gp < w.heap.size) (hL : L.length ≤ 1000) (hn : n = (cat L).length) (few : n ≤ 1000000) :
    Calls Tryz.prog 99 #[.slice (some ⟨gp, 0, none⟩) L.length cap] w fun e w' => ∃ (v : Value) (zs : List Int), e = .returned v ∧ zs.Pairwise (· < ·) ∧ (∀ x, x ∈ zs ↔ x ∈ cat L) ∧ w'.ownsRow w.heap.size 22 1 v zs.length (hv zs) ∧ Below w.heap.size w w' := by
  have c1 := concat_any w B gp 0 cap L hP hB hgp (by omega) (by omega)
  obtain ⟨xs, hxs⟩ : ∃ xs, xs = cat L := ⟨_, rfl⟩
  rw [← hxs] at c1 hn ⊢
  rw [← hn] at c1
  have C1 := Lib.hid c1
  have HN := Lib.hid hn
  clear c1 hxs hn hP
  generalize L.length = m at *
  go_enter Tryz.func99, Tryz.ntmps99
  go_wp2_with (go_at_call 86; (with_reducible refine C1.out.mono ?_); rintro e w2 ⟨v, rfl, h1, h2⟩; replace h1 := Lib.hid h1; replace h2 := Lib.hid h2)
  rcases own_two h1.out with ⟨rfl, h0⟩ | ⟨g, cap, rfl, hg⟩
  · have hx : xs = [] := List.eq_nil_of_length_eq_zero (by rw [← HN.out]; exact h0)
    have HX := Lib.hid hx
    clear hx h0
    go_wp2_with (first
      | (go_at_call 134; (with_reducible refine (sort_nil 0 w2).mono ?_); rintro e w' ⟨rfl, rfl⟩)
      | (go_at_call 135; (with_reducible refine (comp_nil 0 w2).mono ?_); rintro e w' ⟨rfl, rfl⟩))
    go_ret
    exact ⟨_, [], rfl, List.Pairwise.nil, fun x => by rw [HX.out], ⟨rfl, .inl ⟨rfl, rfl⟩⟩, h2.out⟩
  · have hxl : xs.length = n := HN.out.symm
    have s1 := so_sort w2 w.heap.size g n cap xs h1.out hxl (by omega)
    have S1 := Lib.hid s1
    have HX := Lib.hid hxl
    clear s1 hxl
    go_wp2_with (go_at_call 134; (with_reducible refine S1.out.mono ?_); rintro e w3 ⟨rfl, ys, p1, p2, p3, p4⟩; replace p1 := Lib.hid p1; replace p2 := Lib.hid p2; replace p3 := Lib.hid p3; replace p4 := Lib.hid p4)
    have s2 := so_comp w3 w.heap.size g n cap ys p3.out (by rw [p1.out.length_eq]; exact HX.out) p2.out (by omega)
    have S2 := Lib.hid s2
    clear s2
    go_wp2_with (go_at_call 135; (with_reducible refine S2.out.mono ?_); rintro e w4 ⟨zs, rfl, q1, q2, q3, q4, q5⟩; replace q5 := Lib.hid q5; replace q1 := Lib.hid q1; replace q2 := Lib.hid q2; replace q3 := Lib.hid q3; replace q4 := Lib.hid q4)
    go_ret
    have hb4 : ButS w2 w4 (· = g) := p4.out.trans q4.out
    exact ⟨_, zs, rfl, q1.out, fun x => by rw [q2.out x]; exact p1.out.mem_iff, q3.out, h2.out.trans (hb4.below h2.out.size (fun j e => by subst e; exact hg))⟩
/-- Merge of two lists, in a new row of slices: what one of them has. -/
theorem merge_two (w : World) (va vb : Value) (xs ys zs : List Nat) (ha : KX w va xs) (hb : KX w vb ys) (hz : K.Up zs) (hm : ∀ x, x ∈ zs ↔ x ∈ xs ∨ x ∈ ys) (la : xs.length ≤ 400000) (lb : ys.length ≤ 400000) :
    Calls Tryz.prog 99 #[.slice (some ⟨w.heap.size, 0, none⟩) 2 2] (w.alloc (.cells #[va, vb] 47)) fun e w' => ∃ v, e = .returned v ∧ KN w w' v zs ∧ Below w.heap.size w w' := by
  obtain ⟨A1, c1, rfl, r1, _⟩ := kx_rh ha
  obtain ⟨A2, c2, rfl, r2, _⟩ := kx_rh hb
  have b2 := (Below.refl w.heap.size w).alloc (Nat.le_refl _) (.cells #[.slice A1 xs.length c1, .slice A2 ys.length c2] 47)
  have HP : Parts (w.alloc (.cells #[.slice A1 xs.length c1, .slice A2 ys.length c2] 47)) w.heap.size w.heap.size 0 [(A1, c1, iz xs), (A2, c2, iz ys)] := by
    intro k hk
    match k, hk with
    | 0, _ => exact ⟨by rw [Nat.zero_add, World.cell?_alloc_new]; simp, r1.below b2 (Nat.le_refl _)⟩
    | 1, _ => exact ⟨by rw [Nat.zero_add, World.cell?_alloc_new]; simp, r2.below b2 (Nat.le_refl _)⟩
  have hcat : cat [(A1, c1, iz xs), (A2, c2, iz ys)] = iz xs ++ iz ys := by simp [cat]
  have M := merge_parts (w.alloc (.cells #[.slice A1 xs.length c1, .slice A2 ys.length c2] 47)) w.heap.size w.heap.size 2 _ [(A1, c1, iz xs), (A2, c2, iz ys)] HP (by simp) (by simp) (by simp) rfl (by rw [hcat]; simp; omega)
  rw [hcat] at M
  refine M.mono ?_
  rintro e w' ⟨v, ws, rfl, h1, h2, h3, h4⟩
  refine ⟨v, rfl, KN.of (own_low h3 (by simp)) (iz_back h1 hz fun x => ?_), b2.trans (h4.mono (by simp))⟩
  rw [h2 x, List.mem_append, iz_mem, iz_mem, iz_mem]
  constructor
  · rintro (⟨j, hj, rfl⟩ | ⟨j, hj, rfl⟩)
    · exact ⟨j, (hm j).2 (.inl hj), rfl⟩
    · exact ⟨j, (hm j).2 (.inr hj), rfl⟩
  · rintro ⟨j, hj, rfl⟩
    rcases (hm j).1 hj with h | h
    · exact .inl ⟨j, h, rfl⟩
    · exact .inr ⟨j, h, rfl⟩
end Go.Proofs.YtelfacchhclgnaaGreat.Kb
end
