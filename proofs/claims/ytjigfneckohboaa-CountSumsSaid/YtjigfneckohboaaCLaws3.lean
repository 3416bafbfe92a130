/- The law function CountSums: it returns true at every input, the text walked over the contracts; lists of meters, nil ones among them. -/
import Derived.Test.YtjigfneckohboaaCLaws
import Derived.Maps.AppendAt
namespace Go.Proofs.Ytjigfneckohboaa
open Go.RowKit

/-- The slice at A reads as these meters (none: a nil one). -/
def pv (g : Option Nat) : Value := .pointer (g.map fun g => ⟨g, 0, none⟩)
def Rp (w : World) (A : Option Addr) (xs : List (Option Nat)) : Prop :=
  ∀ (k : Nat) (h : k < xs.length), ∃ b off, A = some ⟨b, off, none⟩ ∧ w.cell? ⟨b, off + k, none⟩ = some (pv xs[k])
/-- The steps of one meter, by the script that it has gone through. -/
def stepsOf (f : Nat → List Nat) : Option Nat → Nat
  | none => 0
  | some g => M.cnt (f g) 1 + M.cnt (f g) 2
def topOf (f : Nat → List Nat) : Option Nat → Nat
  | none => 0
  | some g => M.top (f g)
def sumOf (f : Nat → List Nat) (l : List (Option Nat)) : Nat := l.foldl (fun n g => n + stepsOf f g) 0
def worstOf (f : Nat → List Nat) (l : List (Option Nat)) : Nat := l.foldl (fun n g => max n (topOf f g)) 0
theorem sumOf_snoc (f : Nat → List Nat) (l : List (Option Nat)) (g : Option Nat) : sumOf f (l ++ [g]) = sumOf f l + stepsOf f g := by simp [sumOf]
theorem worstOf_snoc (f : Nat → List Nat) (l : List (Option Nat)) (g : Option Nat) : worstOf f (l ++ [g]) = max (worstOf f l) (topOf f g) := by simp [worstOf]
theorem take_snocp {xs : List (Option Nat)} {k : Nat} (h : k < xs.length) : xs.take (k + 1) = xs.take k ++ [xs[k]] := by
  rw [List.take_succ_eq_append_getElem h]

def Good (w : World) (f : Nat → List Nat) (xs : List (Option Nat)) : Prop := ∀ g, some g ∈ xs → Ms w g (f g) ∧ (f g).length ≤ 100

set_option maxHeartbeats 1000000 in
theorem any_sum (A : Option Addr) (cp : Nat) (xs : List (Option Nat)) (f : Nat → List Nat) (w : World) (hr : Rp w A xs) (hg : Good w f xs) (hl : xs.length ≤ 1000) :
    Calls Try.prog 20 #[.slice A xs.length cp] w fun e w' => e = .returned (.int .i64 (sumOf f xs : Nat)) ∧ w = w' := by
  go_enter Try.func20, Try.ntmps20
  go_wp2
  go_loop [3, 8] (fun m i => ∃ k n : Nat, k ≤ xs.length ∧ i = .int .i64 k ∧ m = .int .i64 n ∧ n ≤ k * 200 ∧ Hid (sumOf f (xs.take k) = n)) (fun _ i => xs.length - (intOf i).toNat)
  case atStart => exact ⟨0, 0, by omega, rfl, rfl, by omega, rfl⟩
  case round =>
    obtain ⟨k, n, hk, rfl, rfl, hn, hs⟩ := hrel
    by_cases hlt : k < xs.length
    · obtain ⟨b, off, rfl, hc⟩ := hr k hlt
      have hmem : xs[k] ∈ xs := List.getElem_mem hlt
      have hss := Lib.hid (show sumOf f (xs.take (k + 1)) = n + stepsOf f xs[k] by rw [take_snocp hlt, sumOf_snoc, hs.out])
      generalize xs[k] = y at *
      cases y with
      | none =>
        have hc2 : w.cell? ⟨b, off + k, none⟩ = some (.pointer none) := hc
        clear hc
        go_wp2_with (first
          | (go_at_call 13; refine (m_reads_nil _).mono ?_; rintro e w' ⟨rfl, rfl⟩)
          | (go_at_call 14; refine (m_calls_nil _).mono ?_; rintro e w' ⟨rfl, rfl⟩))
        go_round
        case rel => exact ⟨k + 1, n, by omega, by go_num, rfl, by omega, hss⟩
        case measure => simp [intOf]; omega
      | some g =>
        obtain ⟨hm, hlg⟩ := hg g hmem
        have hc2 : w.cell? ⟨b, off + k, none⟩ = some (.pointer (some ⟨g, 0, none⟩)) := hc
        clear hc hmem
        have c1 := M.cnt_le (f g) 1
        have c2 := M.cnt_le (f g) 2
        have hss2 : Hid (sumOf f (xs.take (k + 1)) = n + (M.cnt (f g) 1 + M.cnt (f g) 2)) := hss
        have hmt := Lib.hid hm.mt
        clear hss hm
        generalize M.cnt (f g) 1 = r at *
        generalize M.cnt (f g) 2 = c at *
        go_wp2_with (first
          | (go_at_call 13; refine (m_reads _ g _ _ _ _ _ hmt.out).mono ?_; rintro e w' ⟨rfl, rfl⟩)
          | (go_at_call 14; refine (m_calls _ g _ _ _ _ _ hmt.out).mono ?_; rintro e w' ⟨rfl, rfl⟩))
        go_round
        case rel => exact ⟨k + 1, n + (r + c), by omega, by go_num, by go_num, by omega, hss2⟩
        case measure => simp [intOf]; omega
    · have e : xs.take k = xs := List.take_of_length_le (by omega)
      rw [e] at hs
      clear e
      go_wp2
      go_ret
      exact ⟨ret_int (by rw [hs.out]), rfl⟩

set_option maxHeartbeats 1000000 in
theorem any_worst (A : Option Addr) (cp : Nat) (xs : List (Option Nat)) (f : Nat → List Nat) (w : World) (hr : Rp w A xs) (hg : Good w f xs) (hl : xs.length ≤ 1000) :
    Calls Try.prog 21 #[.slice A xs.length cp] w fun e w' => e = .returned (.int .i64 (worstOf f xs : Nat)) ∧ w = w' := by
  go_enter Try.func21, Try.ntmps21
  go_wp2
  go_loop [3, 8] (fun m i => ∃ k n : Nat, k ≤ xs.length ∧ i = .int .i64 k ∧ m = .int .i64 n ∧ Hid (worstOf f (xs.take k) = n)) (fun _ i => xs.length - (intOf i).toNat)
  case atStart => exact ⟨0, 0, by omega, rfl, rfl, rfl⟩
  case round =>
    obtain ⟨k, n, hk, rfl, rfl, hs⟩ := hrel
    by_cases hlt : k < xs.length
    · obtain ⟨b, off, rfl, hc⟩ := hr k hlt
      have hmem : xs[k] ∈ xs := List.getElem_mem hlt
      have hss := Lib.hid (show worstOf f (xs.take (k + 1)) = max n (topOf f xs[k]) by rw [take_snocp hlt, worstOf_snoc, hs.out])
      generalize xs[k] = y at *
      cases y with
      | none =>
        have hc2 : w.cell? ⟨b, off + k, none⟩ = some (.pointer none) := hc
        clear hc
        go_wp2_with (go_at_call 15; refine (m_peak_nil _).mono ?_; rintro e w' ⟨rfl, rfl⟩)
        go_round
        case rel => exact ⟨k + 1, max n 0, by omega, by go_num, by first | go_num | (congr 1; omega), hss⟩
        case measure => simp [intOf]; omega
      | some g =>
        obtain ⟨hm, hlg⟩ := hg g hmem
        have hc2 : w.cell? ⟨b, off + k, none⟩ = some (.pointer (some ⟨g, 0, none⟩)) := hc
        clear hc hmem
        have hss2 : Hid (worstOf f (xs.take (k + 1)) = max n (M.top (f g))) := hss
        have hmt := Lib.hid hm.mt
        clear hss hm
        generalize M.top (f g) = p at *
        go_wp2_with (go_at_call 15; refine (m_peak _ g _ _ _ _ _ hmt.out).mono ?_; rintro e w' ⟨rfl, rfl⟩)
        go_round
        case rel => exact ⟨k + 1, max n p, by omega, by go_num, by first | go_num | (congr 1; omega), hss2⟩
        case measure => simp [intOf]; omega
    · have e : xs.take k = xs := List.take_of_length_le (by omega)
      rw [e] at hs
      clear e
      go_wp2
      go_ret
      exact ⟨ret_int (by rw [hs.out]), rfl⟩

theorem Rp.of_own {w : World} {base : Nat} {v : Value} {xs : List (Option Nat)} (h : w.ownsRow base 25 1 v xs.length (xs.map pv)) : ∃ A c, v = .slice A xs.length c ∧ Rp w A xs := by
  rcases h.2 with ⟨rfl, hn⟩ | ⟨g, cap, cur, rfl, hb, hh, _⟩
  · have : xs = [] := by simpa using hn
    subst this
    exact ⟨none, 0, rfl, fun k hk => by simp at hk⟩
  · refine ⟨_, _, rfl, fun k hk => ⟨g, 0, rfl, ?_⟩⟩
    have := h.cells (g := g) rfl k (pv xs[k]) (by simp [hk])
    rw [add_off] at this
    rw [Nat.zero_add]
    exact this
theorem ptr_info : (Try.prog.info? 25).map (fun i => (i.zero, i.size, i.bytes)) = some (some (.pointer none), 1, 8) := by kernel_rfl
theorem good_two {w : World} {g g' : Nat} {ds es : List Nat} (hne : g ≠ g') (h : Ms w g ds) (h' : Ms w g' es) (hl : ds.length ≤ 100) (hl' : es.length ≤ 100) (xs : List (Option Nat)) (hx : ∀ b, some b ∈ xs → b = g ∨ b = g') :
    Good w (fun b => if b = g then ds else es) xs := fun b hb => by
  rcases hx b hb with rfl | rfl
  · simp only [if_true]; exact ⟨h, hl⟩
  · have : ¬ b = g := fun e => hne e.symm
    simp only [this, if_false]; exact ⟨h', hl'⟩

theorem any_sum' (A : Option Addr) (cp n : Nat) (xs : List (Option Nat)) (f : Nat → List Nat) (w : World) (hr : Rp w A xs) (hg : Good w f xs) (hl : n ≤ 1000) (hn : xs.length = n) :
    Calls Try.prog 20 #[.slice A n cp] w fun e w' => e = .returned (.int .i64 (sumOf f xs : Nat)) ∧ w = w' := by
  subst hn; exact any_sum A cp xs f w hr hg hl
theorem any_worst' (A : Option Addr) (cp n : Nat) (xs : List (Option Nat)) (f : Nat → List Nat) (w : World) (hr : Rp w A xs) (hg : Good w f xs) (hl : n ≤ 1000) (hn : xs.length = n) :
    Calls Try.prog 21 #[.slice A n cp] w fun e w' => e = .returned (.int .i64 (worstOf f xs : Nat)) ∧ w = w' := by
  subst hn; exact any_worst A cp xs f w hr hg hl
theorem sum_nil (w : World) : Calls Try.prog 20 #[.slice none 0 0] w fun e w' => e = .returned (.int .i64 0) ∧ w = w' :=
  any_sum none 0 [] (fun _ => []) w (fun k hk => by simp at hk) (fun g hg => by simp at hg) (by decide)
theorem worst_nil (w : World) : Calls Try.prog 21 #[.slice none 0 0] w fun e w' => e = .returned (.int .i64 0) ∧ w = w' :=
  any_worst none 0 [] (fun _ => []) w (fun k hk => by simp at hk) (fun g hg => by simp at hg) (by decide)
theorem rp3 (w : World) (g g' : Nat) : Rp (w.alloc (.cells #[.pointer (some ⟨g, 0, none⟩), .pointer none, .pointer (some ⟨g', 0, none⟩)] 25)) (some ⟨w.heap.size, 0, none⟩) [some g, none, some g'] := fun k hk =>
  ⟨w.heap.size, 0, rfl, by
    match k, hk with
    | 0, _ => simp [pv]
    | 1, _ => simp [pv]
    | 2, _ => simp [pv]⟩
theorem own3 (w : World) (g g' : Nat) : (w.alloc (.cells #[.pointer (some ⟨g, 0, none⟩), .pointer none, .pointer (some ⟨g', 0, none⟩)] 25)).ownsRow w.heap.size 25 1 (.slice (some ⟨w.heap.size, 0, none⟩) 3 3) 3 ([some g, none, some g'].map pv) :=
  World.ownsRow_lit w _ 3 (Nat.le_refl _) (by decide) rfl
theorem sum3 (g g' : Nat) (ds es : List Nat) (hne : g ≠ g') : ((sumOf (fun b => if b = g then ds else es) [some g, none, some g'] : Nat) : Int) = (M.cnt ds 1 : Nat) + (M.cnt ds 2 : Nat) + (M.cnt es 1 : Nat) + (M.cnt es 2 : Nat) := by
  simp [sumOf, stepsOf, hne.symm]; omega
theorem sum4 (g g' : Nat) (ds es : List Nat) (hne : g ≠ g') : ((sumOf (fun b => if b = g then ds else es) [some g, none, some g', some g] : Nat) : Int) = (M.cnt ds 1 : Nat) + (M.cnt ds 2 : Nat) + (M.cnt es 1 : Nat) + (M.cnt es 2 : Nat) + ((M.cnt ds 1 : Nat) + (M.cnt ds 2 : Nat)) := by
  simp [sumOf, stepsOf, hne.symm]; omega
theorem worst3 (g g' : Nat) (ds es : List Nat) (hne : g ≠ g') : ((worstOf (fun b => if b = g then ds else es) [some g, none, some g'] : Nat) : Int) = max ((M.top ds : Nat) : Int) ((M.top es : Nat) : Int) := by
  simp [worstOf, topOf, hne.symm]; omega
theorem worst4 (g g' : Nat) (ds es : List Nat) (hne : g ≠ g') : ((worstOf (fun b => if b = g then ds else es) [some g, none, some g', some g] : Nat) : Int) = max ((M.top ds : Nat) : Int) ((M.top es : Nat) : Int) := by
  simp [worstOf, topOf, hne.symm]; omega

theorem cell_two (w : World) (o : Obj) (v : Value) (t : TypeId) (j : Nat) (u : Value) (h : [v][j]? = some u) : ((w.alloc o).alloc (.cells #[v] t)).cell? ((⟨w.heap.size + 1, 0, none⟩ : Addr).add j) = some u := by
  have := cell_one (w.alloc o) v t j u h
  rwa [World.size_alloc] at this
theorem in3 {g g' : Nat} : ∀ b, some b ∈ [some g, none, some g'] → b = g ∨ b = g' := by
  intro b hb
  simp at hb
  exact hb
theorem in4 {g g' : Nat} : ∀ b, some b ∈ [some g, none, some g', some g] → b = g ∨ b = g' := by
  intro b hb
  simp at hb
  omega
theorem ne_of {a g g' : Nat} (h : g < a) (h' : a ≤ g') : g ≠ g' := by omega
abbrev lay3 (w : World) (g g' : Nat) : World := w.alloc (.cells #[.pointer (some ⟨g, 0, none⟩), .pointer none, .pointer (some ⟨g', 0, none⟩)] 25)
theorem below3 (w : World) (g g' : Nat) : Below w.heap.size w (lay3 w g g') := (Below.refl _ w).alloc (Nat.le_refl _) _

set_option maxHeartbeats 1000000 in
theorem law_sums (A A' : Option Addr) (cp cp' : Nat) (xs ys : List Nat) (tw : Bool) (w : World) (hr : Rb w w.heap.size A xs) (hr' : Rb w w.heap.size A' ys) (hl : xs.length ≤ 9223372036854775807) (hl' : ys.length ≤ 9223372036854775807) :
    Calls Try.prog 4 #[.slice A xs.length cp, .slice A' ys.length cp', .bool tw] w fun e w' => e = .returned (.bool true) ∧ Below w.heap.size w w' := by
  obtain ⟨i0, hi, hz0, hz1, hz2⟩ := info_parts ptr_info
  have hlen : (xs.take 100).length ≤ 100 := by rw [List.length_take]; omega
  have hlen' : (ys.take 100).length ≤ 100 := by rw [List.length_take]; omega
  cases tw
  · go_enter Try.func4, Try.ntmps4
    go_wp2_with (first
      | (go_at_call 6; refine (awake_any _).mono ?_; rintro e w1 ⟨rfl, hb1⟩; have hr1 := (hr.below hb1 (Nat.le_refl _)).more hb1.size; have hr1' := (hr'.below hb1 (Nat.le_refl _)).more hb1.size)
      | (go_at_call 7; (with_reducible refine (ref_bytes100 _ _ xs _ hr1 hl).mono ?_); rintro e w2 ⟨v, rfl, hown, hb2⟩; obtain ⟨A2, c2, rfl, hc2, hr2⟩ := own_rb hown; clear hown hr1; have hr2' := (hr1'.below hb2 (Nat.le_refl _)).more hb2.size; generalize xs.take 100 = ds at *)
      | (go_at_call 7; (with_reducible refine (ref_bytes100 _ _ ys _ hr2' hl').mono ?_); rintro e w3 ⟨v, rfl, hown, hb3⟩; obtain ⟨A3, c3, rfl, hc3, hr3'⟩ := own_rb hown; clear hown hr2' hr1'; have hr3 := (hr2.below hb3 (Nat.le_refl _)).more hb3.size; clear hr2; generalize ys.take 100 = es at *)
      | (go_at_call 8; (with_reducible refine (law_play _ _ ds _ hr3 (by omega)).mono ?_); rintro e w4 ⟨g, rfl, hge, hms, hb4⟩; have hr4 := (hr3.below hb4 (Nat.le_refl _)).more hb4.size; have hr4' := (hr3'.below hb4 (Nat.le_refl _)).more hb4.size; clear hr3 hr3')
      | (go_at_call 8; (with_reducible refine (law_play _ _ es _ hr4' (by omega)).mono ?_); rintro e w5 ⟨g', rfl, hge', hms', hb5⟩; have hr5 := (hr4.below hb5 (Nat.le_refl _)).more hb5.size; have hr5' := (hr4'.below hb5 (Nat.le_refl _)).more hb5.size; have hms5 := Mt.below hms hb5 (Mt.lt hms); have hne := ne_of (Mt.lt hms) hge'; have n1 := M.cnt_le ds 1; have n2 := M.cnt_le ds 2; have n3 := M.cnt_le es 1; have n4 := M.cnt_le es 2; have hb6 := below3 w5 g g'; have own6 := own3 w5 g g'; have rp6 := rp3 w5 g g'; have good6 := good_two hne (Mt.below hms5 hb6 (Mt.lt hms5)) (Mt.below hms' hb6 (Mt.lt hms')) hlen hlen' _ in3; have s3 := sum3 g g' ds es hne; have s4 := sum4 g g' ds es hne; have u3 := worst3 g g' ds es hne; have u4 := worst4 g g' ds es hne; have hr6 := hr5.below hb6 (Nat.le_refl _); have hr6' := hr5'.below hb6 (Nat.le_refl _); clear hr4 hr4' hms)
      | (go_at_call 12; (with_reducible refine (ref_count1 _ _ ds _ _ hr5 (by omega)).mono ?_); rintro e w' ⟨rfl, rfl⟩)
      | (go_at_call 12; (with_reducible refine (ref_count2 _ _ ds _ _ hr5 (by omega)).mono ?_); rintro e w' ⟨rfl, rfl⟩)
      | (go_at_call 12; (with_reducible refine (ref_count1 _ _ es _ _ hr5' (by omega)).mono ?_); rintro e w' ⟨rfl, rfl⟩)
      | (go_at_call 12; (with_reducible refine (ref_count2 _ _ es _ _ hr5' (by omega)).mono ?_); rintro e w' ⟨rfl, rfl⟩)
      | (go_at_call 17; refine (m_start_nil _).mono ?_; rintro e w' ⟨rfl, rfl⟩)
      | (go_at_call 18; refine (m_read_nil _).mono ?_; rintro e w' ⟨rfl, rfl⟩)
      | (go_at_call 19; refine (m_call_nil _).mono ?_; rintro e w' ⟨rfl, rfl⟩)
      | (go_at_call 9; refine (m_taken_nil _).mono ?_; rintro e w' ⟨rfl, rfl⟩)
      | (go_at_call 13; refine (m_reads_nil _).mono ?_; rintro e w' ⟨rfl, rfl⟩)
      | (go_at_call 14; refine (m_calls_nil _).mono ?_; rintro e w' ⟨rfl, rfl⟩)
      | (go_at_call 15; refine (m_peak_nil _).mono ?_; rintro e w' ⟨rfl, rfl⟩)
      | (go_at_call 11; refine (m_starts_nil _).mono ?_; rintro e w' ⟨rfl, rfl⟩)
      | (go_at_call 20; (with_reducible refine (any_sum' _ _ 3 [some g, none, some g'] _ _ rp6 good6 (by decide) rfl).mono ?_); rintro e w' ⟨rfl, rfl⟩)
      | (go_at_call 20; (with_reducible refine (sum_nil _).mono ?_); rintro e w' ⟨rfl, rfl⟩)
      | (go_at_call 21; (with_reducible refine (any_worst' _ _ 3 [some g, none, some g'] _ _ rp6 good6 (by decide) rfl).mono ?_); rintro e w' ⟨rfl, rfl⟩)
      | (go_at_call 21; (with_reducible refine (worst_nil _).mono ?_); rintro e w' ⟨rfl, rfl⟩)
      | (go_at_call 16; (with_reducible refine (ref_peak _ _ ds _ _ hr6 (by omega) hc2).mono ?_); rintro e w' ⟨rfl, rfl⟩)
      | (go_at_call 16; (with_reducible refine (ref_peak _ _ es _ _ hr6' (by omega) hc3).mono ?_); rintro e w' ⟨rfl, rfl⟩))
    go_ret
    have q2 := hb1.trans (hb2.mono hb1.size)
    have q3 := q2.trans (hb3.mono q2.size)
    have q4 := q3.trans (hb4.mono q3.size)
    have q5 := q4.trans (hb5.mono q4.size)
    exact ⟨rfl, q5.trans (hb6.mono q5.size)⟩
  · go_enter Try.func4, Try.ntmps4
    go_wp2_with (first
      | (go_at_call 6; refine (awake_any _).mono ?_; rintro e w1 ⟨rfl, hb1⟩; have hr1 := (hr.below hb1 (Nat.le_refl _)).more hb1.size; have hr1' := (hr'.below hb1 (Nat.le_refl _)).more hb1.size)
      | (go_at_call 7; (with_reducible refine (ref_bytes100 _ _ xs _ hr1 hl).mono ?_); rintro e w2 ⟨v, rfl, hown, hb2⟩; obtain ⟨A2, c2, rfl, hc2, hr2⟩ := own_rb hown; clear hown hr1; have hr2' := (hr1'.below hb2 (Nat.le_refl _)).more hb2.size; generalize xs.take 100 = ds at *)
      | (go_at_call 7; (with_reducible refine (ref_bytes100 _ _ ys _ hr2' hl').mono ?_); rintro e w3 ⟨v, rfl, hown, hb3⟩; obtain ⟨A3, c3, rfl, hc3, hr3'⟩ := own_rb hown; clear hown hr2' hr1'; have hr3 := (hr2.below hb3 (Nat.le_refl _)).more hb3.size; clear hr2; generalize ys.take 100 = es at *)
      | (go_at_call 8; (with_reducible refine (law_play _ _ ds _ hr3 (by omega)).mono ?_); rintro e w4 ⟨g, rfl, hge, hms, hb4⟩; have hr4 := (hr3.below hb4 (Nat.le_refl _)).more hb4.size; have hr4' := (hr3'.below hb4 (Nat.le_refl _)).more hb4.size; clear hr3 hr3')
      | (go_at_call 8; (with_reducible refine (law_play _ _ es _ hr4' (by omega)).mono ?_); rintro e w5 ⟨g', rfl, hge', hms', hb5⟩; have hr5 := (hr4.below hb5 (Nat.le_refl _)).more hb5.size; have hr5' := (hr4'.below hb5 (Nat.le_refl _)).more hb5.size; have hms5 := Mt.below hms hb5 (Mt.lt hms); have hne := ne_of (Mt.lt hms) hge'; have n1 := M.cnt_le ds 1; have n2 := M.cnt_le ds 2; have n3 := M.cnt_le es 1; have n4 := M.cnt_le es 2; have hb6 := below3 w5 g g'; have own6 := own3 w5 g g'; have rp6 := rp3 w5 g g'; have good6 := good_two hne (Mt.below hms5 hb6 (Mt.lt hms5)) (Mt.below hms' hb6 (Mt.lt hms')) hlen hlen' _ in3; have s3 := sum3 g g' ds es hne; have s4 := sum4 g g' ds es hne; have u3 := worst3 g g' ds es hne; have u4 := worst4 g g' ds es hne; have hr6 := hr5.below hb6 (Nat.le_refl _); have hr6' := hr5'.below hb6 (Nat.le_refl _); clear hr4 hr4' hms)
      | (go_at_call 12; (with_reducible refine (ref_count1 _ _ ds _ _ hr5 (by omega)).mono ?_); rintro e w' ⟨rfl, rfl⟩)
      | (go_at_call 12; (with_reducible refine (ref_count2 _ _ ds _ _ hr5 (by omega)).mono ?_); rintro e w' ⟨rfl, rfl⟩)
      | (go_at_call 12; (with_reducible refine (ref_count1 _ _ es _ _ hr5' (by omega)).mono ?_); rintro e w' ⟨rfl, rfl⟩)
      | (go_at_call 12; (with_reducible refine (ref_count2 _ _ es _ _ hr5' (by omega)).mono ?_); rintro e w' ⟨rfl, rfl⟩)
      | (at_builtin; refine wpList_append_own _ rfl (.tmp 37) (.tmp 39) 31 rfl w5.heap.size 25 i0 (.pointer none) 1 8 Try.underlying31 hi hz0 hz1 hz2 rfl (by decide) _ _ _ rfl (own6.alloc _) ⟨w5.heap.size + 1, 0, none⟩ 1 1 [pv (some g)] rfl rfl ?c1 ?c2 ?c3 ?c4 ?c5 ?_))
    case c1 => exact cell_two w5 _ _ _
    case c2 =>
      intro u hu
      simp at hu
      subst hu
      rfl
    case c3 => unfold maxLen; omega
    case c4 => omega
    case c5 => simp only [World.size_alloc]; omega
    intro v7 w7 hown7 hg7 _
    obtain ⟨A7, c7, rfl, rp7⟩ := Rp.of_own (xs := [some g, none, some g', some g]) hown7
    have hb7 : Below w5.heap.size w5 w7 := (hb6.alloc hb6.size _).grown hg7 (by simp only [World.size_alloc]; omega) (fun k hk => by simp [Value.ownBlock] at hk; omega)
    have good7 := good_two hne (Mt.below hms5 hb7 (Mt.lt hms5)) (Mt.below hms' hb7 (Mt.lt hms')) hlen hlen' _ in4
    have hr7 := hr5.below hb7 (Nat.le_refl _)
    have hr7' := hr5'.below hb7 (Nat.le_refl _)
    clear hown7 hg7 own6 rp6 good6 hr6 hr6' s3 u3
    go_wp2_with (first
      | (go_at_call 17; refine (m_start_nil _).mono ?_; rintro e w' ⟨rfl, rfl⟩)
      | (go_at_call 18; refine (m_read_nil _).mono ?_; rintro e w' ⟨rfl, rfl⟩)
      | (go_at_call 19; refine (m_call_nil _).mono ?_; rintro e w' ⟨rfl, rfl⟩)
      | (go_at_call 9; refine (m_taken_nil _).mono ?_; rintro e w' ⟨rfl, rfl⟩)
      | (go_at_call 13; refine (m_reads_nil _).mono ?_; rintro e w' ⟨rfl, rfl⟩)
      | (go_at_call 14; refine (m_calls_nil _).mono ?_; rintro e w' ⟨rfl, rfl⟩)
      | (go_at_call 15; refine (m_peak_nil _).mono ?_; rintro e w' ⟨rfl, rfl⟩)
      | (go_at_call 11; refine (m_starts_nil _).mono ?_; rintro e w' ⟨rfl, rfl⟩)
      | (go_at_call 20; (with_reducible refine (any_sum' _ _ 4 [some g, none, some g', some g] _ _ rp7 good7 (by decide) rfl).mono ?_); rintro e w' ⟨rfl, rfl⟩)
      | (go_at_call 20; (with_reducible refine (sum_nil _).mono ?_); rintro e w' ⟨rfl, rfl⟩)
      | (go_at_call 21; (with_reducible refine (any_worst' _ _ 4 [some g, none, some g', some g] _ _ rp7 good7 (by decide) rfl).mono ?_); rintro e w' ⟨rfl, rfl⟩)
      | (go_at_call 21; (with_reducible refine (worst_nil _).mono ?_); rintro e w' ⟨rfl, rfl⟩)
      | (go_at_call 16; (with_reducible refine (ref_peak _ _ ds _ _ hr7 (by omega) hc2).mono ?_); rintro e w' ⟨rfl, rfl⟩)
      | (go_at_call 16; (with_reducible refine (ref_peak _ _ es _ _ hr7' (by omega) hc3).mono ?_); rintro e w' ⟨rfl, rfl⟩)
      | (go_at_call 12; (with_reducible refine (ref_count1 _ _ ds _ _ hr7 (by omega)).mono ?_); rintro e w' ⟨rfl, rfl⟩)
      | (go_at_call 12; (with_reducible refine (ref_count2 _ _ ds _ _ hr7 (by omega)).mono ?_); rintro e w' ⟨rfl, rfl⟩))
    go_ret
    have q2 := hb1.trans (hb2.mono hb1.size)
    have q3 := q2.trans (hb3.mono q2.size)
    have q4 := q3.trans (hb4.mono q3.size)
    have q5 := q4.trans (hb5.mono q4.size)
    exact ⟨rfl, q5.trans (hb7.mono q5.size)⟩
end Go.Proofs.Ytjigfneckohboaa
