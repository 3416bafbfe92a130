
/- The law of ranges of a strip: it returns true at every input. -/
import Derived.Test.YtfdcejafobjlbaaDoorSLaws3
namespace Go.Proofs.YtfdcejafobjlbaaDoor
open Go.RowKit
theorem ref_clamp (n m : Int) (w : World) : Calls Tryd.prog 41 #[.int .i64 n, .int .i64 m] w fun e w' => e = .returned (.int .i64 (max (min n m) 0)) ∧ w = w' := by
  go_enter Tryd.func41, Tryd.ntmps41
  go_wp2
  go_ret
  exact ⟨ret_int (by omega), rfl⟩
theorem filter_parts {α : Type} (p : α → Bool) (l : List α) : (l.filter p).length + (l.filter fun x => !p x).length = l.length := by
  induction l with
  | nil => rfl
  | cons a l ih => cases h : p a <;> simp [h] <;> omega
theorem rank_in (l : List Int) (a b : Int) (hab : a ≤ b) : M.rRank l b = M.rRank l a + (l.filter fun y => decide (a ≤ y ∧ y < b)).length := by
  unfold M.rRank
  induction l with
  | nil => rfl
  | cons x l ih =>
    by_cases h1 : x < a
    · have h2 : x < b := by omega
      have h3 : ¬ a ≤ x := by omega
      simp [h1, h2, h3]; simp at ih; omega
    · by_cases h2 : x < b
      · have h3 : a ≤ x ∧ x < b := by omega
        simp [h1, h2, h3]; simp at ih; omega
      · simp [h1, h2]; simp at ih; omega
theorem wipe_count {l m : List Int} {a b : Int} (hab : a ≤ b) (hl : l.Pairwise (· < ·)) (hm : m.Pairwise (· < ·)) (h : ∀ y, y ∈ m ↔ y ∈ l ∧ ¬ (a ≤ y ∧ y < b)) : M.rRank l b + m.length = M.rRank l a + l.length := by
  have e : m = l.filter fun y => !decide (a ≤ y ∧ y < b) := M.sorted_ext hm (hl.filter _) fun y => by rw [h, List.mem_filter]; simp only [Bool.not_eq_true', decide_eq_false_iff_not]
  rw [rank_in l a b hab, e]
  have := filter_parts (fun y => decide (a ≤ y ∧ y < b)) l
  omega
theorem all_in {l : List Int} {a b : Int} (hab : a ≤ b) (hl : l.Pairwise (· < ·)) (h : ∀ y, a ≤ y → y < b → y ∈ l) : ((l.filter fun y => decide (a ≤ y ∧ y < b)).length : Int) = b - a := by
  have e : (l.filter fun y => decide (a ≤ y ∧ y < b)) = (List.range (b - a).toNat).map fun i : Nat => a + (i : Int) := by
    refine M.sorted_ext (hl.filter _) ?_ fun y => ?_
    · rw [List.pairwise_map]
      refine List.Pairwise.imp ?_ List.pairwise_lt_range
      intro x y hxy; omega
    · rw [List.mem_filter, List.mem_map]
      simp only [decide_eq_true_eq, List.mem_range]
      constructor
      · rintro ⟨_, h1, h2⟩
        exact ⟨(y - a).toNat, by omega, by omega⟩
      · rintro ⟨i, hi, rfl⟩
        exact ⟨h _ (by omega) (by omega), by omega, by omega⟩
  rw [e, List.length_map, List.length_range]
  omega
theorem fill_count {l m : List Int} {a b : Int} (hab : a ≤ b) (hl : l.Pairwise (· < ·)) (hm : m.Pairwise (· < ·)) (hno : ∀ y ∈ l, ¬ (a ≤ y ∧ y < b)) (h : ∀ y, y ∈ m ↔ y ∈ l ∨ (a ≤ y ∧ y < b)) : (m.length : Int) = l.length + (b - a) := by
  have e : (m.filter fun y => !decide (a ≤ y ∧ y < b)) = l := M.sorted_ext (hm.filter _) hl fun y => by
    rw [List.mem_filter, h]
    constructor
    · rintro ⟨h1 | h1, h2⟩
      · exact h1
      · simp at h2; omega
    · intro h1
      have := hno y h1
      exact ⟨.inl h1, by simp; omega⟩
  have h1 := filter_parts (fun y => decide (a ≤ y ∧ y < b)) m
  have h2 := all_in hab hm (fun y h1 h2 => (h y).2 (.inr ⟨h1, h2⟩))
  rw [e] at h1
  omega
set_option maxHeartbeats 4000000 in
theorem law_ranges (A : Option Addr) (cp : Nat) (xs : List (Nat × Int × Int)) (q : Nat) (hq : q < 256) (i j : Int) (w : World) (hT : Tab w) (hr : Ra w w.heap.size A xs) (hl : xs.length ≤ 9223372036854775807) :
    Calls Tryd.prog 9 #[.int .u8 (q : Int), .slice A xs.length cp, .int .i64 i, .int .i64 j] w fun e w' => e = .returned (.bool true) ∧ Below w.heap.size w w' := by
  have hrH := Lib.hid hr
  clear hr
  obtain ⟨n, hn⟩ : ∃ n, q % 5 = n := ⟨_, rfl⟩
  have hn5 : n < 5 := by omega
  have hnH := Lib.hid hn
  clear hn
  have wn : IntKind.i64.wrap (64 * (n : Int)) = 64 * (n : Int) := IntWalk.i64_in _ (by omega)
  go_enter Tryd.func9, Tryd.ntmps9
  go_wp2_with (go_at_call 10; (with_reducible refine (awake_any _ hT).mono ?_); rintro e w1 ⟨rfl, hb1⟩; have hB1 := Lib.hid hb1; clear hb1)
  go_wp2_with (go_at_call 11; (with_reducible refine (lay_n _ A cp xs (ra_later hrH.out hB1.out) hl q hq n hnH.out).mono ?_); rintro e w2 ⟨s, h, us, B, c, rfl, hul, hS, hRd, hs1, hh1, hb2⟩; have hSH := Lib.hid hS; clear hS; have hB2 := Lib.hid hb2; clear hb2; clear hRd; have hulH := Lib.hid hul; clear hul)
  have hS2 : Hid (∀ o, St (w2.alloc o) s h us) := fun o => hSH.out.below ((Below.refl _ w2).alloc (Nat.le_refl _) o) hSH.out.lt.1 hSH.out.lt.2
  have hB3 : Hid (∀ o, Below w.heap.size w (w2.alloc o)) := fun o => (hB1.out.trans (hB2.out.mono hB1.out.size)).alloc (Nat.le_trans hB1.out.size hB2.out.size) o
  go_quiet ((go_at_call 41; exact Calls.quiet_of_same ((ref_clamp _ _ _).mono (by rintro e w' ⟨rfl, rfl⟩; exact ⟨rfl, rfl⟩))))
  obtain ⟨w3, hw3⟩ : ∃ w3, w2.alloc (.cells #[.int .i64 (n : Int), .slice B (sl us).length c] 27) = w3 := ⟨_, rfl⟩
  have hS3 : Hid (St w3 s h us) := by rw [← hw3]; exact hS2.out _
  have hB4 : Hid (Below w.heap.size w w3) := by rw [← hw3]; exact hB3.out _
  rw [hw3]
  clear hw3 hS2 hB3
  have hf1 : 0 ≤ max (min i (64 * (n : Int))) 0 ∧ max (min i (64 * (n : Int))) 0 ≤ 64 * (n : Int) := by omega
  have hf2 : 0 ≤ max (min j (64 * (n : Int))) 0 ∧ max (min j (64 * (n : Int))) 0 ≤ 64 * (n : Int) := by omega
  generalize max (min i (64 * (n : Int))) 0 = f at *
  generalize max (min j (64 * (n : Int))) 0 = t at *
  have key : ∀ a b : Int, 0 ≤ a → a ≤ b → b ≤ 64 * (n : Int) → Hid (M.rRank (sl us) a ≤ M.rRank (sl us) b ∧ M.rRank (sl us) b ≤ 1000 ∧ (sl us).length ≤ 1000 ∧
      (∀ vs m, Laid false us vs a b → m + (sl vs).length = (sl us).length → ((m : Int) == (M.rRank (sl us) b : Int) - (M.rRank (sl us) a : Int)) = true ∧ (((sl vs).length : Int) == ((sl us).length : Int) - ((M.rRank (sl us) b : Int) - (M.rRank (sl us) a : Int))) = true ∧
        ∀ vs' m', Laid true vs vs' a b → m' + (sl vs).length = (sl vs').length → ((m' : Int) == b - a) = true ∧ (((sl vs').length : Int) == ((sl us).length : Int) - ((M.rRank (sl us) b : Int) - (M.rRank (sl us) a : Int)) + b - a) = true)) := by
    intro a b h0 hab hb
    have hN : ((64 * us.length : Nat) : Int) = 64 * (n : Int) := by rw [hulH.out]; omega
    have hle := rank_in (sl us) a b hab
    have hb1 := rank_le us b
    have hlen : (sl us).length ≤ 64 * us.length := sorted_len (64 * us.length) (sl_up us) (fun y hy => by have := sl_in.1 hy; omega)
    refine ⟨by omega, by rw [hulH.out] at hb1; omega, by rw [hulH.out] at hlen; omega, fun vs m hL hm => ?_⟩
    have hc := wipe_count hab (sl_up us) (sl_up vs) (fun y => by
      rw [hL.mem_false, hN]
      constructor
      · rintro ⟨h1, h2⟩; exact ⟨h1, fun h3 => h2 (by omega)⟩
      · rintro ⟨h1, h2⟩; exact ⟨h1, fun h3 => h2 (by omega)⟩)
    refine ⟨by simp; omega, by simp; omega, fun vs' m' hL' hm' => ?_⟩
    have hvl : vs.length = us.length := hL.1
    have hN' : ((64 * vs.length : Nat) : Int) = 64 * (n : Int) := by rw [hvl]; exact hN
    have hf := fill_count hab (sl_up vs) (sl_up vs') (fun y hy => by
      have := hL.mem_false.1 hy
      rw [hN] at this
      intro h3; exact this.2 (by omega)) (fun y => by
      rw [hL'.mem_true, hN']
      constructor
      · rintro (h1 | h1)
        · exact .inl h1
        · right; omega
      · rintro (h1 | h1)
        · exact .inl h1
        · right; omega)
    exact ⟨by simp; omega, by simp; omega⟩
  have keyH := Lib.hid key
  clear key
  by_cases hgt : t < f
  · have hd : decide (t < f) = true := decide_eq_true hgt
    have hK := (keyH.out t f hf2.1 (by omega) hf1.2).out
    have hta : 0 ≤ t := hf2.1
    have hfb : f ≤ 64 * (n : Int) := hf1.2
    have hab : t ≤ f := by omega
    have hra := fun w0 a => Lib.hid (s_rank w0 s h us a t)
    have hrb := fun w0 a => Lib.hid (s_rank w0 s h us a f)
    have hct := fun w0 a => Lib.hid (s_count w0 s h us a)
    clear keyH hf1 hf2 hgt
    obtain ⟨k1, k2, k3, hK⟩ := hK
    have hKH := Lib.hid hK
    clear hK
    generalize M.rRank (sl us) f = rb at *
    generalize M.rRank (sl us) t = ra at *
    generalize hLe : (sl us).length = L at *
    have hLeH := Lib.hid hLe
    clear hLe
    have wsub : IntKind.i64.wrap ((rb : Int) - (ra : Int)) = (rb : Int) - (ra : Int) := IntWalk.i64_in _ (by omega)
    go_wp2_with (go_at_call 25; (with_reducible refine (hrb _ (hS3.out.drew _)).out.mono ?_); rintro e w4 ⟨rfl, N4, rfl⟩; clear hrb)
    go_wp2_with (go_at_call 25; (with_reducible refine (hra _ (hS3.out.drew _)).out.mono ?_); rintro e w4 ⟨rfl, N5, rfl⟩; clear hra)
    go_wp2_with (go_at_call 36; (with_reducible refine (s_copy _ s h us (hS3.out.drew _)).mono ?_); rintro e w5 ⟨s2, h2, rfl, hs5, hh5, hst, hb5⟩; have hB5 := Lib.hid hb5; clear hb5; have hC5 := Lib.hid hst; clear hst; have hS5 := Lib.hid ((hS3.out.drew _).below hB5.out hS3.out.lt.1 hS3.out.lt.2); have hlt5 : s < w5.heap.size ∧ h < w5.heap.size := hS5.out.lt; have hne : s < w3.heap.size ∧ h < w3.heap.size := hS3.out.lt; have hs5' : w3.heap.size ≤ s2 := hs5; have hh5' : w3.heap.size ≤ h2 := hh5; clear hs5 hh5)
    go_wp2_with (go_at_call 29; (with_reducible refine (hct _ hS5.out).out.mono ?_); rintro e w6 ⟨rfl, N6, rfl⟩)
    go_wp2_with (go_at_call 40; (with_reducible refine (s_wipe _ s2 h2 us (hC5.out.drew _) t f (by omega)).mono ?_); rintro e w7 ⟨vs, m, rfl, hL, hm, hst, hg⟩; have hm2 : m + (sl vs).length = L := Eq.trans hm hLeH.out; clear hm; obtain ⟨e1, e2, hK2⟩ := hKH.out vs m hL hm2; have hC7 := Lib.hid hst; clear hst; have hG7 := Lib.hid hg; clear hg hL; have e1H := Lib.hid e1; have hK2H := Lib.hid hK2; clear hK2; have hS7 := Lib.hid ((hS5.out.drew N6).grown hG7.out (by omega) (by omega)); have hcv := fun w0 a => Lib.hid (s_count w0 s2 h2 vs a); have hvb : (sl vs).length ≤ L := (by omega); clear hm2; generalize hvl : (sl vs).length = V at *; have hvlH := Lib.hid hvl; clear hvl)
    have hg7 := hG7.out.size
    have hz5 := hB5.out.size
    have hg7' : w5.heap.size ≤ w7.heap.size := hg7
    have hz5' : w3.heap.size ≤ w5.heap.size := hz5
    clear hg7 hz5
    go_wp2_with (go_at_call 29; (with_reducible refine (hcv _ hC7.out).out.mono ?_); rintro e w8 ⟨rfl, N8, rfl⟩)
    go_wp2_with (go_at_call 37; (with_reducible refine (s_fill _ s2 h2 vs (hC7.out.drew _) t f (by omega)).mono ?_); rintro e w9 ⟨zs, m', rfl, hL, hm, hst, hg⟩; have hm2 : m' + V = (sl zs).length := (congrArg (m' + ·) hvlH.out).symm.trans hm; clear hm; obtain ⟨e3, e4⟩ := hK2H.out zs m' hL hm2; have hC9 := Lib.hid hst; clear hst; have hG9 := Lib.hid hg; clear hg hL hm2; have hS9 := Lib.hid ((hS7.out.drew N8).grown hG9.out (by omega) (by omega)); have hcz := fun w0 a => Lib.hid (s_count w0 s2 h2 zs a); generalize (sl zs).length = Z at *)
    go_wp2_with (first
      | (go_at_call 29; (with_reducible refine (hcz _ hC9.out).out.mono ?_); rintro e w10 ⟨rfl, N10, rfl⟩)
      | (go_at_call 29; (with_reducible refine (hct _ (hS9.out.drew _)).out.mono ?_); rintro e w10 ⟨rfl, N11, rfl⟩))
    go_ret
    have hwz : w.heap.size ≤ w3.heap.size := hB4.out.size
    have b3 : Below w.heap.size w3 w5 := ⟨hB5.out.os, hB5.out.tape, hB5.out.output, hB5.out.size, fun k hk => hB5.out.block k (by show k < w3.heap.size; omega)⟩
    refine ⟨rfl, below_drewN (hB4.out.trans (b3.trans ((below_drewN (Below.refl _ _) N6).trans ((below_grown_at hG7.out (by show _ ≤ w5.heap.size; omega) (by omega)).trans ((below_drewN (Below.refl _ _) N8).trans (below_grown_at hG9.out (by show _ ≤ w7.heap.size; omega) (by omega))))))) _⟩
  · have hd : decide (t < f) = false := decide_eq_false hgt
    have hK := (keyH.out f t hf1.1 (by omega) hf2.2).out
    have hta : 0 ≤ f := hf1.1
    have hfb : t ≤ 64 * (n : Int) := hf2.2
    have hab : f ≤ t := by omega
    have hra := fun w0 a => Lib.hid (s_rank w0 s h us a f)
    have hrb := fun w0 a => Lib.hid (s_rank w0 s h us a t)
    have hct := fun w0 a => Lib.hid (s_count w0 s h us a)
    clear keyH hf1 hf2 hgt
    obtain ⟨k1, k2, k3, hK⟩ := hK
    have hKH := Lib.hid hK
    clear hK
    generalize M.rRank (sl us) t = rb at *
    generalize M.rRank (sl us) f = ra at *
    generalize hLe : (sl us).length = L at *
    have hLeH := Lib.hid hLe
    clear hLe
    have wsub : IntKind.i64.wrap ((rb : Int) - (ra : Int)) = (rb : Int) - (ra : Int) := IntWalk.i64_in _ (by omega)
    go_wp2_with (go_at_call 25; (with_reducible refine (hrb _ (hS3.out.drew _)).out.mono ?_); rintro e w4 ⟨rfl, N4, rfl⟩; clear hrb)
    go_wp2_with (go_at_call 25; (with_reducible refine (hra _ (hS3.out.drew _)).out.mono ?_); rintro e w4 ⟨rfl, N5, rfl⟩; clear hra)
    go_wp2_with (go_at_call 36; (with_reducible refine (s_copy _ s h us (hS3.out.drew _)).mono ?_); rintro e w5 ⟨s2, h2, rfl, hs5, hh5, hst, hb5⟩; have hB5 := Lib.hid hb5; clear hb5; have hC5 := Lib.hid hst; clear hst; have hS5 := Lib.hid ((hS3.out.drew _).below hB5.out hS3.out.lt.1 hS3.out.lt.2); have hlt5 : s < w5.heap.size ∧ h < w5.heap.size := hS5.out.lt; have hne : s < w3.heap.size ∧ h < w3.heap.size := hS3.out.lt; have hs5' : w3.heap.size ≤ s2 := hs5; have hh5' : w3.heap.size ≤ h2 := hh5; clear hs5 hh5)
    go_wp2_with (go_at_call 29; (with_reducible refine (hct _ hS5.out).out.mono ?_); rintro e w6 ⟨rfl, N6, rfl⟩)
    go_wp2_with (go_at_call 40; (with_reducible refine (s_wipe _ s2 h2 us (hC5.out.drew _) f t (by omega)).mono ?_); rintro e w7 ⟨vs, m, rfl, hL, hm, hst, hg⟩; have hm2 : m + (sl vs).length = L := Eq.trans hm hLeH.out; clear hm; obtain ⟨e1, e2, hK2⟩ := hKH.out vs m hL hm2; have hC7 := Lib.hid hst; clear hst; have hG7 := Lib.hid hg; clear hg hL; have e1H := Lib.hid e1; have hK2H := Lib.hid hK2; clear hK2; have hS7 := Lib.hid ((hS5.out.drew N6).grown hG7.out (by omega) (by omega)); have hcv := fun w0 a => Lib.hid (s_count w0 s2 h2 vs a); have hvb : (sl vs).length ≤ L := (by omega); clear hm2; generalize hvl : (sl vs).length = V at *; have hvlH := Lib.hid hvl; clear hvl)
    have hg7 := hG7.out.size
    have hz5 := hB5.out.size
    have hg7' : w5.heap.size ≤ w7.heap.size := hg7
    have hz5' : w3.heap.size ≤ w5.heap.size := hz5
    clear hg7 hz5
    go_wp2_with (go_at_call 29; (with_reducible refine (hcv _ hC7.out).out.mono ?_); rintro e w8 ⟨rfl, N8, rfl⟩)
    go_wp2_with (go_at_call 37; (with_reducible refine (s_fill _ s2 h2 vs (hC7.out.drew _) f t (by omega)).mono ?_); rintro e w9 ⟨zs, m', rfl, hL, hm, hst, hg⟩; have hm2 : m' + V = (sl zs).length := (congrArg (m' + ·) hvlH.out).symm.trans hm; clear hm; obtain ⟨e3, e4⟩ := hK2H.out zs m' hL hm2; have hC9 := Lib.hid hst; clear hst; have hG9 := Lib.hid hg; clear hg hL hm2; have hS9 := Lib.hid ((hS7.out.drew N8).grown hG9.out (by omega) (by omega)); have hcz := fun w0 a => Lib.hid (s_count w0 s2 h2 zs a); generalize (sl zs).length = Z at *)
    go_wp2_with (first
      | (go_at_call 29; (with_reducible refine (hcz _ hC9.out).out.mono ?_); rintro e w10 ⟨rfl, N10, rfl⟩)
      | (go_at_call 29; (with_reducible refine (hct _ (hS9.out.drew _)).out.mono ?_); rintro e w10 ⟨rfl, N11, rfl⟩))
    go_ret
    have hwz : w.heap.size ≤ w3.heap.size := hB4.out.size
    have b3 : Below w.heap.size w3 w5 := ⟨hB5.out.os, hB5.out.tape, hB5.out.output, hB5.out.size, fun k hk => hB5.out.block k (by show k < w3.heap.size; omega)⟩
    refine ⟨rfl, below_drewN (hB4.out.trans (b3.trans ((below_drewN (Below.refl _ _) N6).trans ((below_grown_at hG7.out (by show _ ≤ w5.heap.size; omega) (by omega)).trans ((below_drewN (Below.refl _ _) N8).trans (below_grown_at hG9.out (by show _ ≤ w7.heap.size; omega) (by omega))))))) _⟩
end Go.Proofs.YtfdcejafobjlbaaDoor
