
/- The law BitmapAsks, walked. -/
import Derived.Test.YtbbnamdlfnonoaaDoorBLaws
namespace Go.Proofs.YtbbnamdlfnonoaaDoor
open Go.RowKit
theorem numV_parts {r : Int} (h0 : -1 ≤ r) (h : r ≤ 65535) : ∃ x b, numV r = .tuple #[.int .u16 x, .bool b] ∧ 0 ≤ x ∧ x ≤ 65535 ∧ (if b then x else -1) = r := by
  unfold numV
  by_cases hr : r < 0
  · rw [if_pos hr]; exact ⟨0, false, rfl, by omega, by omega, by simp; omega⟩
  · rw [if_neg hr]; exact ⟨r, true, rfl, by omega, by omega, by simp⟩
theorem next_low (l : List Int) (h : ∀ y ∈ l, 0 ≤ y) (hs : l.Pairwise (· < ·)) (n : Int) : -1 ≤ M.rNext l n := by
  rcases M.nextCases hs n with ⟨h1, _⟩ | ⟨h1, _⟩
  · omega
  · have := h _ h1; omega
theorem prev_low (l : List Int) (h : ∀ y ∈ l, 0 ≤ y) (hs : l.Pairwise (· < ·)) (n : Int) : -1 ≤ M.rPrev l n := by
  rcases M.prevCases hs n with ⟨h1, _⟩ | ⟨h1, _⟩
  · omega
  · have := h _ h1; omega
theorem sel_low (l : List Int) (h : ∀ y ∈ l, 0 ≤ y) (k : Int) : -1 ≤ M.rSel l k := by
  by_cases h1 : M.rSel l k = -1
  · omega
  · obtain ⟨n, _, h2⟩ := M.sel_mem h1
    have := h _ (List.mem_of_getElem? h2)
    omega
theorem has_at {w : World} {g n : Nat} {bs : List Bool} (a : Bs w g n bs) (v : Nat) (hv : v ≤ 65535) : w.cell? ⟨g, v, none⟩ = some (.bool (M.rHas (M.L bs) (v : Int))) := by
  have hn := a.top_ge
  have hlen := a.len
  rw [a.cell v (by omega)]
  congr 2
  rw [Bool.eq_iff_iff]
  unfold M.rHas
  rw [List.any_eq_true]
  have hk : v < bs.length := by omega
  constructor
  · intro h
    exact ⟨(v : Int), M.L_in.2 ⟨by omega, by rw [Int.toNat_natCast, List.getElem?_eq_getElem hk, h]⟩, by simp⟩
  · rintro ⟨y, hy, he⟩
    have h2 := (M.L_in.1 hy).2
    have h3 : y.toNat = v := by simp at he; omega
    rw [h3, List.getElem?_eq_getElem hk] at h2
    exact Option.some.inj h2
set_option maxRecDepth 100000 in
set_option maxHeartbeats 4000000 in
theorem law_asks (P : Option Addr) (cp : Nat) (xs : List AcB) (v : Nat) (hv : v ≤ 65535) (k : Int) (hk2 : k ≤ 9223372036854775807) (w : World) (hT : Tab w) (hr : Rk w w.heap.size P xs) (hl : xs.length ≤ 9223372036854775807) :
    Calls Tryd.prog 4 #[.slice P xs.length cp, .int .u16 (v : Int), .int .i64 k] w fun e w' => e = .returned (.bool true) ∧ Below w.heap.size w w' := by
  have hrH := Lib.hid hr
  have hTH := Lib.hid hT
  clear hr hT
  have wv := i64_small v hv
  obtain ⟨want, hwant⟩ : ∃ want : Int, want = if k < 0 then -1 else 0 := ⟨_, rfl⟩
  clear hwant want
  by_cases h0 : k < 0
  all_goals
    have d0 : decide (0 ≤ k) = !decide (k < 0) := by rw [Bool.eq_iff_iff]; simp
    first
      | (have d1 : decide (k < 0) = true := decide_eq_true h0)
      | (have d1 : decide (k < 0) = false := decide_eq_false h0)
    rw [d1] at d0
    simp only [Bool.not_true, Bool.not_false] at d0
    clear d1
    go_enter Tryd.func4, Tryd.ntmps4
    go_wp2_with (go_at_call 8; (with_reducible refine (awake_any _ hTH.out).mono ?_); rintro e w1 ⟨rfl, hb1⟩; have hB1 := Lib.hid hb1; clear hb1)
    go_wp2_with (first
      | (go_at_call 9; (with_reducible refine (lay_any _ P cp xs (hrH.out.later hB1.out) hl).mono ?_); rintro e w2 ⟨p, s, h, g, n, us, cs, rfl, hbb, hp1, hs1, hh1, hg1, hb2⟩
         have hz1 := hB1.out.size
         have HK : Hid (KB w w2 p s h g n us cs) := ⟨hbb, hTH.out.below (hB1.out.trans (hb2.mono hz1)) hTH.out.pos, hB1.out.trans (hb2.mono hz1)⟩
         obtain ⟨r4, hr4⟩ : ∃ r, M.rSel (sl us) k = r := ⟨_, rfl⟩
         have hsel : 0 ≤ k → Hid (Calls Tryd.prog 16 #[.slice (some ⟨g, 0, none⟩) n n, .int .i64 k] w2 fun e w' => e = .returned (.int .i64 r4) ∧ w2 = w') := fun hk => by
           obtain ⟨K, rfl⟩ : ∃ K : Nat, k = (K : Int) := ⟨k.toNat, by omega⟩
           have h1 := f_select w2 g n cs hbb.rs K (by omega)
           rw [← hbb.same, hr4] at h1
           exact h1
         have HR4 := Lib.hid hr4
         clear hbb hb2 hr4)
      | (go_at_call 16; (with_reducible refine (hsel (by omega)).out.mono ?_); rintro e w3 ⟨rfl, rfl⟩))
    have hneg : k < 0 → Hid (r4 = -1) := fun hk => by
      show _ = _
      rw [← HR4.out]
      unfold M.rSel
      rw [if_pos hk]
    have hx0 : ∀ y ∈ sl us, 0 ≤ y := fun y hy => (HK.out.bb.bm.range hy).1
    have hup := sl_up us
    have hn65 := HK.out.bb.rs.top_ge
    obtain ⟨r1, hr1⟩ : ∃ r, M.rNext (sl us) (v : Int) = r := ⟨_, rfl⟩
    obtain ⟨r2, hr2⟩ : ∃ r, M.rPrev (sl us) (v : Int) = r := ⟨_, rfl⟩
    obtain ⟨r3, hr3⟩ : ∃ r, M.rRank (sl us) (v : Int) = r := ⟨_, rfl⟩
    obtain ⟨c, hc⟩ : ∃ r, M.rHas (sl us) (v : Int) = r := ⟨_, rfl⟩
    have b1 := next_range HK.out.bb.bm (v : Int)
    have b2 := prev_range HK.out.bb.bm (v : Int)
    have b4 := sel_range HK.out.bb.bm k
    have l1 := next_low _ hx0 hup (v : Int)
    have l2 := prev_low _ hx0 hup (v : Int)
    have l4 := sel_low _ hx0 k
    rw [hr1] at b1 l1
    rw [hr2] at b2 l2
    rw [HR4.out] at b4 l4
    obtain ⟨x1, c1, e1, p1, q1, f1⟩ := numV_parts l1 b1
    obtain ⟨x2, c2, e2, p2, q2, f2⟩ := numV_parts l2 b2
    obtain ⟨x4, c4, e4, p4, q4, f4⟩ := numV_parts l4 b4
    have hHas : ∀ M, Hid (Calls Tryd.prog 17 #[.pointer (some ⟨p, 0, none⟩), .int .u16 (v : Int)] (w2.drewN M) fun e w'' => e = .returned (.bool c) ∧ ∃ m, w'' = w2.drewN m) := fun M => by
      have h1 := b_has (HK.out.bb.bm.drew M) v hv
      rw [hc] at h1
      exact Calls.quiet_of_same (h1.mono (by rintro e w' ⟨rfl, rfl⟩; exact ⟨rfl, rfl⟩))
    have hNext : ∀ M, Hid (Calls Tryd.prog 19 #[.pointer (some ⟨p, 0, none⟩), .int .u16 (v : Int)] (w2.drewN M) fun e w'' => e = .returned (.tuple #[.int .u16 x1, .bool c1]) ∧ ∃ m, w'' = w2.drewN m) := fun M => by
      have h1 := b_next (HK.out.bb.bm.drew M) (HK.out.tab.drew M) v hv
      rw [hr1, e1] at h1
      exact Calls.quiet_of h1
    have hPrev : ∀ M, Hid (Calls Tryd.prog 21 #[.pointer (some ⟨p, 0, none⟩), .int .u16 (v : Int)] (w2.drewN M) fun e w'' => e = .returned (.tuple #[.int .u16 x2, .bool c2]) ∧ ∃ m, w'' = w2.drewN m) := fun M => by
      have h1 := b_prev (HK.out.bb.bm.drew M) v hv
      rw [hr2, e2] at h1
      exact Calls.quiet_of h1
    have hRank : ∀ M, Hid (Calls Tryd.prog 23 #[.pointer (some ⟨p, 0, none⟩), .int .u16 (v : Int)] (w2.drewN M) fun e w'' => e = .returned (.int .i64 (r3 : Int)) ∧ ∃ m, w'' = w2.drewN m) := fun M => by
      have h1 := b_rank (HK.out.bb.bm.drew M) v hv
      rw [hr3] at h1
      exact Calls.quiet_of h1
    have hSel : ∀ M, Hid (Calls Tryd.prog 25 #[.pointer (some ⟨p, 0, none⟩), .int .i64 k] (w2.drewN M) fun e w'' => e = .returned (.tuple #[.int .u16 x4, .bool c4]) ∧ ∃ m, w'' = w2.drewN m) := fun M => by
      have h1 := b_select (HK.out.bb.bm.drew M) (HK.out.tab.drew M) k hk2
      rw [HR4.out, e4] at h1
      exact Calls.quiet_of h1
    have hfN : ∀ M, Hid (Calls Tryd.prog 20 #[.slice (some ⟨g, 0, none⟩) n n, .int .i64 (v : Int)] (w2.drewN M) fun e w'' => e = .returned (.int .i64 r1) ∧ ∃ m, w'' = w2.drewN m) := fun M => by
      have h1 := f_next (w2.drewN M) g n cs (HK.out.bb.rs.drew M) (v : Int) (by omega)
      rw [← HK.out.bb.same, hr1] at h1
      exact Calls.quiet_of_same (h1.mono (by rintro e w' ⟨rfl, rfl⟩; exact ⟨rfl, rfl⟩))
    have hfP : ∀ M, Hid (Calls Tryd.prog 22 #[.slice (some ⟨g, 0, none⟩) n n, .int .i64 (v : Int)] (w2.drewN M) fun e w'' => e = .returned (.int .i64 r2) ∧ ∃ m, w'' = w2.drewN m) := fun M => by
      have h1 := f_prev (w2.drewN M) g n cs (HK.out.bb.rs.drew M) (v : Int) (by omega)
      rw [← HK.out.bb.same, hr2] at h1
      exact Calls.quiet_of_same (h1.mono (by rintro e w' ⟨rfl, rfl⟩; exact ⟨rfl, rfl⟩))
    have hfR : ∀ M, Hid (Calls Tryd.prog 24 #[.slice (some ⟨g, 0, none⟩) n n, .int .i64 (v : Int)] (w2.drewN M) fun e w'' => e = .returned (.int .i64 (r3 : Int)) ∧ ∃ m, w'' = w2.drewN m) := fun M => by
      have h1 := f_rank (w2.drewN M) g n cs (HK.out.bb.rs.drew M) (v : Int)
      rw [← HK.out.bb.same, hr3] at h1
      exact Calls.quiet_of_same (h1.mono (by rintro e w' ⟨rfl, rfl⟩; exact ⟨rfl, rfl⟩))
    have hA : ∀ (x : Int) (b : Bool) (r : Int), 0 ≤ x → x ≤ 65535 → (if b then x else -1) = r → ∀ M, Hid (Calls Tryd.prog 18 #[.int .u16 x, .bool b] (w2.drewN M) fun e w'' => e = .returned (.int .i64 r) ∧ ∃ m, w'' = w2.drewN m) := fun x b r h0 h1 h2 M => by
      have h3 := f_at (w2.drewN M) x h0 h1 b
      rw [h2] at h3
      exact Calls.quiet_of_same (h3.mono (by rintro e w' ⟨rfl, rfl⟩; exact ⟨rfl, rfl⟩))
    have hA1 := hA x1 c1 r1 p1 q1 f1
    have hA2 := hA x2 c2 r2 p2 q2 f2
    have hA4 := hA x4 c4 r4 p4 q4 f4
    have hcell := has_at HK.out.bb.rs v hv
    rw [← HK.out.bb.same, hc] at hcell
    have hi1 : (0 : Int) ≤ (v : Int) := by omega
    have hi2 : (v : Int) < (n : Int) := by omega
    have hvn : v < n := by omega
    have hLow := HK.out.low
    have HLOW := Lib.hid hLow
    first
      | (have hr4n := (hneg (by omega)).out
         subst hr4n)
      | skip
    clear hr1 hr2 hr3 hc e1 e2 e4 f1 f2 f4 hA hx0 hup hsel hneg hLow b1 b2 b4 l1 l2 l4 p1 q1 p2 q2 p4 q4
    go_quiet ((first
      | (go_at_call 17; with_reducible exact (hHas _).out)
      | (go_at_call 19; with_reducible exact (hNext _).out)
      | (go_at_call 21; with_reducible exact (hPrev _).out)
      | (go_at_call 23; with_reducible exact (hRank _).out)
      | (go_at_call 25; with_reducible exact (hSel _).out)
      | (go_at_call 20; with_reducible exact (hfN _).out)
      | (go_at_call 22; with_reducible exact (hfP _).out)
      | (go_at_call 24; with_reducible exact (hfR _).out)
      | (go_at_call 18; first | with_reducible exact (hA1 _).out | with_reducible exact (hA2 _).out | with_reducible exact (hA4 _).out)))
    go_wp2
    go_ret
    exact ⟨rfl, below_drewN HLOW.out _⟩
end Go.Proofs.YtbbnamdlfnonoaaDoor
