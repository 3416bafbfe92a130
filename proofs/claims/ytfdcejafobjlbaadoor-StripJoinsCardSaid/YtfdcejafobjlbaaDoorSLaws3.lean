
/- The laws of asking a strip: each returns true at every input. -/
import Derived.Test.YtfdcejafobjlbaaDoorSLay
namespace Go.Proofs.YtfdcejafobjlbaaDoor
open Go.RowKit
theorem s_get_any (w : World) (s h : Nat) (ws : List Nat) (a : St w s h ws) (i : Int) :
    Calls Tryd.prog 19 #[.pointer (some ⟨s, 0, none⟩), .int .i64 i] w fun e w' => e = .returned (.bool (M.rHas (sl ws) i)) ∧ w = w' := by
  by_cases hi : 0 ≤ i ∧ i < ((64 * ws.length : Nat) : Int)
  · obtain ⟨k, rfl⟩ : ∃ k : Nat, i = (k : Int) := ⟨i.toNat, by omega⟩
    have e : M.rHas (sl ws) (k : Int) = sbit ws k := by
      rw [Bool.eq_iff_iff]
      unfold M.rHas
      rw [List.any_eq_true]
      constructor
      · rintro ⟨y, hy, he⟩
        have h1 := (sl_in.1 hy).2.2
        have h2 : y.toNat = k := by simp at he; omega
        rwa [h2] at h1
      · intro hb
        exact ⟨(k : Int), sl_in.2 ⟨by omega, by omega, by simpa using hb⟩, by simp⟩
    rw [e]
    exact s_get_in w s h ws a k (by omega)
  · have e : M.rHas (sl ws) i = false := by
      unfold M.rHas
      rw [List.any_eq_false]
      intro y hy he
      have := sl_in.1 hy
      simp at he
      omega
    rw [e]
    exact s_get_out w s h ws a i hi
theorem sel_neg_list {l : List Int} {k : Int} (h0 : ∀ y ∈ l, 0 ≤ y) (h : M.rSel l k < 0) : k < 0 ∨ (l.length : Int) ≤ k := by
  by_cases hk : k < 0 ∨ (l.length : Int) ≤ k
  · exact hk
  · exfalso
    unfold M.rSel at h
    rw [if_neg (by omega)] at h
    have hlt : k.toNat < l.length := by omega
    rw [List.getElem?_eq_getElem hlt] at h
    have := h0 _ (List.getElem_mem hlt)
    simp at h; omega
theorem ra_later {w w1 : World} {A : Option Addr} {xs : List (Nat × Int × Int)} (h : Ra w w.heap.size A xs) (hb : Below w.heap.size w w1) : Ra w1 w1.heap.size A xs := ⟨h.1, fun hne => by
  obtain ⟨b, off, rfl, hlt, hc⟩ := (h.below hb (Nat.le_refl _)).2 hne
  exact ⟨b, off, rfl, Nat.lt_of_lt_of_le hlt hb.size, hc⟩⟩
theorem lay_n (w : World) (A : Option Addr) (cp : Nat) (xs : List (Nat × Int × Int)) (hr : Ra w w.heap.size A xs) (hl : xs.length ≤ 9223372036854775807) (q : Nat) (hq : q < 256) (n : Nat) (hn : q % 5 = n) :
    Calls Tryd.prog 11 #[.int .u8 (q : Int), .slice A xs.length cp] w (LaidP w n) := by
  subst hn
  exact lay_any w A cp xs hr hl q hq
set_option maxHeartbeats 2000000 in
theorem law_inverse (A : Option Addr) (cp : Nat) (xs : List (Nat × Int × Int)) (q : Nat) (hq : q < 256) (k : Int) (hk2 : k ≤ 9223372036854775807) (w : World) (hT : Tab w) (hr : Ra w w.heap.size A xs) (hl : xs.length ≤ 9223372036854775807) :
    Calls Tryd.prog 5 #[.int .u8 (q : Int), .slice A xs.length cp, .int .i64 k] w fun e w' => e = .returned (.bool true) ∧ Below w.heap.size w w' := by
  have hrH := Lib.hid hr
  clear hr
  obtain ⟨n, hn⟩ : ∃ n, q % 5 = n := ⟨_, rfl⟩
  have hnH := Lib.hid hn
  clear hn
  go_enter Tryd.func5, Tryd.ntmps5
  go_wp2_with (go_at_call 10; (with_reducible refine (awake_any _ hT).mono ?_); rintro e w1 ⟨rfl, hb1⟩; have hB1 := Lib.hid hb1; clear hb1)
  go_wp2_with (go_at_call 11; (with_reducible refine (lay_n _ A cp xs (ra_later hrH.out hB1.out) hl q hq n hnH.out).mono ?_); rintro e w2 ⟨s, h, us, B, c, rfl, hul, hS, hRd, hs1, hh1, hb2⟩; have hSH := Lib.hid hS; clear hS; have hB2 := Lib.hid hb2; clear hb2; clear hRd hul)
  have hT2 := hT.below (hB1.out.trans (hB2.out.mono hB1.out.size)) hT.pos
  have hS2 : Hid (∀ o, St (w2.alloc o) s h us) := fun o => hSH.out.below ((Below.refl _ w2).alloc (Nat.le_refl _) o) hSH.out.lt.1 hSH.out.lt.2
  have hT3 : Hid (∀ o, Tab (w2.alloc o)) := fun o => hT2.below ((Below.refl _ w2).alloc (Nat.le_refl _) o) hT2.pos
  have hB3 : Hid (∀ o, Below w.heap.size w (w2.alloc o)) := fun o => (hB1.out.trans (hB2.out.mono hB1.out.size)).alloc (Nat.le_trans hB1.out.size hB2.out.size) o
  have hx0 : ∀ y ∈ sl us, 0 ≤ y := fun y hy => (sl_in.1 hy).1
  have hxlt : ∀ y ∈ sl us, y < 262144 := fun y hy => by have := (sl_in.1 hy).2.1; have := hSH.out.2.2.2; omega
  have hup := sl_up us
  by_cases hneg : M.rSel (sl us) k < 0
  · have hkk := sel_neg_list hx0 hneg
    clear hx0 hxlt hup
    by_cases h0 : k < 0
    · have d0 : decide (k < 0) = true := decide_eq_true h0
      clear hkk
      go_wp2_with (go_at_call 27; (with_reducible refine (s_select _ s h us (hS2.out _) (hT3.out _) k hk2).mono ?_); rintro e w3 ⟨rfl, N3, rfl⟩)
      go_ret
      exact ⟨rfl, below_drewN (hB3.out _) _⟩
    · have h1 : ((sl us).length : Int) ≤ k := by omega
      have d0 : decide (k < 0) = false := decide_eq_false h0
      have d1 : decide (((sl us).length : Int) ≤ k) = true := decide_eq_true h1
      clear hkk
      go_wp2_with (go_at_call 27; (with_reducible refine (s_select _ s h us (hS2.out _) (hT3.out _) k hk2).mono ?_); rintro e w3 ⟨rfl, N3, rfl⟩)
      go_ret
      exact ⟨rfl, below_drewN (hB3.out _) _⟩
  · obtain ⟨m, rfl, hm⟩ := M.sel_mem (l := sl us) (k := k) (by omega)
    obtain ⟨f1, f2, f3, f4⟩ := M.at_facts hup hm
    have hib := hxlt _ (List.mem_of_getElem? hm)
    have hge := hx0 _ (List.mem_of_getElem? hm)
    clear hm hx0 hxlt hup
    have hsel := fun w0 a b => Lib.hid (s_select w0 s h us a b m hk2)
    generalize M.rSel (sl us) m = i at *
    clear hneg
    have hrank : ∀ w0, St w0 s h us → Hid (Calls Tryd.prog 25 #[.pointer (some ⟨s, 0, none⟩), .int .i64 i] w0 fun e w' => e = .returned (.int .i64 (m : Int)) ∧ ∃ n, w' = w0.drewN n) := fun w0 a => by
      have := s_rank w0 s h us a i
      rw [f2] at this
      exact this
    have hget : ∀ w0, St w0 s h us → Hid (Calls Tryd.prog 19 #[.pointer (some ⟨s, 0, none⟩), .int .i64 i] w0 fun e w' => e = .returned (.bool true) ∧ w0 = w') := fun w0 a => by
      have := s_get_any w0 s h us a i
      rw [f1] at this
      exact this
    have hnext : ∀ w0, St w0 s h us → Tab w0 → Hid (Calls Tryd.prog 21 #[.pointer (some ⟨s, 0, none⟩), .int .i64 i] w0 fun e w' => e = .returned (.int .i64 i) ∧ ∃ n, w' = w0.drewN n) := fun w0 a b => by
      have := s_next w0 s h us a b i (by omega)
      rw [f3] at this
      exact this
    have hprev : ∀ w0, St w0 s h us → Hid (Calls Tryd.prog 23 #[.pointer (some ⟨s, 0, none⟩), .int .i64 i] w0 fun e w' => e = .returned (.int .i64 i) ∧ ∃ n, w' = w0.drewN n) := fun w0 a => by
      have := s_prev w0 s h us a i (by omega)
      rw [f4] at this
      exact this
    clear f1 f2 f3 f4
    go_wp2_with (first
      | (go_at_call 27; (with_reducible refine (hsel _ (hS2.out _) (hT3.out _)).out.mono ?_); rintro e w3 ⟨rfl, N3, rfl⟩)
      | (go_at_call 25; (with_reducible refine (hrank _ ((hS2.out _).drew _)).out.mono ?_); rintro e w3 ⟨rfl, N4, rfl⟩)
      | (go_at_call 19; (with_reducible refine (hget _ ((hS2.out _).drew _)).out.mono ?_); rintro e w3 ⟨rfl, rfl⟩)
      | (go_at_call 21; (with_reducible refine (hnext _ ((hS2.out _).drew _) ((hT3.out _).drew _)).out.mono ?_); rintro e w3 ⟨rfl, N5, rfl⟩)
      | (go_at_call 23; (with_reducible refine (hprev _ ((hS2.out _).drew _)).out.mono ?_); rintro e w3 ⟨rfl, N6, rfl⟩))
    go_ret
    exact ⟨rfl, below_drewN (hB3.out _) _⟩
set_option maxHeartbeats 4000000 in
theorem law_asks (A : Option Addr) (cp : Nat) (xs : List (Nat × Int × Int)) (q : Nat) (hq : q < 256) (i k : Int) (hi1 : -9223372036854775808 ≤ i) (hi2 : i ≤ 9223372036854775807) (hk2 : k ≤ 9223372036854775807) (w : World) (hT : Tab w) (hr : Ra w w.heap.size A xs) (hl : xs.length ≤ 9223372036854775807) :
    Calls Tryd.prog 4 #[.int .u8 (q : Int), .slice A xs.length cp, .int .i64 i, .int .i64 k] w fun e w' => e = .returned (.bool true) ∧ Below w.heap.size w w' := by
  have hrH := Lib.hid hr
  clear hr
  obtain ⟨n, hn⟩ : ∃ n, q % 5 = n := ⟨_, rfl⟩
  have hnH := Lib.hid hn
  clear hn
  go_enter Tryd.func4, Tryd.ntmps4
  go_wp2_with (go_at_call 10; (with_reducible refine (awake_any _ hT).mono ?_); rintro e w1 ⟨rfl, hb1⟩; have hB1 := Lib.hid hb1; clear hb1)
  go_wp2_with (go_at_call 11; (with_reducible refine (lay_n _ A cp xs (ra_later hrH.out hB1.out) hl q hq n hnH.out).mono ?_); rintro e w2 ⟨s, h, us, B, c, rfl, hul, hS, hRd, hs1, hh1, hb2⟩; have hSH := Lib.hid hS; clear hS; have hB2 := Lib.hid hb2; clear hb2; have hRH := Lib.hid hRd; clear hRd hul)
  have hT2 := hT.below (hB1.out.trans (hB2.out.mono hB1.out.size)) hT.pos
  have hS2 : Hid (∀ o, St (w2.alloc o) s h us) := fun o => hSH.out.below ((Below.refl _ w2).alloc (Nat.le_refl _) o) hSH.out.lt.1 hSH.out.lt.2
  have hT3 : Hid (∀ o, Tab (w2.alloc o)) := fun o => hT2.below ((Below.refl _ w2).alloc (Nat.le_refl _) o) hT2.pos
  have hB3 : Hid (∀ o, Below w.heap.size w (w2.alloc o)) := fun o => (hB1.out.trans (hB2.out.mono hB1.out.size)).alloc (Nat.le_trans hB1.out.size hB2.out.size) o
  have hR3 : Hid (∀ o, Rd (w2.alloc o) w2.heap.size B (sl us)) := fun o => hRH.out.below ((Below.refl _ w2).alloc (Nat.le_refl _) o) (Nat.le_refl _)
  have hlen : (sl us).length ≤ 4611686018427387904 := by
    have := sorted_len (64 * us.length) (sl_up us) (fun y hy => by have := sl_in.1 hy; omega)
    have := hSH.out.2.2.2
    omega
  go_quiet ((first
    | (go_at_call 19; exact Calls.quiet_of_same ((s_get_any _ s h us ((hS2.out _).drew _) i).mono (by rintro e w' ⟨rfl, rfl⟩; exact ⟨rfl, rfl⟩)))
    | (go_at_call 21; exact Calls.quiet_of (s_next _ s h us ((hS2.out _).drew _) ((hT3.out _).drew _) i hi2))
    | (go_at_call 23; exact Calls.quiet_of (s_prev _ s h us ((hS2.out _).drew _) i hi1))
    | (go_at_call 25; exact Calls.quiet_of (s_rank _ s h us ((hS2.out _).drew _) i))
    | (go_at_call 27; exact Calls.quiet_of (s_select _ s h us ((hS2.out _).drew _) ((hT3.out _).drew _) k hk2))
    | (go_at_call 29; exact Calls.quiet_of (s_count _ s h us ((hS2.out _).drew _)))
    | (go_at_call 20; exact Calls.quiet_of_same ((ref_has B c (sl us) i _ _ ((hR3.out _).drew _) hlen).mono (by rintro e w' ⟨rfl, rfl⟩; exact ⟨rfl, rfl⟩)))
    | (go_at_call 22; exact Calls.quiet_of_same ((ref_next B c (sl us) i _ _ ((hR3.out _).drew _) hlen).mono (by rintro e w' ⟨rfl, rfl⟩; exact ⟨rfl, rfl⟩)))
    | (go_at_call 24; exact Calls.quiet_of_same ((ref_prev B c (sl us) i _ _ ((hR3.out _).drew _) hlen).mono (by rintro e w' ⟨rfl, rfl⟩; exact ⟨rfl, rfl⟩)))
    | (go_at_call 26; exact Calls.quiet_of_same ((ref_rank B c (sl us) i _ _ ((hR3.out _).drew _) hlen).mono (by rintro e w' ⟨rfl, rfl⟩; exact ⟨rfl, rfl⟩)))
    | (go_at_call 28; exact Calls.quiet_of_same ((ref_select B c (sl us) k _ _ ((hR3.out _).drew _) hlen).mono (by rintro e w' ⟨rfl, rfl⟩; exact ⟨rfl, rfl⟩)))))
  go_wp2
  go_ret
  exact ⟨rfl, below_drewN (hB3.out _) _⟩
end Go.Proofs.YtfdcejafobjlbaaDoor
