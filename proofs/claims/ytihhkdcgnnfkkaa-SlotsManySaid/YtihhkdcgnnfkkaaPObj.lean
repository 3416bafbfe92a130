
/- Asking a pool: Len, Room, Live, Peek, At; a nil one; the texts walked. -/
import Derived.Test.YtihhkdcgnnfkkaaPMath
import Derived.StillTailTactics
import Derived.IntWalk
namespace Go.Proofs.Ytihhkdcgnnfkkaa.Pp
set_option maxRecDepth 4000
open Go.RowKit
section
variable (w : World) (B P M lim cn cf : Nat) (An Af : Option Addr) (ns : List (Nat × Bool)) (fs : List Nat)
theorem p_len (a : Po w B P M lim An cn Af cf ns fs) :
    Calls Try.prog 33 #[.pointer (some ⟨P, 0, none⟩)] w fun e w' => e = .returned (.int .i64 ((ns.length - fs.length : Nat) : Int)) ∧ ∃ n, w' = w.drewN n := by
  have hc2 := a.c2
  have hc3 := a.c3
  have h1 := a.ns_le
  have h2 := a.fs_le
  clear a
  generalize ns.length = n at *
  generalize fs.length = m at *
  have ws : IntKind.i64.wrap ((n : Int) - (m : Int)) = (n : Int) - (m : Int) := IntWalk.i64_in _ (by omega)
  go_enter Try.func33, Try.ntmps33
  go_wp2
  go_quiet (fail)
  go_wp2
  refine bodyPost_ret (results_tmp (t := 2) rfl _ _ _) rfl ?_
  exact ⟨ret_int (by omega), _, rfl⟩
theorem p_len_nil : Calls Try.prog 33 #[.pointer none] w fun e w' => e = .returned (.int .i64 0) ∧ w = w' := by
  go_enter Try.func33, Try.ntmps33
  go_wp2
  refine bodyPost_ret (results_tmp (t := 2) rfl _ _ _) rfl ?_
  exact ⟨rfl, rfl⟩
theorem p_room (a : Po w B P M lim An cn Af cf ns fs) (k : Int) :
    Calls Try.prog 34 #[.pointer (some ⟨P, 0, none⟩), .int .i64 k] w fun e w' => e = .returned (.bool (decide (k ≤ (lim : Int) - ((ns.length - fs.length : Nat) : Int)))) ∧ ∃ n, w' = w.drewN n := by
  have hc1 := a.c1
  have hl := fun N => Lib.hid (p_len (w.drewN N) B P M lim cn cf An Af ns fs (a.drew N))
  have h1 := a.ns_le
  have h3 := a.lim_le
  clear a
  have h2 : ns.length - fs.length ≤ 2097152 := by omega
  generalize ns.length - fs.length = n at *
  have ws : IntKind.i64.wrap ((lim : Int) - (n : Int)) = (lim : Int) - (n : Int) := IntWalk.i64_in _ (by omega)
  go_enter Try.func34, Try.ntmps34
  go_wp2
  go_quiet ((go_at_call 33; exact Calls.quiet_of (hl _).out))
  go_wp2
  go_ret
  exact ⟨rfl, _, rfl⟩
theorem p_room_nil (k : Int) : Calls Try.prog 34 #[.pointer none, .int .i64 k] w fun e w' => e = .returned (.bool false) ∧ ∃ n, w' = w.drewN n := by
  go_enter Try.func34, Try.ntmps34
  go_wp2
  go_quiet (fail)
  go_wp2
  go_ret
  exact ⟨rfl, _, rfl⟩
/-- Is place i taken? -/
def lv (ns : List (Nat × Bool)) (i : Int) : Bool := decide (0 ≤ i) && ((ns[i.toNat]?).map (·.2)).getD false
theorem p_live (a : Po w B P M lim An cn Af cf ns fs) (i : Int) :
    Calls Try.prog 39 #[.pointer (some ⟨P, 0, none⟩), .int .i64 i] w fun e w' => e = .returned (.bool (lv ns i)) ∧ w = w' := by
  have hc2 := a.c2
  have hle := a.ns_le
  by_cases h0 : 0 ≤ i
  · obtain ⟨k, rfl⟩ : ∃ k : Nat, i = (k : Int) := ⟨i.toNat, by omega⟩
    have g0 : decide (0 ≤ (k : Int)) = true := decide_eq_true h0
    by_cases hk : k < ns.length
    · obtain ⟨g, rfl, _, _, ha, _⟩ := a.at hk
      have hr : Hid (lv ns (k : Int) = ns[k].2) := by
        show lv ns (k : Int) = _
        unfold lv
        simp [hk]
      have g1 : decide ((k : Int) < (ns.length : Int)) = true := decide_eq_true (by omega)
      have k1 : (k : Int) < (ns.length : Int) := by omega
      have k2 : (k : Int).toNat = k := by omega
      clear a
      generalize ns[k].2 = b at *
      go_enter Try.func39, Try.ntmps39
      go_wp2
      go_ret
      exact ⟨ret_bool hr.out.symm, rfl⟩
    · have hr : Hid (lv ns (k : Int) = false) := by
        show lv ns (k : Int) = _
        unfold lv
        rw [Int.toNat_natCast, List.getElem?_eq_none (by omega)]
        simp
      have g1 : decide ((k : Int) < (ns.length : Int)) = false := decide_eq_false (by omega)
      clear a
      generalize ns.length = n at *
      go_enter Try.func39, Try.ntmps39
      go_wp2
      go_ret
      exact ⟨ret_bool hr.out.symm, rfl⟩
  · have g0 : decide (0 ≤ i) = false := decide_eq_false h0
    have hr : Hid (lv ns i = false) := by
      show lv ns i = _
      unfold lv
      rw [g0]; rfl
    clear a
    go_enter Try.func39, Try.ntmps39
    go_wp2
    go_ret
    exact ⟨ret_bool hr.out.symm, rfl⟩
theorem p_live_nil (i : Int) : Calls Try.prog 39 #[.pointer none, .int .i64 i] w fun e w' => e = .returned (.bool false) ∧ w = w' := by
  go_enter Try.func39, Try.ntmps39
  go_wp2
  go_ret
  exact ⟨rfl, rfl⟩
theorem lv_in {ns : List (Nat × Bool)} {i : Int} (h : lv ns i = true) : ∃ k : Nat, ∃ hk : k < ns.length, i = (k : Int) ∧ ns[k].2 = true := by
  unfold lv at h
  simp only [Bool.and_eq_true, decide_eq_true_eq] at h
  obtain ⟨h0, h1⟩ := h
  rcases Nat.lt_or_ge i.toNat ns.length with hk | hk
  · rw [List.getElem?_eq_getElem hk] at h1
    exact ⟨i.toNat, hk, by omega, by simpa using h1⟩
  · rw [List.getElem?_eq_none hk] at h1; simp at h1
theorem p_peek_no (i : Int) (p : Option Addr) (h : Calls Try.prog 39 #[.pointer p, .int .i64 i] w fun e w' => e = .returned (.bool false) ∧ w = w') :
    Calls Try.prog 40 #[.pointer p, .int .i64 i] w fun e w' => e = .returned (.tuple #[.int .u64 0, .bool false]) ∧ w = w' := by
  have hH := Lib.hid h
  clear h
  go_enter Try.func40, Try.ntmps40
  go_wp2_with (go_at_call 39; (with_reducible refine hH.out.mono ?_); rintro e w' ⟨rfl, rfl⟩)
  go_ret2
  exact ⟨rfl, rfl⟩
theorem p_peek_yes (a : Po w B P M lim An cn Af cf ns fs) (k : Nat) (hk : k < ns.length) (ht : ns[k].2 = true) :
    Calls Try.prog 40 #[.pointer (some ⟨P, 0, none⟩), .int .i64 (k : Int)] w fun e w' => e = .returned (.tuple #[.int .u64 (ns[k].1 : Int), .bool true]) ∧ w = w' := by
  have hl := Lib.hid (p_live w B P M lim cn cf An Af ns fs a k)
  have hr : lv ns (k : Int) = true := by
    unfold lv
    simp [hk, ht]
  rw [hr] at hl
  have hc2 := a.c2
  have hle := a.ns_le
  obtain ⟨g, rfl, _, hv, _, _⟩ := a.at hk
  have k1 : (k : Int) < (ns.length : Int) := by omega
  clear a hr ht
  generalize ns[k].1 = v at *
  go_enter Try.func40, Try.ntmps40
  go_wp2_with (go_at_call 39; (with_reducible refine hl.out.mono ?_); rintro e w' ⟨rfl, rfl⟩)
  go_ret2
  exact ⟨rfl, rfl⟩
theorem p_at_no (i : Int) (p : Option Addr) (h : Calls Try.prog 39 #[.pointer p, .int .i64 i] w fun e w' => e = .returned (.bool false) ∧ w = w') :
    Calls Try.prog 27 #[.pointer p, .int .i64 i] w fun e w' => e = .returned (.tuple #[.int .u64 0, .bool false]) ∧ w = w' := by
  have hH := Lib.hid (p_peek_no w i p h)
  clear h
  go_enter Try.func27, Try.ntmps27
  go_wp2_with (go_at_call 40; (with_reducible refine hH.out.mono ?_); rintro e w' ⟨rfl, rfl⟩)
  go_ret2
  exact ⟨rfl, rfl⟩
theorem p_at_yes (a : Po w B P M lim An cn Af cf ns fs) (k : Nat) (hk : k < ns.length) (ht : ns[k].2 = true) (r c s t p : Nat) (hM : Mt w M r c s t p) (hr : r < 1000000) (ht2 : t < 1000000) :
    Calls Try.prog 27 #[.pointer (some ⟨P, 0, none⟩), .int .i64 (k : Int)] w fun e w' => e = .returned (.tuple #[.int .u64 (ns[k].1 : Int), .bool true]) ∧ Mt w' M (r + 1) c s (t + 1) (max p (t + 1)) ∧ w.grownBy w' (some M) := by
  have hH := Lib.hid (p_peek_yes w B P M lim cn cf An Af ns fs a k hk ht)
  have hR := Lib.hid (m_read w M r c s t p hM hr ht2)
  have hc0 := a.c0
  clear a hM ht
  generalize ns[k].1 = v at *
  go_enter Try.func27, Try.ntmps27
  go_wp2_with (first
    | (go_at_call 40; (with_reducible refine hH.out.mono ?_); rintro e w' ⟨rfl, rfl⟩)
    | (go_at_call 41; (with_reducible refine hR.out.mono ?_); rintro e w2 ⟨rfl, hM2, hG2⟩; have hM2H := Lib.hid hM2; clear hM2; have hG2H := Lib.hid hG2; clear hG2))
  go_ret2
  exact ⟨rfl, hM2H.out, hG2H.out⟩
end
end Go.Proofs.Ytihhkdcgnnfkkaa.Pp
