
/- What the reference's Do answers, act by act: those that change nothing, and the one that reads. -/
import Derived.Test.YtpgmgldhpagieaaRObj
import Derived.Test.YtpgmgldhpagieaaPObj2
namespace Go.Proofs.Ytpgmgldhpagieaa
open Go.RowKit
abbrev actv (d : Nat) (i : Int) (V : Nat) : Value := .agg #[.int .u8 (d : Int), .int .i64 i, .int .u64 (V : Int)]
abbrev acto (d : Nat) (i : Int) (V : Nat) : Obj := .cells #[.int .u8 (d : Int), .int .i64 i, .int .u64 (V : Int)] 39
section
variable {w : World} {B R lim r cv cl cf : Nat} {Av Al Af : Option Addr} {ns : List (Nat × Bool)} {fs : List Nat}
theorem Rf.alloc (a : Rf w B R lim r Av cv Al cl Af cf ns fs) (o : Obj) : Rf (w.alloc o) B R lim r Av cv Al cl Af cf ns fs := a.but (but_alloc w o (fun _ => False)) (fun _ _ h => h)
theorem r_do1_no (a : Rf w B R lim r Av cv Al cl Af cf ns fs) (d : Nat) (hd : d < 256) (hr : d % 6 = 1) (i : Int) (V : Nat) (hl : lv ns i = false) :
    Calls Try.prog 18 #[.pointer (some ⟨R, 0, none⟩), actv d i V] w fun e w' => e = .returned (.tuple #[.int .i64 0, .int .u64 0, .bool false]) ∧ ∃ n, w' = (w.alloc (acto d i V)).drewN n := by
  have ht := Lib.hid (r_taken (a.alloc (acto d i V)) i)
  rw [hl] at ht
  have e1 : ((d : Int).tmod 6) = 1 := by rw [Int.tmod_eq_emod_of_nonneg (by omega)]; omega
  have e3 : (d : Int) % 6 = 1 := by omega
  clear a hl hr
  go_enter Try.func18, Try.ntmps18
  go_wp2_with (go_at_call 26; (with_reducible refine ht.out.mono ?_); rintro e w1 ⟨rfl, rfl⟩)
  refine bodyPost_ret (results_tmp3 rfl _ _ _) rfl ?_
  exact ⟨rfl, 0, rfl⟩
theorem r_do2_no (a : Rf w B R lim r Av cv Al cl Af cf ns fs) (d : Nat) (hd : d < 256) (hr : d % 6 = 2) (i : Int) (V : Nat) (hl : lv ns i = false) :
    Calls Try.prog 18 #[.pointer (some ⟨R, 0, none⟩), actv d i V] w fun e w' => e = .returned (.tuple #[.int .i64 0, .int .u64 0, .bool false]) ∧ ∃ n, w' = (w.alloc (acto d i V)).drewN n := by
  have ht := Lib.hid (r_taken (a.alloc (acto d i V)) i)
  rw [hl] at ht
  have e1 : ((d : Int).tmod 6) = 2 := by rw [Int.tmod_eq_emod_of_nonneg (by omega)]; omega
  have e3 : (d : Int) % 6 = 2 := by omega
  clear a hl hr
  go_enter Try.func18, Try.ntmps18
  go_wp2_with (go_at_call 26; (with_reducible refine ht.out.mono ?_); rintro e w1 ⟨rfl, rfl⟩)
  refine bodyPost_ret (results_tmp3 rfl _ _ _) rfl ?_
  exact ⟨rfl, 0, rfl⟩
theorem r_do3_no (a : Rf w B R lim r Av cv Al cl Af cf ns fs) (d : Nat) (hd : d < 256) (hr : d % 6 = 3) (i : Int) (V : Nat) (hl : lv ns i = false) :
    Calls Try.prog 18 #[.pointer (some ⟨R, 0, none⟩), actv d i V] w fun e w' => e = .returned (.tuple #[.int .i64 0, .int .u64 0, .bool false]) ∧ ∃ n, w' = (w.alloc (acto d i V)).drewN n := by
  have ht := Lib.hid (r_taken (a.alloc (acto d i V)) i)
  rw [hl] at ht
  have e1 : ((d : Int).tmod 6) = 3 := by rw [Int.tmod_eq_emod_of_nonneg (by omega)]; omega
  have e3 : (d : Int) % 6 = 3 := by omega
  clear a hl hr
  go_enter Try.func18, Try.ntmps18
  go_wp2_with (go_at_call 26; (with_reducible refine ht.out.mono ?_); rintro e w1 ⟨rfl, rfl⟩)
  refine bodyPost_ret (results_tmp3 rfl _ _ _) rfl ?_
  exact ⟨rfl, 0, rfl⟩
theorem r_do4_no (a : Rf w B R lim r Av cv Al cl Af cf ns fs) (d : Nat) (hd : d < 256) (hr : d % 6 = 4) (i : Int) (V : Nat) (hl : lv ns i = false) :
    Calls Try.prog 18 #[.pointer (some ⟨R, 0, none⟩), actv d i V] w fun e w' => e = .returned (.tuple #[.int .i64 0, .int .u64 0, .bool false]) ∧ ∃ n, w' = (w.alloc (acto d i V)).drewN n := by
  have ht := Lib.hid (r_taken (a.alloc (acto d i V)) i)
  rw [hl] at ht
  have e1 : ((d : Int).tmod 6) = 4 := by rw [Int.tmod_eq_emod_of_nonneg (by omega)]; omega
  have e3 : (d : Int) % 6 = 4 := by omega
  clear a hl hr
  go_enter Try.func18, Try.ntmps18
  go_wp2_with (go_at_call 26; (with_reducible refine ht.out.mono ?_); rintro e w1 ⟨rfl, rfl⟩)
  refine bodyPost_ret (results_tmp3 rfl _ _ _) rfl ?_
  exact ⟨rfl, 0, rfl⟩
theorem r_do4_yes (a : Rf w B R lim r Av cv Al cl Af cf ns fs) (d : Nat) (hd : d < 256) (hr : d % 6 = 4) (i : Int) (V : Nat) (hl : lv ns i = true) :
    Calls Try.prog 18 #[.pointer (some ⟨R, 0, none⟩), actv d i V] w fun e w' => e = .returned (.tuple #[.int .i64 0, .int .u64 0, .bool true]) ∧ ∃ n, w' = (w.alloc (acto d i V)).drewN n := by
  have ht := Lib.hid (r_taken (a.alloc (acto d i V)) i)
  rw [hl] at ht
  have e1 : ((d : Int).tmod 6) = 4 := by rw [Int.tmod_eq_emod_of_nonneg (by omega)]; omega
  have e3 : (d : Int) % 6 = 4 := by omega
  clear a hl hr
  go_enter Try.func18, Try.ntmps18
  go_wp2_with (go_at_call 26; (with_reducible refine ht.out.mono ?_); rintro e w1 ⟨rfl, rfl⟩)
  refine bodyPost_ret (results_tmp3 rfl _ _ _) rfl ?_
  exact ⟨rfl, 0, rfl⟩
theorem r_do0_full (a : Rf w B R lim r Av cv Al cl Af cf ns fs) (d : Nat) (hd : d < 256) (hr : d % 6 = 0) (i : Int) (V : Nat) (hf : lim ≤ tkn ns) :
    Calls Try.prog 18 #[.pointer (some ⟨R, 0, none⟩), actv d i V] w fun e w' => e = .returned (.tuple #[.int .i64 0, .int .u64 0, .bool false]) ∧ ∃ n, w' = (w.alloc (acto d i V)).drewN n := by
  have ht := Lib.hid (r_taken (a.alloc (acto d i V)) i)
  have hn := fun N => Lib.hid (r_len ((a.alloc (acto d i V)).drew N) (tkn ns : Int) rfl)
  have hc := (a.alloc (acto d i V)).c3
  have e1 : ((d : Int).tmod 6) = 0 := by rw [Int.tmod_eq_emod_of_nonneg (by omega)]; omega
  have e3 : (d : Int) % 6 = 0 := by omega
  have g1 : decide ((lim : Int) ≤ (tkn ns : Int)) = true := decide_eq_true (by omega)
  have g2 : decide (lim ≤ tkn ns) = true := decide_eq_true hf
  clear a hr hf
  generalize tkn ns = q at *
  go_enter Try.func18, Try.ntmps18
  go_wp2_with (go_at_call 26; (with_reducible refine ht.out.mono ?_); rintro e w1 ⟨rfl, rfl⟩)
  go_quiet ((go_at_call 10; exact Calls.quiet_of_same ((hn _).out.mono (by rintro e w' ⟨rfl, rfl⟩; exact ⟨rfl, rfl⟩))))
  go_wp2
  refine bodyPost_ret (results_tmp3 rfl _ _ _) rfl ?_
  exact ⟨rfl, _, rfl⟩
end
end Go.Proofs.Ytpgmgldhpagieaa
