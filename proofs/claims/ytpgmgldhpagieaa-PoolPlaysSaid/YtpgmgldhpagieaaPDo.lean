
/- The law's own 'do': a step of the reference's, a step of the pool's; the text walked, one kind of act at a time. -/
import Derived.Test.YtpgmgldhpagieaaPBoth
namespace Go.Proofs.Ytpgmgldhpagieaa
open Go.RowKit
theorem beq_selfI (n : Int) : (n == n) = true := by simp
set_option maxRecDepth 20000 in
theorem do_0 (w : World) (P R : Nat) (d : Nat) (hd : d < 256) (hr : d % 6 = 0) (i : Int) (V : Nat) (n : Int) (b : Bool) (S1 Sf : World → Prop)
    (hDo : Calls Try.prog 18 #[.pointer (some ⟨R, 0, none⟩), actv d i V] (w.alloc (acto d i V)) fun e w' => e = .returned (.tuple #[.int .i64 n, .int .u64 0, .bool b]) ∧ S1 w' ∧ w'.heap[w.heap.size]? = some (acto d i V))
    (hP : ∀ w2, S1 w2 → Calls Try.prog 16 #[.pointer (some ⟨P, 0, none⟩), .int .u64 (V : Int)] w2 fun e w' => e = .returned (.tuple #[.int .i64 n, .bool b]) ∧ Sf w') :
    Calls Try.prog 8 #[.pointer (some ⟨P, 0, none⟩), .pointer (some ⟨R, 0, none⟩), actv d i V] w fun e w' => e = .returned (.bool true) ∧ Sf w' := by
  have e1 : ((d : Int).tmod 6) = 0 := by rw [Int.tmod_eq_emod_of_nonneg (by omega)]; omega
  have e3 : (d : Int) % 6 = 0 := by omega
  have hBox : (w.alloc (acto d i V)).heap[w.heap.size]? = some (acto d i V) := alloc_top _ _ rfl
  have cells : ∀ w2 : World, w2.heap[w.heap.size]? = some (acto d i V) → w2.cell? ⟨w.heap.size, 0, none⟩ = some (.int .u8 (d : Int)) ∧ w2.cell? ⟨w.heap.size, 1, none⟩ = some (.int .i64 i) ∧ w2.cell? ⟨w.heap.size, 2, none⟩ = some (.int .u64 (V : Int)) := fun w2 h => ⟨cell_of_row w2 _ 0 _ _ (0, 0) h, cell_of_row w2 _ 1 _ _ (0, 0) h, cell_of_row w2 _ 2 _ _ (0, 0) h⟩
  have CELLS := Lib.hid cells
  have HDO := Lib.hid hDo
  have HP := Lib.hid hP
  clear cells hDo hP hBox hr
  go_enter Try.func8, Try.ntmps8
  go_wp2_with (first
    | (go_at_call 18; (with_reducible refine HDO.out.mono ?_); rintro e w2 ⟨rfl, hs2, hb2⟩; obtain ⟨k0, k1, k2⟩ := CELLS.out w2 hb2; have S2 := Lib.hid hs2; clear hs2 hb2)
    | (go_at_call 16; (with_reducible refine (HP.out w2 S2.out).mono ?_); rintro e w3 ⟨rfl, hs3⟩; have S3 := Lib.hid hs3; clear hs3))
  go_ret
  exact ⟨ret_bool (by simp), S3.out⟩
set_option maxRecDepth 20000 in
theorem do_1 (w : World) (P R : Nat) (d : Nat) (hd : d < 256) (hr : d % 6 = 1) (i : Int) (V : Nat) (b : Bool) (S1 Sf : World → Prop)
    (hDo : Calls Try.prog 18 #[.pointer (some ⟨R, 0, none⟩), actv d i V] (w.alloc (acto d i V)) fun e w' => e = .returned (.tuple #[.int .i64 0, .int .u64 0, .bool b]) ∧ S1 w' ∧ w'.heap[w.heap.size]? = some (acto d i V))
    (hP : ∀ w2, S1 w2 → Calls Try.prog 17 #[.pointer (some ⟨P, 0, none⟩), .int .i64 i] w2 fun e w' => e = .returned (.bool b) ∧ Sf w') :
    Calls Try.prog 8 #[.pointer (some ⟨P, 0, none⟩), .pointer (some ⟨R, 0, none⟩), actv d i V] w fun e w' => e = .returned (.bool true) ∧ Sf w' := by
  have e1 : ((d : Int).tmod 6) = 1 := by rw [Int.tmod_eq_emod_of_nonneg (by omega)]; omega
  have e3 : (d : Int) % 6 = 1 := by omega
  have hBox : (w.alloc (acto d i V)).heap[w.heap.size]? = some (acto d i V) := alloc_top _ _ rfl
  have cells : ∀ w2 : World, w2.heap[w.heap.size]? = some (acto d i V) → w2.cell? ⟨w.heap.size, 0, none⟩ = some (.int .u8 (d : Int)) ∧ w2.cell? ⟨w.heap.size, 1, none⟩ = some (.int .i64 i) ∧ w2.cell? ⟨w.heap.size, 2, none⟩ = some (.int .u64 (V : Int)) := fun w2 h => ⟨cell_of_row w2 _ 0 _ _ (0, 0) h, cell_of_row w2 _ 1 _ _ (0, 0) h, cell_of_row w2 _ 2 _ _ (0, 0) h⟩
  have CELLS := Lib.hid cells
  have HDO := Lib.hid hDo
  have HP := Lib.hid hP
  clear cells hDo hP hBox hr
  go_enter Try.func8, Try.ntmps8
  go_wp2_with (first
    | (go_at_call 18; (with_reducible refine HDO.out.mono ?_); rintro e w2 ⟨rfl, hs2, hb2⟩; obtain ⟨k0, k1, k2⟩ := CELLS.out w2 hb2; have S2 := Lib.hid hs2; clear hs2 hb2)
    | (go_at_call 17; (with_reducible refine (HP.out w2 S2.out).mono ?_); rintro e w3 ⟨rfl, hs3⟩; have S3 := Lib.hid hs3; clear hs3))
  go_ret
  exact ⟨ret_bool (by simp), S3.out⟩
set_option maxRecDepth 20000 in
theorem do_3 (w : World) (P R : Nat) (d : Nat) (hd : d < 256) (hr : d % 6 = 3) (i : Int) (V : Nat) (b : Bool) (S1 Sf : World → Prop)
    (hDo : Calls Try.prog 18 #[.pointer (some ⟨R, 0, none⟩), actv d i V] (w.alloc (acto d i V)) fun e w' => e = .returned (.tuple #[.int .i64 0, .int .u64 0, .bool b]) ∧ S1 w' ∧ w'.heap[w.heap.size]? = some (acto d i V))
    (hP : ∀ w2, S1 w2 → Calls Try.prog 21 #[.pointer (some ⟨P, 0, none⟩), .int .i64 i, .int .u64 (V : Int)] w2 fun e w' => e = .returned (.bool b) ∧ Sf w') :
    Calls Try.prog 8 #[.pointer (some ⟨P, 0, none⟩), .pointer (some ⟨R, 0, none⟩), actv d i V] w fun e w' => e = .returned (.bool true) ∧ Sf w' := by
  have e1 : ((d : Int).tmod 6) = 3 := by rw [Int.tmod_eq_emod_of_nonneg (by omega)]; omega
  have e3 : (d : Int) % 6 = 3 := by omega
  have hBox : (w.alloc (acto d i V)).heap[w.heap.size]? = some (acto d i V) := alloc_top _ _ rfl
  have cells : ∀ w2 : World, w2.heap[w.heap.size]? = some (acto d i V) → w2.cell? ⟨w.heap.size, 0, none⟩ = some (.int .u8 (d : Int)) ∧ w2.cell? ⟨w.heap.size, 1, none⟩ = some (.int .i64 i) ∧ w2.cell? ⟨w.heap.size, 2, none⟩ = some (.int .u64 (V : Int)) := fun w2 h => ⟨cell_of_row w2 _ 0 _ _ (0, 0) h, cell_of_row w2 _ 1 _ _ (0, 0) h, cell_of_row w2 _ 2 _ _ (0, 0) h⟩
  have CELLS := Lib.hid cells
  have HDO := Lib.hid hDo
  have HP := Lib.hid hP
  clear cells hDo hP hBox hr
  go_enter Try.func8, Try.ntmps8
  go_wp2_with (first
    | (go_at_call 18; (with_reducible refine HDO.out.mono ?_); rintro e w2 ⟨rfl, hs2, hb2⟩; obtain ⟨k0, k1, k2⟩ := CELLS.out w2 hb2; have S2 := Lib.hid hs2; clear hs2 hb2)
    | (go_at_call 21; (with_reducible refine (HP.out w2 S2.out).mono ?_); rintro e w3 ⟨rfl, hs3⟩; have S3 := Lib.hid hs3; clear hs3))
  go_ret
  exact ⟨ret_bool (by simp), S3.out⟩
set_option maxRecDepth 20000 in
theorem do_4 (w : World) (P R : Nat) (d : Nat) (hd : d < 256) (hr : d % 6 = 4) (i : Int) (V : Nat) (b : Bool) (S1 Sf : World → Prop)
    (hDo : Calls Try.prog 18 #[.pointer (some ⟨R, 0, none⟩), actv d i V] (w.alloc (acto d i V)) fun e w' => e = .returned (.tuple #[.int .i64 0, .int .u64 0, .bool b]) ∧ S1 w' ∧ w'.heap[w.heap.size]? = some (acto d i V))
    (hP : ∀ w2, S1 w2 → Calls Try.prog 22 #[.pointer (some ⟨P, 0, none⟩), .int .i64 i] w2 fun e w' => e = .returned (.bool b) ∧ Sf w') :
    Calls Try.prog 8 #[.pointer (some ⟨P, 0, none⟩), .pointer (some ⟨R, 0, none⟩), actv d i V] w fun e w' => e = .returned (.bool true) ∧ Sf w' := by
  have e1 : ((d : Int).tmod 6) = 4 := by rw [Int.tmod_eq_emod_of_nonneg (by omega)]; omega
  have e3 : (d : Int) % 6 = 4 := by omega
  have hBox : (w.alloc (acto d i V)).heap[w.heap.size]? = some (acto d i V) := alloc_top _ _ rfl
  have cells : ∀ w2 : World, w2.heap[w.heap.size]? = some (acto d i V) → w2.cell? ⟨w.heap.size, 0, none⟩ = some (.int .u8 (d : Int)) ∧ w2.cell? ⟨w.heap.size, 1, none⟩ = some (.int .i64 i) ∧ w2.cell? ⟨w.heap.size, 2, none⟩ = some (.int .u64 (V : Int)) := fun w2 h => ⟨cell_of_row w2 _ 0 _ _ (0, 0) h, cell_of_row w2 _ 1 _ _ (0, 0) h, cell_of_row w2 _ 2 _ _ (0, 0) h⟩
  have CELLS := Lib.hid cells
  have HDO := Lib.hid hDo
  have HP := Lib.hid hP
  clear cells hDo hP hBox hr
  go_enter Try.func8, Try.ntmps8
  go_wp2_with (first
    | (go_at_call 18; (with_reducible refine HDO.out.mono ?_); rintro e w2 ⟨rfl, hs2, hb2⟩; obtain ⟨k0, k1, k2⟩ := CELLS.out w2 hb2; have S2 := Lib.hid hs2; clear hs2 hb2)
    | (go_at_call 22; (with_reducible refine (HP.out w2 S2.out).mono ?_); rintro e w3 ⟨rfl, hs3⟩; have S3 := Lib.hid hs3; clear hs3))
  go_ret
  exact ⟨ret_bool (by simp), S3.out⟩
set_option maxRecDepth 20000 in
theorem do_2 (w : World) (P R : Nat) (d : Nat) (hd : d < 256) (hr : d % 6 = 2) (i : Int) (V : Nat) (v : Int) (b : Bool) (S1 Sf : World → Prop)
    (hDo : Calls Try.prog 18 #[.pointer (some ⟨R, 0, none⟩), actv d i V] (w.alloc (acto d i V)) fun e w' => e = .returned (.tuple #[.int .i64 0, .int .u64 v, .bool b]) ∧ S1 w' ∧ w'.heap[w.heap.size]? = some (acto d i V))
    (hP : ∀ w2, S1 w2 → w2.heap[w.heap.size]? = some (acto d i V) → Calls Try.prog 19 #[.pointer (some ⟨P, 0, none⟩), .int .i64 i] w2 fun e w' => e = .returned (.tuple #[.int .u64 v, .bool b]) ∧ Sf w' ∧ w'.heap[w.heap.size]? = some (acto d i V))
    (hQ : ∀ w2, Sf w2 → Calls Try.prog 20 #[.pointer (some ⟨P, 0, none⟩), .int .i64 i] w2 fun e w' => e = .returned (.tuple #[.int .u64 v, .bool b]) ∧ w2 = w') :
    Calls Try.prog 8 #[.pointer (some ⟨P, 0, none⟩), .pointer (some ⟨R, 0, none⟩), actv d i V] w fun e w' => e = .returned (.bool true) ∧ Sf w' := by
  have e1 : ((d : Int).tmod 6) = 2 := by rw [Int.tmod_eq_emod_of_nonneg (by omega)]; omega
  have e3 : (d : Int) % 6 = 2 := by omega
  have hBox : (w.alloc (acto d i V)).heap[w.heap.size]? = some (acto d i V) := alloc_top _ _ rfl
  have cells : ∀ w2 : World, w2.heap[w.heap.size]? = some (acto d i V) → w2.cell? ⟨w.heap.size, 0, none⟩ = some (.int .u8 (d : Int)) ∧ w2.cell? ⟨w.heap.size, 1, none⟩ = some (.int .i64 i) ∧ w2.cell? ⟨w.heap.size, 2, none⟩ = some (.int .u64 (V : Int)) := fun w2 h => ⟨cell_of_row w2 _ 0 _ _ (0, 0) h, cell_of_row w2 _ 1 _ _ (0, 0) h, cell_of_row w2 _ 2 _ _ (0, 0) h⟩
  have CELLS := Lib.hid cells
  have HDO := Lib.hid hDo
  have HP := Lib.hid hP
  have HQ := Lib.hid hQ
  clear hQ cells hDo hP hBox hr
  go_enter Try.func8, Try.ntmps8
  go_wp2_with (first
    | (go_at_call 18; (with_reducible refine HDO.out.mono ?_); rintro e w2 ⟨rfl, hs2, hb2⟩; obtain ⟨k0, k1, k2⟩ := CELLS.out w2 hb2; have S2 := Lib.hid hs2; have HB2 := Lib.hid hb2; clear hs2 hb2)
    | (go_at_call 19; (with_reducible refine (HP.out w2 S2.out HB2.out).mono ?_); rintro e w3 ⟨rfl, hs3, hb3⟩; obtain ⟨k30, k31, k32⟩ := CELLS.out w3 hb3; have S3 := Lib.hid hs3; clear hs3 hb3)
    | (go_at_call 20; (with_reducible refine (HQ.out w3 S3.out).mono ?_); rintro e w4 ⟨rfl, rfl⟩))
  go_ret
  exact ⟨ret_bool (by simp), S3.out⟩
set_option maxRecDepth 20000 in
theorem do_5 (w : World) (P R : Nat) (d : Nat) (hd : d < 256) (hr : d % 6 = 5) (i : Int) (V : Nat) (S1 Sf : World → Prop)
    (hDo : Calls Try.prog 18 #[.pointer (some ⟨R, 0, none⟩), actv d i V] (w.alloc (acto d i V)) fun e w' => e = .returned (.tuple #[.int .i64 0, .int .u64 0, .bool true]) ∧ S1 w' ∧ w'.heap[w.heap.size]? = some (acto d i V))
    (hP : ∀ w2, S1 w2 → Calls Try.prog 23 #[.pointer (some ⟨P, 0, none⟩)] w2 fun e w' => e = .returned (.tuple #[]) ∧ Sf w') :
    Calls Try.prog 8 #[.pointer (some ⟨P, 0, none⟩), .pointer (some ⟨R, 0, none⟩), actv d i V] w fun e w' => e = .returned (.bool true) ∧ Sf w' := by
  have e1 : ((d : Int).tmod 6) = 5 := by rw [Int.tmod_eq_emod_of_nonneg (by omega)]; omega
  have e3 : (d : Int) % 6 = 5 := by omega
  have hBox : (w.alloc (acto d i V)).heap[w.heap.size]? = some (acto d i V) := alloc_top _ _ rfl
  have cells : ∀ w2 : World, w2.heap[w.heap.size]? = some (acto d i V) → w2.cell? ⟨w.heap.size, 0, none⟩ = some (.int .u8 (d : Int)) ∧ w2.cell? ⟨w.heap.size, 1, none⟩ = some (.int .i64 i) ∧ w2.cell? ⟨w.heap.size, 2, none⟩ = some (.int .u64 (V : Int)) := fun w2 h => ⟨cell_of_row w2 _ 0 _ _ (0, 0) h, cell_of_row w2 _ 1 _ _ (0, 0) h, cell_of_row w2 _ 2 _ _ (0, 0) h⟩
  have CELLS := Lib.hid cells
  have HDO := Lib.hid hDo
  have HP := Lib.hid hP
  clear cells hDo hP hBox hr
  go_enter Try.func8, Try.ntmps8
  go_wp2_with (first
    | (go_at_call 18; (with_reducible refine HDO.out.mono ?_); rintro e w2 ⟨rfl, hs2, hb2⟩; obtain ⟨k0, k1, k2⟩ := CELLS.out w2 hb2; have S2 := Lib.hid hs2; clear hs2 hb2)
    | (go_at_call 23; (with_reducible refine (HP.out w2 S2.out).mono ?_); rintro e w3 ⟨rfl, hs3⟩; have S3 := Lib.hid hs3; clear hs3))
  go_ret
  exact ⟨ret_bool (by simp), S3.out⟩
end Go.Proofs.Ytpgmgldhpagieaa
