
/- A number's bytes: put, size, Number, Size; the texts walked. -/
import Derived.Test.YtclaejaicjmohaaD3
import Derived.Laws.MakeOwn
namespace Go.Proofs.Ytclaejaicjmohaa
set_option maxRecDepth 20000
open Go.RowKit
namespace E
theorem enc_ten {n : Nat} (h : n < 18446744073709551616) : (enc n).length ≤ 10 := by
  have : ∀ (k n : Nat), n < 128 ^ (k + 1) → (enc n).length ≤ k + 1 := by
    intro k
    induction k with
    | zero => intro n h; rw [enc_lt (by simpa using h)]; simp
    | succ k ih =>
      intro n h
      rcases Nat.lt_or_ge n 128 with h1 | h1
      · rw [enc_lt h1]; simp
      · rw [enc_ge h1, List.length_cons]
        have := ih (n / 128) (by rw [Nat.pow_succ] at h; omega)
        omega
  exact this 9 n (by rw [show 128 ^ (9 + 1) = 1180591620717411303424 from rfl]; omega)
theorem own_put {B : Nat} {w w0 w1 : World} {xs : List Nat} {y : Nat} {v v' : Value} {t : TypeId} (hB : B ≤ w0.heap.size) (hb : Below B w w0) (hown : w0.ownsRow B 5 1 v xs.length (bv xs))
    (hown' : w1.ownsRow B 5 1 v' (xs.length + 1) (bv xs ++ [.int .u8 (y : Int)])) (hgrow : (w0.alloc (.cells #[.int .u8 (y : Int)] t)).grownBy w1 v.ownBlock) :
    w1.ownsRow B 5 1 v' (xs ++ [y]).length (bv (xs ++ [y])) ∧ Below B w w1 :=
  ⟨by rw [bv, List.map_append, List.length_append]; exact hown', (hb.alloc hB _).grown hgrow (by simp; omega) (fun g hg => (hown.lt g hg).1)⟩
theorem or_all : ∀ a : Fin 256, bits BinOp.or IntKind.u8 ((a.val : Nat) : Int) 128 = ((128 + a.val % 128 : Nat) : Int) := by decide +kernel
theorem or_byte (m : Nat) : bits BinOp.or IntKind.u8 ((m : Int) % 256) 128 = ((128 + m % 128 : Nat) : Int) := by
  have h := or_all ⟨m % 256, Nat.mod_lt _ (by omega)⟩
  have e : ((m % 256 : Nat) : Int) = (m : Int) % 256 := by omega
  have e2 : m % 256 % 128 = m % 128 := by omega
  simp only [e2] at h
  rw [e] at h
  exact h
set_option maxRecDepth 100000 in
set_option maxHeartbeats 4000000 in
theorem put_any (w : World) (B : Nat) (hB : B ≤ w.heap.size) (v : Value) (bs : List Nat) (n : Nat) (hn : n < 18446744073709551616) (h : w.ownsRow B 5 1 v bs.length (bv bs)) (hl : bs.length ≤ 100000000) :
    Calls Try.prog 24 #[v, .int .u64 (n : Int)] w fun e w' => ∃ v', e = .returned v' ∧ w'.ownsRow B 5 1 v' (bs ++ enc n).length (bv (bs ++ enc n)) ∧ Below B w w' := by
  obtain ⟨i0, hi, hz0, hz1, hz2⟩ := info_parts byte_info
  have H10 := Lib.hid (enc_ten hn)
  have HL := Lib.hid hl
  have HO := Lib.hid h
  clear h hl
  go_enter Try.func24, Try.ntmps24
  go_wp2
  go_loopw [0, 1] (fun p i wr => ∃ (m : Nat) (cs : List Nat), i = .int .u64 m ∧ m < 18446744073709551616 ∧ Hid (cs ++ enc m = bs ++ enc n) ∧ Hid (wr.ownsRow B 5 1 p cs.length (bv cs)) ∧ Hid (Below B w wr) ∧ B ≤ wr.heap.size) (fun _ i _ => (intOf i).toNat)
  case atStart => exact ⟨n, bs, rfl, hn, Lib.hid rfl, HO, Lib.hid (Below.refl _ _), hB⟩
  case round =>
    obtain ⟨m, cs, rfl, hm, HE, HW, HBL, hBr⟩ := hrel
    by_cases hge : 128 ≤ m
    · have d0 : decide ((128 : Int) ≤ (m : Int)) = true := decide_eq_true (by omega)
      have d1 : decide (128 ≤ m) = true := decide_eq_true hge
      obtain ⟨y, hy⟩ : ∃ y, 128 + m % 128 = y := ⟨_, rfl⟩
      have b0 : bits BinOp.or IntKind.u8 ((m : Int) % 256) 128 = (y : Int) := by rw [← hy]; exact or_byte m
      have hq : (m : Int) / 128 = ((m / 128 : Nat) : Int) := by omega
      obtain ⟨q, hq2⟩ : ∃ q, m / 128 = q := ⟨_, rfl⟩
      rw [hq2] at hq
      have HE2 : Hid ((cs ++ [y]) ++ enc q = bs ++ enc n) := Lib.hid (by rw [← HE.out, enc_ge hge, hy, hq2]; simp)
      have hlen : cs.length ≤ 100000010 := by
        have h1 := congrArg List.length HE.out
        rw [List.length_append, List.length_append] at h1
        have h2 := HL.out
        have h3 := H10.out
        omega
      have hqlt : q < m := by omega
      clear hy hq2
      go_wp2_with (at_builtin; refine wpList_append_own _ rfl _ _ 23 rfl B 5 i0 (.int .u8 0) 1 1 Try.underlying23 hi hz0 hz1 hz2 rfl (by decide) _ _ _ rfl (HW.out.alloc _) ⟨wr.heap.size, 0, none⟩ 1 1 [.int .u8 (y : Int)] rfl rfl ?c1 ?c2 ?c3 ?c4 ?c5 ?_)
      case c1 => exact cell_one _ _ _
      case c2 => first | exact one_int _ _ | rfl
      case c3 => unfold maxLen; omega
      case c4 => omega
      case c5 => simp; omega
      intro v' w1 hown' hgrow _
      obtain ⟨hown2, hb2⟩ := own_put hBr HBL.out HW.out hown' hgrow
      have HW2 := Lib.hid hown2
      have HB2 := Lib.hid hb2
      have hsz : B ≤ w1.heap.size := by have := hgrow.size; simp at this; omega
      clear hown' hgrow hown2 hb2
      go_wp2
      go_roundw
      case rel => exact ⟨q, cs ++ [y], by go_num, by omega, HE2, HW2, HB2, hsz⟩
      case measure => simp [intOf]; omega
    · have d0 : decide ((128 : Int) ≤ (m : Int)) = false := decide_eq_false (by omega)
      have d1 : decide (128 ≤ m) = false := decide_eq_false hge
      have x1 : (m : Int) % 256 = (m : Int) := by omega
      have HE2 : Hid (cs ++ [m] = bs ++ enc n) := Lib.hid (by rw [← HE.out, enc_lt (by omega)])
      have hlen : cs.length ≤ 100000010 := by
        have h1 := congrArg List.length HE.out
        rw [List.length_append, List.length_append] at h1
        have h2 := HL.out
        have h3 := H10.out
        omega
      go_wp2_with (at_builtin; refine wpList_append_own _ rfl _ _ 23 rfl B 5 i0 (.int .u8 0) 1 1 Try.underlying23 hi hz0 hz1 hz2 rfl (by decide) _ _ _ rfl (HW.out.alloc _) ⟨wr.heap.size, 0, none⟩ 1 1 [.int .u8 (m : Int)] rfl rfl ?d1 ?d2 ?d3 ?d4 ?d5 ?_)
      case d1 => exact cell_one _ _ _
      case d2 => first | exact one_int _ _ | rfl
      case d3 => unfold maxLen; omega
      case d4 => omega
      case d5 => simp; omega
      intro v' w1 hown' hgrow _
      obtain ⟨hown2, hb2⟩ := own_put hBr HBL.out HW.out hown' hgrow
      have HW2 := Lib.hid hown2
      have HB2 := Lib.hid hb2
      clear hown' hgrow hown2 hb2
      go_wp2
      go_ret
      exact ⟨_, rfl, by rw [← HE2.out]; exact HW2.out, HB2.out⟩
end E
end Go.Proofs.Ytclaejaicjmohaa
