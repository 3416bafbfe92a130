
/- Bytes cloned; Read; Size: the texts walked. -/
import Derived.Test.YtclaejaicjmohaaD8
namespace Go.Proofs.Ytclaejaicjmohaa
set_option maxRecDepth 20000
open Go.RowKit
namespace E
theorem rb_reads {w : World} {B n : Nat} {A : Option Addr} {xs : List Nat} (h : Rb w B A xs) (hn : xs.length = n) : Reads w B 1 A n (bv xs) := by
  subst hn
  refine ⟨by simp, fun hn => ?_⟩
  obtain ⟨b, off, rfl, hb, hc⟩ := h (by intro e; subst e; simp at hn)
  refine ⟨_, rfl, hb, fun j u hu => ?_⟩
  simp only [List.getElem?_map, Option.map_eq_some_iff] at hu
  obtain ⟨a, ha, rfl⟩ := hu
  obtain ⟨hj, rfl⟩ := List.getElem?_eq_some_iff.1 ha
  rw [show (⟨b, off, none⟩ : Addr).add j = ⟨b, off + j, none⟩ by unfold Addr.add; by_cases h0 : j = 0 <;> simp [h0]]
  exact hc j hj
theorem own_noneB (w : World) : (w.alloc (.cells #[] 5)).ownsRow w.heap.size 5 1 (.slice (some ⟨w.heap.size, 0, none⟩) 0 0) 0 [] := World.ownsRow_made w #[] 0 (Nat.le_refl _) (by decide) rfl
theorem own_less {w : World} {B B' n : Nat} {e : TypeId} {size : Nat} {v : Value} {xs : List Value} (h : w.ownsRow B' e size v n xs) (hB : B ≤ B') : w.ownsRow B e size v n xs := by
  refine ⟨h.1, ?_⟩
  rcases h.2 with hn | ⟨g, cap, cur, e, hb0, rest⟩
  · exact .inl hn
  · exact .inr ⟨g, cap, cur, e, Nat.le_trans hB hb0, rest⟩
theorem nil_yes (n c : Nat) (w : World) : (binOp BinOp.eql 23 (.slice none n c) (.slice none 0 0)).run Try.prog w = .ok (.bool true) w := by kernel_rfl
theorem nil_no (a : Addr) (n c : Nat) (w : World) : (binOp BinOp.eql 23 (.slice (some a) n c) (.slice none 0 0)).run Try.prog w = .ok (.bool false) w := by kernel_rfl
set_option maxRecDepth 100000 in
set_option maxHeartbeats 4000000 in
theorem clone_any (w : World) (A : Option Addr) (n c : Nat) (bs : List Nat) (hn : bs.length = n) (hn2 : n ≤ 1000000000) (hr : Rb w w.heap.size A bs) :
    Calls Try.prog 27 #[.slice A n c] w fun e w' => ∃ v', e = .returned v' ∧ w'.ownsRow w.heap.size 5 1 v' n (bv bs) ∧ Below w.heap.size w w' := by
  cases A with
  | none =>
    have hb : bs = [] := by
      rcases bs with _ | ⟨x, t⟩
      · rfl
      · obtain ⟨b, off, e, _⟩ := hr (by simp)
        cases e
    subst hb
    obtain rfl : n = 0 := by simpa using hn.symm
    clear hr hn
    have hnil := nil_yes 0 c
    go_enter Try.func27, Try.ntmps27
    go_wp2
    go_ret
    exact ⟨_, rfl, World.ownsRow_nil _ _ _ _, Below.refl _ _⟩
  | some a =>
    obtain ⟨i0, hi, hz0, hz1, hz2⟩ := info_parts byte_info
    have HO := Lib.hid (own_noneB w)
    have HRD := Lib.hid ((rb_reads hr hn).alloc (Nat.le_refl _) (.cells #[] 5))
    have HBA := Lib.hid ((Below.refl w.heap.size w).alloc (Nat.le_refl _) (.cells #[] 5))
    have HSZ := Lib.hid HBA.out.size
    clear hr hn
    have hnil := nil_no a n c
    go_enter Try.func27, Try.ntmps27
    go_wp2_with (at_builtin; refine wpList_append_any _ rfl (.tmp 5) (.tmp 6) 23 rfl w.heap.size 5 i0 _ 1 1 Try.underlying23 hi hz0 hz1 hz2 rfl (by decide) (.slice (some ⟨w.heap.size, 0, none⟩) 0 0) 0 [] (by rfl) HO.out w.heap.size (some a) n c (bv bs) (by rfl) HRD.out (bv_one _) (by unfold maxLen; omega) (by omega) HSZ.out ?_; intro v3 w3 hv3 hg3 _; have HV3 := Lib.hid (And.intro hv3 hg3); clear hv3 hg3)
    go_ret
    exact ⟨v3, rfl, by
      have h1 := HV3.out.1
      rw [Nat.zero_add, List.nil_append] at h1
      exact h1, HBA.out.grown HV3.out.2 HSZ.out (fun g hg => by simp [Value.ownBlock] at hg; omega)⟩
set_option maxRecDepth 100000 in
set_option maxHeartbeats 4000000 in
/-- What is read in front, and what stands behind. -/
theorem Read_any (w : World) (A : Option Addr) (c : Nat) (bs : List Nat) (l : Nat) (hl : bs.length = l) (hlc : l ≤ c) (hl2 : l ≤ 1000000000) (hb : ∀ x ∈ bs, x < 256) (hr : Rb w w.heap.size A bs) :
    Calls Try.prog 12 #[.slice A l c] w fun e w' => ∃ (n k : Nat), Rd bs n k ∧ Below w.heap.size w w' ∧ ((k = 0 ∧ e = .returned (.tuple #[.int .u64 0, .slice none 0 0, .int .i64 2])) ∨
      (0 < k ∧ ∃ A' c', e = .returned (.tuple #[.int .u64 (n : Int), .slice A' (l - k) c', .int .i64 0]) ∧ w'.ownsRow w.heap.size 5 1 (.slice A' (l - k) c') (l - k) (bv (bs.drop k)))) := by
  have HN := Lib.hid (read_any w w.heap.size A c bs l hl hl2 hb hr)
  have HR := Lib.hid hr
  have HL := Lib.hid hl
  clear hb hl hr
  go_enter Try.func12, Try.ntmps12
  go_wp2_with (fail)
  refine HN.out.mono ?_
  rintro e w1 ⟨n, k, rfl, hrd, hb1⟩
  have HRD := Lib.hid hrd
  have HB1 := Lib.hid hb1
  have hkl := hrd.le
  rw [HL.out] at hkl
  clear hb1 hrd
  by_cases hk : k = 0
  · subst hk
    go_wp2
    go_ret3
    exact ⟨n, 0, HRD.out, HB1.out, .inl ⟨rfl, rfl⟩⟩
  · have e0 : ((k : Int) == 0) = false := beq_eq_false_iff_ne.2 (by omega)
    have hcut := cutb_l A l c k (k : Int) rfl hkl
    have a1 := hcut.1
    have a2 := hcut.2
    have hrb : Rb w1 w1.heap.size (cutA A k c) (bs.drop k) := ((HR.out.below HB1.out (Nat.le_refl _)).more HB1.out.size).drop HL.out hlc
    have HC := Lib.hid (clone_any w1 (cutA A k c) (l - k) (c - k) (bs.drop k) (by rw [List.length_drop, HL.out]) (by omega) hrb)
    clear hcut hrb
    go_wp2_with (go_at_call 27; (with_reducible refine HC.out.mono ?_); rintro e w2 ⟨v2, rfl, ho, hb⟩; have HO := Lib.hid ho; have HB2 := Lib.hid (HB1.out.trans (hb.mono HB1.out.size)); clear ho hb)
    go_ret3
    obtain ⟨A', c', hv⟩ := own_formB HO.out
    subst hv
    exact ⟨n, k, HRD.out, HB2.out, .inr ⟨by omega, A', c', rfl, own_less HO.out HB1.out.size⟩⟩
/-- How many bytes some numbers have. -/
def szs (xs : List Nat) : Nat := (xs.map fun x => (enc x).length).sum
theorem szs_snoc (xs : List Nat) (x : Nat) : szs (xs ++ [x]) = szs xs + (enc x).length := by simp [szs]
theorem szs_le {xs : List Nat} (h : ∀ x ∈ xs, x < 18446744073709551616) : szs xs ≤ 10 * xs.length := by
  induction xs with
  | nil => simp [szs]
  | cons x t ih =>
    have h1 := ih fun y hy => h y (List.mem_cons_of_mem _ hy)
    have h2 := enc_ten (h x (by simp))
    have e : szs (x :: t) = (enc x).length + szs t := by simp [szs]
    rw [e, List.length_cons]
    omega
set_option maxRecDepth 100000 in
set_option maxHeartbeats 4000000 in
theorem Size_any (w : World) (B : Nat) (A : Option Addr) (c : Nat) (xs : List Nat) (l : Nat) (hl : xs.length = l) (hl2 : l ≤ 100000000) (hx : ∀ x ∈ xs, x < 18446744073709551616) (hr : Rw w B A xs) :
    Calls Try.prog 16 #[.slice A l c] w fun e w' => e = .returned (.int .i64 (szs xs : Nat)) ∧ ∃ q, w' = w.drewN q := by
  have HL := Lib.hid hl
  have HX := Lib.hid hx
  clear hl hx
  go_enter Try.func16, Try.ntmps16
  go_wp2
  go_loopw [3, 8] (fun n i wr => ∃ k q : Nat, k ≤ l ∧ i = .int .i64 k ∧ n = .int .i64 (szs (xs.take k) : Nat) ∧ wr = w.drewN q) (fun _ i _ => l - (intOf i).toNat)
  case atStart => exact ⟨0, 0, by omega, rfl, rfl, rfl⟩
  case round =>
    obtain ⟨k, q, hk, rfl, rfl, rfl⟩ := hrel
    by_cases hlt : k < l
    · have hlt' : k < xs.length := by rw [HL.out]; exact hlt
      obtain ⟨b, off, rfl, _, hc⟩ := (hr.drew q).at hlt'
      have d0 : decide ((k : Int) < (l : Int)) = true := decide_eq_true (by omega)
      have wk : IntKind.i64.wrap ((k : Int) + 1) = (k : Int) + 1 := IntWalk.i64_in _ (by omega)
      have hx := HX.out xs[k] (List.getElem_mem hlt')
      have hs : szs (xs.take (k + 1)) = szs (xs.take k) + (enc xs[k]).length := by rw [take_snocN hlt', szs_snoc]
      have h10 := enc_ten hx
      have hle := szs_le (xs := xs.take k) (fun x h => HX.out x (List.mem_of_mem_take h))
      rw [List.length_take] at hle
      have HS := Lib.hid hs
      generalize xs[k] = x at *
      have HC := Lib.hid (fun W => size_any W x hx)
      generalize szs (xs.take k) = s0 at *
      obtain ⟨m, hm⟩ : ∃ m, (enc x).length = m := ⟨_, rfl⟩
      rw [hm] at h10 HS HC
      have w2 : IntKind.i64.wrap ((s0 : Int) + (m : Int)) = (s0 : Int) + (m : Int) := IntWalk.i64_in _ (by omega)
      clear hs hx hm
      go_wp2_with (go_at_call 25; (with_reducible refine (HC.out _).mono ?_); rintro e w3 ⟨rfl, rfl⟩)
      go_roundw
      case rel => exact ⟨k + 1, q, by omega, by go_num, by rw [HS.out]; simp, rfl⟩
      case measure => simp [intOf]; omega
    · have hkl : k = l := by omega
      have e1 : xs.take k = xs := List.take_of_length_le (by rw [HL.out]; omega)
      rw [e1, hkl]
      have d0 : decide ((l : Int) < (l : Int)) = false := by simp
      clear e1 hkl hlt hk
      go_wp2
      go_ret
      exact ⟨rfl, q, rfl⟩
end E
end Go.Proofs.Ytclaejaicjmohaa
