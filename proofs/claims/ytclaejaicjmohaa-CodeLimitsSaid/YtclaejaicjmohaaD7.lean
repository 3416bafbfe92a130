
/- The document's Number; the text walked. -/
import Derived.Test.YtclaejaicjmohaaD6
namespace Go.Proofs.Ytclaejaicjmohaa
set_option maxRecDepth 20000
open Go.RowKit
namespace E
theorem own_bel {w w' : World} {base n : Nat} {e : TypeId} {size : Nat} {v : Value} {xs : List Value} (h : w.ownsRow base e size v n xs) (hb : Below w.heap.size w w') : w'.ownsRow base e size v n xs := by
  refine ⟨h.1, ?_⟩
  rcases h.2 with hn | ⟨g, cap, cur, e, hb0, hg, rest⟩
  · exact .inl hn
  · exact .inr ⟨g, cap, cur, e, hb0, (hb.block g (Array.getElem?_eq_some_iff.1 hg).1).trans hg, rest⟩
theorem own_one (w : World) (y : Nat) : (w.alloc (.cells #[.int .u8 (y : Int)] 5)).ownsRow w.heap.size 5 1 (.slice (some ⟨w.heap.size, 0, none⟩) 1 1) 1 (bv [y]) :=
  ⟨rfl, .inr ⟨w.heap.size, 1, #[.int .u8 (y : Int)], rfl, Nat.le_refl _, heap_alloc_new w _, Nat.le_refl _, by unfold maxLen; omega, rfl, rfl⟩⟩
theorem bv_one (bs : List Nat) : ∀ u ∈ bv bs, u.oneCell' = true := by
  intro u hu
  obtain ⟨a, _, rfl⟩ := List.mem_map.1 hu
  rfl
theorem own_formB {w : World} {base n : Nat} {v : Value} {xs : List Value} (h : w.ownsRow base 5 1 v n xs) : ∃ A c, v = .slice A n c := by
  rcases h.2 with ⟨rfl, rfl⟩ | ⟨g, cap, cur, rfl, _⟩
  · exact ⟨none, 0, rfl⟩
  · exact ⟨_, _, rfl⟩
set_option maxRecDepth 100000 in
set_option maxHeartbeats 4000000 in
theorem refnum_any : ∀ (N n : Nat), n ≤ N → n < 18446744073709551616 → ∀ (w : World), Calls Try.prog 14 #[.int .u64 (n : Int)] w fun e w' => ∃ v', e = .returned v' ∧ w'.ownsRow w.heap.size 5 1 v' (enc n).length (bv (enc n)) ∧ Below w.heap.size w w' := by
  intro N
  induction N with
  | zero =>
    intro n hN hn w
    obtain rfl : n = 0 := by omega
    have HO := Lib.hid (own_one w 0)
    go_enter Try.func14, Try.ntmps14
    go_wp2
    go_ret
    exact ⟨_, rfl, HO.out, (Below.refl _ w).alloc (Nat.le_refl _) _⟩
  | succ N ih =>
    intro n hN hn w
    rcases Nat.lt_or_ge n 128 with h | h
    · have d0 : decide ((n : Int) < 128) = true := decide_eq_true (by omega)
      have d1 : decide (n < 128) = true := decide_eq_true h
      have x1 : (n : Int) % 256 = (n : Int) := by omega
      have HO := Lib.hid (own_one w n)
      have HE := Lib.hid (enc_lt h)
      clear ih hN
      go_enter Try.func14, Try.ntmps14
      go_wp2
      go_ret
      exact ⟨_, rfl, by rw [HE.out]; exact HO.out, (Below.refl _ w).alloc (Nat.le_refl _) _⟩
    · obtain ⟨i0, hi, hz0, hz1, hz2⟩ := info_parts byte_info
      have d0 : decide ((n : Int) < 128) = false := decide_eq_false (by omega)
      have d1 : decide (n < 128) = false := decide_eq_false (by omega)
      have he := enc_ge h
      obtain ⟨y, hy⟩ : ∃ y, 128 + n % 128 = y := ⟨_, rfl⟩
      obtain ⟨q, hq⟩ : ∃ q, n / 128 = q := ⟨_, rfl⟩
      have hq2 : (n : Int) / 128 = (q : Int) := by omega
      obtain ⟨r, hr⟩ : ∃ r, n % 128 = r := ⟨_, rfl⟩
      have hr2 : (n : Int) % 128 = (r : Int) := by omega
      have x1 : (r : Int) % 256 = (r : Int) := by omega
      have x2 : IntKind.u8.wrap (128 + (r : Int)) = (y : Int) := by rw [show 128 + (r : Int) = (y : Int) by omega]; exact IntWalk.u8_in _ (by omega)
      have x3 : (128 + (r : Int)) % 256 = (y : Int) := by omega
      have x4 : IntKind.u64.wrap (q : Int) = (q : Int) := wrap_u64_small (by omega) (by omega)
      have hrec := ih q (by omega) (by omega) (w.alloc (.cells #[.int .u8 (y : Int)] 5))
      obtain ⟨m, hm⟩ : ∃ m, (enc q).length = m := ⟨_, rfl⟩
      have hm10 : m ≤ 10 := by rw [← hm]; exact enc_ten (by omega)
      rw [hm] at hrec
      have HR := Lib.hid hrec
      have HO := Lib.hid (own_one w y)
      have HE : Hid (enc n = y :: enc q ∧ (enc q).length = m) := Lib.hid ⟨by rw [he, hy, hq], hm⟩
      have HBA := Lib.hid ((Below.refl w.heap.size w).alloc (Nat.le_refl _) (.cells #[.int .u8 (y : Int)] 5))
      clear ih hN hrec hm hy hq hr h he hn
      go_enter Try.func14, Try.ntmps14
      go_wp2_with (first
        | (at_builtin; refine wpList_append_any _ rfl (.tmp 12) (.tmp 15) 23 rfl w.heap.size 5 i0 _ 1 1 Try.underlying23 hi hz0 hz1 hz2 rfl (by decide) (.slice (some ⟨w.heap.size, 0, none⟩) 1 1) 1 (bv [y]) (by rfl) HO2.out w2.heap.size A2 m c2 (bv (enc q)) (by rfl) HRD.out (bv_one _) (by unfold maxLen; omega) (by omega) HSZ.out ?_; intro v3 w3 hv3 hg3 _; have HV3 := Lib.hid (And.intro hv3 hg3); clear hv3 hg3)
        | (go_at_call 14; (with_reducible refine HR.out.mono ?_); rintro e w2 ⟨v2, rfl, ho, hb⟩; obtain ⟨A2, c2, rfl⟩ := own_formB ho; have HRD := Lib.hid (Reads.of_own ho); have HO2 := Lib.hid (own_bel HO.out hb); have HBB := Lib.hid (HBA.out.trans (hb.mono HBA.out.size)); have HSZ := Lib.hid HBB.out.size; clear ho hb))
      go_ret
      exact ⟨v3, rfl, by
        have h1 := HV3.out.1
        have e1 : (enc n).length = 1 + m := by rw [HE.out.1, List.length_cons, HE.out.2]; omega
        rw [e1, HE.out.1]
        exact h1, HBB.out.grown HV3.out.2 HSZ.out (fun g hg => by simp [Value.ownBlock] at hg; omega)⟩
end E
end Go.Proofs.Ytclaejaicjmohaa
