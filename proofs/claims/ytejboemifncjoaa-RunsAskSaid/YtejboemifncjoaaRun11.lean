
/- Runs handed over: a copy, two or three lists behind one another; the texts walked. -/
import Derived.Test.YtejboemifncjoaaRun10
namespace Go.Proofs.Ytejboemifncjoaa
open Go.RowKit
theorem ok_flat {rs : List (Int × Int)} (h : Rn.Ok rs) : (Rn.flat rs).length ≤ 65536 := by
  have h1 := M.up_len (xs := (List.range 65536).map fun k : Nat => (k : Int)) (Rn.flat_up h) (fun y hy => by
    have := Rn.V_range h (Rn.mem_flat.1 hy)
    exact List.mem_map.2 ⟨y.toNat, List.mem_range.2 (by omega), by omega⟩)
  rw [List.length_map, List.length_range] at h1
  exact h1
theorem ok_len {rs : List (Int × Int)} (h : Rn.Ok rs) : rs.length ≤ 65536 := by
  have h1 := M.up_len (xs := (List.range 65536).map fun k : Nat => (k : Int)) (Rn.firsts_up h) (fun y hy => by
    have := Rn.V_range h ((Rn.first_in h y).1 hy).1
    exact List.mem_map.2 ⟨y.toNat, List.mem_range.2 (by omega), by omega⟩)
  rw [List.length_map, List.length_map, List.length_range] at h1
  exact h1
theorem split3 {rs : List (Int × Int)} {i j : Nat} (h : i ≤ j) : rs.take i ++ (rs.take j).drop i ++ rs.drop j = rs := by
  have e : rs.take i = (rs.take j).take i := by rw [List.take_take, Nat.min_eq_left h]
  rw [e, List.take_append_drop, List.take_append_drop]
/-- What a call answers: a new row of runs. -/
def ResP (w : World) (S : Int → Prop) (e : Ending) (w' : World) : Prop := ∃ (val : Value) (qs : List (Int × Int)), e = .returned val ∧ Rn.Ok qs ∧ (∀ x, Rn.V qs x ↔ S x) ∧ w'.ownsRow w.heap.size 46 2 val qs.length (rv qs) ∧ Below w.heap.size w w'
theorem own_low {w : World} {base b n : Nat} {v : Value} {xs : List Value} (h : w.ownsRow base 46 2 v n xs) (hb : b ≤ base) : w.ownsRow b 46 2 v n xs := by
  refine ⟨h.1, ?_⟩
  rcases h.2 with h1 | ⟨g, cap, cur, h1, h2, h3⟩
  · exact .inl h1
  · exact .inr ⟨g, cap, cur, h1, Nat.le_trans hb h2, h3⟩
set_option maxHeartbeats 4000000 in
set_option maxRecDepth 100000 in
theorem r_clone (w : World) (B n c : Nat) (A : Option Addr) (rs : List (Int × Int)) (hn : n = rs.length) (hr : Rq w B A rs) (hB : B ≤ w.heap.size) (few : n ≤ 1000000) :
    Calls Try.prog 39 #[.slice A n c] w fun e w' => ∃ v, e = .returned v ∧ w'.ownsRow w.heap.size 46 2 v n (rv rs) ∧ Below w.heap.size w w' := by
  obtain ⟨i0, hi, hz0, hz1, hz2⟩ : ∃ ti, Try.prog.info? 46 = some ti ∧ ti.zero = some (.agg #[.int .u16 0, .int .u16 0]) ∧ ti.size = 2 ∧ ti.bytes = 4 := ⟨_, rfl, rfl, rfl, rfl⟩
  have q22 : ∀ (w : World) (a : Option Addr) (n c n' c' : Nat), (binOp .eql 24 (.slice a n c) (.slice none n' c')).run Try.prog w = .ok (.bool a.isNone) w := fun w a n c n' c' => Lib.run_eql_slice_nil w _ _ a n c n' c' Try.underlying24
  cases A with
  | none =>
    have h0 : rs = [] := by
      cases rs with
      | nil => rfl
      | cons r rs => obtain ⟨b, off, h, _⟩ := hr (by simp); cases h
    subst h0
    subst hn
    go_enter Try.func39, Try.ntmps39
    go_wp2
    go_ret
    exact ⟨_, rfl, ⟨rfl, .inl ⟨rfl, rfl⟩⟩, Below.refl _ _⟩
  | some ad =>
    have b1 := (Below.refl w.heap.size w).alloc (Nat.le_refl _) (.cells #[] 46)
    have HRD := Lib.hid (hr.below b1 hB).reads
    rw [← hn] at HRD
    have HO : Hid ((w.alloc (.cells #[] 46)).ownsRow w.heap.size 46 2 (.slice (some ⟨w.heap.size, 0, none⟩) 0 0) 0 []) := Lib.hid ⟨rfl, .inr ⟨w.heap.size, 0, #[], rfl, Nat.le_refl _, alloc_topI w _, Nat.le_refl _, by decide, rfl, rfl⟩⟩
    have HB := Lib.hid b1
    have HLN := Lib.hid hn
    clear hr hn b1
    go_enter Try.func39, Try.ntmps39
    go_wp2_with (at_builtin; refine wpList_append_any _ rfl (.tmp 5) (.tmp 6) 24 rfl w.heap.size 46 i0 (.agg #[.int .u16 0, .int .u16 0]) 2 4 Try.underlying24 hi hz0 hz1 hz2 rfl (by decide) (.slice (some ⟨w.heap.size, 0, none⟩) 0 0) 0 [] rfl HO.out B (some ad) n c (rv rs) rfl HRD.out (rv_one rs) (by unfold maxLen; omega) (by omega) (by simp) ?_; intro v' w' g1 g2 g3; replace g1 := Lib.hid g1; replace g2 := Lib.hid g2; replace g3 := Lib.hid g3)
    go_ret
    have h := g1.out
    rw [Nat.zero_add, List.nil_append] at h
    exact ⟨v', rfl, h, HB.out.grown g2.out (by simp) (fun g hg => (HO.out.lt g hg).1)⟩
theorem cat_three (w : World) (B n1 c1 n2 c2 n3 c3 : Nat) (A1 A2 A3 : Option Addr) (xs1 xs2 xs3 : List (Int × Int)) (h1 : n1 = xs1.length) (h2 : n2 = xs2.length) (h3 : n3 = xs3.length) (r1 : Rq w B A1 xs1) (r2 : Rq w B A2 xs2) (r3 : Rq w B A3 xs3) (hB : B ≤ w.heap.size) (f1 : n1 ≤ 1000000) (f2 : n2 ≤ 1000000) (f3 : n3 ≤ 1000000) :
    Calls Try.prog 40 #[.slice (some ⟨w.heap.size, 0, none⟩) 3 3] (w.alloc (.cells #[.slice A1 n1 c1, .slice A2 n2 c2, .slice A3 n3 c3] 24))
      fun e w' => ∃ v', e = .returned v' ∧ w'.ownsRow w.heap.size 46 2 v' (xs1 ++ xs2 ++ xs3).length (rv (xs1 ++ xs2 ++ xs3)) ∧ Below w.heap.size w w' := by
  subst h1 h2 h3
  have b2 := (Below.refl w.heap.size w).alloc (Nat.le_refl _) (.cells #[.slice A1 xs1.length c1, .slice A2 xs2.length c2, .slice A3 xs3.length c3] 24)
  have HP : Parts (w.alloc (.cells #[.slice A1 xs1.length c1, .slice A2 xs2.length c2, .slice A3 xs3.length c3] 24)) B w.heap.size 0 [(A1, c1, xs1), (A2, c2, xs2), (A3, c3, xs3)] := by
    intro k hk
    match k, hk with
    | 0, _ => exact ⟨by rw [Nat.zero_add, World.cell?_alloc_new]; rfl, r1.below b2 hB⟩
    | 1, _ => exact ⟨by rw [Nat.zero_add, World.cell?_alloc_new]; rfl, r2.below b2 hB⟩
    | 2, _ => exact ⟨by rw [Nat.zero_add, World.cell?_alloc_new]; rfl, r3.below b2 hB⟩
  have hcat : cat [(A1, c1, xs1), (A2, c2, xs2), (A3, c3, xs3)] = xs1 ++ xs2 ++ xs3 := by simp [cat]
  have hl : (xs1 ++ xs2 ++ xs3).length ≤ 1099511627776 := by simp; omega
  have c1 := concat_any (w.alloc (.cells #[.slice A1 xs1.length c1, .slice A2 xs2.length c2, .slice A3 xs3.length c3] 24)) B w.heap.size 0 3 [(A1, c1, xs1), (A2, c2, xs2), (A3, c3, xs3)] HP (by simp; omega) (by simp) (by rw [hcat]; exact hl) (by simp)
  rw [hcat] at c1
  refine c1.mono ?_
  rintro e w2 ⟨v', rfl, g1, g2⟩
  exact ⟨v', rfl, own_low g1 (by simp), b2.trans (g2.mono (by simp))⟩
theorem cat_two (w : World) (B n1 c1 n3 c3 : Nat) (A1 A3 : Option Addr) (xs1 xs3 : List (Int × Int)) (h1 : n1 = xs1.length) (h3 : n3 = xs3.length) (r1 : Rq w B A1 xs1) (r3 : Rq w B A3 xs3) (hB : B ≤ w.heap.size) (f1 : n1 ≤ 1000000) (f3 : n3 ≤ 1000000) :
    Calls Try.prog 40 #[.slice (some ⟨w.heap.size, 0, none⟩) 2 2] (w.alloc (.cells #[.slice A1 n1 c1, .slice A3 n3 c3] 24))
      fun e w' => ∃ v', e = .returned v' ∧ w'.ownsRow w.heap.size 46 2 v' (xs1 ++ xs3).length (rv (xs1 ++ xs3)) ∧ Below w.heap.size w w' := by
  subst h1 h3
  have b2 := (Below.refl w.heap.size w).alloc (Nat.le_refl _) (.cells #[.slice A1 xs1.length c1, .slice A3 xs3.length c3] 24)
  have HP : Parts (w.alloc (.cells #[.slice A1 xs1.length c1, .slice A3 xs3.length c3] 24)) B w.heap.size 0 [(A1, c1, xs1), (A3, c3, xs3)] := by
    intro k hk
    match k, hk with
    | 0, _ => exact ⟨by rw [Nat.zero_add, World.cell?_alloc_new]; rfl, r1.below b2 hB⟩
    | 1, _ => exact ⟨by rw [Nat.zero_add, World.cell?_alloc_new]; rfl, r3.below b2 hB⟩
  have hcat : cat [(A1, c1, xs1), (A3, c3, xs3)] = xs1 ++ xs3 := by simp [cat]
  have hl : (xs1 ++ xs3).length ≤ 1099511627776 := by simp; omega
  have c1 := concat_any (w.alloc (.cells #[.slice A1 xs1.length c1, .slice A3 xs3.length c3] 24)) B w.heap.size 0 2 [(A1, c1, xs1), (A3, c3, xs3)] HP (by simp; omega) (by simp) (by rw [hcat]; exact hl) (by simp)
  rw [hcat] at c1
  refine c1.mono ?_
  rintro e w2 ⟨v', rfl, g1, g2⟩
  exact ⟨v', rfl, own_low g1 (by simp), b2.trans (g2.mono (by simp))⟩
end Go.Proofs.Ytejboemifncjoaa
