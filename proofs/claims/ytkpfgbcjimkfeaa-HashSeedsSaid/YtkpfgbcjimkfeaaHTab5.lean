
/- A table among other blocks: its calls by what they answer. -/
import Derived.Test.YtkpfgbcjimkfeaaHTab4
namespace Go.Proofs.Ytkpfgbcjimkfeaa
open Go.RowKit
/-- A table that lies in blocks of A. -/
def TX (w : World) (A : Nat → Prop) (P M seed n : Nat) (es : List (H.Key × Nat)) (pr cl : Nat) : Prop :=
  ∃ Q, Tab w P Q M seed n es pr cl ∧ ∀ j, TF P Q M j → A j
def TXP (w : World) (A : Nat → Prop) (P M seed n : Nat) (es' : List (H.Key × Nat)) (cl' : Nat) (v : Value) (e : Ending) (w' : World) : Prop :=
  ∃ n' pr', e = .returned v ∧ TX w' A P M seed n' es' pr' cl' ∧ ButS w w' A ∧ 1 ≤ pr' ∧ pr' ≤ n
section
variable {w w' : World} {A : Nat → Prop} {P M seed n pr cl : Nat} {es : List (H.Key × Nat)}
theorem TX.but {S : Nat → Prop} (a : TX w A P M seed n es pr cl) (hb : ButS w w' S) (hs : ∀ j, A j → ¬ S j) : TX w' A P M seed n es pr cl := by
  obtain ⟨Q, h, hA⟩ := a
  exact ⟨Q, h.but hb (fun j hj => hs j (hA j hj)), hA⟩
theorem TX.perm {es' : List (H.Key × Nat)} (a : TX w A P M seed n es pr cl) (h : es.Perm es') : TX w A P M seed n es' pr cl := by
  obtain ⟨Q, ha, hA⟩ := a
  exact ⟨Q, ha.perm h, hA⟩
theorem TX.drewN (a : TX w A P M seed n es pr cl) (N : Nat) : TX (w.drewN N) A P M seed n es pr cl := by
  refine a.but (S := fun _ => False) ((ButS.refl w _).drewN N) (fun _ _ h => h)
theorem TX.mono {A' : Nat → Prop} (a : TX w A P M seed n es pr cl) (h : ∀ j, j < w.heap.size → A j → A' j) : TX w A' P M seed n es pr cl := by
  obtain ⟨Q, ha, hA⟩ := a
  refine ⟨Q, ha, fun j hj => h j ?_ (hA j hj)⟩
  obtain ⟨ps, t, p, h1, h2, h3, h4, h5, h6, h7, h8⟩ := ha
  rcases hj with rfl | rfl | rfl
  · exact h1.row.lt
  · exact h1.qlt
  · exact h7.lt
theorem TX.facts (a : TX w A P M seed n es pr cl) : 8 ≤ n ∧ 2 * es.length ≤ n ∧ (8 < n → n < 8 * es.length) ∧ ∃ q, n = 2 ^ q ∧ 3 ≤ q ∧ q ≤ 40 := by
  obtain ⟨Q, ⟨ps, t, p, h1, h2, h3, h4, h5, h6, h7, h8⟩, _⟩ := a
  obtain ⟨q, q1, q2, q3⟩ := h1.pw
  have := h1.len
  exact ⟨by omega, h5, h6, q, by omega, q2, q1⟩
theorem tstep_tx {Q cl' : Nat} {es' : List (H.Key × Nat)} (hA : ∀ j, TF P Q M j → A j) (hN : ∀ j, w.heap.size ≤ j → A j) (h : TStep w P Q M seed n es' cl' w') :
    ∃ n' pr', TX w' A P M seed n' es' pr' cl' ∧ ButS w w' A ∧ 1 ≤ pr' ∧ pr' ≤ n := by
  obtain ⟨Q', n', pr', h1, h2, h3, h4, h5⟩ := h
  refine ⟨n', pr', ⟨Q', h1, fun j hj => ?_⟩, h2.mono (fun j _ hj => hA j hj), h4, h5⟩
  rcases hj with h | h | h
  · exact hA j (.inl h)
  · rcases h3 with h3 | h3
    · exact hA j (.inr (.inl (h.trans h3)))
    · exact hN j (by omega)
  · exact hA j (.inr (.inr h))
theorem tx_put_yes (a : TX w A P M seed n es pr cl) (hN : ∀ j, w.heap.size ≤ j → A j) (k : H.Key) (l p vi : Int) (hl : l = (k.1 : Int)) (hp : p = (k.2 : Int)) (v v0 : Nat) (hvi : vi = (v : Int)) (k1 : k.1 < 256) (hv : v < 18446744073709551616) (r : List (H.Key × Nat)) (he : es.Perm ((k, v0) :: r)) :
    Calls Try.prog 16 #[.pointer (some ⟨P, 0, none⟩), .agg #[.int .u8 l, .int .u64 p], .int .u64 vi] w (TXP w A P M seed n ((k, v) :: r) cl (.bool false)) := by
  obtain ⟨Q, ha, hA⟩ := a
  subst hl hp hvi
  refine (tab_put_yes w P Q M seed n pr cl es r ha k k1 v v0 hv he).mono ?_
  rintro e w' ⟨rfl, hs⟩
  obtain ⟨n', pr', h⟩ := tstep_tx hA hN hs
  exact ⟨n', pr', rfl, h⟩
theorem tx_put_no (a : TX w A P M seed n es pr cl) (hN : ∀ j, w.heap.size ≤ j → A j) (k : H.Key) (l p vi : Int) (hl : l = (k.1 : Int)) (hp : p = (k.2 : Int)) (v : Nat) (hvi : vi = (v : Int)) (k1 : k.1 < 256) (k2 : k.2 < 18446744073709551616) (hv : v < 18446744073709551616) (he : ∀ x ∈ es, x.1 ≠ k) (hes : es.length < 1000000) :
    Calls Try.prog 16 #[.pointer (some ⟨P, 0, none⟩), .agg #[.int .u8 l, .int .u64 p], .int .u64 vi] w (TXP w A P M seed n ((k, v) :: es) cl (.bool true)) := by
  obtain ⟨Q, ha, hA⟩ := a
  subst hl hp hvi
  refine (tab_put_no w P Q M seed n pr cl es ha k k1 k2 v hv he hes).mono ?_
  rintro e w' ⟨rfl, hs⟩
  obtain ⟨n', pr', h⟩ := tstep_tx hA hN hs
  exact ⟨n', pr', rfl, h⟩
theorem tx_drop_yes (a : TX w A P M seed n es pr cl) (hN : ∀ j, w.heap.size ≤ j → A j) (k : H.Key) (l p : Int) (hl : l = (k.1 : Int)) (hp : p = (k.2 : Int)) (v0 : Nat) (k1 : k.1 < 256) (r : List (H.Key × Nat)) (he : es.Perm ((k, v0) :: r)) (hes : r.length < 1000000) :
    Calls Try.prog 19 #[.pointer (some ⟨P, 0, none⟩), .agg #[.int .u8 l, .int .u64 p]] w (TXP w A P M seed n r cl (.bool true)) := by
  obtain ⟨Q, ha, hA⟩ := a
  subst hl hp
  refine (tab_drop_yes w P Q M seed n pr cl es r ha k k1 v0 he hes).mono ?_
  rintro e w' ⟨rfl, hs⟩
  obtain ⟨n', pr', h⟩ := tstep_tx hA hN hs
  exact ⟨n', pr', rfl, h⟩
theorem tx_drop_no (a : TX w A P M seed n es pr cl) (hN : ∀ j, w.heap.size ≤ j → A j) (k : H.Key) (l p : Int) (hl : l = (k.1 : Int)) (hp : p = (k.2 : Int)) (k1 : k.1 < 256) (he : ∀ x ∈ es, x.1 ≠ k) :
    Calls Try.prog 19 #[.pointer (some ⟨P, 0, none⟩), .agg #[.int .u8 l, .int .u64 p]] w (TXP w A P M seed n es cl (.bool false)) := by
  obtain ⟨Q, ha, hA⟩ := a
  subst hl hp
  refine (tab_drop_no w P Q M seed n pr cl es ha k k1 he).mono ?_
  rintro e w' ⟨rfl, hs⟩
  obtain ⟨n', pr', h⟩ := tstep_tx hA hN hs
  exact ⟨n', pr', rfl, h⟩
theorem tx_get_yes (a : TX w A P M seed n es pr cl) (hN : ∀ j, w.heap.size ≤ j → A j) (k : H.Key) (l p vi : Int) (hl : l = (k.1 : Int)) (hp : p = (k.2 : Int)) (v : Nat) (hvi : vi = (v : Int)) (k1 : k.1 < 256) (he : (k, v) ∈ es) (hc : cl < 1000000) :
    Calls Try.prog 17 #[.pointer (some ⟨P, 0, none⟩), .agg #[.int .u8 l, .int .u64 p]] w (TXP w A P M seed n es (cl + 1) (.tuple #[.int .u64 vi, .bool true])) := by
  obtain ⟨Q, ha, hA⟩ := a
  subst hl hp hvi
  refine (tab_get w P Q M seed n pr cl es ha k k1 hc v true (.inl ⟨rfl, he⟩)).mono ?_
  rintro e w' ⟨rfl, hs⟩
  obtain ⟨n', pr', h⟩ := tstep_tx hA hN hs
  exact ⟨n', pr', rfl, h⟩
theorem tx_get_no (a : TX w A P M seed n es pr cl) (hN : ∀ j, w.heap.size ≤ j → A j) (k : H.Key) (l p : Int) (hl : l = (k.1 : Int)) (hp : p = (k.2 : Int)) (k1 : k.1 < 256) (he : ∀ x ∈ es, x.1 ≠ k) (hc : cl < 1000000) :
    Calls Try.prog 17 #[.pointer (some ⟨P, 0, none⟩), .agg #[.int .u8 l, .int .u64 p]] w (TXP w A P M seed n es (cl + 1) (.tuple #[.int .u64 0, .bool false])) := by
  obtain ⟨Q, ha, hA⟩ := a
  subst hl hp
  refine (tab_get w P Q M seed n pr cl es ha k k1 hc 0 false (.inr ⟨rfl, rfl, he⟩)).mono ?_
  rintro e w' ⟨rfl, hs⟩
  obtain ⟨n', pr', h⟩ := tstep_tx hA hN hs
  exact ⟨n', pr', rfl, h⟩
theorem tx_len (a : TX w A P M seed n es pr cl) (q : Int) (hq : q = (es.length : Int)) :
    Calls Try.prog 10 #[.pointer (some ⟨P, 0, none⟩)] w fun e w' => e = .returned (.int .i64 q) ∧ w = w' := by
  obtain ⟨Q, ha, _⟩ := a
  subst hq
  exact tab_len w P Q M seed n pr cl es ha
theorem tx_size (a : TX w A P M seed n es pr cl) :
    Calls Try.prog 9 #[.pointer (some ⟨P, 0, none⟩)] w fun e w' => e = .returned (.int .i64 (n : Int)) ∧ w = w' := by
  obtain ⟨Q, ha, _⟩ := a
  exact tab_size w P Q M seed n pr cl es ha
theorem tx_probes (a : TX w A P M seed n es pr cl) :
    Calls Try.prog 15 #[.pointer (some ⟨P, 0, none⟩)] w fun e w' => e = .returned (.int .i64 (pr : Int)) ∧ w = w' := by
  obtain ⟨Q, ha, _⟩ := a
  exact tab_probes w P Q M seed n pr cl es ha
end
def TXN (w : World) (B : Nat) (seed : Nat) (e : Ending) (w' : World) : Prop :=
  ∃ P M, e = .returned (.pointer (some ⟨P, 0, none⟩)) ∧ TX w' (fun j => B ≤ j) P M seed 8 [] 0 0 ∧ Below B w w'
theorem tx_new_nil (w : World) (B : Nat) (hB : B ≤ w.heap.size) (seed : Nat) (s : Int) (hs : s = (seed : Int)) : Calls Try.prog 7 #[.pointer none, .int .u64 s] w (TXN w B seed) := by
  subst hs
  refine (tab_new_nil w seed).mono ?_
  rintro e w' ⟨P, Q, M, rfl, h1, h2, h3, h4, h5⟩
  refine ⟨P, M, rfl, ⟨Q, h1, fun j hj => ?_⟩, h2.mono hB⟩
  rcases h5 with h5 | ⟨_, h5⟩
  · cases h5
  · show B ≤ j
    rcases hj with h | h | h <;> omega
set_option maxHeartbeats 1000000 in
theorem awake_any (w : World) : Calls Try.prog 5 #[] w fun e w' => e = .returned (.bool true) ∧ Below w.heap.size w w' := by
  go_enter Try.func5, Try.ntmps5
  go_wp2_with (first
    | (go_at_call 7; (with_reducible refine (tx_new_nil w w.heap.size (Nat.le_refl _) 1 1 rfl).mono ?_); rintro e w1 ⟨P, M, rfl, ht, hb⟩
       have hz := hb.size
       have T1 := Lib.hid ht
       have B1 := Lib.hid hb
       clear ht hb)
    | (go_at_call 16; (with_reducible refine (tx_put_no T1.out (by intro j hj; omega) (3, 5) 3 5 7 rfl rfl 7 rfl (by decide) (by decide) (by decide) (by simp) (by simp)).mono ?_); rintro e w2 ⟨n2, p2, rfl, ht, hb, _, _⟩
       have hz2 := hb.size
       have T2 := Lib.hid ht
       have B2 := Lib.hid hb
       clear ht hb T1)
    | (go_at_call 17; (with_reducible refine (tx_get_yes T2.out (by intro j hj; omega) (3, 5) 3 5 7 rfl rfl 7 rfl (by decide) (by simp) (by omega)).mono ?_); rintro e w3 ⟨n3, p3, rfl, ht, hb, _, _⟩
       have hz3 := hb.size
       have T3 := Lib.hid ht
       have B3 := Lib.hid hb
       clear ht hb T2)
    | (go_at_call 17; (with_reducible refine (tx_get_no T3.out (by intro j hj; omega) (4, 5) 4 5 rfl rfl (by decide) (by simp) (by omega)).mono ?_); rintro e w4 ⟨n4, p4, rfl, ht, hb, _, _⟩
       have hz4 := hb.size
       have T4 := Lib.hid ht
       have B4 := Lib.hid hb
       clear ht hb T3)
    | (go_at_call 10; (with_reducible refine (tx_len T4.out 1 rfl).mono ?_); rintro e w5 ⟨rfl, rfl⟩))
  go_ret
  exact ⟨rfl, (((B1.out.trans (B2.out.below hz (fun _ h => h))).trans (B3.out.below (by omega) (fun _ h => h))).trans (B4.out.below (by omega) (fun _ h => h)))⟩
end Go.Proofs.Ytkpfgbcjimkfeaa
