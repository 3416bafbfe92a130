/- sift's joins, and what is asked of a sequence: join, Less, Xor, silent, Equal, Within, Count; the texts walked. Whether a sequence tells nothing, and how many keys one tells: silent, Equal, Within, Count; the texts walked. The first keys that a sequence tells: First; does a list rise: Rises; the texts walked. -/
import Derived.Test.YtepdhjcgpjjjlaaMt11
section
namespace Go.Proofs.Ytepdhjcgpjjjlaa
set_option maxRecDepth 20000
open Go.RowKit Go.Shelf
attribute [local go_sem] Oper.semAt_some
attribute [local simp] wide_fnV
/-- The function value f, which may be nil, tells the keys xs from the world w on. -/
def Sx (w : World) (f : Value) (xs : List Nat) : Prop := ∃ Z : Nat → Prop, (∀ j, Z j → j < w.heap.size) ∧ Sn Z w f xs
theorem Sx.below {w W : World} {f : Value} {xs : List Nat} (h : Sx w f xs) (hb : Below w.heap.size w W) : Sx W f xs := by
  obtain ⟨Z, h1, h2⟩ := h
  exact ⟨Z, fun j hj => Nat.lt_of_lt_of_le (h1 j hj) hb.size, h2.below hb⟩
theorem Sq.sx {Z : Nat → Prop} {w : World} {f : Value} {xs : List Nat} {g : Nat} {lb : Array Value} (h : Sq Z w f xs g lb) : Sx w f xs := ⟨Z, h.lt, .inr ⟨g, lb, h⟩⟩
theorem Sx.form {w : World} {f : Value} {xs : List Nat} (h : Sx w f xs) : f = Value.nilFunc ∨ ∃ g lb, f = .func (.func g) #[] lb := by
  obtain ⟨Z, _, h | ⟨g, lb, h⟩⟩ := h
  · exact .inl h.1
  · exact .inr ⟨g, lb, h.f⟩
theorem join_clo (w : World) (fa fb fw : Value) (hfa : fa = Value.nilFunc ∨ ∃ g lb, fa = .func (.func g) #[] lb) (hfb : fb = Value.nilFunc ∨ ∃ g lb, fb = .func (.func g) #[] lb) (hfw : ∃ g, fw = .func (.func g) #[] #[]) :
    Calls Try.prog 31 #[fa, fb, fw] w fun e w' => e = .returned (.func (.func 39) #[] #[.pointer (some ⟨w.heap.size + 2, 0, none⟩), .pointer (some ⟨w.heap.size + 1, 0, none⟩), .pointer (some ⟨w.heap.size, 0, none⟩)]) ∧ w' = ((w.alloc (.cells #[fa] 29)).alloc (.cells #[fb] 29)).alloc (.cells #[fw] 52) := by
  obtain ⟨gw, rfl⟩ := hfw
  rcases hfa with rfl | ⟨ga, la, rfl⟩ <;> rcases hfb with rfl | ⟨gb, lb, rfl⟩ <;>
  · go_enter Try.func31, Try.ntmps31
    go_wp2
    go_ret
    exact ⟨rfl, rfl⟩
theorem join_any (w : World) (fa fb : Value) (gw : Nat) (q : Nat → Bool) (xs ys : List Nat) (hq : Wq q gw) (hlx : xs.length ≤ 10000000) (hly : ys.length ≤ 10000000) (ha : Sx w fa xs) (hb : Sx w fb ys) :
    Calls Try.prog 31 #[fa, fb, .func (.func gw) #[] #[]] w fun e w' => ∃ f, e = .returned f ∧ (Sx w' f (S.jn q xs ys) ∧ f ≠ Value.nilFunc) ∧ Below w.heap.size w w' := by
  refine (join_clo w fa fb _ ha.form hb.form ⟨gw, rfl⟩).mono ?_
  rintro e w' ⟨rfl, rfl⟩
  have b1 : Below w.heap.size w (w.alloc (.cells #[fa] 29)) := (Below.refl _ w).alloc (Nat.le_refl _) _
  have b2 : Below w.heap.size w ((w.alloc (.cells #[fa] 29)).alloc (.cells #[fb] 29)) := b1.alloc (by simp) _
  have b3 : Below w.heap.size w (((w.alloc (.cells #[fa] 29)).alloc (.cells #[fb] 29)).alloc (.cells #[.func (.func gw) #[] #[]] 52)) := b2.alloc (by simp; omega) _
  have c2 : (((w.alloc (.cells #[fa] 29)).alloc (.cells #[fb] 29)).alloc (.cells #[.func (.func gw) #[] #[]] 52)).cell? ⟨w.heap.size + 2, 0, none⟩ = some (.func (.func gw) #[] #[]) := cell_of_row _ _ 0 _ _ (0, 0) (alloc_topV _ _ (by simp))
  have c1 : (((w.alloc (.cells #[fa] 29)).alloc (.cells #[fb] 29)).alloc (.cells #[.func (.func gw) #[] #[]] 52)).cell? ⟨w.heap.size + 1, 0, none⟩ = some fb := cell_of_row _ _ 0 _ _ (0, 0) ((Below.heap_alloc _ _ _ (by simp)).trans (alloc_topV _ _ (by simp)))
  have c0 : (((w.alloc (.cells #[fa] 29)).alloc (.cells #[fb] 29)).alloc (.cells #[.func (.func gw) #[] #[]] 52)).cell? ⟨w.heap.size, 0, none⟩ = some fa := cell_of_row _ _ 0 _ _ (0, 0) ((Below.heap_alloc _ _ _ (by simp; omega)).trans ((Below.heap_alloc _ _ _ (by simp)).trans (K.alloc_top _ _)))
  have hs : (((w.alloc (.cells #[fa] 29)).alloc (.cells #[fb] 29)).alloc (.cells #[.func (.func gw) #[] #[]] 52)).heap.size = w.heap.size + 3 := by simp
  generalize (((w.alloc (.cells #[fa] 29)).alloc (.cells #[fb] 29)).alloc (.cells #[.func (.func gw) #[] #[]] 52)) = w3 at *
  obtain ⟨Za, hza, ha⟩ := ha
  obtain ⟨Zb, hzb, hb⟩ := hb
  refine ⟨_, rfl, ⟨⟨fun j => j = w.heap.size + 2 ∨ Za j, fun j hj => ?_, .inr ⟨_, _, rfl, enters_of Try.func39 (by kernel_rfl) rfl, fun j hj => ?_, fun n => join_seq w3 w.heap.size (w.heap.size + 1) (w.heap.size + 2) fa fb gw q xs ys Za Zb hq hlx hly c0 c1 c2 (by omega) (by omega) (by omega) (ha.below b3) (hb.below b3) (fun j hj => by have := hza j hj; omega) n⟩⟩, (fun e => by cases e)⟩, b3⟩ <;>
  · rcases hj with rfl | hj
    · omega
    · have := hza j hj; omega
theorem less_any (w : World) (fa fb : Value) (xs ys : List Nat) (hlx : xs.length ≤ 10000000) (hly : ys.length ≤ 10000000) (ha : Sx w fa xs) (hb : Sx w fb ys) :
    Calls Try.prog 15 #[fa, fb] w fun e w' => ∃ f, e = .returned f ∧ (Sx w' f (S.jn qLess xs ys) ∧ f ≠ Value.nilFunc) ∧ Below w.heap.size w w' := by
  have H := Lib.hid (join_any w fa fb _ qLess xs ys w_less hlx hly ha hb)
  clear ha hb
  go_enter Try.func15, Try.ntmps15
  go_wp2_with (go_at_call 31; (with_reducible refine H.out.mono ?_); rintro e w1 ⟨f, rfl, h1, h2⟩; have H1 := Lib.hid (And.intro h1 h2); clear h1 h2)
  go_ret
  exact ⟨_, rfl, H1.out⟩
theorem xor_any (w : World) (fa fb : Value) (xs ys : List Nat) (hlx : xs.length ≤ 10000000) (hly : ys.length ≤ 10000000) (ha : Sx w fa xs) (hb : Sx w fb ys) :
    Calls Try.prog 16 #[fa, fb] w fun e w' => ∃ f, e = .returned f ∧ (Sx w' f (S.jn qXor xs ys) ∧ f ≠ Value.nilFunc) ∧ Below w.heap.size w w' := by
  have H := Lib.hid (join_any w fa fb _ qXor xs ys w_xor hlx hly ha hb)
  clear ha hb
  go_enter Try.func16, Try.ntmps16
  go_wp2_with (go_at_call 31; (with_reducible refine H.out.mono ?_); rintro e w1 ⟨f, rfl, h1, h2⟩; have H1 := Lib.hid (And.intro h1 h2); clear h1 h2)
  go_ret
  exact ⟨_, rfl, H1.out⟩
end Go.Proofs.Ytepdhjcgpjjjlaa
end
section
namespace Go.Proofs.Ytepdhjcgpjjjlaa
set_option maxRecDepth 20000
open Go.RowKit Go.Shelf
attribute [local go_sem] Oper.semAt_some
attribute [local simp] wide_fnV
set_option maxRecDepth 100000 in
set_option maxHeartbeats 4000000 in
theorem count_any (w : World) (f : Value) (xs : List Nat) (hs : Sx w f xs) (hl : xs.length ≤ 100000000) :
    Calls Try.prog 21 #[f] w fun e w' => e = .returned (.int .i64 (xs.length : Int)) ∧ Below w.heap.size w w' := by
  refine (callsIn_wide (n := 9)).1 ?_
  obtain ⟨Z, hZl, hs⟩ := hs
  have hf : f = Value.nilFunc ∨ ∃ g lb, f = .func (.func g) #[] lb := by
    rcases hs with h | ⟨g, lb, h⟩
    · exact .inl h.1
    · exact .inr ⟨g, lb, h.f⟩
  have hout : (w.alloc (.cells #[.int .i64 0] 3)).heap[w.heap.size]? = some (.cells #[.int .i64 0] 3 (0, 0)) := K.alloc_top _ _
  have hb0 : Below w.heap.size w (w.alloc (.cells #[.int .i64 0] 3)) := (Below.refl _ w).alloc (Nat.le_refl _) _
  have hs0 : (w.alloc (.cells #[.int .i64 0] 3)).heap.size = w.heap.size + 1 := by simp
  have HT := Lib.hid (told_any _ f xs Z (hs.below hb0))
  have HB := Lib.hid (And.intro hout (And.intro hb0 hs0))
  have HZL := Lib.hid hZl
  clear hs hout hb0 hs0 hZl
  refine callsIn_of_wp_marks Try.func21 rfl trivial ?_ rfl
  simp only [Try.ntmps21, List.size_toArray, List.length_cons, List.length_nil, Nat.reduceAdd, Nat.reduceSub, Array.replicate_succ, Array.replicate_zero, List.push_toArray, List.append_toArray, List.nil_append, List.cons_append]
  have hgo : ∀ f' : Value, f' = f → True := fun _ _ => trivial
  rcases hf with rfl | ⟨gf0, lb0, rfl⟩
  all_goals
    gi_wp2_with (gi_at_call 35; refine (callsIn_wide.2 HT.out).mono ?_; rintro e W0 ⟨f2, g, lb, Z2, rfl, hs2, hz2, hb2⟩; have H2 := Lib.hid (And.intro hs2 (And.intro hz2 hb2)); clear hs2 hz2 hb2)
    have hf2 := H2.out.1.f
    subst hf2
    obtain ⟨hs2, hz2, hb2⟩ := H2.out
    obtain ⟨hout, hb0, hs0⟩ := HB.out
    rw [hs0] at hz2
    have hsz := hb2.size
    rw [hs0] at hsz
    have hrow : W0.heap[w.heap.size]? = some (.cells #[.int .i64 0] 3 (0, 0)) := (hb2.block _ (by rw [hs0]; omega)).trans hout
    have hbw : Below w.heap.size w W0 := hb0.trans (hb2.mono (by rw [hs0]; omega))
    have hz3 : ∀ j, Z2 j → j ≠ w.heap.size := fun j hj e => by
      rcases hz2 j hj with h | h
      · have := HZL.out j h; omega
      · omega
    have HS2 := Lib.hid hs2
    have HZ3 := Lib.hid hz3
    clear hb2 hb0 hout hz2 H2 HB HT hs0 hgo hs2 hz3
    refine wpIn_rangeW rfl (by decide) (gf := g) (lb := lb) rfl trivial HS2.out.ent
      (HS2.out.seq 8) (fun j hj => HS2.out.lt j hj) (Below.refl _ _) (fun _ => rfl)
      (fun pre O W => (∀ j, O j ↔ j = w.heap.size) ∧ pre <+: xs ∧ W.heap[w.heap.size]? = some (.cells #[.int .i64 (pre.length : Int)] 3 (0, 0)) ∧ Below w.heap.size w W)
      (fun c pre O W => False)
      (fun s a1 O W => (∃ t0 t5, a1 = { tmps := #[t0, undef, .int .i64 0, .pointer (some ⟨w.heap.size, 0, none⟩), t0, t5, .int .u64 ((s.2 : Nat) : Int), undef, undef, undef], defers := [] })
        ∧ (∀ j, O j ↔ j = w.heap.size) ∧ s.1 ++ [s.2] <+: xs ∧ W.heap[w.heap.size]? = some (.cells #[.int .i64 (s.1.length : Int)] 3 (0, 0)) ∧ Below w.heap.size w W)
      ?hI (fun c s O W W' R h _ _ => h) ?hA ?hlow (fun j => j = w.heap.size) (fun j hj => by omega) ⟨fun j => Iff.rfl, List.nil_prefix, hrow, hbw⟩ ?assign ?body ?done ?stop
    case hI =>
      rintro pre O W W' R ⟨h1, h2, h3, h4⟩ hw hR
      exact ⟨h1, h2, (hw.block _ (Array.getElem?_eq_some_iff.1 h3).1 (fun hr => (hR _ hr).1 ((h1 _).2 rfl))).trans h3, h4.trans (hw.below h4.size (fun j hj => by have := (hR j hj).2; omega))⟩
    case hA =>
      rintro a' s O W W' R ⟨h0, h1, h2, h3, h4⟩ hw hR
      exact ⟨h0, h1, h2, (hw.block _ (Array.getElem?_eq_some_iff.1 h3).1 (fun hr => (hR _ hr).1 ((h1 _).2 rfl))).trans h3, h4.trans (hw.below h4.size (fun j hj => by have := (hR j hj).2; omega))⟩
    case hlow =>
      rintro pre O W ⟨h1, _⟩ j hj hz
      exact HZ3.out j hz ((h1 j).1 hj)
    case assign =>
      rintro L pre x O W ⟨h1, h2, h3, h4⟩ hT
      have hlt := (Array.getElem?_eq_some_iff.1 h3).1
      exact wpIn_skip ⟨O, ⟨ButS.refl _ _, fun j hj => ⟨.inl hj, by rw [(h1 j).1 hj]; exact hlt⟩⟩, ⟨_, _, by simp [senc]; exact ⟨rfl, rfl⟩⟩, h1, hT, h3, h4⟩
    case body =>
      rintro L pre x O a1 W ⟨⟨t0, t5, rfl⟩, h1, hT, h3, h4⟩
      have hpl : pre.length < 100000000 := by have := hT.length_le; simp at this; omega
      obtain ⟨k, hk⟩ : ∃ k, pre.length = k := ⟨_, rfl⟩
      have hk2 : (pre ++ [x]).length = k + 1 := by simp [hk]
      have HK := Lib.hid (And.intro hk2 hT)
      dsimp only at h3
      rw [hk] at h3 hpl
      have hc := cell_of_row W _ 0 _ _ (0, 0) h3
      have hfz := frozen_of_row W _ 0 _ _ h3
      simp at hc
      have hlt := (Array.getElem?_eq_some_iff.1 h3).1
      have wk : IntKind.i64.wrap ((k : Int) + 1) = ((k + 1 : Nat) : Int) := by rw [IntWalk.i64_in _ (by omega)]; omega
      have hr := row_set h3 0 (.int .i64 ((k + 1 : Nat) : Int))
      have H := Lib.hid (And.intro h1 (And.intro h3 (And.intro h4 hr)))
      clear h1 h3 h4 hr hT hk2 hk
      gi_wp2
      obtain ⟨h1, h3, h4, hr⟩ := H.out
      refine ⟨O, ⟨but_set' W _ 0 _ O ((h1 _).2 rfl), fun j hj => ⟨.inl hj, by rw [size_setV, (h1 j).1 hj]; exact hlt⟩⟩, h1, HK.out.2, ?_, h4.trans ((but_set' W w.heap.size 0 _ (· = w.heap.size) rfl).below h4.size (fun j e => Nat.le_of_eq e.symm))⟩
      rw [HK.out.1]
      simpa using hr
    case done =>
      rintro D ys O W hD hnD rfl ⟨h1, _, h3, h4⟩ hK
      have hc := cell_of_row W _ 0 _ _ (0, 0) h3
      simp at hc
      have hb2 := but_put W D (.deferred none)
      have H := Lib.hid (And.intro hK (h4.trans (hb2.below h4.size (fun j e => by have e2 : j = D := e; omega))))
      clear h1 h3 h4 hK hb2
      gi_wp2
      refine ⟨by simp, .inl ⟨_, _, rfl, run_takeDeferred H.out.1, ?_⟩⟩
      exact ⟨_, results_tmp rfl _ _ _, rfl, H.out.2⟩
    case stop => exact fun D c pre O W _ _ _ h _ => h.elim
end Go.Proofs.Ytepdhjcgpjjjlaa
end
section
namespace Go.Proofs.Ytepdhjcgpjjjlaa
set_option maxRecDepth 20000
open Go.RowKit Go.Shelf
attribute [local go_sem] Oper.semAt_some
attribute [local simp] wide_fnV
theorem first_no (w : World) (f : Value) (n : Int) (hn : n < 1) :
    Calls Try.prog 22 #[f, .int .i64 n] w fun e w' => e = .returned (.slice none 0 0) ∧ Below w.heap.size w w' := by
  have g1 : decide (n < 1) = true := decide_eq_true hn
  go_enter Try.func22, Try.ntmps22
  go_wp2
  go_ret
  exact ⟨rfl, (Below.refl _ w).alloc (Nat.le_refl _) _⟩
set_option maxRecDepth 100000 in
set_option maxHeartbeats 4000000 in
theorem first_yes (w : World) (f : Value) (xs : List Nat) (hs : Sx w f xs) (hl : xs.length ≤ 100000000) (m : Nat) (hm : 1 ≤ m) :
    Calls Try.prog 22 #[f, .int .i64 (m : Int)] w fun e w' => ∃ v, e = .returned v ∧ w'.ownsRow w.heap.size 31 1 v (xs.take m).length (wv (xs.take m)) ∧ Below w.heap.size w w' := by
  refine (callsIn_wide (n := 9)).1 ?_
  obtain ⟨i0, hi, hz0, hz1, hz2⟩ := info_parts u64_info
  obtain ⟨Z, hZl, hs⟩ := hs
  have hf : f = Value.nilFunc ∨ ∃ g lb, f = .func (.func g) #[] lb := by
    rcases hs with h | ⟨g, lb, h⟩
    · exact .inl h.1
    · exact .inr ⟨g, lb, h.f⟩
  have hrow0 : (w.alloc (.cells #[.int .i64 (m : Int)] 3)).heap[w.heap.size]? = some (.cells #[.int .i64 (m : Int)] 3 (0, 0)) := K.alloc_top _ _
  have hb0 : Below w.heap.size w (w.alloc (.cells #[.int .i64 (m : Int)] 3)) := (Below.refl _ w).alloc (Nat.le_refl _) _
  have hb1 : Below w.heap.size w ((w.alloc (.cells #[.int .i64 (m : Int)] 3)).alloc (.cells #[.slice none 0 0] 22)) := hb0.alloc (by simp) _
  have hrow1 : ((w.alloc (.cells #[.int .i64 (m : Int)] 3)).alloc (.cells #[.slice none 0 0] 22)).heap[w.heap.size + 1]? = some (.cells #[.slice none 0 0] 22 (0, 0)) := alloc_topV _ _ (by simp)
  have hrow0' := (Below.heap_alloc (w.alloc (.cells #[.int .i64 (m : Int)] 3)) (.cells #[.slice none 0 0] 22) w.heap.size (by simp)).trans hrow0
  have hs1 : ((w.alloc (.cells #[.int .i64 (m : Int)] 3)).alloc (.cells #[.slice none 0 0] 22)).heap.size = w.heap.size + 2 := by simp
  have HT := Lib.hid (told_any _ f xs Z (hs.below hb1))
  have HB := Lib.hid (And.intro hrow0' (And.intro hrow1 (And.intro hb1 hs1)))
  have HZL := Lib.hid hZl
  have g0 : decide ((m : Int) < 1) = false := decide_eq_false (by omega)
  have g0' : decide (m < 1) = false := decide_eq_false (by omega)
  clear hs hrow0 hb0 hb1 hrow1 hrow0' hs1 hZl
  refine callsIn_of_wp_marks Try.func22 rfl trivial ?_ rfl
  simp only [Try.ntmps22, List.size_toArray, List.length_cons, List.length_nil, Nat.reduceAdd, Nat.reduceSub, Array.replicate_succ, Array.replicate_zero, List.push_toArray, List.append_toArray, List.nil_append, List.cons_append]
  rcases hf with rfl | ⟨gf0, lb0, rfl⟩
  all_goals
    gi_wp2_with (gi_at_call 35; refine (callsIn_wide.2 HT.out).mono ?_; rintro e W0 ⟨f2, g, lb, Z2, rfl, hs2, hz2, hb2⟩; have H2 := Lib.hid (And.intro hs2 (And.intro hz2 hb2)); clear hs2 hz2 hb2)
    have hf2 := H2.out.1.f
    subst hf2
    obtain ⟨hs2, hz2, hb2⟩ := H2.out
    obtain ⟨hrow0, hrow1, hb1, hs1⟩ := HB.out
    rw [hs1] at hz2
    have hsz := hb2.size
    rw [hs1] at hsz
    have hr0 : W0.heap[w.heap.size]? = some (.cells #[.int .i64 (m : Int)] 3 (0, 0)) := (hb2.block _ (by rw [hs1]; omega)).trans hrow0
    have hr1 : W0.heap[w.heap.size + 1]? = some (.cells #[.slice none 0 0] 22 (0, 0)) := (hb2.block _ (by rw [hs1]; omega)).trans hrow1
    have hbw : Below w.heap.size w W0 := hb1.trans (hb2.mono (by rw [hs1]; omega))
    have hO0 : Outs (w.heap.size + 1) [] (fun j => j = w.heap.size + 1) W0 := ⟨_, hr1, World.ownsRow_nil _ _ _ _, by simp [Value.ownBlock], fun j => by simp [Value.ownBlock]⟩
    have hz3 : ∀ j, Z2 j → j < w.heap.size ∨ w.heap.size + 2 ≤ j := fun j hj => (hz2 j hj).imp (HZL.out j) id
    have HS2 := Lib.hid hs2
    have HZ3 := Lib.hid hz3
    clear hb2 hb1 hrow0 hrow1 hz2 H2 HB HT hs1 hs2 hz3
    refine wpIn_rangeW rfl (by decide) (gf := g) (lb := lb) rfl trivial HS2.out.ent
      (HS2.out.seq 8) (fun j hj => HS2.out.lt j hj) (Below.refl _ _) (fun _ => rfl)
      (fun pre O W => Outs (w.heap.size + 1) pre O W ∧ (∀ j, O j → j = w.heap.size + 1 ∨ W0.heap.size ≤ j) ∧ pre.length < m ∧ ButS W0 W (fun j => j = w.heap.size + 1))
      (fun c pre O W => c = .exit 0 ∧ Outs (w.heap.size + 1) pre O W ∧ pre.length = m ∧ ButS W0 W (fun j => j = w.heap.size + 1))
      (fun s a1 O W => (∃ t0 t9 t10, a1 = { tmps := #[t0, .int .i64 (m : Int), undef, .pointer (some ⟨w.heap.size, 0, none⟩), .slice none 0 0, .pointer (some ⟨w.heap.size + 1, 0, none⟩), .int .u64 ((s.2 : Nat) : Int), .int .i64 (m : Int), .bool false, t9, t10, .int .u64 ((s.2 : Nat) : Int), undef, undef, undef, undef, undef, undef, undef, undef, undef], defers := [] })
        ∧ Outs (w.heap.size + 1) s.1 O W ∧ (∀ j, O j → j = w.heap.size + 1 ∨ W0.heap.size ≤ j) ∧ s.1.length < m ∧ s.1 ++ [s.2] <+: xs ∧ ButS W0 W (fun j => j = w.heap.size + 1))
      ?hI ?hIx ?hA ?hlow (fun j => j = w.heap.size + 1) (fun j hj => by omega) ⟨hO0, fun j hj => .inl hj, hm, ButS.refl _ _⟩ ?assign ?body ?done ?stop
    case hI =>
      rintro pre O W W' R ⟨h1, hne, h2, h3⟩ hw hR
      exact ⟨h1.but hw (fun j hj => (hR j hj).1), hne, h2, h3.then hw (fun j hj => .inr (hR j hj).2)⟩
    case hIx =>
      rintro c pre O W W' R ⟨h0, h1, h2, h3⟩ hw hR
      exact ⟨h0, h1.but hw (fun j hj => (hR j hj).1), h2, h3.then hw (fun j hj => .inr (hR j hj).2)⟩
    case hA =>
      rintro a' s O W W' R ⟨e1, h1, hne, h2, hT, h3⟩ hw hR
      exact ⟨e1, h1.but hw (fun j hj ho => (hR j hj).1 ho), hne, h2, hT, h3.then hw (fun j hj => .inr (hR j hj).2)⟩
    case hlow =>
      rintro pre O W ⟨h1, hne, _⟩ j hj hz
      have h5 := HS2.out.lt j hz
      rcases HZ3.out j hz with h | h <;> rcases hne j hj with h6 | h6
      · omega
      · omega
      · omega
      · omega
    case assign =>
      rintro L pre x O W ⟨h1, hne, h2, h3⟩ hT
      gi_wp2
      exact ⟨O, ⟨ButS.refl _ _, fun j hj => ⟨.inl hj, (h1.lt j hj).2⟩⟩, ⟨_, _, _, rfl⟩, h1, hne, h2, hT, h3⟩
    case body =>
      rintro L pre x O a1 W ⟨⟨t0, t9, t10, rfl⟩, ⟨v, hv, hrow, hvb, hO⟩, hne, h2, hT, h3⟩
      have hc : W.cell? ⟨w.heap.size + 1, 0, none⟩ = some v := cell_of_row _ _ 0 _ _ (0, 0) hv
      have hmc : W.cell? ⟨w.heap.size, 0, none⟩ = some (.int .i64 (m : Int)) := (h3.cell (b := w.heap.size) (by omega) (fun e => by have e2 : w.heap.size = w.heap.size + 1 := e; omega) 0).trans (cell_of_row _ _ 0 _ _ (0, 0) hr0)
      have hvl : ∀ j, v.ownBlock = some j → j < W.heap.size ∧ w.heap.size + 1 ≤ j := fun j hj => own_ltG hrow hj
      have hsz2 := h3.size
      have h2 : pre.length < m := h2
      have hpl : pre.length < 100000000 := by have := hT.length_le; simp at this; omega
      have hbl : w.heap.size + 1 < W.heap.size := (Array.getElem?_eq_some_iff.1 hv).1
      have hvm : ∀ j, v.ownBlock = some j → j ≠ w.heap.size := fun j hj => by have := (hvl j hj).2; omega
      have HV := Lib.hid hv
      have HR := Lib.hid hrow
      have HVB := Lib.hid hvb
      have HVL := Lib.hid hvl
      have H3 := Lib.hid h3
      have HNE := Lib.hid hne
      have eqb := eq_testG pre.length m
      clear hv hrow hvb hvl h3 hT hne hvm
      gi_wp2_with (gi_at_builtin; refine wpListIn_append_own_at _ rfl _ _ 22 rfl (w.heap.size + 1) 31 i0 _ 1 8 Try.underlying22 hi hz0 hz1 hz2 rfl (by decide) v pre.length (wv pre) rfl (HR.out.alloc _) ⟨W.heap.size, 0, none⟩ 1 1 [.int .u64 ((x : Nat) : Int)] rfl rfl (cell_oneB W _ _) (by intro u hu; simp at hu; subst hu; rfl) (by unfold maxLen; omega) (by omega) (by simp; omega) ?_; intro v' w2 hown' hgrow _ hblk; obtain ⟨A', c', rfl⟩ := K.own_form hown'; have hbB := (far_blockG hgrow hbl (fun e => HVB.out e.symm)).trans HV.out; have hcb : w2.cell? ⟨w.heap.size + 1, 0, none⟩ = some v := cell_of_row _ _ 0 _ _ (0, 0) hbB; have hfb : w2.frozen? ⟨w.heap.size + 1, 0, none⟩ = false := (by simp [World.frozen?, hbB]); have hmb : w2.cell? ⟨w.heap.size, 0, none⟩ = some (.int .i64 (m : Int)) := (far_cellG hgrow 0 (by omega) (fun e => by have := (HVL.out _ e.symm).2; omega)).trans hmc; have HBB := Lib.hid hbB; have HOW := Lib.hid hown'; have HGR := Lib.hid hgrow; have HBL := Lib.hid hblk; clear hbB hown' hgrow hblk)
      all_goals
        have hown2 : w2.ownsRow (w.heap.size + 1) 31 1 (.slice A' (pre.length + 1) c') (pre.length + 1) (wv pre ++ [.int .u64 ((x : Nat) : Int)]) := HOW.out
        have hvb2 : (Value.slice A' (pre.length + 1) c').ownBlock ≠ some (w.heap.size + 1) := by
          intro e
          rcases HBL.out with h | h
          · rw [e] at h; exact HVB.out h.symm
          · rw [e] at h; simp at h; omega
        have hbut : ButS W (w2.setCell ⟨w.heap.size + 1, 0, none⟩ (.slice A' (pre.length + 1) c')) O := by
          refine ((but_alloc' W _ O).trans (ButS.of_grown HGR.out (fun j e => (hO j).2 (.inr e)))).trans (but_set' w2 _ 0 _ O ((hO _).2 (.inl rfl)))
        have hout : Outs (w.heap.size + 1) (pre ++ [x]) (fun j => j = w.heap.size + 1 ∨ (Value.slice A' (pre.length + 1) c').ownBlock = some j) (w2.setCell ⟨w.heap.size + 1, 0, none⟩ (.slice A' (pre.length + 1) c')) := by
          refine ⟨.slice A' (pre.length + 1) c', set_heapG HBB.out, ?_, hvb2, fun j => Iff.rfl⟩
          rw [show wv (pre ++ [x]) = wv pre ++ [.int .u64 ((x : Nat) : Int)] by simp [wv], List.length_append]
          exact (but_set' w2 (w.heap.size + 1) 0 (.slice A' (pre.length + 1) c') (· = w.heap.size + 1) rfl).own hown2 (fun k hk e => hvb2 (by rw [hk, e]))
        have hnew : ∀ j, (j = w.heap.size + 1 ∨ (Value.slice A' (pre.length + 1) c').ownBlock = some j) → j = w.heap.size + 1 ∨ W0.heap.size ≤ j := fun j hj => by
          rcases hj with hj | hj
          · exact .inl hj
          · rcases HBL.out with h | h
            · exact HNE.out j ((hO j).2 (.inr (by rw [← h]; exact hj)))
            · rw [hj] at h; simp at h; exact .inr (by omega)
        have hstep : OwnStep O (fun j => j = w.heap.size + 1 ∨ (Value.slice A' (pre.length + 1) c').ownBlock = some j) W (w2.setCell ⟨w.heap.size + 1, 0, none⟩ (.slice A' (pre.length + 1) c')) := by
          refine ⟨hbut, fun j hj => ⟨?_, (hout.lt j hj).2⟩⟩
          rcases hj with hj | hj
          · left; exact (hO j).2 (.inl hj)
          · rcases HBL.out with h | h
            · left; rw [hj] at h; exact (hO j).2 (.inr h.symm)
            · right; rw [hj] at h; simp at h; omega
        have hbel : ButS W0 (w2.setCell ⟨w.heap.size + 1, 0, none⟩ (.slice A' (pre.length + 1) c')) (fun j => j = w.heap.size + 1) := H3.out.then hbut (fun j hj => HNE.out j hj)
      · have hpm : pre.length + 1 = m := by assumption
        rw [hpm] at hstep hout hbel
        exact ⟨_, hstep, rfl, hout, by simp; omega, hbel⟩
      · exact ⟨_, hstep, hout, hnew, by simp at *; omega, hbel⟩
    case done =>
      rintro D ys O W hD hnD rfl ⟨⟨v, hv, hrow, hvb, hO⟩, hne, h2, h3⟩ hK
      have hc : W.cell? ⟨w.heap.size + 1, 0, none⟩ = some v := cell_of_row _ _ 0 _ _ (0, 0) hv
      have e : ys.take m = ys := List.take_of_length_le (by omega)
      have hDl := (Array.getElem?_eq_some_iff.1 hK).1
      have hvD : v.ownBlock ≠ some D := fun h => hnD ((hO D).2 (.inr h))
      have hbf : Below w.heap.size w (W.putObj D (.deferred none)) := (hbw.trans (h3.below (by omega) (fun j hj => by have e2 : j = w.heap.size + 1 := hj; omega))).trans ((but_put W D (.deferred none)).below (by have := h3.size; omega) (fun j h => by have e2 : j = D := h; omega))
      have hr' := own_baseG ((but_put W D (.deferred none)).own hrow (fun k hk h => hvD (by rw [hk, h]))) (base' := w.heap.size) (by omega)
      have HF := Lib.hid (And.intro hr' hbf)
      clear hbf hr' hne
      gi_wp2
      refine ⟨by simp, .inl ⟨_, _, rfl, run_takeDeferred hK, ?_⟩⟩
      exact ⟨_, results_tmp rfl _ _ _, v, rfl, by rw [e]; exact HF.out.1, HF.out.2⟩
    case stop =>
      rintro D c pre O W hD hnD hpre ⟨rfl, ⟨v, hv, hrow, hvb, hO⟩, h2, h3⟩ hK
      have hc : W.cell? ⟨w.heap.size + 1, 0, none⟩ = some v := cell_of_row _ _ 0 _ _ (0, 0) hv
      have e : xs.take m = pre := by
        rw [← h2]
        exact (List.prefix_iff_eq_take.1 hpre).symm
      have hDl := (Array.getElem?_eq_some_iff.1 hK).1
      have hvD : v.ownBlock ≠ some D := fun h => hnD ((hO D).2 (.inr h))
      have hbf : Below w.heap.size w (W.putObj D (.deferred none)) := (hbw.trans (h3.below (by omega) (fun j hj => by have e2 : j = w.heap.size + 1 := hj; omega))).trans ((but_put W D (.deferred none)).below (by have := h3.size; omega) (fun j h => by have e2 : j = D := h; omega))
      have hr' := own_baseG ((but_put W D (.deferred none)).own hrow (fun k hk h => hvD (by rw [hk, h]))) (base' := w.heap.size) (by omega)
      have HF := Lib.hid (And.intro hr' hbf)
      clear hbf hr'
      gi_wp2
      refine ⟨by simp, .inl ⟨_, _, rfl, run_takeDeferred hK, ?_⟩⟩
      exact ⟨_, results_tmp rfl _ _ _, v, rfl, by rw [e]; exact HF.out.1, HF.out.2⟩
end Go.Proofs.Ytepdhjcgpjjjlaa
end
