
/- The document's acts on a set of 16-bit numbers (stepstoneref06.Do, Steps); the text walked. -/
import Derived.Test.YtejboemifncjoaaBList
namespace Go.Proofs.Ytejboemifncjoaa
open Go.RowKit
namespace M
/-- k numbers from A on, each s further. -/
def ar (A s k : Nat) : List Int := (List.range k).map fun j => ((A + s * j : Nat) : Int)
theorem ar_succ (A s k : Nat) : ar A s (k + 1) = ar A s k ++ [((A + s * k : Nat) : Int)] := by simp [ar, List.range_succ]
theorem ar_zero (A s : Nat) : ar A s 0 = [] := rfl
theorem ar_len (A s k : Nat) : (ar A s k).length = k := by simp [ar]
/-- All of xs are there besides; n are new. -/
def AddAll (l l' xs : List Int) (n : Nat) : Prop := l'.Pairwise (· < ·) ∧ (∀ y, y ∈ l' ↔ y ∈ l ∨ y ∈ xs) ∧ n + l.length = l'.length
theorem AddAll.start {l : List Int} (h : l.Pairwise (· < ·)) : AddAll l l [] 0 := ⟨h, fun y => by simp, by omega⟩
theorem AddAll.step {l a b xs : List Int} {v : Int} {n m : Nat} (h : AddAll l a xs n) (k : Chg true a b v v m) : AddAll l b (xs ++ [v]) (n + m) := by
  refine ⟨k.1, fun y => ?_, ?_⟩
  · rw [k.2.1 y]
    by_cases e : y = v
    · subst e; rw [if_pos ⟨Int.le_refl _, Int.le_refl _⟩]; simp
    · rw [if_neg (by omega), h.2.1 y]; simp [e]
  · have h1 := h.2.2
    have h2 := k.2.2
    rw [if_pos rfl] at h2
    omega
theorem AddAll.same {l a b xs : List Int} {n m : Nat} (h : AddAll l a xs n) (k : AddAll l b xs m) : a = b ∧ n = m := by
  have e : a = b := sorted_ext h.1 k.1 fun y => (h.2.1 y).trans (k.2.1 y).symm
  subst e
  exact ⟨rfl, by have h1 := h.2.2; have h2 := k.2.2; omega⟩
/-- As many steps as there are up to B. -/
def Stops (A B s k : Nat) : Prop := (0 < k → A + s * (k - 1) ≤ B) ∧ B < A + s * k
theorem Stops.same {A B s k j : Nat} (h : Stops A B s k) (h' : Stops A B s j) : k = j := by
  have key : ∀ {k j : Nat}, Stops A B s k → Stops A B s j → ¬ k < j := fun {k j} h h' hlt => by
    have h1 := h'.1 (by omega)
    have h2 : s * k ≤ s * (j - 1) := Nat.mul_le_mul_left s (by omega)
    have := h.2
    omega
  have h1 := key h h'
  have h2 := key h' h
  omega
/-- What an act does. -/
def Acted (d A B s : Nat) (l l' : List Int) (m : Nat) : Prop :=
  if d % 5 = 0 then Chg true l l' (A : Int) (A : Int) m else if d % 5 = 1 then Chg false l l' (A : Int) (A : Int) m else if d % 5 = 2 then Chg true l l' (A : Int) (B : Int) m
  else if d % 5 = 3 then Chg false l l' (A : Int) (B : Int) m else ∃ k, Stops A B (2 + s % 9) k ∧ AddAll l l' (ar A (2 + s % 9) k) m
theorem Acted.same {d A B s : Nat} {l a b : List Int} {m k : Nat} (h : Acted d A B s l a m) (h' : Acted d A B s l b k) : a = b ∧ m = k := by
  unfold Acted at h h'
  by_cases h0 : d % 5 = 0
  · rw [if_pos h0] at h h'; exact h.same h'
  · rw [if_neg h0] at h h'
    by_cases h1 : d % 5 = 1
    · rw [if_pos h1] at h h'; exact h.same h'
    · rw [if_neg h1] at h h'
      by_cases h2 : d % 5 = 2
      · rw [if_pos h2] at h h'; exact h.same h'
      · rw [if_neg h2] at h h'
        by_cases h3 : d % 5 = 3
        · rw [if_pos h3] at h h'; exact h.same h'
        · rw [if_neg h3] at h h'
          obtain ⟨i, hi, ha⟩ := h
          obtain ⟨j, hj, hb⟩ := h'
          obtain rfl := hi.same hj
          exact ha.same hb
end M
abbrev actB (d A B S : Nat) : Value := .agg #[.int .u8 (d : Int), .int .u16 (A : Int), .int .u16 (B : Int), .int .u16 (S : Int)]
abbrev actoB (d A B S : Nat) : Obj := .cells #[.int .u8 (d : Int), .int .u16 (A : Int), .int .u16 (B : Int), .int .u16 (S : Int)] 57
theorem alloc_topB (w : World) (o : Obj) {k : Nat} (hk : k = w.heap.size) : (w.alloc o).heap[k]? = some o := by
  subst hk
  show (w.heap.push o)[w.heap.size]? = some o
  simp
/-- The cells of an act in memory. -/
structure AtB (w : World) (b d A B S : Nat) : Prop where
  c0 : w.cell? ⟨b, 0, none⟩ = some (.int .u8 (d : Int))
  c1 : w.cell? ⟨b, 1, none⟩ = some (.int .u16 (A : Int))
  c2 : w.cell? ⟨b, 2, none⟩ = some (.int .u16 (B : Int))
  c3 : w.cell? ⟨b, 3, none⟩ = some (.int .u16 (S : Int))
theorem atB_of {w : World} {b d A B S : Nat} (h : w.heap[b]? = some (actoB d A B S)) : AtB w b d A B S :=
  ⟨cell_of_row w b 0 _ _ (0, 0) h, cell_of_row w b 1 _ _ (0, 0) h, cell_of_row w b 2 _ _ (0, 0) h, cell_of_row w b 3 _ _ (0, 0) h⟩
theorem rem9 (S : Nat) (hS : S ≤ 65535) : (S : Int).tmod 9 = ((S % 9 : Nat) : Int) ∧ (S : Int) % 9 = ((S % 9 : Nat) : Int) ∧ S % 9 < 9 := by
  have e : (S : Int) % 9 = ((S % 9 : Nat) : Int) := by omega
  exact ⟨by rw [Int.tmod_eq_emod_of_nonneg (by omega)]; exact e, e, by omega⟩
theorem i64B (i : Int) (h0 : -9223372036854775808 ≤ i) (h : i ≤ 9223372036854775807) : IntKind.i64.wrap i = i := IntWalk.i64_in _ (by omega)
theorem u16B {i : Int} (h0 : 0 ≤ i) (h : i ≤ 65535) : IntKind.u16.wrap i = i := by
  simp [IntKind.wrap, IntKind.signed, IntKind.bits]; omega
set_option maxHeartbeats 1000000 in
theorem f_steps (w : World) (d A B S : Nat) (hA : A ≤ 65535) (hB : B ≤ 65535) (hS : S ≤ 65535) :
    Calls Try.prog 44 #[actB d A B S] w fun e w' => ∃ k P c, M.Stops A B (2 + S % 9) k ∧ k ≤ 65536 ∧ e = .returned (.slice P k c) ∧ Rh w' w'.heap.size P (M.ar A (2 + S % 9) k) ∧ Young w.heap.size P ∧ Below w.heap.size w w' := by
  obtain ⟨i0, hi, hz0, hz1, hz2⟩ := info_parts u16_info
  obtain ⟨r1, r2, r3⟩ := rem9 S hS
  generalize S % 9 = q at *
  have w1 := i64B (A : Int) (by omega) (by omega)
  have w2 := i64B (B : Int) (by omega) (by omega)
  have w3 := i64B (q : Int) (by omega) (by omega)
  have w4 : IntKind.u16.wrap (q : Int) = (q : Int) := u16B (by omega) (by omega)
  have hat := atB_of (alloc_topB w (actoB d A B S) rfl)
  have hBx : Below w.heap.size w (w.alloc (actoB d A B S)) := (Below.refl _ _).alloc (Nat.le_refl _) _
  obtain ⟨wa, hwa⟩ : ∃ wa, w.alloc (actoB d A B S) = wa := ⟨_, rfl⟩
  rw [hwa] at hat hBx
  have hzA : wa.heap.size = w.heap.size + 1 := by rw [← hwa]; simp
  have hzAH := Lib.hid hzA
  have hwaH := Lib.hid hwa
  have hBxH := Lib.hid hBx
  clear hwa hzA hBx
  go_enter Try.func44, Try.ntmps44
  obtain ⟨c0, c1, c2, c3⟩ := hat
  go_wp2
  rw [hwaH.out]
  go_loopw [3, 4] (fun v i wr => ∃ k : Nat, i = .int .i64 ((A + (2 + q) * k : Nat) : Int) ∧ (0 < k → A + (2 + q) * (k - 1) ≤ B) ∧ wr.ownsRow w.heap.size 31 1 v (M.ar A (2 + q) k).length (hv (M.ar A (2 + q) k)) ∧ Below (w.heap.size + 1) wa wr)
    (fun _ i _ => 65536 - (intOf i).toNat)
  case atStart => exact ⟨0, by simp, by omega, by simp [World.ownsRow_nil, M.ar_zero], Below.refl _ _⟩
  case round =>
    obtain ⟨k, rfl, hk, hown, hb⟩ := hrel
    have d1 := (hb.cell (p := ⟨w.heap.size, 1, none⟩) (Nat.lt_succ_self _)).trans c1
    have d2 := (hb.cell (p := ⟨w.heap.size, 2, none⟩) (Nat.lt_succ_self _)).trans c2
    have d3 := (hb.cell (p := ⟨w.heap.size, 3, none⟩) (Nat.lt_succ_self _)).trans c3
    have hbW : Below w.heap.size w wr := hBxH.out.trans (hb.mono (by omega))
    have hlen : Hid ((M.ar A (2 + q) k).length = k) := M.ar_len A (2 + q) k
    have hsucc := Lib.hid (M.ar_succ A (2 + q) k)
    have hnext : Hid ((A + (2 + q) * k : Nat) + (2 + q) = A + (2 + q) * (k + 1)) := by show _ = _; rw [Nat.mul_succ]; omega
    have hkk : k ≤ (2 + q) * k := Nat.le_mul_of_pos_left k (by omega)
    obtain ⟨i, hI⟩ : ∃ i, A + (2 + q) * k = i := ⟨_, rfl⟩
    rw [hI] at hsucc hnext
    have hki : k ≤ i := by omega
    have hIH := Lib.hid hI
    rw [hI]
    clear hI hkk
    have hkH := Lib.hid hk
    clear hk
    by_cases hlt : i ≤ B
    · have hT1 : decide ((i : Int) ≤ (B : Int)) = true := decide_eq_true (by omega)
      have hT2 : decide (i ≤ B) = true := decide_eq_true hlt
      have hw16 : IntKind.u16.wrap (i : Int) = (i : Int) := u16B (by omega) (by omega)
      have hk9 : (M.ar A (2 + q) k).length ≤ 65535 := by rw [hlen.out]; omega
      generalize M.ar A (2 + q) k = ds at *
      go_wp2_with (at_builtin; refine wpList_append_own _ rfl _ _ 40 rfl w.heap.size 31 i0 (.int .u16 0) 1 2 Try.underlying40 hi hz0 hz1 hz2 rfl (by decide) _ _ _ rfl (hown.alloc _) ⟨wr.heap.size, 0, none⟩ 1 1 [.int .u16 (i : Int)] rfl rfl ?c1 ?c2 ?c3 ?c4 ?c5 ?_)
      case c1 => exact cell_oneB _ _ _
      case c2 => first | exact one_intB _ _ | rfl
      case c3 => unfold maxLen; omega
      case c4 => omega
      case c5 => have := hbW.size; simp; omega
      intro v' w1 hown' hgrow _
      have hgl : ∀ g, v'.ownBlock = some g → w.heap.size + 1 ≤ g ∨ True := fun _ _ => .inr trivial
      have hb2 : Below (w.heap.size + 1) wa w1 := by
        have hz := hb.size
        rw [hzAH.out] at hz
        refine (hb.alloc hz _).grown hgrow (by simp; omega) (fun g hg => ?_)
        have h1 := (hown.lt g hg).1
        rcases Nat.lt_or_ge w.heap.size g with h2 | h2
        · exact h2
        · exfalso
          have h3 : g = w.heap.size := by omega
          subst h3
          rcases hown.2 with ⟨rfl, _⟩ | ⟨g', cap, cur, rfl, _, hh, _⟩
          · simp [Value.ownBlock] at hg
          · simp [Value.ownBlock] at hg
            subst hg
            have h4 := (hb.block w.heap.size (Nat.lt_succ_self _)).symm.trans hh
            rw [← hwaH.out, alloc_topB w _ rfl] at h4
            simp at h4
      have hown2 := (own_snocH hbW hown hown' hgrow).1
      rw [← hsucc.out] at hown2
      clear hown' hgrow hown hgl
      have e1 := (hb2.cell (p := ⟨w.heap.size, 3, none⟩) (Nat.lt_succ_self _)).trans c3
      clear hb d1 d2 d3 hbW
      go_wp2
      go_roundw
      case rel => exact ⟨k + 1, by rw [← hnext.out]; go_num, fun _ => by have := hIH.out; simpa using (by omega : A + (2 + q) * k ≤ B), hown2, hb2⟩
      case measure => simp [intOf]; omega
    · have hT1 : decide ((i : Int) ≤ (B : Int)) = false := decide_eq_false (by omega)
      have hT2 : decide (i ≤ B) = false := decide_eq_false hlt
      have hst : Hid (M.Stops A B (2 + q) k ∧ k ≤ 65536) := by
        have h1 := hIH.out
        refine ⟨⟨hkH.out, by omega⟩, ?_⟩
        rcases Nat.eq_zero_or_pos k with h0 | h0
        · omega
        · have h2 := hkH.out h0
          have h3 : k - 1 ≤ (2 + q) * (k - 1) := Nat.le_mul_of_pos_left _ (by omega)
          omega
      obtain ⟨A', c', rfl, hr', hF⟩ := Rh.of_own hown
      go_wp2
      go_ret
      exact ⟨k, A', c', hst.out.1, hst.out.2, congrArg (fun n => Ending.returned (.slice A' n c')) hlen.out, hr', hF, hbW⟩
/-- What an act leaves of the row. -/
def FActed (w : World) (g n : Nat) (bs : List Bool) (d A B S : Nat) (e : Ending) (w' : World) : Prop :=
  ∃ (m : Nat) (cs : List Bool), e = .returned (.int .i64 (m : Int)) ∧ M.Acted d A B S (M.L bs) (M.L cs) m ∧ m ≤ 65536 ∧ Bs w' g n cs ∧ w.grownBy w' (some g)
theorem chg_le {o : Bool} {l l' : List Int} {f t : Int} {m N : Nat} (h : M.Chg o l l' f t m) (h1 : l.length ≤ N) (h2 : l'.length ≤ N) : m ≤ N := by
  have := h.2.2
  cases o
  · rw [if_neg (by decide)] at this; omega
  · rw [if_pos rfl] at this; omega
theorem Bs.le {w : World} {g n : Nat} {bs : List Bool} (a : Bs w g n bs) : (M.L bs).length ≤ 65536 := by
  have h1 := M.L_len bs
  have h2 := a.len
  have h3 := a.top
  omega
theorem mod5 (d : Nat) (hd : d < 256) (k : Nat) (hk : d % 5 = k) : (d : Int).tmod 5 = (k : Int) ∧ (d : Int) % 5 = (k : Int) := by
  have e : (d : Int) % 5 = (k : Int) := by omega
  exact ⟨by rw [Int.tmod_eq_emod_of_nonneg (by omega)]; exact e, e⟩
set_option maxHeartbeats 1000000 in
theorem f_do0 (w : World) (g n : Nat) (bs : List Bool) (a : Bs w g n bs) (d A B S : Nat) (hd : d < 256) (hk : d % 5 = 0) (hA : A ≤ 65535) (_hB : B ≤ 65535) :
    Calls Try.prog 43 #[.slice (some ⟨g, 0, none⟩) n n, actB d A B S] w (FActed w g n bs d A B S) := by
  obtain ⟨e1, e2⟩ := mod5 d hd 0 hk
  have hB0 : Below w.heap.size w (w.alloc (actoB d A B S)) := (Below.refl _ _).alloc (Nat.le_refl _) _
  have aA := Lib.hid (a.all_below hB0)
  have hlt := a.lt
  have hle := a.le
  have hg0 : w.grownBy (w.alloc (actoB d A B S)) (some g) := World.grownBy_alloc w _ _
  have hfill := Lib.hid (f_fill (w.alloc (actoB d A B S)) g n bs aA.out A A (by omega) (by omega) true)
  have hkH := Lib.hid hk
  have hg0H := Lib.hid hg0
  clear hk hg0 a
  go_enter Try.func43, Try.ntmps43
  go_wp2_with (go_at_call 52; (with_reducible refine hfill.out.mono ?_); rintro e w' ⟨m, rfl, cs, hc, hb, hgr⟩; have HC := Lib.hid hc; clear hc)
  go_ret
  exact ⟨m, cs, rfl, by unfold M.Acted; simp [hkH.out]; exact HC.out, chg_le HC.out hle hb.le, hb, grownB_trans hg0H.out hgr⟩
set_option maxHeartbeats 1000000 in
theorem f_do1 (w : World) (g n : Nat) (bs : List Bool) (a : Bs w g n bs) (d A B S : Nat) (hd : d < 256) (hk : d % 5 = 1) (hA : A ≤ 65535) (_hB : B ≤ 65535) :
    Calls Try.prog 43 #[.slice (some ⟨g, 0, none⟩) n n, actB d A B S] w (FActed w g n bs d A B S) := by
  obtain ⟨e1, e2⟩ := mod5 d hd 1 hk
  have hB0 : Below w.heap.size w (w.alloc (actoB d A B S)) := (Below.refl _ _).alloc (Nat.le_refl _) _
  have aA := Lib.hid (a.all_below hB0)
  have hlt := a.lt
  have hle := a.le
  have hg0 : w.grownBy (w.alloc (actoB d A B S)) (some g) := World.grownBy_alloc w _ _
  have hfill := Lib.hid (f_fill (w.alloc (actoB d A B S)) g n bs aA.out A A (by omega) (by omega) false)
  have hkH := Lib.hid hk
  have hg0H := Lib.hid hg0
  clear hk hg0 a
  go_enter Try.func43, Try.ntmps43
  go_wp2_with (go_at_call 52; (with_reducible refine hfill.out.mono ?_); rintro e w' ⟨m, rfl, cs, hc, hb, hgr⟩; have HC := Lib.hid hc; clear hc)
  go_ret
  exact ⟨m, cs, rfl, by unfold M.Acted; simp [hkH.out]; exact HC.out, chg_le HC.out hle hb.le, hb, grownB_trans hg0H.out hgr⟩
set_option maxHeartbeats 1000000 in
theorem f_do2 (w : World) (g n : Nat) (bs : List Bool) (a : Bs w g n bs) (d A B S : Nat) (hd : d < 256) (hk : d % 5 = 2) (hA : A ≤ 65535) (hB : B ≤ 65535) :
    Calls Try.prog 43 #[.slice (some ⟨g, 0, none⟩) n n, actB d A B S] w (FActed w g n bs d A B S) := by
  obtain ⟨e1, e2⟩ := mod5 d hd 2 hk
  have hB0 : Below w.heap.size w (w.alloc (actoB d A B S)) := (Below.refl _ _).alloc (Nat.le_refl _) _
  have aA := Lib.hid (a.all_below hB0)
  have hlt := a.lt
  have hle := a.le
  have hg0 : w.grownBy (w.alloc (actoB d A B S)) (some g) := World.grownBy_alloc w _ _
  have hfill := Lib.hid (f_fill (w.alloc (actoB d A B S)) g n bs aA.out A B (by omega) (by omega) true)
  have hkH := Lib.hid hk
  have hg0H := Lib.hid hg0
  clear hk hg0 a
  go_enter Try.func43, Try.ntmps43
  go_wp2_with (go_at_call 52; (with_reducible refine hfill.out.mono ?_); rintro e w' ⟨m, rfl, cs, hc, hb, hgr⟩; have HC := Lib.hid hc; clear hc)
  go_ret
  exact ⟨m, cs, rfl, by unfold M.Acted; simp [hkH.out]; exact HC.out, chg_le HC.out hle hb.le, hb, grownB_trans hg0H.out hgr⟩
set_option maxHeartbeats 1000000 in
theorem f_do3 (w : World) (g n : Nat) (bs : List Bool) (a : Bs w g n bs) (d A B S : Nat) (hd : d < 256) (hk : d % 5 = 3) (hA : A ≤ 65535) (hB : B ≤ 65535) :
    Calls Try.prog 43 #[.slice (some ⟨g, 0, none⟩) n n, actB d A B S] w (FActed w g n bs d A B S) := by
  obtain ⟨e1, e2⟩ := mod5 d hd 3 hk
  have hB0 : Below w.heap.size w (w.alloc (actoB d A B S)) := (Below.refl _ _).alloc (Nat.le_refl _) _
  have aA := Lib.hid (a.all_below hB0)
  have hlt := a.lt
  have hle := a.le
  have hg0 : w.grownBy (w.alloc (actoB d A B S)) (some g) := World.grownBy_alloc w _ _
  have hfill := Lib.hid (f_fill (w.alloc (actoB d A B S)) g n bs aA.out A B (by omega) (by omega) false)
  have hkH := Lib.hid hk
  have hg0H := Lib.hid hg0
  clear hk hg0 a
  go_enter Try.func43, Try.ntmps43
  go_wp2_with (go_at_call 52; (with_reducible refine hfill.out.mono ?_); rintro e w' ⟨m, rfl, cs, hc, hb, hgr⟩; have HC := Lib.hid hc; clear hc)
  go_ret
  exact ⟨m, cs, rfl, by unfold M.Acted; simp [hkH.out]; exact HC.out, chg_le HC.out hle hb.le, hb, grownB_trans hg0H.out hgr⟩
set_option maxHeartbeats 1000000 in
theorem f_do4 (w : World) (g n : Nat) (bs : List Bool) (a : Bs w g n bs) (d A B S : Nat) (hd : d < 256) (hk : d % 5 = 4) (hA : A ≤ 65535) (hB : B ≤ 65535) (hS : S ≤ 65535) :
    Calls Try.prog 43 #[.slice (some ⟨g, 0, none⟩) n n, actB d A B S] w (FActed w g n bs d A B S) := by
  obtain ⟨e1, e2⟩ := mod5 d hd 4 hk
  have hkH := Lib.hid hk
  clear hk
  have hlt := a.lt
  have aH := Lib.hid a
  have hfin : Hid (∀ cs k m, M.Stops A B (2 + S % 9) k → M.AddAll (M.L bs) (M.L cs) (M.ar A (2 + S % 9) k) m → M.Acted d A B S (M.L bs) (M.L cs) m) := fun cs k m h1 h2 => by
    unfold M.Acted
    simp only [hkH.out]
    exact ⟨k, h1, h2⟩
  obtain ⟨r1, r2, r3⟩ := rem9 S hS
  generalize S % 9 = q at *
  have w1 := i64B (A : Int) (by omega) (by omega)
  have w2 := i64B (B : Int) (by omega) (by omega)
  have w3 := i64B (q : Int) (by omega) (by omega)
  have w4 : IntKind.u16.wrap (q : Int) = (q : Int) := u16B (by omega) (by omega)
  have hat := atB_of (alloc_topB w (actoB d A B S) rfl)
  have hBx : Below w.heap.size w (w.alloc (actoB d A B S)) := (Below.refl _ _).alloc (Nat.le_refl _) _
  have hrow := alloc_topB w (actoB d A B S) rfl
  have hg0 : w.grownBy (w.alloc (actoB d A B S)) (some g) := World.grownBy_alloc w _ _
  obtain ⟨wa, hwa⟩ : ∃ wa, w.alloc (actoB d A B S) = wa := ⟨_, rfl⟩
  rw [hwa] at hat hBx hrow hg0
  have hzA : w.heap.size < wa.heap.size := by rw [← hwa]; simp
  have hwaH := Lib.hid hwa
  have hrowH := Lib.hid hrow
  have hg0H := Lib.hid hg0
  have aA := Lib.hid (aH.out.all_below hBx)
  clear hwa hBx hrow hg0
  obtain ⟨c0, c1, c2, c3⟩ := hat
  clear a
  go_enter Try.func43, Try.ntmps43
  go_wp2
  rw [hwaH.out]
  go_loopw [5, 6] (fun v i wr => ∃ (k m : Nat) (cs : List Bool), i = .int .i64 ((A + (2 + q) * k : Nat) : Int) ∧ v = .int .i64 (m : Int) ∧ m ≤ 65536 ∧ Hid (0 < k → A + (2 + q) * (k - 1) ≤ B) ∧ Hid (M.AddAll (M.L bs) (M.L cs) (M.ar A (2 + q) k) m) ∧ Hid (Bs wr g n cs) ∧ Hid (wa.grownBy wr (some g)))
    (fun _ i _ => 65536 - (intOf i).toNat)
  case atStart => exact ⟨0, 0, bs, by simp, rfl, by omega, by simp [Hid], M.AddAll.start (M.L_up bs), aA.out, grownB_refl _ _⟩
  case round =>
    obtain ⟨k, m, cs, rfl, rfl, hm, hkH, hP, hBs, hG⟩ := hrel
    have hrw : Hid (wr.heap[w.heap.size]? = some (actoB d A B S)) := (hG.out.block w.heap.size hzA (by intro e; cases e; omega)).trans hrowH.out
    obtain ⟨d0, d1, d2, d3⟩ := atB_of hrw.out
    have hsucc := Lib.hid (M.ar_succ A (2 + q) k)
    have hnext : Hid ((A + (2 + q) * k : Nat) + (2 + q) = A + (2 + q) * (k + 1)) := by show _ = _; rw [Nat.mul_succ]; omega
    obtain ⟨i, hI⟩ : ∃ i, A + (2 + q) * k = i := ⟨_, rfl⟩
    rw [hI] at hsucc hnext
    have hIH := Lib.hid hI
    rw [hI]
    clear hI
    by_cases hlt : i ≤ B
    · have hT1 : decide ((i : Int) ≤ (B : Int)) = true := decide_eq_true (by omega)
      have hT2 : decide (i ≤ B) = true := decide_eq_true hlt
      have hw16 : IntKind.u16.wrap (i : Int) = (i : Int) := u16B (by omega) (by omega)
      have hfill := fun W h => Lib.hid (f_fill W g n cs h i i (by omega) (by omega) true)
      go_wp2_with (go_at_call 52; (with_reducible refine (hfill _ hBs.out).out.mono ?_); rintro e w' ⟨m2, rfl, cs2, hc, hb2, hgr⟩
                   have hst := hP.out.step hc
                   rw [← hsucc.out] at hst
                   have hmle : m + m2 ≤ 65536 := by have h1 := hst.2.2; have h2 := hb2.le; omega
                   have HST := Lib.hid hst
                   have HB2 := Lib.hid hb2
                   have HG2 := Lib.hid (grownB_trans hG.out hgr)
                   have hrw2 := (HG2.out.block w.heap.size hzA (by intro e; cases e; omega)).trans hrowH.out
                   obtain ⟨f0, f1, f2, f3⟩ := atB_of hrw2
                   clear hst hb2 hgr hc hrw2)
      go_roundw
      case rel => exact ⟨k + 1, m + m2, cs2, by rw [← hnext.out]; go_num, by go_num, hmle, fun _ => by have := hIH.out; simpa using (by omega : A + (2 + q) * k ≤ B), HST.out, HB2.out, HG2.out⟩
      case measure => simp [intOf]; omega
    · have hT1 : decide ((i : Int) ≤ (B : Int)) = false := decide_eq_false (by omega)
      have hT2 : decide (i ≤ B) = false := decide_eq_false hlt
      have hst : Hid (M.Stops A B (2 + q) k) := ⟨hkH.out, by have := hIH.out; omega⟩
      go_wp2
      go_ret
      exact ⟨m, cs, rfl, hfin.out _ _ _ hst.out hP.out, hm, hBs.out, grownB_trans hg0H.out hG.out⟩
theorem f_do (w : World) (g n : Nat) (bs : List Bool) (a : Bs w g n bs) (d A B S : Nat) (hd : d < 256) (hA : A ≤ 65535) (hB : B ≤ 65535) (hS : S ≤ 65535) :
    Calls Try.prog 43 #[.slice (some ⟨g, 0, none⟩) n n, actB d A B S] w (FActed w g n bs d A B S) := by
  rcases (by omega : d % 5 = 0 ∨ d % 5 = 1 ∨ d % 5 = 2 ∨ d % 5 = 3 ∨ d % 5 = 4) with h | h | h | h | h
  · exact f_do0 w g n bs a d A B S hd h hA hB
  · exact f_do1 w g n bs a d A B S hd h hA hB
  · exact f_do2 w g n bs a d A B S hd h hA hB
  · exact f_do3 w g n bs a d A B S hd h hA hB
  · exact f_do4 w g n bs a d A B S hd h hA hB hS
end Go.Proofs.Ytejboemifncjoaa
