
/- A bitmap in memory: a struct that points to a strip of 1024 words; its methods, the text walked. -/
import Derived.Test.YtbbnamdlfnonoaaDoorSSet
import Derived.Test.YtbbnamdlfnonoaaDoorBMath
namespace Go.Proofs.YtbbnamdlfnonoaaDoor
open Go.RowKit
/-- Block p is a bitmap over the strip s, h. -/
structure Bm (w : World) (p s h : Nat) (ws : List Nat) : Prop where
  row : w.heap[p]? = some (.cells #[.pointer (some ⟨s, 0, none⟩)] 80 (0, 0))
  st : St w s h ws
  len : ws.length = 1024
section
variable {w w' : World} {p s h : Nat} {ws us : List Nat}
theorem Bm.c0 (a : Bm w p s h ws) : w.cell? ⟨p, 0, none⟩ = some (.pointer (some ⟨s, 0, none⟩)) := cell_of_row w p 0 _ _ (0, 0) a.row
theorem Bm.lt (a : Bm w p s h ws) : p < w.heap.size ∧ s < w.heap.size ∧ h < w.heap.size := ⟨(Array.getElem?_eq_some_iff.1 a.row).1, a.st.lt.1, a.st.lt.2⟩
theorem Bm.ne (a : Bm w p s h ws) : p ≠ h := by
  intro e
  have h1 := a.row
  have h2 := a.st.2.1
  rw [e, h2] at h1
  simp at h1
theorem Bm.below {B : Nat} (a : Bm w p s h ws) (hb : Below B w w') (hp : p < B) (hs : s < B) (hh : h < B) : Bm w' p s h ws := ⟨(hb.block p hp).trans a.row, a.st.below hb hs hh, a.len⟩
theorem Bm.all_below (a : Bm w p s h ws) (hb : Below w.heap.size w w') : Bm w' p s h ws := a.below hb a.lt.1 a.lt.2.1 a.lt.2.2
theorem Bm.drew (a : Bm w p s h ws) (n : Nat) : Bm (w.drewN n) p s h ws := ⟨a.row, a.st.drew n, a.len⟩
theorem Bm.next (a : Bm w p s h ws) (b : St w' s h us) (hl : us.length = ws.length) (g : w.grownBy w' (some h)) : Bm w' p s h us :=
  ⟨(g.block p a.lt.1 (by intro e; cases e; exact a.ne rfl)).trans a.row, b, hl.trans a.len⟩
theorem Bm.bits (a : Bm w p s h ws) : 64 * ws.length = 65536 := by rw [a.len]
theorem Bm.range (a : Bm w p s h ws) {y : Int} (hy : y ∈ sl ws) : 0 ≤ y ∧ y ≤ 65535 := by
  have := sl_in.1 hy
  have := a.bits
  omega
end
theorem s_get_list (w : World) (s h : Nat) (ws : List Nat) (a : St w s h ws) (i : Int) :
    Calls Tryd.prog 47 #[.pointer (some ⟨s, 0, none⟩), .int .i64 i] w fun e w' => e = .returned (.bool (M.rHas (sl ws) i)) ∧ w = w' := by
  by_cases hi : 0 ≤ i ∧ i < ((64 * ws.length : Nat) : Int)
  · obtain ⟨k, rfl⟩ : ∃ k : Nat, i = (k : Int) := ⟨i.toNat, by omega⟩
    have e : M.rHas (sl ws) (k : Int) = sbit ws k := by
      rw [Bool.eq_iff_iff]
      unfold M.rHas
      rw [List.any_eq_true]
      constructor
      · rintro ⟨y, hy, he⟩
        have h1 := (sl_in.1 hy).2.2
        have h2 : y.toNat = k := by simp at he; omega
        rwa [h2] at h1
      · intro hb
        exact ⟨(k : Int), sl_in.2 ⟨by omega, by omega, by simpa using hb⟩, by simp⟩
    rw [e]
    exact s_get_in w s h ws a k (by omega)
  · have e : M.rHas (sl ws) i = false := by
      unfold M.rHas
      rw [List.any_eq_false]
      intro y hy he
      have := sl_in.1 hy
      simp at he
      omega
    rw [e]
    exact s_get_out w s h ws a i hi
theorem kept_any (w : World) (p s h : Nat) (ws : List Nat) (a : Bm w p s h ws) :
    Calls Tryd.prog 43 #[.pointer (some ⟨p, 0, none⟩)] w fun e w' => e = .returned (.pointer (some ⟨s, 0, none⟩)) ∧ w = w' := by
  have hc := a.c0
  go_enter Tryd.func43, Tryd.ntmps43
  go_wp2
  go_ret
  exact ⟨rfl, rfl⟩
theorem kept_nil (w : World) :
    Calls Tryd.prog 43 #[.pointer none] w fun e w' => e = .returned (.pointer none) ∧ w = w' := by
  go_enter Tryd.func43, Tryd.ntmps43
  go_wp2
  go_ret
  exact ⟨rfl, rfl⟩
/-- What 'number' answers. -/
def numV (i : Int) : Value := if i < 0 then .tuple #[.int .u16 0, .bool false] else .tuple #[.int .u16 i, .bool true]
theorem wrap16 {i : Int} (h0 : 0 ≤ i) (h : i ≤ 65535) : IntKind.u16.wrap i = i := by
  simp [IntKind.wrap, IntKind.signed, IntKind.bits]; omega
theorem number_any (w : World) (i : Int) (h : i ≤ 65535) :
    Calls Tryd.prog 48 #[.int .i64 i] w fun e w' => e = .returned (numV i) ∧ w = w' := by
  unfold numV
  by_cases h0 : i < 0
  · rw [if_pos h0]
    go_enter Tryd.func48, Tryd.ntmps48
    go_wp2
    go_ret2
    exact ⟨rfl, rfl⟩
  · rw [if_neg h0]
    have hw := wrap16 (i := i) (by omega) h
    go_enter Tryd.func48, Tryd.ntmps48
    go_wp2
    go_ret2
    exact ⟨rfl, rfl⟩
theorem b_new (w : World) : Calls Tryd.prog 39 #[] w fun e w' => ∃ p s h, e = .returned (.pointer (some ⟨p, 0, none⟩)) ∧ Bm w' p s h (List.replicate 1024 0) ∧ Below w.heap.size w w' ∧ w.heap.size ≤ p ∧ w.heap.size ≤ s ∧ w.heap.size ≤ h := by
  obtain ⟨n, hn⟩ : ∃ n, n = 1024 := ⟨_, rfl⟩
  have hnew : ∀ w0, Hid (Calls Tryd.prog 62 #[.int .i64 1024] w0 fun e w' => ∃ s h, e = .returned (.tuple #[.pointer (some ⟨s, 0, none⟩), .int .i64 0]) ∧ St w' s h (List.replicate n 0) ∧ w0.grownBy w' none ∧ w0.heap.size ≤ s ∧ w0.heap.size ≤ h) := fun w0 => by
    have := s_new w0 n (by omega)
    rw [hn] at this ⊢
    exact this
  rw [← hn]
  have hnH := Lib.hid hn
  clear hn
  go_enter Tryd.func39, Tryd.ntmps39
  go_wp2_with (go_at_call 62; (with_reducible refine (hnew _).out.mono ?_); rintro e w1 ⟨s, h, rfl, hst, hg, hs1, hh1⟩; have hstH := Lib.hid hst; clear hst; have hb1 := Lib.hid (below_grown hg); clear hg)
  go_ret
  have hl := hstH.out.lt
  have hbA : Below w1.heap.size w1 (w1.alloc (.cells #[.pointer (some ⟨s, 0, none⟩)] 80)) := (Below.refl _ _).alloc (Nat.le_refl _) _
  exact ⟨_, s, h, rfl, ⟨alloc_top _ _ rfl, hstH.out.below hbA hl.1 hl.2, by rw [List.length_replicate]; exact hnH.out⟩, hb1.out.trans (hbA.mono hb1.out.size), hb1.out.size, hs1, hh1⟩
theorem chg_of {w : World} {p s h : Nat} {ws us : List Nat} (a : Bm w p s h ws) {o : Bool} {f t : Int} {n : Nat} (hL : Laid o ws us f (t + 1)) (hf : 0 ≤ f) (ht : t ≤ 65535)
    (hn : if o then n + (sl ws).length = (sl us).length else n + (sl us).length = (sl ws).length) : M.Chg o (sl ws) (sl us) f t n := by
  have hb : ((64 * ws.length : Nat) : Int) = 65536 := by have := a.bits; omega
  refine ⟨sl_up us, fun y => ?_, hn⟩
  cases o
  · rw [hL.mem_false, hb]
    by_cases hr : f ≤ y ∧ y ≤ t
    · rw [if_pos hr]
      constructor
      · rintro ⟨_, h⟩; exact absurd ⟨by omega, by omega⟩ h
      · intro h; cases h
    · rw [if_neg hr]
      constructor
      · exact fun h => h.1
      · intro h; exact ⟨h, fun h2 => hr ⟨by omega, by omega⟩⟩
  · rw [hL.mem_true, hb]
    by_cases hr : f ≤ y ∧ y ≤ t
    · rw [if_pos hr]
      constructor
      · intro _; rfl
      · intro _; right; exact ⟨by omega, by omega⟩
    · rw [if_neg hr]
      constructor
      · rintro (h | h)
        · exact h
        · exact absurd ⟨by omega, by omega⟩ hr
      · intro h; exact .inl h
theorem laid_same_b {o : Bool} {ws : List Nat} {k : Nat} (hb : sbit ws k = o) : Laid o ws ws (k : Int) ((k : Int) + 1) :=
  ⟨rfl, fun b _ => by
    by_cases e : b = k
    · subst e; rw [if_pos (by omega)]; exact hb
    · rw [if_neg (by omega)]⟩
/-- What a change of a bitmap leaves. -/
def BStep (o : Bool) (w : World) (p s h : Nat) (ws : List Nat) (f t : Int) (n : Nat) (w' : World) : Prop :=
  ∃ us, M.Chg o (sl ws) (sl us) f t n ∧ Bm w' p s h us ∧ w.grownBy w' (some h)
theorem bstep_same {w : World} {p s h : Nat} {ws : List Nat} (a : Bm w p s h ws) {o : Bool} {k : Nat} (hb : sbit ws k = o) (hk : k ≤ 65535) : BStep o w p s h ws (k : Int) (k : Int) 0 w :=
  ⟨ws, chg_of a (laid_same_b hb) (by omega) (by omega) (by cases o <;> simp), a, grown_refl _ _⟩
section
variable {w : World} {p s h : Nat} {ws : List Nat}
theorem i64_small (v : Nat) (hv : v ≤ 65535) : IntKind.i64.wrap (v : Int) = (v : Int) := IntWalk.i64_in _ (by omega)
theorem b_has (a : Bm w p s h ws) (v : Nat) (hv : v ≤ 65535) :
    Calls Tryd.prog 17 #[.pointer (some ⟨p, 0, none⟩), .int .u16 (v : Int)] w fun e w' => e = .returned (.bool (M.rHas (sl ws) (v : Int))) ∧ w = w' := by
  have w1 := i64_small v hv
  have hk := Lib.hid (kept_any w p s h ws a)
  have hg := Lib.hid (s_get_list w s h ws a.st (v : Int))
  generalize M.rHas (sl ws) (v : Int) = r at *
  go_enter Tryd.func17, Tryd.ntmps17
  go_wp2_with (first
    | (go_at_call 43; (with_reducible refine hk.out.mono ?_); rintro e w' ⟨rfl, rfl⟩)
    | (go_at_call 47; (with_reducible refine hg.out.mono ?_); rintro e w' ⟨rfl, rfl⟩))
  go_ret
  exact ⟨rfl, rfl⟩
/-- An answer of Add or Drop. -/
def BBool (o : Bool) (w : World) (p s h : Nat) (ws : List Nat) (v : Nat) (e : Ending) (w' : World) : Prop :=
  ∃ n, e = .returned (.bool (decide (0 < n))) ∧ BStep o w p s h ws (v : Int) (v : Int) n w'
theorem b_add (a : Bm w p s h ws) (v : Nat) (hv : v ≤ 65535) :
    Calls Tryd.prog 29 #[.pointer (some ⟨p, 0, none⟩), .int .u16 (v : Int)] w (BBool true w p s h ws v) := by
  have w1 := i64_small v hv
  have hk := Lib.hid (kept_any w p s h ws a)
  have hlt : v < 64 * ws.length := by have := a.bits; omega
  have aH := Lib.hid a
  clear a
  cases hb : sbit ws v
  · have hs := Lib.hid (s_set_new w s h ws aH.out.st v hlt hb)
    have hmore := Lib.hid (sset_more hlt hb)
    have hbH := Lib.hid hb
    clear hb
    go_enter Tryd.func29, Tryd.ntmps29
    go_wp2_with (first
      | (go_at_call 43; (with_reducible refine hk.out.mono ?_); rintro e w' ⟨rfl, rfl⟩)
      | (go_at_call 55; (with_reducible refine hs.out.mono ?_); rintro e w2 ⟨rfl, h1, h2⟩))
    go_ret
    exact ⟨1, rfl, sset ws v, chg_of aH.out (laid_set hlt) (by omega) (by omega) (by rw [if_pos rfl, hmore.out]; omega), aH.out.next h1 (sset_len ws v) h2, h2⟩
  · have hs := Lib.hid (s_set_old w s h ws aH.out.st v hlt hb)
    have hbH := Lib.hid hb
    clear hb
    go_enter Tryd.func29, Tryd.ntmps29
    go_wp2_with (first
      | (go_at_call 43; (with_reducible refine hk.out.mono ?_); rintro e w' ⟨rfl, rfl⟩)
      | (go_at_call 55; (with_reducible refine hs.out.mono ?_); rintro e w2 ⟨rfl, rfl⟩))
    go_ret
    exact ⟨0, rfl, bstep_same aH.out hbH.out hv⟩
theorem b_drop (a : Bm w p s h ws) (v : Nat) (hv : v ≤ 65535) :
    Calls Tryd.prog 30 #[.pointer (some ⟨p, 0, none⟩), .int .u16 (v : Int)] w (BBool false w p s h ws v) := by
  have w1 := i64_small v hv
  have hk := Lib.hid (kept_any w p s h ws a)
  have hlt : v < 64 * ws.length := by have := a.bits; omega
  have aH := Lib.hid a
  clear a
  cases hb : sbit ws v
  · have hg0 := s_get_in w s h ws aH.out.st v hlt
    rw [hb] at hg0
    have hs := Lib.hid (s_clear_no w s (v : Int) hg0)
    have hbH := Lib.hid hb
    clear hb hg0
    go_enter Tryd.func30, Tryd.ntmps30
    go_wp2_with (first
      | (go_at_call 43; (with_reducible refine hk.out.mono ?_); rintro e w' ⟨rfl, rfl⟩)
      | (go_at_call 56; (with_reducible refine hs.out.mono ?_); rintro e w2 ⟨rfl, rfl⟩))
    go_ret
    exact ⟨0, rfl, bstep_same aH.out hbH.out hv⟩
  · have hs := Lib.hid (s_clear_old w s h ws aH.out.st v hlt hb)
    have hless := Lib.hid (sclr_less hlt hb)
    have hbH := Lib.hid hb
    clear hb
    go_enter Tryd.func30, Tryd.ntmps30
    go_wp2_with (first
      | (go_at_call 43; (with_reducible refine hk.out.mono ?_); rintro e w' ⟨rfl, rfl⟩)
      | (go_at_call 56; (with_reducible refine hs.out.mono ?_); rintro e w2 ⟨rfl, h1, h2⟩))
    go_ret
    exact ⟨1, rfl, sclr ws v, chg_of aH.out (laid_clr hlt) (by omega) (by omega) (by rw [if_neg (by decide)]; have := hless.out; omega), aH.out.next h1 (sclr_len ws v) h2, h2⟩
/-- An answer of Fill or Wipe. -/
def BInt (o : Bool) (w : World) (p s h : Nat) (ws : List Nat) (f t : Nat) (e : Ending) (w' : World) : Prop :=
  ∃ n : Nat, e = .returned (.int .i64 (n : Int)) ∧ BStep o w p s h ws (f : Int) (t : Int) n w'
theorem bint_of (a : Bm w p s h ws) {o : Bool} {f t : Nat} (hf : f ≤ 65535) (ht : t ≤ 65535) {e : Ending} {w' : World} (hF : Filled o w s h ws (f : Int) ((t : Int) + 1) e w') : BInt o w p s h ws f t e w' := by
  obtain ⟨us, n, rfl, hL, hn, hS, hg⟩ := hF
  exact ⟨n, rfl, us, chg_of a hL (by omega) (by omega) hn, a.next hS hL.1 hg, hg⟩
theorem b_fill (a : Bm w p s h ws) (f t : Nat) (hf : f ≤ 65535) (ht : t ≤ 65535) :
    Calls Tryd.prog 27 #[.pointer (some ⟨p, 0, none⟩), .int .u16 (f : Int), .int .u16 (t : Int)] w (BInt true w p s h ws f t) := by
  have w1 := i64_small f hf
  have w2 := i64_small t ht
  have w3 : IntKind.i64.wrap ((t : Int) + 1) = (t : Int) + 1 := IntWalk.i64_in _ (by omega)
  have hk := Lib.hid (kept_any w p s h ws a)
  have hs := Lib.hid (s_fill w s h ws a.st (f : Int) ((t : Int) + 1) (by omega))
  have aH := Lib.hid a
  clear a
  go_enter Tryd.func27, Tryd.ntmps27
  go_wp2_with (first
    | (go_at_call 43; (with_reducible refine hk.out.mono ?_); rintro e w' ⟨rfl, rfl⟩)
    | (go_at_call 53; (with_reducible refine hs.out.mono ?_); intro e w2 hF; have hB := bint_of aH.out hf ht hF; obtain ⟨us, n, rfl, _⟩ := hF))
  go_ret
  exact hB
theorem b_wipe (a : Bm w p s h ws) (f t : Nat) (hf : f ≤ 65535) (ht : t ≤ 65535) :
    Calls Tryd.prog 28 #[.pointer (some ⟨p, 0, none⟩), .int .u16 (f : Int), .int .u16 (t : Int)] w (BInt false w p s h ws f t) := by
  have w1 := i64_small f hf
  have w2 := i64_small t ht
  have w3 : IntKind.i64.wrap ((t : Int) + 1) = (t : Int) + 1 := IntWalk.i64_in _ (by omega)
  have hk := Lib.hid (kept_any w p s h ws a)
  have hs := Lib.hid (s_wipe w s h ws a.st (f : Int) ((t : Int) + 1) (by omega))
  have aH := Lib.hid a
  clear a
  go_enter Tryd.func28, Tryd.ntmps28
  go_wp2_with (first
    | (go_at_call 43; (with_reducible refine hk.out.mono ?_); rintro e w' ⟨rfl, rfl⟩)
    | (go_at_call 54; (with_reducible refine hs.out.mono ?_); intro e w2 hF; have hB := bint_of aH.out hf ht hF; obtain ⟨us, n, rfl, _⟩ := hF))
  go_ret
  exact hB
theorem b_len (a : Bm w p s h ws) :
    Calls Tryd.prog 13 #[.pointer (some ⟨p, 0, none⟩)] w fun e w' => e = .returned (.int .i64 ((sl ws).length : Nat)) ∧ ∃ n, w' = w.drewN n := by
  have hk := Lib.hid (kept_any w p s h ws a)
  have hs := Lib.hid (s_count w s h ws a.st)
  generalize (sl ws).length = r at *
  go_enter Tryd.func13, Tryd.ntmps13
  go_wp2_with (first
    | (go_at_call 43; (with_reducible refine hk.out.mono ?_); rintro e w' ⟨rfl, rfl⟩)
    | (go_at_call 44; (with_reducible refine hs.out.mono ?_); rintro e w2 ⟨rfl, N, rfl⟩))
  go_ret
  exact ⟨rfl, N, rfl⟩
theorem b_rank (a : Bm w p s h ws) (v : Nat) (hv : v ≤ 65535) :
    Calls Tryd.prog 23 #[.pointer (some ⟨p, 0, none⟩), .int .u16 (v : Int)] w fun e w' => e = .returned (.int .i64 (M.rRank (sl ws) (v : Int) : Nat)) ∧ ∃ n, w' = w.drewN n := by
  have w1 := i64_small v hv
  have hk := Lib.hid (kept_any w p s h ws a)
  have hs := Lib.hid (s_rank w s h ws a.st (v : Int))
  generalize M.rRank (sl ws) (v : Int) = r at *
  go_enter Tryd.func23, Tryd.ntmps23
  go_wp2_with (first
    | (go_at_call 43; (with_reducible refine hk.out.mono ?_); rintro e w' ⟨rfl, rfl⟩)
    | (go_at_call 51; (with_reducible refine hs.out.mono ?_); rintro e w2 ⟨rfl, N, rfl⟩))
  go_ret
  exact ⟨rfl, N, rfl⟩
theorem numV_two (i : Int) : ∃ x b, numV i = .tuple #[.int .u16 x, .bool b] := by
  unfold numV
  split
  · exact ⟨_, _, rfl⟩
  · exact ⟨_, _, rfl⟩
theorem next_range (a : Bm w p s h ws) (n : Int) : M.rNext (sl ws) n ≤ 65535 := by
  rcases M.nextCases (sl_up ws) n with ⟨h1, _⟩ | ⟨h1, _⟩
  · omega
  · exact (a.range h1).2
theorem prev_range (a : Bm w p s h ws) (n : Int) : M.rPrev (sl ws) n ≤ 65535 := by
  rcases M.prevCases (sl_up ws) n with ⟨h1, _⟩ | ⟨h1, _⟩
  · omega
  · exact (a.range h1).2
theorem sel_range (a : Bm w p s h ws) (k : Int) : M.rSel (sl ws) k ≤ 65535 := by
  by_cases h1 : M.rSel (sl ws) k = -1
  · omega
  · obtain ⟨n, _, h2⟩ := M.sel_mem h1
    exact (a.range (List.mem_of_getElem? h2)).2
theorem b_next (a : Bm w p s h ws) (hT : Tab w) (v : Nat) (hv : v ≤ 65535) :
    Calls Tryd.prog 19 #[.pointer (some ⟨p, 0, none⟩), .int .u16 (v : Int)] w fun e w' => e = .returned (numV (M.rNext (sl ws) (v : Int))) ∧ ∃ n, w' = w.drewN n := by
  have w1 := i64_small v hv
  have hk := Lib.hid (kept_any w p s h ws a)
  have hs := Lib.hid (s_next w s h ws a.st hT (v : Int) (by omega))
  have hr := next_range a (v : Int)
  generalize M.rNext (sl ws) (v : Int) = r at *
  have hn := fun w0 => Lib.hid (number_any w0 r hr)
  obtain ⟨x, b, hxb⟩ := numV_two r
  rw [hxb] at hn ⊢
  clear hxb hr
  go_enter Tryd.func19, Tryd.ntmps19
  go_wp2_with (first
    | (go_at_call 43; (with_reducible refine hk.out.mono ?_); rintro e w' ⟨rfl, rfl⟩)
    | (go_at_call 49; (with_reducible refine hs.out.mono ?_); rintro e w2 ⟨rfl, N, rfl⟩)
    | (go_at_call 48; (with_reducible refine (hn _).out.mono ?_); rintro e w2 ⟨rfl, rfl⟩))
  go_ret2
  exact ⟨rfl, N, rfl⟩
theorem b_prev (a : Bm w p s h ws) (v : Nat) (hv : v ≤ 65535) :
    Calls Tryd.prog 21 #[.pointer (some ⟨p, 0, none⟩), .int .u16 (v : Int)] w fun e w' => e = .returned (numV (M.rPrev (sl ws) (v : Int))) ∧ ∃ n, w' = w.drewN n := by
  have w1 := i64_small v hv
  have hk := Lib.hid (kept_any w p s h ws a)
  have hs := Lib.hid (s_prev w s h ws a.st (v : Int) (by omega))
  have hr := prev_range a (v : Int)
  generalize M.rPrev (sl ws) (v : Int) = r at *
  have hn := fun w0 => Lib.hid (number_any w0 r hr)
  obtain ⟨x, b, hxb⟩ := numV_two r
  rw [hxb] at hn ⊢
  clear hxb hr
  go_enter Tryd.func21, Tryd.ntmps21
  go_wp2_with (first
    | (go_at_call 43; (with_reducible refine hk.out.mono ?_); rintro e w' ⟨rfl, rfl⟩)
    | (go_at_call 50; (with_reducible refine hs.out.mono ?_); rintro e w2 ⟨rfl, N, rfl⟩)
    | (go_at_call 48; (with_reducible refine (hn _).out.mono ?_); rintro e w2 ⟨rfl, rfl⟩))
  go_ret2
  exact ⟨rfl, N, rfl⟩
theorem b_select (a : Bm w p s h ws) (hT : Tab w) (k : Int) (hk2 : k ≤ 9223372036854775807) :
    Calls Tryd.prog 25 #[.pointer (some ⟨p, 0, none⟩), .int .i64 k] w fun e w' => e = .returned (numV (M.rSel (sl ws) k)) ∧ ∃ n, w' = w.drewN n := by
  have hk := Lib.hid (kept_any w p s h ws a)
  have hs := Lib.hid (s_select w s h ws a.st hT k hk2)
  have hr := sel_range a k
  generalize M.rSel (sl ws) k = r at *
  have hn := fun w0 => Lib.hid (number_any w0 r hr)
  obtain ⟨x, b, hxb⟩ := numV_two r
  rw [hxb] at hn ⊢
  clear hxb hr
  go_enter Tryd.func25, Tryd.ntmps25
  go_wp2_with (first
    | (go_at_call 43; (with_reducible refine hk.out.mono ?_); rintro e w' ⟨rfl, rfl⟩)
    | (go_at_call 52; (with_reducible refine hs.out.mono ?_); rintro e w2 ⟨rfl, N, rfl⟩)
    | (go_at_call 48; (with_reducible refine (hn _).out.mono ?_); rintro e w2 ⟨rfl, rfl⟩))
  go_ret2
  exact ⟨rfl, N, rfl⟩
end
end Go.Proofs.YtbbnamdlfnonoaaDoor
