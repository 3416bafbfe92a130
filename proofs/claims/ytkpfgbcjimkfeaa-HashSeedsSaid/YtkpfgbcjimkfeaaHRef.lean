
/- The document's list of entries: where a key stands; the text walked. -/
import Derived.Test.YtkpfgbcjimkfeaaHAll2
import Derived.Test.YtkpfgbcjimkfeaaAppAny
import Derived.Deep.RegionHeld3
namespace Go.Proofs.Ytkpfgbcjimkfeaa
open Go.RowKit
def kltb (a b : H.Key) : Bool := decide (a.1 < b.1) || (decide (a.1 = b.1) && decide (a.2 < b.2))
theorem retH {a b : Bool} (h : a = b) : Ending.returned (.bool a) = .returned (.bool b) := by rw [h]
theorem f_less (lx px vx lv pv : Nat) (w : World) :
    Calls Try.prog 32 #[.agg #[.int .u8 (lx : Int), .int .u64 (px : Int), .int .u64 (vx : Int)], .int .u8 (lv : Int), .int .u64 (pv : Int)] w fun e w' => e = .returned (.bool (kltb (lx, px) (lv, pv))) ∧ w' = w.alloc (.cells #[.int .u8 (lx : Int), .int .u64 (px : Int), .int .u64 (vx : Int)] 53) := by
  by_cases h1 : lx < lv
  · have g1 : decide ((lx : Int) < (lv : Int)) = true := decide_eq_true (by omega)
    have hr : kltb (lx, px) (lv, pv) = true := by simp [kltb, h1]
    go_enter Try.func32, Try.ntmps32
    go_wp2
    go_ret
    exact ⟨retH hr.symm, rfl⟩
  · have g1 : decide ((lx : Int) < (lv : Int)) = false := decide_eq_false (by omega)
    by_cases h2 : lx = lv
    · subst h2
      have g2 : ((lx : Int) == (lx : Int)) = true := by simp
      have hr : kltb (lx, px) (lx, pv) = decide (px < pv) := by simp [kltb]
      have g3 : decide ((px : Int) < (pv : Int)) = decide (px < pv) := by rw [decide_eq_decide]; omega
      go_enter Try.func32, Try.ntmps32
      go_wp2
      go_ret
      exact ⟨retH hr.symm, rfl⟩
    · have g2 : ((lx : Int) == (lv : Int)) = false := by simp; omega
      have hr : kltb (lx, px) (lv, pv) = false := by simp [kltb, h1, h2]
      go_enter Try.func32, Try.ntmps32
      go_wp2
      go_ret
      exact ⟨retH hr.symm, rfl⟩
/-- Where a key stands, or would stand. -/
def fi (es : List (H.Key × Nat)) (k : H.Key) : Nat := (es.takeWhile fun x => kltb x.1 k).length
def fo (es : List (H.Key × Nat)) (k : H.Key) : Bool := decide ((es[fi es k]?).map (·.1) = some k)
theorem fi_le (es : List (H.Key × Nat)) (k : H.Key) : fi es k ≤ es.length := by
  unfold fi
  exact (List.takeWhile_prefix _).length_le
theorem fi_lt {es : List (H.Key × Nat)} {k : H.Key} {j : Nat} (h : j < fi es k) : ∃ h' : j < es.length, kltb es[j].1 k = true := by
  have h' : j < es.length := Nat.lt_of_lt_of_le h (fi_le es k)
  refine ⟨h', ?_⟩
  have hm : (es.takeWhile fun x => kltb x.1 k)[j]'h ∈ es.takeWhile fun x => kltb x.1 k := List.getElem_mem h
  have h2 := List.all_eq_true.1 (List.all_takeWhile (l := es) (p := fun x => kltb x.1 k)) _ hm
  have e : (es.takeWhile fun x => kltb x.1 k)[j]'h = es[j] := (List.takeWhile_prefix _).getElem h
  rwa [e] at h2
theorem fi_at {es : List (H.Key × Nat)} {k : H.Key} (h : fi es k < es.length) : kltb es[fi es k].1 k = false := by
  have : ∀ (l : List (H.Key × Nat)) (h : (l.takeWhile fun x => kltb x.1 k).length < l.length), kltb l[(l.takeWhile fun x => kltb x.1 k).length].1 k = false := by
    intro l
    induction l with
    | nil => intro h; simp at h
    | cons x l ih =>
      intro h
      by_cases hx : kltb x.1 k = true
      · simp only [List.takeWhile_cons, hx, if_true] at h ⊢
        simpa using ih (by simpa using h)
      · rw [Bool.not_eq_true] at hx
        simp only [List.takeWhile_cons, hx, Bool.false_eq_true, if_false]
        simpa using hx
  exact this es h
theorem xv_at : ∀ (es : List (H.Key × Nat)) (k : Nat) (h : k < es.length), (xv es)[k * 3]? = some (.int .u8 (es[k].1.1 : Int)) ∧ (xv es)[k * 3 + 1]? = some (.int .u64 (es[k].1.2 : Int)) ∧ (xv es)[k * 3 + 2]? = some (.int .u64 (es[k].2 : Int))
  | x :: es, 0, _ => by simp [xv]
  | x :: es, k + 1, h => by
    have hc : xv (x :: es) = Value.int .u8 (x.1.1 : Int) :: Value.int .u64 (x.1.2 : Int) :: Value.int .u64 (x.2 : Int) :: xv es := rfl
    have ih := xv_at es k (by simpa using h)
    have e0 : (k + 1) * 3 = k * 3 + 3 := by omega
    rw [hc, e0]
    exact ih
theorem xv_len (es : List (H.Key × Nat)) : (xv es).length = es.length * 3 := by
  induction es with
  | nil => rfl
  | cons x es ih =>
    have hc : xv (x :: es) = Value.int .u8 (x.1.1 : Int) :: Value.int .u64 (x.1.2 : Int) :: Value.int .u64 (x.2 : Int) :: xv es := rfl
    rw [hc]; simp [ih]; omega
/-- The slice holds these entries, in blocks that nobody writes. -/
def LX (w : World) (v : Value) (es : List (H.Key × Nat)) : Prop := w.ownsRow 0 53 3 v es.length (xv es)
theorem LX.form {w : World} {v : Value} {es : List (H.Key × Nat)} (h : LX w v es) : (v = .slice none 0 0 ∧ es = []) ∨ ∃ g c, v = .slice (some ⟨g, 0, none⟩) es.length c ∧ es.length ≤ c ∧ g < w.heap.size ∧
    ∀ (k : Nat) (h : k < es.length), w.cell? ⟨g, k * 3, none⟩ = some (.int .u8 (es[k].1.1 : Int)) ∧ w.cell? ⟨g, k * 3 + 1, none⟩ = some (.int .u64 (es[k].1.2 : Int)) ∧ w.cell? ⟨g, k * 3 + 2, none⟩ = some (.int .u64 (es[k].2 : Int)) := by
  rcases h.2 with ⟨rfl, hn⟩ | ⟨g, cap, cur, rfl, hb, hg, hnc, _⟩
  · exact .inl ⟨rfl, by simpa using hn⟩
  · refine .inr ⟨g, cap, rfl, hnc, (Array.getElem?_eq_some_iff.1 hg).1, fun k hk => ?_⟩
    obtain ⟨h0, h1, h2⟩ := xv_at es k hk
    have f := h.cells (g := g) rfl
    have f0 := f _ _ h0
    have f1 := f _ _ h1
    have f2 := f _ _ h2
    simp only [add_off] at f0 f1 f2
    exact ⟨f0, f1, f2⟩
theorem LX.below {w w' : World} {v : Value} {es : List (H.Key × Nat)} (h : LX w v es) (hb : Below w.heap.size w w') : LX w' v es := by
  exact (ButS.of_below (S := fun _ => False) hb (Nat.le_refl _)).own h (fun k hk hr => hr)
theorem retI {i j : Nat} {a b : Bool} (h : i = j) (h2 : a = b) : Ending.returned (.tuple #[.int .i64 (i : Int), .bool a]) = .returned (.tuple #[.int .i64 (j : Int), .bool b]) := by rw [h, h2]
set_option maxHeartbeats 1000000 in
theorem f_find (w : World) (v : Value) (es : List (H.Key × Nat)) (h : LX w v es) (hl : es.length ≤ 4611686018427387904) (lv pv : Nat) :
    Calls Try.prog 25 #[v, .int .u8 (lv : Int), .int .u64 (pv : Int)] w fun e w' => e = .returned (.tuple #[.int .i64 (fi es (lv, pv) : Nat), .bool (fo es (lv, pv))]) ∧ Below w.heap.size w w' := by
  rcases h.form with ⟨rfl, rfl⟩ | ⟨g, c, rfl, hc, hg, hcells⟩
  · go_enter Try.func25, Try.ntmps25
    go_wp2
    go_loop [8] (fun i => i = .int .i64 0) (fun i => 0)
    case atStart => rfl
    case round =>
      obtain rfl := hrel
      go_wp2
      go_quiet (fail)
      go_wp2
      go_ret2
      exact ⟨rfl, below_drewN (Below.refl _ _) _⟩
  · have hfl := fi_le es (lv, pv)
    have hlo := fun j hj => Lib.hid (fi_lt (es := es) (k := (lv, pv)) (j := j) hj)
    have hat := Lib.hid (fun h => fi_at (es := es) (k := (lv, pv)) h)
    have hfo := Lib.hid (show fo es (lv, pv) = decide ((es[fi es (lv, pv)]?).map (·.1) = some (lv, pv)) from rfl)
    have hC := Lib.hid hcells
    clear hcells
    generalize fi es (lv, pv) = F at *
    generalize fo es (lv, pv) = G at *
    go_enter Try.func25, Try.ntmps25
    go_wp2
    go_loopw [8] (fun i wr => ∃ k : Nat, k ≤ F ∧ i = .int .i64 k ∧ Below w.heap.size w wr) (fun i _ => F - (intOf i).toNat)
    case atStart => exact ⟨0, by omega, rfl, Below.refl _ _⟩
    case round =>
      obtain ⟨k, hk, rfl, hb⟩ := hrel
      have hBL := Lib.hid hb
      have hsz := hb.size
      have at_ : ∀ j, g < w.heap.size → wr.cell? ⟨g, j, none⟩ = w.cell? ⟨g, j, none⟩ := fun j hj => hb.cell (p := ⟨g, j, none⟩) hj
      by_cases hkl : k < es.length
      · obtain ⟨c0, c1, c2⟩ := hC.out k hkl
        rw [← at_ _ hg] at c0 c1 c2
        have ek : es[k] = ((es[k].1.1, es[k].1.2), es[k].2) := rfl
        have hkF : Hid (k < F → kltb (es[k].1.1, es[k].1.2) (lv, pv) = true) := fun h => ((hlo k h).out).2
        have hkE : Hid (k = F → kltb (es[k].1.1, es[k].1.2) (lv, pv) = false) := fun h => by subst h; exact hat.out hkl
        have hgG : Hid (k = F → G = (decide (es[k].1.1 = lv) && decide (es[k].1.2 = pv))) := fun h => by
          subst h
          rw [hfo.out]
          simp only [hkl, List.getElem?_eq_getElem, Option.map_some, Option.some.injEq, Prod.ext_iff]
          rw [Bool.eq_iff_iff]; simp
        generalize es[k].1.1 = a at *
        generalize es[k].1.2 = b at *
        generalize es[k].2 = x at *
        clear at_ hb
        by_cases hkf : k < F
        · have hlt := hkF.out hkf
          go_wp2_with (go_at_call 32; (with_reducible refine (f_less a b x lv pv _).mono ?_); rintro e w1 ⟨rfl, rfl⟩)
          go_roundw
          case rel => exact ⟨k + 1, by omega, by go_num, hBL.out.alloc (by omega) _⟩
          case measure => simp [intOf]; omega
        · obtain rfl : k = F := by omega
          have hlt := hkE.out rfl
          have hG := Lib.hid (hgG.out rfl)
          clear hgG hkE hkF
          go_wp2_with (go_at_call 32; (with_reducible refine (f_less a b x lv pv _).mono ?_); rintro e w1 ⟨rfl, rfl⟩)
          have hbw : Hid (∀ m, Below w.heap.size w ((wr.alloc (Obj.cells #[Value.int IntKind.u8 (a : Int), Value.int IntKind.u64 (b : Int), Value.int IntKind.u64 (x : Int)] 53)).drewN m)) := fun m => below_drewN (hBL.out.alloc (by omega) _) m
          have d0 : ∀ o, (wr.alloc o).cell? ⟨g, k * 3, none⟩ = some (.int .u8 (a : Int)) := fun o => (World.cell?_alloc_lt wr o ⟨g, _, none⟩ (by show g < _; omega)).trans c0
          have d1 : ∀ o, (wr.alloc o).cell? ⟨g, k * 3 + 1, none⟩ = some (.int .u64 (b : Int)) := fun o => (World.cell?_alloc_lt wr o ⟨g, _, none⟩ (by show g < _; omega)).trans c1
          by_cases ha : a = lv
          · by_cases hb2 : b = pv
            · have g1 : ((a : Int) == (lv : Int)) = true := by simp [ha]
              have g2 : ((b : Int) == (pv : Int)) = true := by simp [hb2]
              have hG2 : Hid (G = true) := by show G = true; rw [hG.out]; simp [ha, hb2]
              clear ha hb2 hG
              go_quiet (fail)
              go_wp2
              go_ret2
              exact ⟨retI rfl hG2.out.symm, hbw.out _⟩
            · have g1 : ((a : Int) == (lv : Int)) = true := by simp [ha]
              have g2 : ((b : Int) == (pv : Int)) = false := by simp; omega
              have hG2 : Hid (G = false) := by show G = false; rw [hG.out]; simp [ha, hb2]
              clear ha hb2 hG
              go_quiet (fail)
              go_wp2
              go_ret2
              exact ⟨retI rfl hG2.out.symm, hbw.out _⟩
          · have g1 : ((a : Int) == (lv : Int)) = false := by simp; omega
            have hG2 : Hid (G = false) := by show G = false; rw [hG.out]; simp [ha]
            clear ha hG
            go_quiet (fail)
            go_wp2
            go_ret2
            exact ⟨retI rfl hG2.out.symm, hbw.out _⟩
      · obtain rfl : k = F := by omega
        obtain rfl : k = es.length := by omega
        have hG2 : Hid (G = false) := by show G = false; rw [hfo.out]; simp
        have hbw : Hid (∀ m, Below w.heap.size w (wr.drewN m)) := fun m => below_drewN hBL.out m
        clear hfo hlo hat at_ hb
        go_wp2
        go_quiet (fail)
        go_wp2
        go_ret2
        exact ⟨retI rfl hG2.out.symm, hbw.out _⟩
end Go.Proofs.Ytkpfgbcjimkfeaa
