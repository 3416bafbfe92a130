
/- The law's own function 'lay': a strip and the document's, made by a script. -/
import Derived.Test.YtnpdndcgmfhbdaaDoorSDo2
import Derived.Test.YtnpdndcgmfhbdaaDoorSSet
namespace Go.Proofs.YtnpdndcgmfhbdaaDoor
open Go.RowKit
/-- The slice at A reads as these acts, in cells below block B. -/
def Ra (w : World) (B : Nat) (A : Option Addr) (xs : List (Nat × Int × Int)) : Prop :=
  (∀ x ∈ xs, x.1 < 256 ∧ x.2.1 ≤ 9223372036854775807) ∧ (xs ≠ [] → ∃ b off, A = some ⟨b, off, none⟩ ∧ b < B ∧ ∀ (k : Nat) (h : k < xs.length),
    w.cell? ⟨b, off + k * 3, none⟩ = some (.int .u8 (xs[k].1 : Nat)) ∧ w.cell? ⟨b, off + k * 3 + 1, none⟩ = some (.int .i64 xs[k].2.1) ∧ w.cell? ⟨b, off + k * 3 + 2, none⟩ = some (.int .i64 xs[k].2.2))
theorem Ra.below {w w' : World} {B B' : Nat} {A : Option Addr} {xs : List (Nat × Int × Int)} (h : Ra w B A xs) (hb : Below B' w w') (hB : B ≤ B') : Ra w' B A xs := ⟨h.1, fun hne => by
  obtain ⟨b, off, rfl, hlt, hc⟩ := h.2 hne
  refine ⟨b, off, rfl, hlt, fun k hk => ?_⟩
  have hl : b < B' := by omega
  obtain ⟨h1, h2, h3⟩ := hc k hk
  exact ⟨(hb.cell (p := ⟨b, off + k * 3, none⟩) hl).trans h1, (hb.cell (p := ⟨b, off + k * 3 + 1, none⟩) hl).trans h2, (hb.cell (p := ⟨b, off + k * 3 + 2, none⟩) hl).trans h3⟩⟩
theorem Ra.at {w : World} {B : Nat} {A : Option Addr} {xs : List (Nat × Int × Int)} (h : Ra w B A xs) {k : Nat} (hk : k < xs.length) : ∃ b off, A = some ⟨b, off, none⟩ ∧ b < B ∧
    w.cell? ⟨b, off + k * 3, none⟩ = some (.int .u8 (xs[k].1 : Nat)) ∧ w.cell? ⟨b, off + k * 3 + 1, none⟩ = some (.int .i64 xs[k].2.1) ∧ w.cell? ⟨b, off + k * 3 + 2, none⟩ = some (.int .i64 xs[k].2.2) := by
  obtain ⟨b, off, rfl, hb, hc⟩ := h.2 (by intro e; subst e; simp at hk)
  exact ⟨b, off, rfl, hb, hc k hk⟩
theorem sl_zero (n : Nat) : sl (List.replicate n 0) = [] := by
  unfold sl
  rw [List.map_eq_nil_iff, List.filter_eq_nil_iff]
  intro b _
  unfold sbit
  by_cases h : b / 64 < n
  · simp [h]
  · simp [h]
def LaidP (w : World) (n : Nat) (e : Ending) (w' : World) : Prop :=
  ∃ s h us A c, e = .returned (.tuple #[.pointer (some ⟨s, 0, none⟩), .agg #[.int .i64 (n : Int), .slice A (sl us).length c], .bool true]) ∧ us.length = n ∧ St w' s h us ∧ Rd w' w'.heap.size A (sl us) ∧ w.heap.size ≤ s ∧ w.heap.size ≤ h ∧ Below w.heap.size w w'
set_option maxHeartbeats 2000000 in
theorem lay_any (w : World) (A : Option Addr) (cp : Nat) (xs : List (Nat × Int × Int)) (hr : Ra w w.heap.size A xs) (hl : xs.length ≤ 9223372036854775807) (q : Nat) (hq : q < 256) :
    Calls Tryd.prog 5 #[.int .u8 (q : Int), .slice A xs.length cp] w (LaidP w (q % 5)) := by
  have hrH := Lib.hid hr
  clear hr
  have e1 : (q : Int) % 5 = ((q % 5 : Nat) : Int) := by omega
  have e2 : (q : Int).tmod 5 = ((q % 5 : Nat) : Int) := by rw [Int.tmod_eq_emod_of_nonneg (by omega)]; omega
  have hn5 : q % 5 < 5 := Nat.mod_lt _ (by decide)
  generalize q % 5 = n at *
  have w1 : IntKind.u8.wrap (n : Int) = (n : Int) := by simp [IntKind.wrap, IntKind.signed, IntKind.bits]; omega
  have w2 : IntKind.i64.wrap (n : Int) = (n : Int) := IntWalk.i64_in _ (by omega)
  have hnew := fun w0 => Lib.hid (s_new w0 n (by omega))
  go_enter Tryd.func5, Tryd.ntmps5
  go_wp2_with (go_at_call 13; (with_reducible refine (hnew _).out.mono ?_); rintro e w1 ⟨s, h, rfl, hst, hg, hs1, hh1⟩; have hstH := Lib.hid hst; clear hst; have hb1 := Lib.hid (below_grown hg); clear hg)
  have hsz := hb1.out.size
  have hstlt := hstH.out.lt
  obtain ⟨w3, hw3⟩ : ∃ w3, w1.alloc (.cells #[.int .i64 (n : Int), .slice none 0 0] 27) = w3 := ⟨_, rfl⟩
  have hz0 : w.heap.size < w1.heap.size := by simp at hsz; omega
  have hs1' : w.heap.size < s := by simp at hs1; omega
  have hh1' : w.heap.size < h := by simp at hh1; omega
  have hb03 : Hid (Below w.heap.size w w3) := by
    rw [← hw3]
    exact ((Below.refl _ w).alloc (Nat.le_refl _) _).trans ((hb1.out.mono (by simp)).alloc (by omega) _)
  have hz3 : w3.heap.size = w1.heap.size + 1 := by rw [← hw3]; simp
  have hR3 : Hid (w3.heap[w.heap.size]? = some (.cells #[.int .i64 0, .slice none 0 0] 27 (0, 0))) := by
    show _ = _
    rw [← hw3, Below.heap_alloc _ _ _ (by omega)]
    exact (hb1.out.block w.heap.size (by simp)).trans (alloc_top w _ rfl)
  have hS3 : Hid (St w3 s h (List.replicate n 0)) := by rw [← hw3]; exact hstH.out.below ((Below.refl _ w1).alloc (Nat.le_refl _) _) hstlt.1 hstlt.2
  have hX3 : Hid (RS w3 w1.heap.size n none 0 (sl (List.replicate n 0))) := by
    rw [sl_zero]
    refine ⟨?_, fun hne => absurd rfl hne, fun ad e => by cases e⟩
    rw [← hw3]
    exact alloc_top w1 _ rfl
  rw [hw3]
  clear hw3 hstH hb1 hsz hs1 hh1
  obtain ⟨X, hX⟩ : ∃ X, w1.heap.size = X := ⟨_, rfl⟩
  rw [hX] at hX3 hstlt hz3 hz0 ⊢
  clear hX
  go_loopw [25] (fun u wr => ∃ (k c : Nat) (us : List Nat) (B : Option Addr), k ≤ xs.length ∧ u = .int .i64 k ∧ us.length = n ∧ Hid (St wr s h us) ∧ Hid (RS wr X n B c (sl us)) ∧ Hid (Below (w.heap.size + 1) w3 wr)) (fun u _ => xs.length - (intOf u).toNat)
  case atStart => exact ⟨0, 0, List.replicate n 0, none, by omega, rfl, List.length_replicate, hS3.out, hX3.out, Below.refl _ _⟩
  case round =>
    obtain ⟨k, c, us, B, hk, rfl, hul, hS, hR, hB⟩ := hrel
    have hzr := hB.out.size
    by_cases hlt : k < xs.length
    · obtain ⟨b, off, rfl, hb, ha1, ha2, ha3⟩ := ((hrH.out.below hb03.out (Nat.le_refl _)).below hB.out (by omega)).at hlt
      have hx1 := (hrH.out.1 xs[k] (List.getElem_mem hlt)).1
      have hx2 := (hrH.out.1 xs[k] (List.getElem_mem hlt)).2
      generalize xs[k].1 = d at *
      generalize xs[k].2.1 = i at *
      generalize xs[k].2.2 = j at *
      have hA := fun o => Lib.hid (hS.out.below ((Below.refl _ wr).alloc (Nat.le_refl _) o) hS.out.lt.1 hS.out.lt.2)
      have hRA := fun o => Lib.hid (hR.out.alloc o)
      have hBA : ∀ o, Hid (Below (w.heap.size + 1) w3 (wr.alloc o)) := fun o => hB.out.alloc (by omega) o
      have hzA : ∀ o, Hid ((wr.alloc o).heap.size = wr.heap.size + 1) := fun o => World.size_alloc wr o
      have hulH := Lib.hid hul
      clear hul
      by_cases h25 : k < 25
      · have hdo := fun o => Lib.hid (do_any (wr.alloc o) s h X us B c (hA o).out (by rw [hulH.out]; exact (hRA o).out) hstlt.1 hstlt.2 d hx1 i j hx2)
        have hTb : decide ((k : Int) < 25) = true := decide_eq_true (by omega)
        go_wp2_with (go_at_call 19; (with_reducible refine (hdo _).out.mono ?_); rintro e w5 ⟨rfl, us', A', c', hl', hS', hR', hz', hB'⟩; have hS5 := Lib.hid hS'; have hR5 := Lib.hid hR'; have hB5 := Lib.hid hB'; have hl5 := Lib.hid hl'; clear hS' hR' hB' hl')
        go_roundw
        case rel => exact ⟨k + 1, c', us', A', by omega, by go_num, hl5.out.trans hulH.out, hS5.out, by rw [← hulH.out]; exact hR5.out, (hBA _).out.trans (hB5.out _ (by omega) (by omega) (by rw [(hzA _).out]; omega))⟩
        case measure => simp [intOf]; omega
      · have hTb : decide ((k : Int) < 25) = false := decide_eq_false (by omega)
        go_wp2
        go_roundw
        case rel => exact ⟨k + 1, c, us, B, by omega, by go_num, hulH.out, (hA _).out, (hRA _).out, (hBA _).out⟩
        case measure => simp [intOf]; omega
    · have hc0 := hR.out.c0
      have hc1 := hR.out.c1
      have hrr := (hB.out.block w.heap.size (by omega)).trans hR3.out
      have hr0 : wr.cell? ⟨w.heap.size, 0, none⟩ = some (.int .i64 0) := cell_of_row wr _ 0 _ _ (0, 0) hrr
      have hr1 : wr.cell? ⟨w.heap.size, 1, none⟩ = some (.slice none 0 0) := cell_of_row wr _ 1 _ _ (0, 0) hrr
      have hrf0 : wr.frozen? ⟨w.heap.size, 0, none⟩ = false := by simp [World.frozen?, hrr]
      have hrf1 : wr.frozen? ⟨w.heap.size, 1, none⟩ = false := by simp [World.frozen?, hrr]
      clear hrr
      go_wp2
      go_region
      have g1 := set_grown wr w.heap.size 0 (.int .i64 (n : Int))
      have g2 := set_grown (wr.setCell ⟨w.heap.size, 0, none⟩ (.int .i64 (n : Int))) w.heap.size 1 (.slice B (sl us).length c)
      have hSf := Lib.hid (((hS.out.grown g1 (by omega) (by omega)).grown g2 (by omega) (by omega)).drew 1)
      have hRf := Lib.hid (((hR.out.grown g1 hz0).grown g2 hz0).drew 1)
      have hBf := Lib.hid (below_drewN ((hb03.out.trans (hB.out.mono (by omega))).trans ((below_grown_at (B := w.heap.size) g1 (by omega) (Nat.le_refl _)).trans (below_grown_at g2 (by have := g1.size; omega) (Nat.le_refl _)))) 1)
      have hq0 : ((wr.setCell ⟨w.heap.size, 0, none⟩ (.int .i64 (n : Int))).setCell ⟨w.heap.size, 1, none⟩ (.slice B (sl us).length c)).cell? ⟨w.heap.size, 0, none⟩ = some (.int .i64 (n : Int)) := by
        rw [World.cell?_setCell_other _ _ _ _ (by simp)]
        exact World.cell?_setCell_same _ _ _ hr0
      have hq1 : ((wr.setCell ⟨w.heap.size, 0, none⟩ (.int .i64 (n : Int))).setCell ⟨w.heap.size, 1, none⟩ (.slice B (sl us).length c)).cell? ⟨w.heap.size, 1, none⟩ = some (.slice B (sl us).length c) :=
        World.cell?_setCell_same _ _ _ ((World.cell?_setCell_other _ _ _ _ (by simp)).trans hr1)
      clear g1 g2
      go_wp2
      refine bodyPost_ret (v := .tuple #[.pointer (some ⟨s, 0, none⟩), .agg #[.int .i64 (n : Int), .slice B (sl us).length c], .bool true]) ?hres rfl ?hpost
      case hres => simp [results, Tryd.results5, go_sem, hq0, hq1]
      case hpost => exact ⟨s, h, us, B, c, rfl, hul, hSf.out, hRf.out.2.1, by omega, by omega, hBf.out⟩
end Go.Proofs.YtnpdndcgmfhbdaaDoor
