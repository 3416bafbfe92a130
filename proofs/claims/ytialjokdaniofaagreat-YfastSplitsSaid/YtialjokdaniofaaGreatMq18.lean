/- The longest prefix that is there is searched by halves; the text walked. The link beside a key that isn't there; the texts walked. -/
import Derived.Test.YtialjokdaniofaaGreatMq17
section
namespace Go.Proofs.YtialjokdaniofaaGreat
set_option maxRecDepth 20000
open Go.RowKit
set_option linter.unusedSectionVars false
variable [Gh]
namespace X
theorem tells_of {l0 : Nat} {L L' : LL} {es : Es} (h : TE l0 L L' es) {l p : Nat} (hl : l ≤ 64) {S : LL} (hS : sg (if l < l0 then L' else L) l p = S) : Tells es l p (fst' S) (lst' S) (decide (S ≠ [])) := by
  subst hS
  by_cases hn : sg (if l < l0 then L' else L) l p = []
  · rw [hn]
    exact .inr ⟨rfl, rfl, rfl, h.no hn⟩
  · rw [decide_eq_true hn]
    exact .inl ⟨rfl, h.yes hl hn⟩
theorem fst_lt {L : LL} (hp : ∀ x ∈ L, x.1 < 1048576) (l p : Nat) : fst' (sg L l p) < 1048576 := by
  rcases Classical.em (sg L l p = []) with h | h
  · rw [h]; decide
  · obtain ⟨x, hx, e⟩ := fst_mem h
    rw [e]
    exact hp x (sg_sub hx)
theorem lst_lt {L : LL} (hp : ∀ x ∈ L, x.1 < 1048576) (l p : Nat) : lst' (sg L l p) < 1048576 := by
  rcases Classical.em (sg L l p = []) with h | h
  · rw [h]; decide
  · obtain ⟨x, hx, e⟩ := lst_mem' h
    rw [e]
    exact hp x (sg_sub hx)
/-- The links with the longest prefix but one that isn't there. -/
def spl (L : LL) (k a : Nat) : LL := if a = 0 then [] else sg L (a - 1) (pf (a - 1) k)
theorem pow_half (x t : Nat) (h : x < 2 ^ (7 - t)) (hx : 0 < x) : t < 7 ∧ x / 2 < 2 ^ (7 - (t + 1)) := by
  have ht : t < 7 := by
    rcases Nat.lt_or_ge t 7 with h1 | h1
    · exact h1
    · rw [show 7 - t = 0 by omega] at h
      simp at h
      omega
  refine ⟨ht, ?_⟩
  rw [show 7 - t = (7 - (t + 1)) + 1 by omega, Nat.pow_succ] at h
  omega
end X
theorem spo_cells {w : World} {g : Nat} {s : Int} {a b : Nat} (h : w.heap[g]? = some (spo s a b)) : w.cell? ⟨g, 0, none⟩ = some (.int .i64 s) ∧ w.cell? ⟨g, 1, none⟩ = some (.int .i64 (a : Int)) ∧ w.cell? ⟨g, 2, none⟩ = some (.int .i64 (b : Int)) :=
  ⟨cell_of_row w g 0 _ _ (0, 0) h, cell_of_row w g 1 _ _ (0, 0) h, cell_of_row w g 2 _ _ (0, 0) h⟩
theorem spot_res {fn : Func} {u : Tmp} (h : fn.results = #[.cell u 163]) (tmps : Array Value) (w : World) (g : Nat) (a b c : Value) (hu : tmps.getD u undef = .pointer (some ⟨g, 0, none⟩))
    (hc : w.heap[g]? = some (.cells #[a, b, c] 163 (0, 0))) : (results fn tmps).run Tryz.prog w = .ok (.agg #[a, b, c]) w := by
  have hp' : tmps[u]?.getD undef = .pointer (some ⟨g, 0, none⟩) := by simpa using hu
  have hr := run_loadVar_row (P := Tryz.prog) w g 163 163 _ (0, 0) _ hc Tryz.underlying163 (by kernel_rfl) (by kernel_rfl)
  simp [results, h, hp', asAddr, hr]
theorem chg3 (w : World) (g : Nat) (a b c : Value) : K.Chg w (((w.setCell ⟨g, 0, none⟩ a).setCell ⟨g, 1, none⟩ b).setCell ⟨g, 2, none⟩ c) (· = g) := ((chg_set w g 0 a (· = g) rfl).same (chg_set _ g 1 b (· = g) rfl)).same (chg_set _ g 2 c (· = g) rfl)
theorem row3 {w : World} {g : Nat} {z0 z1 z2 : Value} {T : TypeId} (h : w.heap[g]? = some (.cells #[z0, z1, z2] T (0, 0))) (a b c : Value) : (((w.setCell ⟨g, 0, none⟩ a).setCell ⟨g, 1, none⟩ b).setCell ⟨g, 2, none⟩ c).heap[g]? = some (.cells #[a, b, c] T (0, 0)) := by
  have := row_set (row_set (row_set h 0 a) 1 b) 2 c
  simpa using this
abbrev askv (Xb : Nat) : Value := .func (.func 132) #[.pointer (some ⟨Xb, 0, none⟩)] #[]
set_option maxHeartbeats 4000000 in
theorem x_search (w : World) (Xb C Q M P lim tk : Nat) (L : LL) (es : Es) (O : Nat → Prop) (h : XT w Xb C Q M P lim tk L es O) (htk : tk < 900000) (hTE : X.TE 0 L L es) (hp : ∀ x ∈ L, x.1 < 1048576) (k : Nat) :
    Calls Tryz.prog 121 #[.pointer (some ⟨Xb, 0, none⟩), .int .u64 (k : Int), askv Xb] w fun e w' => e = .returned (spv ((X.sc L k : Int) - 1) (X.fst' (X.spl L k (X.sc L k))) (X.lst' (X.spl L k (X.sc L k)))) ∧ ∃ t, t ≤ 7 ∧ XR w O Xb C Q M P lim (tk + t) L es w' := by
  obtain ⟨W0, hW0⟩ : ∃ W0, (w.alloc (.cells #[.int .i64 0, .int .i64 0, .int .i64 0] 163)).alloc (.cells #[.int .i64 (-1), .int .i64 0, .int .i64 0] 163) = W0 := ⟨_, rfl⟩
  have hb0 : Below w.heap.size w W0 := by rw [← hW0]; exact ((Below.refl _ w).alloc (Nat.le_refl _) _).alloc (by simp) _
  have hz0 : W0.heap.size = w.heap.size + 2 := by rw [← hW0]; simp
  have r6 : W0.heap[w.heap.size]? = some (spo 0 0 0) := by rw [← hW0]; exact (Below.heap_alloc _ _ _ (by simp)).trans (K.alloc_top _ _)
  have r7 : W0.heap[w.heap.size + 1]? = some (spo (-1) 0 0) := by
    rw [← hW0]
    have := K.alloc_top (w.alloc (.cells #[.int .i64 0, .int .i64 0, .int .i64 0] 163)) (.cells #[.int .i64 (-1), .int .i64 0, .int .i64 0] 163)
    rw [World.size_alloc] at this
    exact this
  have hlt := h.lt
  have h0 := h.chg (K.Chg.of_below (O := fun _ => False) hb0) (fun _ _ h => h)
  have hc65 := X.sc_le L k
  obtain ⟨c, hc⟩ : ∃ c, X.sc L k = c := ⟨_, rfl⟩
  have HC := Lib.hid hc
  rw [hc] at hc65 ⊢
  have H0 := Lib.hid h0
  have HLT := Lib.hid hlt
  have HB0 := Lib.hid hb0
  have R6 := Lib.hid r6
  have R7 := Lib.hid r7
  have HZ0 := Lib.hid hz0
  have HTE := Lib.hid hTE
  have HP := Lib.hid hp
  have HW0 := Lib.hid hW0
  clear hW0
  clear h hb0 r6 r7 hlt h0 hc hTE hp hz0
  go_enter Tryz.func121, Tryz.ntmps121
  go_wp2
  rw [HW0.out]
  go_loopw [8] (fun bv wr => ∃ (a b t : Nat) (O' : Nat → Prop), bv = .int .i64 (b : Int) ∧ a ≤ c ∧ c ≤ b ∧ b ≤ 65 ∧ t ≤ 7 ∧ Hid (b - a < 2 ^ (7 - t)) ∧ Hid (XT wr Xb C Q M P lim (tk + t) L es O') ∧ Hid (K.Chg W0 wr (fun j => O j ∨ j = w.heap.size + 1)) ∧ Hid (∀ j, O' j → O j ∨ W0.heap.size ≤ j) ∧ Hid (wr.heap[w.heap.size + 1]? = some (spo ((a : Int) - 1) (X.fst' (X.spl L k a)) (X.lst' (X.spl L k a)))))
    (fun bv wr => match wr.cell? ⟨w.heap.size + 1, 0, none⟩ with | some (.int _ s) => (intOf bv - s).toNat | _ => 0)
  case atStart => exact ⟨0, 65, 0, O, rfl, by omega, hc65, by omega, by omega, Lib.hid (by decide), H0, Lib.hid (chg_refl W0 _), Lib.hid (fun j hj => .inl hj), R7⟩
  case round =>
    obtain ⟨a, b, t, O', rfl, hac, hcb, hb, ht, hgap, hT, hCh, hI, hR⟩ := hrel
    have hz := HZ0.out
    have hcs := hCh.out.size
    obtain ⟨k0, k1, k2⟩ := spo_cells hR.out
    have f0 := frozen_of_row wr _ 0 _ _ hR.out
    have f1 := frozen_of_row wr _ 1 _ _ hR.out
    have f2 := frozen_of_row wr _ 2 _ _ hR.out
    have hO7 : ¬ O' (w.heap.size + 1) := fun hj => by
      rcases hI.out _ hj with h | h
      · have := HLT.out _ h; omega
      · omega
    obtain ⟨s, hs⟩ : ∃ s : Int, (a : Int) - 1 = s := ⟨_, rfl⟩
    rw [hs] at k0
    have w1 : IntKind.i64.wrap ((b : Int) - s) = (b : Int) - s := IntWalk.i64_in _ (by omega)
    generalize hf1 : X.fst' (X.spl L k a) = e1 at *
    generalize hf2 : X.lst' (X.spl L k a) = e2 at *
    have HS := Lib.hid hs
    rcases Nat.lt_or_ge a b with hab | hab
    · have g1 : decide ((1 : Int) < (b : Int) - s) = true := decide_eq_true (by omega)
      obtain ⟨m, hm⟩ : ∃ m, (a + b - 1) / 2 = m := ⟨_, rfl⟩
      have w2 : IntKind.i64.wrap (s + (b : Int)) = s + (b : Int) := IntWalk.i64_in _ (by omega)
      have w3 : (s + (b : Int)) / 2 = (m : Int) := by omega
      have w4 : (s + (b : Int)).tdiv 2 = (m : Int) := by rw [Int.tdiv_eq_ediv_of_nonneg (by omega)]; exact w3
      have w5 : IntKind.i64.wrap (m : Int) = (m : Int) := IntWalk.i64_in _ (by omega)
      have hm1 : a ≤ m ∧ m < b := by omega
      have hm64 : m ≤ 64 := by omega
      have hpre := fun W => Lib.hid (x_prefix W k m hm64)
      have hpw := X.pow_half (b - a) t hgap.out (by omega)
      have hgm : Hid (b - (m + 1) < 2 ^ (7 - (t + 1)) ∧ m - a < 2 ^ (7 - (t + 1))) := Lib.hid (by constructor <;> omega)
      have ht7 := hpw.1
      have hte := X.tells_of HTE.out (l := m) (p := X.pf m k) hm64 (S := X.sg L m (X.pf m k)) (by simp)
      have ha1 := X.fst_lt HP.out m (X.pf m k)
      have ha2 := X.lst_lt HP.out m (X.pf m k)
      have hask := fun W (hW : XT W Xb C Q M P lim (tk + t) L es O') => Lib.hid (x_ask W Xb C Q M P lim (tk + t) L es O' hW (by omega) m (X.pf m k) _ _ _ (by omega) hte ha1 ha2)
      clear hpw hm hs
      obtain ⟨x1, hx1⟩ : ∃ x1, X.fst' (X.sg L m (X.pf m k)) = x1 := ⟨_, rfl⟩
      obtain ⟨x2, hx2⟩ : ∃ x2, X.lst' (X.sg L m (X.pf m k)) = x2 := ⟨_, rfl⟩
      have HX12 := Lib.hid (And.intro hx1 hx2)
      rw [hx1, hx2] at hask
      have HFIN : Hid (∀ (Wa Wb : World) (O2 : Nat → Prop), XT Wa Xb C Q M P lim (tk + (t + 1)) L es O2 → K.Chg wr Wa (fun _ => False) ∨ True → True) := Lib.hid (fun _ _ _ _ _ => trivial)
      clear HFIN
      by_cases hin : m < c
      · have hne : X.sg L m (X.pf m k) ≠ [] := X.sc_yes (by rw [HC.out]; exact hin)
        have hspl : X.spl L k (m + 1) = X.sg L m (X.pf m k) := by unfold X.spl; rw [if_neg (by omega), Nat.add_sub_cancel]
        have HSPL := Lib.hid hspl
        rw [decide_eq_true hne] at hask
        clear hne hspl hte hx1 hx2 ha1 ha2
        generalize X.pf m k = q at *
        go_wp2_with (first
          | (go_at_call 137; (with_reducible refine (hpre _).out.mono ?_); rintro e w2 ⟨rfl, hb2⟩
             have h2 := hT.out.chg (K.Chg.of_below (O := fun _ => False) hb2) (fun _ _ h => h)
             have HA := Lib.hid ((hask w2 h2).out)
             have HB2 := Lib.hid hb2
             clear hb2 h2)
          | (go_at_call 132; (with_reducible refine HA.out.mono ?_); rintro e w3 ⟨rfl, O3, hT3, hC3, hI3⟩
             have hs2 := HB2.out.size
             have hs3 := hC3.size
             have hz := HZ0.out
             have z7 := (hC3.block (w.heap.size + 1) (by omega) hO7).trans ((HB2.out.block (w.heap.size + 1) (row_lt hR.out)).trans hR.out)
             have z7' : (w3.alloc (endo (.int .i64 (x1 : Int)) (.int .i64 (x2 : Int)))).heap[w.heap.size + 1]? = some (spo s e1 e2) := (Below.heap_alloc _ _ _ (row_lt z7)).trans (by rw [z7, HS.out])
             have n3 : ¬ O3 (w.heap.size + 1) := fun hj => by
               rcases hI3 _ hj with h | h
               · exact hO7 h
               · omega
             have y0 := frozen_of_row _ _ 0 _ _ z7'
             have y1 := frozen_of_row _ _ 1 _ _ z7'
             have y2 := frozen_of_row _ _ 2 _ _ z7'
             obtain ⟨v0, v1, v2⟩ := spo_cells z7'
             have hT3' := hT3.chg (chg_alloc w3 (endo (.int .i64 (x1 : Int)) (.int .i64 (x2 : Int))) (fun _ => False)) (fun _ _ h => h)
             have hC3' : K.Chg W0 (w3.alloc (endo (.int .i64 (x1 : Int)) (.int .i64 (x2 : Int)))) (fun j => O j ∨ j = w.heap.size + 1) := ((hCh.out.same (K.Chg.of_below HB2.out)).trans hC3 (fun j hj => (hI.out j hj).imp .inl id)).same (chg_alloc _ _ _)
             have HT3 := Lib.hid hT3'
             have HC3 := Lib.hid hC3'
             have HI3 : Hid (∀ j, O3 j → O j ∨ W0.heap.size ≤ j) := Lib.hid (fun j hj => by
               rcases hI3 j hj with h | h
               · exact hI.out j h
               · exact .inr (by omega))
             have HR3 := Lib.hid z7'
             have HN3 := Lib.hid n3
             clear hT3 hC3 hI3 z7 z7' n3 hs2 hs3 hz hT3' hC3'))
        have hz := HZ0.out
        have hset := chg3 (w3.alloc (endo (.int .i64 (x1 : Int)) (.int .i64 (x2 : Int)))) (w.heap.size + 1) (.int .i64 (m : Int)) (.int .i64 (x1 : Int)) (.int .i64 (x2 : Int))
        have hrow := row3 (w := w3.alloc (endo (.int .i64 (x1 : Int)) (.int .i64 (x2 : Int)))) HR3.out (.int .i64 (m : Int)) (.int .i64 (x1 : Int)) (.int .i64 (x2 : Int))
        have hT4 := HT3.out.chg hset (fun j hj e => by have e2 : j = w.heap.size + 1 := e; subst e2; exact HN3.out hj)
        have hC4 := HC3.out.trans hset (fun j e => .inl (.inr e))
        have hk0 : ((((w3.alloc (endo (.int .i64 (x1 : Int)) (.int .i64 (x2 : Int)))).setCell ⟨w.heap.size + 1, 0, none⟩ (.int .i64 (m : Int))).setCell ⟨w.heap.size + 1, 1, none⟩ (.int .i64 (x1 : Int))).setCell ⟨w.heap.size + 1, 2, none⟩ (.int .i64 (x2 : Int))).cell? ⟨w.heap.size + 1, 0, none⟩ = some (.int .i64 (m : Int)) := cell_of_row _ _ 0 _ _ (0, 0) hrow
        have HT4 := Lib.hid hT4
        have HC4 := Lib.hid hC4
        have HROW := Lib.hid hrow
        clear hrow hT4 hC4 hset
        go_roundw
        case rel =>
          refine ⟨m + 1, b, t + 1, O3, rfl, by omega, hcb, hb, by omega, Lib.hid hgm.out.1, HT4, HC4, HI3, Lib.hid ?_⟩
          rw [HSPL.out, HX12.out.1, HX12.out.2, show ((m + 1 : Nat) : Int) - 1 = (m : Int) by omega]
          exact HROW.out
        case measure =>
          rw [hk0, k0]
          have := HS.out
          simp only [intOf]
          omega
      · have hne : X.sg L m (X.pf m k) = [] := X.sc_no (by rw [HC.out]; omega) hm64
        rw [decide_eq_false (fun h => h hne)] at hask
        clear hne hte hx1 hx2 ha1 ha2
        generalize X.pf m k = q at *
        go_wp2_with (first
          | (go_at_call 137; (with_reducible refine (hpre _).out.mono ?_); rintro e w2 ⟨rfl, hb2⟩
             have h2 := hT.out.chg (K.Chg.of_below (O := fun _ => False) hb2) (fun _ _ h => h)
             have HA := Lib.hid ((hask w2 h2).out)
             have HB2 := Lib.hid hb2
             clear hb2 h2)
          | (go_at_call 132; (with_reducible refine HA.out.mono ?_); rintro e w3 ⟨rfl, O3, hT3, hC3, hI3⟩
             have hs2 := HB2.out.size
             have hs3 := hC3.size
             have hz := HZ0.out
             have z7 := (hC3.block (w.heap.size + 1) (by omega) hO7).trans ((HB2.out.block (w.heap.size + 1) (row_lt hR.out)).trans hR.out)
             have z7' : (w3.alloc (endo (.int .i64 (x1 : Int)) (.int .i64 (x2 : Int)))).heap[w.heap.size + 1]? = some (spo s e1 e2) := (Below.heap_alloc _ _ _ (row_lt z7)).trans (by rw [z7, HS.out])
             have n3 : ¬ O3 (w.heap.size + 1) := fun hj => by
               rcases hI3 _ hj with h | h
               · exact hO7 h
               · omega
             have y0 := frozen_of_row _ _ 0 _ _ z7'
             have y1 := frozen_of_row _ _ 1 _ _ z7'
             have y2 := frozen_of_row _ _ 2 _ _ z7'
             obtain ⟨v0, v1, v2⟩ := spo_cells z7'
             have hT3' := hT3.chg (chg_alloc w3 (endo (.int .i64 (x1 : Int)) (.int .i64 (x2 : Int))) (fun _ => False)) (fun _ _ h => h)
             have hC3' : K.Chg W0 (w3.alloc (endo (.int .i64 (x1 : Int)) (.int .i64 (x2 : Int)))) (fun j => O j ∨ j = w.heap.size + 1) := ((hCh.out.same (K.Chg.of_below HB2.out)).trans hC3 (fun j hj => (hI.out j hj).imp .inl id)).same (chg_alloc _ _ _)
             have HT3 := Lib.hid hT3'
             have HC3 := Lib.hid hC3'
             have HI3 : Hid (∀ j, O3 j → O j ∨ W0.heap.size ≤ j) := Lib.hid (fun j hj => by
               rcases hI3 j hj with h | h
               · exact hI.out j h
               · exact .inr (by omega))
             have HR3 := Lib.hid z7'
             have HN3 := Lib.hid n3
             clear hT3 hC3 hI3 z7 z7' n3 hs2 hs3 hz hT3' hC3'))
        have hk0 := cell_of_row _ _ 0 _ _ (0, 0) HR3.out
        have HS2 := HS.out
        go_roundw
        case rel =>
          refine ⟨a, m, t + 1, O3, rfl, hac, by omega, by omega, by omega, Lib.hid hgm.out.2, HT3, HC3, HI3, Lib.hid ?_⟩
          rw [hf1, hf2, HS.out]
          exact HR3.out
        case measure =>
          rw [k0, show (w3.alloc (endo (.int .i64 (x1 : Int)) (.int .i64 (x2 : Int)))).cell? ⟨w.heap.size + 1, 0, none⟩ = some (.int .i64 s) from hk0]
          simp only [intOf]
          omega
    · have hca : c = a := by omega
      have g1 : decide ((1 : Int) < (b : Int) - s) = false := decide_eq_false (by omega)
      have hn6 : w.heap.size ≠ w.heap.size + 1 := by omega
      have hO6 : ¬ (O w.heap.size ∨ w.heap.size = w.heap.size + 1) := fun h => by
        rcases h with h | h
        · have := HLT.out _ h; omega
        · omega
      have z6 := (hCh.out.block w.heap.size (by omega) hO6).trans R6.out
      have y0 := frozen_of_row wr _ 0 _ _ z6
      have y1 := frozen_of_row wr _ 1 _ _ z6
      have y2 := frozen_of_row wr _ 2 _ _ z6
      obtain ⟨v0, v1, v2⟩ := spo_cells z6
      have Z6 := Lib.hid z6
      have hO6' : ¬ O' w.heap.size := fun hj => by
        rcases hI.out _ hj with h | h
        · exact hO6 (.inl h)
        · omega
      have HO6 := Lib.hid hO6'
      have HCA := Lib.hid hca
      clear hs hca z6
      go_wp2
      have hset := chg3 wr w.heap.size (.int .i64 s) (.int .i64 (e1 : Int)) (.int .i64 (e2 : Int))
      have hrow := row3 Z6.out (.int .i64 s) (.int .i64 (e1 : Int)) (.int .i64 (e2 : Int))
      refine bodyPost_ret (spot_res rfl _ _ w.heap.size _ _ _ rfl hrow) rfl ⟨?_, t, ht, O', hT.out.chg hset (fun j hj e => by have e3 : j = w.heap.size := e; subst e3; exact HO6.out hj), ?_, fun j hj => ?_⟩
      · rw [HCA.out, hf1, hf2, HS.out]
      · have c1 := (K.Chg.of_below (O := O) HB0.out).trans hCh.out (fun j hj => hj.imp id (fun e => by omega))
        exact c1.trans hset (fun j e => .inr (by have e3 : j = w.heap.size := e; omega))
      · rcases hI.out j hj with h | h
        · exact .inl h
        · exact .inr (by omega)
end Go.Proofs.YtialjokdaniofaaGreat
end
section
namespace Go.Proofs.YtialjokdaniofaaGreat
set_option maxRecDepth 20000
open Go.RowKit
set_option linter.unusedSectionVars false
variable [Gh]
section
variable {w w' : World} {Xb C Q M P lim tk : Nat} {L L1 L2 : LL} {es : Es} {O : Nat → Prop} {n k : Nat}
theorem XT.places (h : XT w Xb C Q M P lim tk L es O) : ∀ x ∈ L, x.1 < 1048576 := by
  obtain ⟨_, An, cn, Af, cf, ns, fs, _, _, _, _, hb, rfl⟩ := h
  intro x hx
  obtain ⟨nd, h1, _⟩ := seg_live hb.ch.seg hx
  have h2 := (List.getElem?_eq_some_iff.1 h1).1
  have h3 := hb.ch.po.ns_le
  have h4 := hb.ch.po.lim_le
  omega
theorem XT.nod (h : XT w Xb C Q M P lim tk L es O) : (L.map (·.1)).Nodup := by
  obtain ⟨_, An, cn, Af, cf, ns, fs, _, _, _, _, hb, rfl⟩ := h
  exact hb.ch.nod
theorem XT.keys (h : XT w Xb C Q M P lim tk L es O) : ∀ x ∈ L, x.2 < 18446744073709551616 := by
  obtain ⟨_, An, cn, Af, cf, ns, fs, _, _, _, _, hb, rfl⟩ := h
  exact hb.ch.keys
theorem XT.prev (h : XT w Xb C Q M P lim tk (L1 ++ (n, k) :: L2) es O) (htk : tk < 1000000) :
    Calls Tryz.prog 144 #[.pointer (some ⟨C, 0, none⟩), .int .i64 (n : Int)] w fun e w' => e = .returned (.int .i64 (lst (-1) L1)) ∧ Mx w' M (tk + 1) ∧ K.Chg w w' (· = M) := by
  obtain ⟨_, An, cn, Af, cf, ns, fs, _, _, _, _, hb, rfl⟩ := h
  obtain ⟨hn, hx⟩ := hb.ch.at rfl
  exact c_prev_yes w C Q M lim cn cf _ _ An Af ns fs hb.ch.cb hb.ch.po n hn k _ _ hx tk hb.mx htk
theorem XT.next (h : XT w Xb C Q M P lim tk (L1 ++ (n, k) :: L2) es O) (htk : tk < 1000000) :
    Calls Tryz.prog 150 #[.pointer (some ⟨C, 0, none⟩), .int .i64 (n : Int)] w fun e w' => e = .returned (.int .i64 (hd L2 (-1))) ∧ Mx w' M (tk + 1) ∧ K.Chg w w' (· = M) := by
  obtain ⟨_, An, cn, Af, cf, ns, fs, _, _, _, _, hb, rfl⟩ := h
  obtain ⟨hn, hx⟩ := hb.ch.at rfl
  exact c_next_yes w C Q M lim cn cf _ _ An Af ns fs hb.ch.cb hb.ch.po n hn k _ _ hx tk hb.mx htk
theorem XT.key (h : XT w Xb C Q M P lim tk (L1 ++ (n, k) :: L2) es O) (htk : tk < 1000000) :
    Calls Tryz.prog 142 #[.pointer (some ⟨C, 0, none⟩), .int .i64 (n : Int)] w fun e w' => e = .returned (.tuple #[.int .u64 (k : Int), .bool true]) ∧ Mx w' M (tk + 1) ∧ K.Chg w w' (· = M) := by
  obtain ⟨_, An, cn, Af, cf, ns, fs, _, _, _, _, hb, rfl⟩ := h
  obtain ⟨hn, hx⟩ := hb.ch.at rfl
  exact c_key_yes w C Q M lim cn cf _ _ An Af ns fs hb.ch.cb hb.ch.po n hn k _ _ hx tk hb.mx htk
theorem XT.key_no (h : XT w Xb C Q M P lim tk L es O) : Calls Tryz.prog 142 #[.pointer (some ⟨C, 0, none⟩), .int .i64 (-1)] w fun e w' => e = .returned (.tuple #[.int .u64 0, .bool false]) ∧ Below w.heap.size w w' := by
  obtain ⟨_, An, cn, Af, cf, ns, fs, _, _, _, _, hb, rfl⟩ := h
  exact c_key_no w C Q M lim cn cf _ _ An Af ns fs hb.ch.cb hb.ch.po (-1) (lvq_neg (by decide))
theorem XR.met (h : XT w Xb C Q M P lim tk L es O) {tk' : Nat} (b : K.Chg w w' (· = M)) (hm : Mx w' M tk') : XR w O Xb C Q M P lim tk' L es w' :=
  ⟨O, h.met b hm, b.mono (fun j e => by have e2 : j = M := e; subst e2; exact h.mx.2), fun j hj => .inl hj⟩
end
namespace X
/-- Links ahead of a key, links behind it. -/
theorem first_of {L2 : LL} {b : Int} (h : L2 ≠ []) : ∃ (n k : Nat) (L : LL), L2 = (n, k) :: L ∧ hd L2 b = (n : Int) := by
  cases L2 with
  | nil => exact absurd rfl h
  | cons x L => exact ⟨x.1, x.2, L, rfl, rfl⟩
end X
set_option maxHeartbeats 1000000 in
theorem x_at_below (w : World) (Xb C Q M P lim tk : Nat) (L1 L2 : LL) (es : Es) (O : Nat → Prop) (h : XT w Xb C Q M P lim tk (L1 ++ L2) es O) (htk : tk < 900000) (k : Nat) (hr : X.Rises (L1 ++ L2)) (h1 : ∀ x ∈ L1, x.2 < k) (h2 : ∀ x ∈ L2, k < x.2) (hk : k < 18446744073709551616) :
    Calls Tryz.prog 116 #[.pointer (some ⟨Xb, 0, none⟩), .int .u64 (k : Int), spv ((X.sc (L1 ++ L2) k : Int) - 1) (X.fst' (X.spl (L1 ++ L2) k (X.sc (L1 ++ L2) k))) (X.lst' (X.spl (L1 ++ L2) k (X.sc (L1 ++ L2) k)))] w fun e w' => e = .returned (.int .i64 (lst (-1) L1)) ∧ ∃ t, t ≤ 1 ∧ XR w O Xb C Q M P lim (tk + t) (L1 ++ L2) es w' := by
  have hc65 := X.sc_le (L1 ++ L2) k
  have hno : X.sc (L1 ++ L2) k ≠ 65 := fun e => by
    obtain ⟨x, hx, e2⟩ := X.sc_all.1 e
    rcases List.mem_append.1 hx with h | h
    · have := h1 x h; omega
    · have := h2 x h; omega
  have hz := X.sc_zero (L := L1 ++ L2) (k := k) h.keys hk
  have hlt := h.lt
  rcases Nat.eq_zero_or_pos (X.sc (L1 ++ L2) k) with hc0 | hc0
  · have hL := hz.1 hc0
    have hL1 : L1 = [] := (List.append_eq_nil_iff.1 hL).1
    have hL2 : L2 = [] := (List.append_eq_nil_iff.1 hL).2
    subst hL1 hL2
    rw [hc0]
    have hw : lst (-1) ([] : LL) = -1 := rfl
    rw [hw]
    have H := Lib.hid h
    have HLT := Lib.hid hlt
    clear h hlt hz hw
    generalize X.fst' (X.spl ([] ++ []) k 0) = e1 at *
    generalize X.lst' (X.spl ([] ++ []) k 0) = e2 at *
    obtain ⟨s, hs⟩ : ∃ s : Int, ((0 : Nat) : Int) - 1 = s := ⟨_, rfl⟩
    have g0 : (s == -1) = true := by rw [beq_iff_eq]; omega
    rw [hs]
    clear hs
    go_enter Tryz.func116, Tryz.ntmps116
    go_wp2
    go_ret
    have ha := chg_alloc w (spo s e1 e2) (fun _ => False)
    exact ⟨rfl, 0, by omega, O, H.out.chg ha (fun _ _ h => h), ha.mono (fun _ h => h.elim), fun j hj => .inl hj⟩
  · obtain ⟨s, hs⟩ : ∃ s, X.sc (L1 ++ L2) k = s + 1 := ⟨X.sc (L1 ++ L2) k - 1, by omega⟩
    obtain ⟨n0, n1⟩ := X.near_cases hr h1 h2 hs (by omega)
    have hsp : X.spl (L1 ++ L2) k (X.sc (L1 ++ L2) k) = X.sg (L1 ++ L2) s (X.pf s k) := by rw [hs]; unfold X.spl; rw [if_neg (by omega), Nat.add_sub_cancel]
    have hsi : (X.sc (L1 ++ L2) k : Int) - 1 = (s : Int) := by omega
    rw [hsp, hsi]
    have hs63 : s ≤ 63 := by omega
    generalize hf1 : X.fst' (X.sg (L1 ++ L2) s (X.pf s k)) = e1 at *
    generalize hf2 : X.lst' (X.sg (L1 ++ L2) s (X.pf s k)) = e2 at *
    have g0 : ((s : Int) == -1) = false := by rw [beq_eq_false_iff_ne]; omega
    have hal := Lib.hid (fun W => x_above W s e1 e2 k hs63)
    have hrow := Lib.hid (K.alloc_top w (spo (s : Int) e1 e2))
    have HLT := Lib.hid hlt
    have ha := chg_alloc w (spo (s : Int) e1 e2) (fun _ => False)
    have h0 := h.chg ha (fun _ _ h => h)
    have H0 := Lib.hid h0
    have HA := Lib.hid ha
    clear hc65 hno hz hc0 hs hsp hsi hlt h hr h1 h2 ha h0 hf1 hf2
    by_cases hev : X.pf (s + 1) k % 2 = 0
    · obtain ⟨hne, hfe⟩ := n0 hev
      rw [decide_eq_true hev] at hal
      clear n0 n1 hev
      obtain ⟨n, k', LL, rfl, he⟩ := X.first_of (b := -1) hne
      have hen : e1 = n := by omega
      subst hen
      clear hfe he hne
      go_enter Tryz.func116, Tryz.ntmps116
      go_wp2_with (go_at_call 143; (with_reducible refine (hal.out _).mono ?_); rintro e w1 ⟨rfl, hb1⟩
                   have h1 := H0.out.chg (K.Chg.of_below (O := fun _ => False) hb1) (fun _ _ h => h)
                   have z5 := (hb1.block w.heap.size (row_lt hrow.out)).trans hrow.out
                   obtain ⟨k0, k1, k2⟩ := spo_cells z5
                   have hd1 : XT w1.drew Xb C Q M P lim tk _ es O := h1.chg ((chg_refl w1 (fun _ => False)).drewN 1) (fun _ _ h => h)
                   have HS1 : Hid (w1.drew.cell? ⟨Xb, 1, none⟩ = some (.pointer (some ⟨C, 0, none⟩)) ∧ w1.drew.cell? ⟨w.heap.size, 1, none⟩ = some (.int .i64 (e1 : Int))) := Lib.hid ⟨hd1.c1, k1⟩
                   have H1 := Lib.hid h1
                   have HD1 := Lib.hid hd1
                   have HB1 := Lib.hid hb1
                   have Z5 := Lib.hid z5
                   clear hb1 h1 z5 hd1)
      have HP := Lib.hid (XT.prev (w := w1.drew) (Xb := Xb) (C := C) (Q := Q) (M := M) (P := P) (lim := lim) (tk := tk) (es := es) (O := O) (L1 := L1) (L2 := LL) (n := e1) (k := k') (HD1.out) (by omega))
      go_region_held3 (fun Y => Y.cell? ⟨Xb, 1, none⟩ = some (.pointer (some ⟨C, 0, none⟩)) ∧ Y.cell? ⟨w.heap.size, 1, none⟩ = some (.int .i64 (e1 : Int))) (first | (with_reducible exact HS1.out) | (with_reducible exact HS2.out) | go_keep)
        ((go_at_call 144; (with_reducible refine HP.out.mono ?_); rintro e w2 ⟨rfl, hm2, hc2⟩
          have h2 := XR.met HD1.out hc2 hm2
          have hMl := HLT.out M HD1.out.mx.2
          have hs1 : w.heap.size < w1.drew.heap.size := row_lt Z5.out
          have z2 := (hc2.cell hs1 (fun e => by have e3 : w.heap.size = M := e; omega) 1).trans HS1.out.2
          have HS2 : Hid (w2.cell? ⟨Xb, 1, none⟩ = some (.pointer (some ⟨C, 0, none⟩)) ∧ w2.cell? ⟨w.heap.size, 1, none⟩ = some (.int .i64 (e1 : Int))) := Lib.hid ⟨(by obtain ⟨_, hT, _⟩ := h2; exact hT.c1), z2⟩
          have HR2 := Lib.hid h2
          clear h2 hm2 hc2 hMl hs1 z2))
      all_goals
        go_wp2
        go_ret
        refine ⟨rfl, 1, Nat.le_refl _, ?_⟩
        obtain ⟨O2, r1, r2, r3⟩ := HR2.out
        have c1 : K.Chg w w1.drew O := ((HA.out.mono (O' := O) (fun _ h => h.elim)).same (K.Chg.of_below HB1.out)).drewN 1
        exact ⟨O2, r1, c1.same r2, fun j hj => (r3 j hj).imp id (fun h => Nat.le_trans c1.size h)⟩
    · obtain ⟨hne, hfe⟩ := n1 hev
      rw [decide_eq_false hev] at hal
      clear n0 n1 hev
      have HF := Lib.hid hfe
      clear hfe hne
      go_enter Tryz.func116, Tryz.ntmps116
      go_wp2_with (go_at_call 143; (with_reducible refine (hal.out _).mono ?_); rintro e w1 ⟨rfl, hb1⟩
                   have h1 := H0.out.chg (K.Chg.of_below (O := fun _ => False) hb1) (fun _ _ h => h)
                   have z5 := (hb1.block w.heap.size (row_lt hrow.out)).trans hrow.out
                   obtain ⟨k0, k1, k2⟩ := spo_cells z5
                   have hd1 : XT w1.drew Xb C Q M P lim tk _ es O := h1.chg ((chg_refl w1 (fun _ => False)).drewN 1) (fun _ _ h => h)
                   have HS1 : Hid (w1.drew.cell? ⟨Xb, 1, none⟩ = some (.pointer (some ⟨C, 0, none⟩)) ∧ w1.drew.cell? ⟨w.heap.size, 2, none⟩ = some (.int .i64 (e2 : Int))) := Lib.hid ⟨hd1.c1, k2⟩
                   have H1 := Lib.hid h1
                   have HD1 := Lib.hid hd1
                   have HB1 := Lib.hid hb1
                   have Z5 := Lib.hid z5
                   clear hb1 h1 z5 hd1)
      go_wp2
      go_ret
      have c1 : K.Chg w w1 O := (HA.out.mono (O' := O) (fun _ h => h.elim)).same (K.Chg.of_below HB1.out)
      exact ⟨by rw [← HF.out]; rfl, 0, by omega, O, H1.out, c1, fun j hj => .inl hj⟩
end Go.Proofs.YtialjokdaniofaaGreat
end
