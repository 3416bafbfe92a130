/- How many prefixes a key wants of its own: told without a step; the text walked. What a bucket's keys make of it: few, part, needs, Used; the texts walked. How much is used, and what a bucket needs; the texts walked. -/
import Derived.Test.YtelfacchhclgnaaGreatMu33
section
namespace Go.Proofs.YtelfacchhclgnaaGreat
open Go.RowKit
set_option linter.unusedSectionVars false
section
variable [Gh]
abbrev peekv (Xb : Nat) : Value := .func (.func 122) #[.pointer (some ⟨Xb, 0, none⟩)] #[]
set_option maxHeartbeats 4000000 in
theorem x_searchp (w : World) (Xb C Q M P lim tk : Nat) (L : LL) (es : Es) (O : Nat → Prop) (h : XT w Xb C Q M P lim tk L es O) (hTE : X.TE 0 L L es) (hp : ∀ x ∈ L, x.1 < 1048576) (k : Nat) :
    Calls Tryz.prog 121 #[.pointer (some ⟨Xb, 0, none⟩), .int .u64 (k : Int), peekv Xb] w fun e w' => e = .returned (spv ((X.sc L k : Int) - 1) (X.fst' (X.spl L k (X.sc L k))) (X.lst' (X.spl L k (X.sc L k)))) ∧ ∃ t, t ≤ 7 ∧ XR w O Xb C Q M P lim tk L es w' := by
  obtain ⟨W0, hW0⟩ : ∃ W0, (w.alloc (.cells #[.int .i64 0, .int .i64 0, .int .i64 0] 163)).alloc (.cells #[.int .i64 (-1), .int .i64 0, .int .i64 0] 163) = W0 := ⟨_, rfl⟩
  have hb0 : Below w.heap.size w W0 := by rw [← hW0]; exact ((Below.refl _ w).alloc (Nat.le_refl _) _).alloc (by simp) _
  have hz0 : W0.heap.size = w.heap.size + 2 := by rw [← hW0]; simp
  have r6 : W0.heap[w.heap.size]? = some (spo 0 0 0) := by rw [← hW0]; exact (Below.heap_alloc _ _ _ (by simp)).trans (K.alloc_top _ _)
  have r7 : W0.heap[w.heap.size + 1]? = some (spo (-1) 0 0) := by
    rw [← hW0]
    have := K.alloc_top (w.alloc (.cells #[.int .i64 0, .int .i64 0, .int .i64 0] 163)) (.cells #[.int .i64 (-1), .int .i64 0, .int .i64 0] 163)
    rw [World.size_alloc] at this
    exact this
  have hlt := h.lt
  have h0 := h.chg (K.Chg.of_below (O := fun _ => False) hb0) (fun _ _ h => h)
  have hc65 := X.sc_le L k
  obtain ⟨c, hc⟩ : ∃ c, X.sc L k = c := ⟨_, rfl⟩
  have HC := Lib.hid hc
  rw [hc] at hc65 ⊢
  have H0 := Lib.hid h0
  have HLT := Lib.hid hlt
  have HB0 := Lib.hid hb0
  have R6 := Lib.hid r6
  have R7 := Lib.hid r7
  have HZ0 := Lib.hid hz0
  have HTE := Lib.hid hTE
  have HP := Lib.hid hp
  have HW0 := Lib.hid hW0
  clear hW0
  clear h hb0 r6 r7 hlt h0 hc hTE hp hz0
  go_enter Tryz.func121, Tryz.ntmps121
  go_wp2
  rw [HW0.out]
  go_loopw [8] (fun bv wr => ∃ (a b t : Nat) (O' : Nat → Prop), bv = .int .i64 (b : Int) ∧ a ≤ c ∧ c ≤ b ∧ b ≤ 65 ∧ t ≤ 7 ∧ Hid (b - a < 2 ^ (7 - t)) ∧ Hid (XT wr Xb C Q M P lim tk L es O') ∧ Hid (K.Chg W0 wr (fun j => O j ∨ j = w.heap.size + 1)) ∧ Hid (∀ j, O' j → O j ∨ W0.heap.size ≤ j) ∧ Hid (wr.heap[w.heap.size + 1]? = some (spo ((a : Int) - 1) (X.fst' (X.spl L k a)) (X.lst' (X.spl L k a)))))
    (fun bv wr => match wr.cell? ⟨w.heap.size + 1, 0, none⟩ with | some (.int _ s) => (intOf bv - s).toNat | _ => 0)
  case atStart => exact ⟨0, 65, 0, O, rfl, by omega, hc65, by omega, by omega, Lib.hid (by decide), H0, Lib.hid (chg_refl W0 _), Lib.hid (fun j hj => .inl hj), R7⟩
  case round =>
    obtain ⟨a, b, t, O', rfl, hac, hcb, hb, ht, hgap, hT, hCh, hI, hR⟩ := hrel
    have hz := HZ0.out
    have hcs := hCh.out.size
    obtain ⟨k0, k1, k2⟩ := spo_cells hR.out
    have f0 := frozen_of_row wr _ 0 _ _ hR.out
    have f1 := frozen_of_row wr _ 1 _ _ hR.out
    have f2 := frozen_of_row wr _ 2 _ _ hR.out
    have hO7 : ¬ O' (w.heap.size + 1) := fun hj => by
      rcases hI.out _ hj with h | h
      · have := HLT.out _ h; omega
      · omega
    obtain ⟨s, hs⟩ : ∃ s : Int, (a : Int) - 1 = s := ⟨_, rfl⟩
    rw [hs] at k0
    have w1 : IntKind.i64.wrap ((b : Int) - s) = (b : Int) - s := IntWalk.i64_in _ (by omega)
    generalize hf1 : X.fst' (X.spl L k a) = e1 at *
    generalize hf2 : X.lst' (X.spl L k a) = e2 at *
    have HS := Lib.hid hs
    rcases Nat.lt_or_ge a b with hab | hab
    · have g1 : decide ((1 : Int) < (b : Int) - s) = true := decide_eq_true (by omega)
      obtain ⟨m, hm⟩ : ∃ m, (a + b - 1) / 2 = m := ⟨_, rfl⟩
      have w2 : IntKind.i64.wrap (s + (b : Int)) = s + (b : Int) := IntWalk.i64_in _ (by omega)
      have w3 : (s + (b : Int)) / 2 = (m : Int) := by omega
      have w4 : (s + (b : Int)).tdiv 2 = (m : Int) := by rw [Int.tdiv_eq_ediv_of_nonneg (by omega)]; exact w3
      have w5 : IntKind.i64.wrap (m : Int) = (m : Int) := IntWalk.i64_in _ (by omega)
      have hm1 : a ≤ m ∧ m < b := by omega
      have hm64 : m ≤ 64 := by omega
      have hpre := fun W => Lib.hid (x_prefix W k m hm64)
      have hpw := X.pow_half (b - a) t hgap.out (by omega)
      have hgm : Hid (b - (m + 1) < 2 ^ (7 - (t + 1)) ∧ m - a < 2 ^ (7 - (t + 1))) := Lib.hid (by constructor <;> omega)
      have ht7 := hpw.1
      have hte := X.tells_of HTE.out (l := m) (p := X.pf m k) hm64 (S := X.sg L m (X.pf m k)) (by simp)
      have ha1 := X.fst_lt HP.out m (X.pf m k)
      have ha2 := X.lst_lt HP.out m (X.pf m k)
      have hask := fun W (hW : XT W Xb C Q M P lim tk L es O') => Lib.hid (x_peek W Xb C Q M P lim tk L es O' hW m (X.pf m k) _ _ _ (by omega) hte ha1 ha2)
      clear hpw hm hs
      obtain ⟨x1, hx1⟩ : ∃ x1, X.fst' (X.sg L m (X.pf m k)) = x1 := ⟨_, rfl⟩
      obtain ⟨x2, hx2⟩ : ∃ x2, X.lst' (X.sg L m (X.pf m k)) = x2 := ⟨_, rfl⟩
      have HX12 := Lib.hid (And.intro hx1 hx2)
      rw [hx1, hx2] at hask
      have HFIN : Hid (∀ (Wa Wb : World) (O2 : Nat → Prop), XT Wa Xb C Q M P lim tk L es O2 → K.Chg wr Wa (fun _ => False) ∨ True → True) := Lib.hid (fun _ _ _ _ _ => trivial)
      clear HFIN
      by_cases hin : m < c
      · have hne : X.sg L m (X.pf m k) ≠ [] := X.sc_yes (by rw [HC.out]; exact hin)
        have hspl : X.spl L k (m + 1) = X.sg L m (X.pf m k) := by unfold X.spl; rw [if_neg (by omega), Nat.add_sub_cancel]
        have HSPL := Lib.hid hspl
        rw [decide_eq_true hne] at hask
        clear hne hspl hte hx1 hx2 ha1 ha2
        generalize X.pf m k = q at *
        go_wp2_with (first
          | (go_at_call 137; (with_reducible refine (hpre _).out.mono ?_); rintro e w2 ⟨rfl, hb2⟩
             have h2 := hT.out.chg (K.Chg.of_below (O := fun _ => False) hb2) (fun _ _ h => h)
             have HA := Lib.hid ((hask w2 h2).out)
             have HB2 := Lib.hid hb2
             clear hb2 h2)
          | (go_at_call 122; (with_reducible refine HA.out.mono ?_); rintro e w3 ⟨rfl, O3, hT3, hC3, hI3⟩
             have hs2 := HB2.out.size
             have hs3 := hC3.size
             have hz := HZ0.out
             have z7 := (hC3.block (w.heap.size + 1) (by omega) hO7).trans ((HB2.out.block (w.heap.size + 1) (row_lt hR.out)).trans hR.out)
             have z7' : (w3.alloc (endo (.int .i64 (x1 : Int)) (.int .i64 (x2 : Int)))).heap[w.heap.size + 1]? = some (spo s e1 e2) := (Below.heap_alloc _ _ _ (row_lt z7)).trans (by rw [z7, HS.out])
             have n3 : ¬ O3 (w.heap.size + 1) := fun hj => by
               rcases hI3 _ hj with h | h
               · exact hO7 h
               · omega
             have y0 := frozen_of_row _ _ 0 _ _ z7'
             have y1 := frozen_of_row _ _ 1 _ _ z7'
             have y2 := frozen_of_row _ _ 2 _ _ z7'
             obtain ⟨v0, v1, v2⟩ := spo_cells z7'
             have hT3' := hT3.chg (chg_alloc w3 (endo (.int .i64 (x1 : Int)) (.int .i64 (x2 : Int))) (fun _ => False)) (fun _ _ h => h)
             have hC3' : K.Chg W0 (w3.alloc (endo (.int .i64 (x1 : Int)) (.int .i64 (x2 : Int)))) (fun j => O j ∨ j = w.heap.size + 1) := ((hCh.out.same (K.Chg.of_below HB2.out)).trans hC3 (fun j hj => (hI.out j hj).imp .inl id)).same (chg_alloc _ _ _)
             have HT3 := Lib.hid hT3'
             have HC3 := Lib.hid hC3'
             have HI3 : Hid (∀ j, O3 j → O j ∨ W0.heap.size ≤ j) := Lib.hid (fun j hj => by
               rcases hI3 j hj with h | h
               · exact hI.out j h
               · exact .inr (by omega))
             have HR3 := Lib.hid z7'
             have HN3 := Lib.hid n3
             clear hT3 hC3 hI3 z7 z7' n3 hs2 hs3 hz hT3' hC3'))
        have hz := HZ0.out
        have hset := chg3 (w3.alloc (endo (.int .i64 (x1 : Int)) (.int .i64 (x2 : Int)))) (w.heap.size + 1) (.int .i64 (m : Int)) (.int .i64 (x1 : Int)) (.int .i64 (x2 : Int))
        have hrow := row3 (w := w3.alloc (endo (.int .i64 (x1 : Int)) (.int .i64 (x2 : Int)))) HR3.out (.int .i64 (m : Int)) (.int .i64 (x1 : Int)) (.int .i64 (x2 : Int))
        have hT4 := HT3.out.chg hset (fun j hj e => by have e2 : j = w.heap.size + 1 := e; subst e2; exact HN3.out hj)
        have hC4 := HC3.out.trans hset (fun j e => .inl (.inr e))
        have hk0 : ((((w3.alloc (endo (.int .i64 (x1 : Int)) (.int .i64 (x2 : Int)))).setCell ⟨w.heap.size + 1, 0, none⟩ (.int .i64 (m : Int))).setCell ⟨w.heap.size + 1, 1, none⟩ (.int .i64 (x1 : Int))).setCell ⟨w.heap.size + 1, 2, none⟩ (.int .i64 (x2 : Int))).cell? ⟨w.heap.size + 1, 0, none⟩ = some (.int .i64 (m : Int)) := cell_of_row _ _ 0 _ _ (0, 0) hrow
        have HT4 := Lib.hid hT4
        have HC4 := Lib.hid hC4
        have HROW := Lib.hid hrow
        clear hrow hT4 hC4 hset
        go_roundw
        case rel =>
          refine ⟨m + 1, b, t + 1, O3, rfl, by omega, hcb, hb, by omega, Lib.hid hgm.out.1, HT4, HC4, HI3, Lib.hid ?_⟩
          rw [HSPL.out, HX12.out.1, HX12.out.2, show ((m + 1 : Nat) : Int) - 1 = (m : Int) by omega]
          exact HROW.out
        case measure =>
          rw [hk0, k0]
          have := HS.out
          simp only [intOf]
          omega
      · have hne : X.sg L m (X.pf m k) = [] := X.sc_no (by rw [HC.out]; omega) hm64
        rw [decide_eq_false (fun h => h hne)] at hask
        clear hne hte hx1 hx2 ha1 ha2
        generalize X.pf m k = q at *
        go_wp2_with (first
          | (go_at_call 137; (with_reducible refine (hpre _).out.mono ?_); rintro e w2 ⟨rfl, hb2⟩
             have h2 := hT.out.chg (K.Chg.of_below (O := fun _ => False) hb2) (fun _ _ h => h)
             have HA := Lib.hid ((hask w2 h2).out)
             have HB2 := Lib.hid hb2
             clear hb2 h2)
          | (go_at_call 122; (with_reducible refine HA.out.mono ?_); rintro e w3 ⟨rfl, O3, hT3, hC3, hI3⟩
             have hs2 := HB2.out.size
             have hs3 := hC3.size
             have hz := HZ0.out
             have z7 := (hC3.block (w.heap.size + 1) (by omega) hO7).trans ((HB2.out.block (w.heap.size + 1) (row_lt hR.out)).trans hR.out)
             have z7' : (w3.alloc (endo (.int .i64 (x1 : Int)) (.int .i64 (x2 : Int)))).heap[w.heap.size + 1]? = some (spo s e1 e2) := (Below.heap_alloc _ _ _ (row_lt z7)).trans (by rw [z7, HS.out])
             have n3 : ¬ O3 (w.heap.size + 1) := fun hj => by
               rcases hI3 _ hj with h | h
               · exact hO7 h
               · omega
             have y0 := frozen_of_row _ _ 0 _ _ z7'
             have y1 := frozen_of_row _ _ 1 _ _ z7'
             have y2 := frozen_of_row _ _ 2 _ _ z7'
             obtain ⟨v0, v1, v2⟩ := spo_cells z7'
             have hT3' := hT3.chg (chg_alloc w3 (endo (.int .i64 (x1 : Int)) (.int .i64 (x2 : Int))) (fun _ => False)) (fun _ _ h => h)
             have hC3' : K.Chg W0 (w3.alloc (endo (.int .i64 (x1 : Int)) (.int .i64 (x2 : Int)))) (fun j => O j ∨ j = w.heap.size + 1) := ((hCh.out.same (K.Chg.of_below HB2.out)).trans hC3 (fun j hj => (hI.out j hj).imp .inl id)).same (chg_alloc _ _ _)
             have HT3 := Lib.hid hT3'
             have HC3 := Lib.hid hC3'
             have HI3 : Hid (∀ j, O3 j → O j ∨ W0.heap.size ≤ j) := Lib.hid (fun j hj => by
               rcases hI3 j hj with h | h
               · exact hI.out j h
               · exact .inr (by omega))
             have HR3 := Lib.hid z7'
             have HN3 := Lib.hid n3
             clear hT3 hC3 hI3 z7 z7' n3 hs2 hs3 hz hT3' hC3'))
        have hk0 := cell_of_row _ _ 0 _ _ (0, 0) HR3.out
        have HS2 := HS.out
        go_roundw
        case rel =>
          refine ⟨a, m, t + 1, O3, rfl, hac, by omega, by omega, by omega, Lib.hid hgm.out.2, HT3, HC3, HI3, Lib.hid ?_⟩
          rw [hf1, hf2, HS.out]
          exact HR3.out
        case measure =>
          rw [k0, show (w3.alloc (endo (.int .i64 (x1 : Int)) (.int .i64 (x2 : Int)))).cell? ⟨w.heap.size + 1, 0, none⟩ = some (.int .i64 s) from hk0]
          simp only [intOf]
          omega
    · have hca : c = a := by omega
      have g1 : decide ((1 : Int) < (b : Int) - s) = false := decide_eq_false (by omega)
      have hn6 : w.heap.size ≠ w.heap.size + 1 := by omega
      have hO6 : ¬ (O w.heap.size ∨ w.heap.size = w.heap.size + 1) := fun h => by
        rcases h with h | h
        · have := HLT.out _ h; omega
        · omega
      have z6 := (hCh.out.block w.heap.size (by omega) hO6).trans R6.out
      have y0 := frozen_of_row wr _ 0 _ _ z6
      have y1 := frozen_of_row wr _ 1 _ _ z6
      have y2 := frozen_of_row wr _ 2 _ _ z6
      obtain ⟨v0, v1, v2⟩ := spo_cells z6
      have Z6 := Lib.hid z6
      have hO6' : ¬ O' w.heap.size := fun hj => by
        rcases hI.out _ hj with h | h
        · exact hO6 (.inl h)
        · omega
      have HO6 := Lib.hid hO6'
      have HCA := Lib.hid hca
      clear hs hca z6
      go_wp2
      have hset := chg3 wr w.heap.size (.int .i64 s) (.int .i64 (e1 : Int)) (.int .i64 (e2 : Int))
      have hrow := row3 Z6.out (.int .i64 s) (.int .i64 (e1 : Int)) (.int .i64 (e2 : Int))
      refine bodyPost_ret (spot_res rfl _ _ w.heap.size _ _ _ rfl hrow) rfl ⟨?_, t, ht, O', hT.out.chg hset (fun j hj e => by have e3 : j = w.heap.size := e; subst e3; exact HO6.out hj), ?_, fun j hj => ?_⟩
      · rw [HCA.out, hf1, hf2, HS.out]
      · have c1 := (K.Chg.of_below (O := O) HB0.out).trans hCh.out (fun j hj => hj.imp id (fun e => by omega))
        exact c1.trans hset (fun j e => .inr (by have e3 : j = w.heap.size := e; omega))
      · rcases hI.out j hj with h | h
        · exact .inl h
        · exact .inr (by omega)
/-- A set after a call that leaves it as it is. -/
theorem x_need (w : World) (Xb C Q M P lim tk : Nat) (xs : List Nat) (L : LL) (es : Es) (O : Nat → Prop) (h : XS w Xb C Q M P lim tk xs L es O) (k : Nat) (hk : k < 18446744073709551616) (hf : K.fo xs k = false) :
    Calls Tryz.prog 88 #[.pointer (some ⟨Xb, 0, none⟩), .int .u64 (k : Int)] w fun e w' => e = .returned (.int .i64 ((K.xfast (K.add xs k) - K.xfast xs : Nat) : Int)) ∧ XR w O Xb C Q M P lim tk L es w' := by
  have HS := Lib.hid (x_searchp w Xb C Q M P lim tk L es O h.xt h.te h.xt.places k)
  have hfs := X.fo_sc h.ks h.up k
  have hsl := X.sc_le L k
  have hv : (if X.sc L k = 65 then 0 else 66 - X.sc L k) = K.xfast (K.add xs k) - K.xfast xs := by
    rw [if_neg (fun e => by rw [hfs.2 e] at hf; cases hf)]
    have := X.xfast_add h.ks h.up h.keys hk (fun hm => by rw [(K.fo_mem h.up k).2 hm] at hf; cases hf)
    omega
  have hne := fun W a b => Lib.hid (x_needs W (X.sc L k) a b hsl)
  rw [hv] at hne
  have c0 := h.xt.c0
  clear h hfs hv
  generalize X.fst' (X.spl L k (X.sc L k)) = e1 at *
  generalize X.lst' (X.spl L k (X.sc L k)) = e2 at *
  go_enter Tryz.func88, Tryz.ntmps88
  go_wp2_with (first
    | (go_at_call 121; (with_reducible refine HS.out.mono ?_); rintro e w1 ⟨rfl, t, ht, hx1⟩
       have HX := Lib.hid hx1
       clear hx1)
    | (go_at_call 123; (with_reducible refine (hne _ e1 e2).out.mono ?_); rintro e w2 ⟨rfl, hb2⟩))
  go_ret
  exact ⟨rfl, HX.out.more hb2⟩
end
section
variable {w0 w : World} {O : Nat → Prop} {P M X T Q lim tk : Nat} {kn : Int} {rs : List Nat} {es : Es} {ns : List (Yp.Nd × Bool)} {fs : List Nat} {G : Nat → List Nat}
/-- What only asks the trie of representatives. -/
theorem YR.xask {f : FuncId} {args : Array Value} {v : Value} (h : YR w0 O P M X T Q lim tk kn rs es ns fs G w)
    (hc : ∀ r c OX, XG r c w X rs lim 2000000 OX → Calls Tryz.prog f args w fun e w' => e = .returned v ∧ ∃ OX', XG r c w' X rs lim 2000000 OX' ∧ K.Chg w w' OX ∧ ∀ j, OX' j → OX j ∨ w.heap.size ≤ j) :
    Calls Tryz.prog f args w fun e w' => e = .returned v ∧ YR w0 O P M X T Q lim tk kn rs es ns fs G w' := by
  obtain ⟨O', ⟨OX, r, c, seed, Qt, Mt, n, pr, An, cn, Af, cf, hb, rfl⟩, hC, hO⟩ := h
  refine (hc r c OX hb.xg).mono ?_
  rintro e w' ⟨he, OX', hx, b, hi⟩
  exact ⟨he, YR.step hC hO (hb.xx b hx hi) (b.mono (fun j h => .inr (.inr (.inl h)))) (xx_yw hi hC.size)⟩
theorem YR.xneed (h : YR w0 O P M X T Q lim tk kn rs es ns fs G w) (k : Nat) (hk : k < 18446744073709551616) (hf : K.fo rs k = false) :
    Calls Tryz.prog 88 #[.pointer (some ⟨X, 0, none⟩), .int .u64 (k : Int)] w fun e w' => e = .returned (.int .i64 ((K.xfast (K.add rs k) - K.xfast rs : Nat) : Int)) ∧ YR w0 O P M X T Q lim tk kn rs es ns fs G w' :=
  h.xask fun r c OX hx => by
    letI : Gh := ⟨r, c⟩
    obtain ⟨C, Q, M, P, L, es, hs⟩ := hx
    refine (x_need w X C Q M P lim 2000000 rs L es OX hs k hk hf).mono ?_
    rintro e w' ⟨he, O', hT, hC, hO⟩
    exact ⟨he, O', ⟨C, Q, M, P, L, es, hT, hs.te, hs.ks, hs.up, hs.cnt, hs.le, hs.max, hs.few⟩, hC, hO⟩
theorem YR.xused (h : YR w0 O P M X T Q lim tk kn rs es ns fs G w) :
    Calls Tryz.prog 41 #[.pointer (some ⟨X, 0, none⟩)] w fun e w' => e = .returned (.int .i64 (K.xfast rs : Int)) ∧ YR w0 O P M X T Q lim tk kn rs es ns fs G w' :=
  h.xask fun r c OX hx => by
    letI : Gh := ⟨r, c⟩
    have hx9 := hx
    obtain ⟨C, Q, M, P, L, es, hs⟩ := hx
    refine (x_used w X C Q M P lim 2000000 rs L es OX hs).mono ?_
    rintro e w' ⟨he, hb⟩
    exact ⟨he, OX, xg_chg hx9 (K.Chg.of_below (O := fun _ => False) hb) (fun _ _ h => h), K.Chg.of_below hb, fun j hj => .inl hj⟩
theorem YR.plen (h : YR w0 O P M X T Q lim tk kn rs es ns fs G w) :
    Calls Tryz.prog 42 #[.pointer (some ⟨Q, 0, none⟩)] w fun e w' => e = .returned (.int .i64 ((ns.length - fs.length : Nat) : Int)) ∧ YR w0 O P M X T Q lim tk kn rs es ns fs G w' :=
  h.ask fun An cn Af cf _ hp => (Yp.q_len w Q M lim cn cf An Af ns fs hp).mono (by rintro e w' ⟨he, n, rfl⟩; exact ⟨he, below_drewN (Below.refl _ w) n⟩)
theorem YR.keep (h : YR w0 O P M X T Q lim tk kn rs es ns fs G w) (i : Nat) (A : Option Addr) (n c : Nat) (ks : List Nat) (hi : Yp.lvq ns (i : Int) = true) (hk : KX w (.slice A n c) ks) :
    Calls Tryz.prog 51 #[.pointer (some ⟨P, 0, none⟩), .int .i64 (i : Int), .slice A n c] w fun e w' => e = .returned (.tuple #[]) ∧ YR w0 O P M X T Q lim tk kn rs es (Yp.setk ns i A n c) fs (upd G i ks) w' :=
  h.pool (fun O' j hj hT ht => by
    obtain ⟨k, e, hk0, e2⟩ := Yp.lvq_form hi
    obtain rfl : k = i := by omega
    have hx := List.getElem?_eq_getElem hj
    generalize (Yp.setk ns (k : Int) A n c)[j] = y at ht hx ⊢
    obtain ⟨y1, y2⟩ := y
    dsimp only at ht ⊢
    subst ht
    unfold Yp.setk at hx
    rw [if_pos hi, Int.toNat_natCast, List.getElem?_set] at hx
    unfold upd
    split at hx
    · rename_i hij
      injection hx with hx
      injection hx with hx _
      subst hx
      rw [if_pos hij.symm]
      exact hT.kfree_kx hk
    · rename_i hij
      rw [if_neg (fun e => hij e.symm)]
      exact hT.kfree_kx (hT.kx hx)) (fun An cn Af cf h3 hl hq hp hm => Yp.y_keep w P Q M lim cn cf An Af ns fs h3 hl hq hp i A n c)
theorem YR.keep_no (h : YR w0 O P M X T Q lim tk kn rs es ns fs G w) (i : Int) (A : Option Addr) (n c : Nat) (hi : Yp.lvq ns i = false) :
    Calls Tryz.prog 51 #[.pointer (some ⟨P, 0, none⟩), .int .i64 i, .slice A n c] w fun e w' => e = .returned (.tuple #[]) ∧ YR w0 O P M X T Q lim tk kn rs es ns fs G w' :=
  h.pool (fun O' j hj hT ht => hT.kfree hj ht) (fun An cn Af cf h3 hl hq hp hm => by
    have q := Yp.y_keep w P Q M lim cn cf An Af ns fs h3 hl hq hp i A n c
    unfold Yp.setk at q
    rw [if_neg (by rw [hi]; decide)] at q
    exact q)
end
end Go.Proofs.YtelfacchhclgnaaGreat
end
section
namespace Go.Proofs.YtelfacchhclgnaaGreat
set_option maxRecDepth 20000
open Go.RowKit
theorem y_few (w : World) (A : Option Addr) (a ca : Nat) (B : Option Addr) (b cb : Nat) (ha : a ≤ 1000) (hb : b ≤ 1000) :
    Calls Tryz.prog 98 #[.slice A a ca, .slice B b cb] w fun e w' => e = .returned (.bool (decide (a = 0 ∨ b = 0 ∨ a + b ≤ 64))) ∧ w' = w := by
  have hw : IntKind.i64.wrap ((a : Int) + (b : Int)) = (a : Int) + (b : Int) := IntWalk.i64_in _ (by omega)
  obtain ⟨p1, h1⟩ : ∃ p, ((a : Int) == 0) = p := ⟨_, rfl⟩
  obtain ⟨p2, h2⟩ : ∃ p, ((b : Int) == 0) = p := ⟨_, rfl⟩
  obtain ⟨p3, h3⟩ : ∃ p, decide ((a : Int) + (b : Int) ≤ 64) = p := ⟨_, rfl⟩
  have hv : decide (a = 0 ∨ b = 0 ∨ a + b ≤ 64) = (p1 || p2 || p3) := by
    rw [← h1, ← h2, ← h3, Bool.eq_iff_iff]
    simp
    omega
  rw [hv]
  clear hv
  cases p1 with
  | true =>
    go_enter Tryz.func98, Tryz.ntmps98
    go_wp2
    go_ret
    exact ⟨rfl, rfl⟩
  | false =>
    cases p2 with
    | true =>
      go_enter Tryz.func98, Tryz.ntmps98
      go_wp2
      go_ret
      exact ⟨rfl, rfl⟩
    | false =>
      go_enter Tryz.func98, Tryz.ntmps98
      go_wp2
      go_ret
      exact ⟨rfl, rfl⟩
/-- What is left of part. -/
def PartP (w : World) (v1 : Value) (rep : Nat) (A : Option Addr) (n c : Nat) (e : Ending) (w' : World) : Prop := e = .returned (.tuple #[v1, Yp.ndv rep A n c 0 0]) ∧ Below w.heap.size w w'
set_option maxHeartbeats 1000000 in
theorem y_part_no (w : World) (A : Option Addr) (n c : Nat) :
    Calls Tryz.prog 49 #[.int .i64 (-1), .slice A n c] w fun e w' => e = .returned (.tuple #[.slice none 0 0, Yp.ndv 0 A n c 0 0]) ∧ Below w.heap.size w w' := by
  go_enter Tryz.func49, Tryz.ntmps49
  go_wp2
  refine bodyPost_ret (find_res rfl _ _ w.heap.size _ _ _ _ _ rfl (K.alloc_top w _) rfl) rfl ⟨rfl, ?_⟩
  exact (Below.refl _ w).alloc (Nat.le_refl _) _
set_option maxHeartbeats 1000000 in
theorem y_part_all (w : World) (i : Nat) (A : Option Addr) (n c : Nat) (hn : n ≤ 128) :
    Calls Tryz.prog 49 #[.int .i64 (i : Int), .slice A n c] w fun e w' => e = .returned (.tuple #[.slice A n c, Yp.ndzv]) ∧ Below w.heap.size w w' := by
  have g0 : ((i : Int) == -1) = false := by rw [beq_eq_false_iff_ne]; omega
  have g1 : decide ((128 : Int) < (n : Int)) = false := decide_eq_false (by omega)
  have g2 : decide (128 < n) = false := decide_eq_false (by omega)
  go_enter Tryz.func49, Tryz.ntmps49
  go_wp2
  refine bodyPost_ret (find_res rfl _ _ w.heap.size _ _ _ _ _ rfl (K.alloc_top w _) rfl) rfl ⟨rfl, ?_⟩
  exact (Below.refl _ w).alloc (Nat.le_refl _) _
set_option maxHeartbeats 2000000 in
theorem y_part_two (w : World) (i : Nat) (A : Option Addr) (c : Nat) (xs : List Nat) (h : KX w (.slice A xs.length c) xs) (few : xs.length ≤ 1000) (hn : 128 < xs.length) (y : Nat) (ys : List Nat) (hy : xs.drop (xs.length - xs.length / 2) = y :: ys) :
    Calls Tryz.prog 49 #[.int .i64 (i : Int), .slice A xs.length c] w fun e w' => ∃ A1 c1 A2 c2, e = .returned (.tuple #[.slice A1 (xs.take (xs.length - xs.length / 2)).length c1, Yp.ndv y A2 (ys.length + 1) c2 0 0]) ∧ KX w' (.slice A1 (xs.take (xs.length - xs.length / 2)).length c1) (xs.take (xs.length - xs.length / 2)) ∧ KX w' (.slice A2 (ys.length + 1) c2) (y :: ys) ∧ Below w.heap.size w w' := by
  have hb : Below w.heap.size w (w.alloc Yp.ndzo) := (Below.refl _ w).alloc (Nat.le_refl _) _
  have HS := Lib.hid (Kb.b_split (w.alloc Yp.ndzo) _ xs (h.below hb) (by omega))
  rw [show Kb.SplitP (w.alloc Yp.ndzo) xs = fun e w' => ∃ v1 v2, e = .returned (.tuple #[v1, v2]) ∧ Kb.KN (w.alloc Yp.ndzo) w' v1 (xs.take (xs.length - xs.length / 2)) ∧ Kb.KN (w.alloc Yp.ndzo) w' v2 (xs.drop (xs.length - xs.length / 2)) ∧ Below (w.alloc Yp.ndzo).heap.size (w.alloc Yp.ndzo) w' from rfl, hy] at HS
  have hz : Hid ((w.alloc Yp.ndzo).heap[w.heap.size]? = some Yp.ndzo) := Lib.hid (K.alloc_top w Yp.ndzo)
  have HB := Lib.hid hb
  clear hb h hy
  generalize xs.take (xs.length - xs.length / 2) = X1 at *
  generalize xs.length = n at *
  have g0 : ((i : Int) == -1) = false := by rw [beq_eq_false_iff_ne]; omega
  have g1 : decide ((128 : Int) < (n : Int)) = true := decide_eq_true (by omega)
  have g2 : decide (128 < n) = true := decide_eq_true (by omega)
  go_enter Tryz.func49, Tryz.ntmps49
  go_wp2_with (go_at_call 87; (with_reducible refine HS.out.mono ?_); rintro e w1 ⟨v1, v2, rfl, k1, k2, hb1⟩
               have e1 := k1.kx
               have e2 := k2.kx
               obtain ⟨A1, c1, rfl, _, _⟩ := Kb.kx_rh e1
               obtain ⟨A2, c2, rfl, _, _⟩ := Kb.kx_rh e2
               have hl2 : decide ((0 : Int) < ((y :: ys).length : Int)) = true := (by simp)
               obtain ⟨g, cap, hv, hc, hg, hcells⟩ := (e2.form).resolve_left (fun e => by cases e.2)
               have n2 := k2.new (g := g) (by rw [hv]; rfl)
               have cy := hcells 0 (by simp)
               injection hv with hA2 hn2 hc2
               subst hA2
               simp at cy
               have p5 := (hb1.block w.heap.size (by simp)).trans hz.out
               have f50 := frozen_of_row _ _ 0 _ _ p5
               have f51 := frozen_of_row _ _ 1 _ _ p5
               have f52 := frozen_of_row _ _ 2 _ _ p5
               have f53 := frozen_of_row _ _ 3 _ _ p5
               obtain ⟨k50, k51, k52, k53⟩ := Yp.nd_cells p5
               have hgn : g ≠ w.heap.size := fun e => (by have := n2.1; simp at this; omega)
               have P5 := Lib.hid p5
               have N12 := Lib.hid n2
               have E1 := Lib.hid e1
               have E2 := Lib.hid e2
               have HB1 := Lib.hid hb1
               clear n2 e1 e2 hb1 p5 k1 k2 hcells)
  go_region
  all_goals
    go_wp2
    have hrow := Yp.row_z5 P5.out (.int .u64 (y : Int)) (.slice (some ⟨g, 0, none⟩) (ys.length + 1) cap) (.int .i64 0) (.int .i64 0)
    have hch := Yp.chg_five w1 w.heap.size 0 1 2 3 (.int .u64 (y : Int)) (.slice (some ⟨g, 0, none⟩) (ys.length + 1) cap) (.int .i64 0) (.int .i64 0) (· = w.heap.size) rfl
    refine bodyPost_ret (find_res rfl _ _ w.heap.size _ _ _ _ _ rfl hrow rfl) rfl ⟨A1, c1, _, cap, rfl, ?_, ?_, ?_⟩
    · exact kx_chg E1.out (hch.drewN 1) (fun j hj => (kx_bt E1.out hj).ne ⟨_, P5.out⟩ (by decide))
    · have E3 : KX w1 (.slice (some ⟨g, 0, none⟩) (ys.length + 1) cap) (y :: ys) := by rw [← hc2]; exact E2.out
      exact kx_chg E3 (hch.drewN 1) (fun j hj => (kx_bt E3 hj).ne ⟨_, P5.out⟩ (by decide))
    · have h1 : Below w.heap.size w w1 := HB.out.trans (HB1.out.mono (by simp))
      exact ((((h1.setCell (by simp) _).setCell (by simp) _).setCell (by simp) _).setCell (by simp) _).drew
end Go.Proofs.YtelfacchhclgnaaGreat
end
section
namespace Go.Proofs.YtelfacchhclgnaaGreat
set_option maxRecDepth 20000
open Go.RowKit
section
variable {w0 w : World} {O : Nat → Prop} {P M X T Q lim tk : Nat} {kn : Int} {rs : List Nat} {es : Es} {ns : List (Yp.Nd × Bool)} {fs : List Nat} {G : Nat → List Nat}
theorem YR.bounds (h : YR w0 O P M X T Q lim tk kn rs es ns fs G w) : K.Up rs ∧ (∀ x ∈ rs, x < 18446744073709551616) ∧ K.xfast rs ≤ lim ∧ lim ≤ 500000 ∧ ns.length ≤ lim ∧ fs.length ≤ ns.length := by
  obtain ⟨O', ⟨OX, r, c, seed, Qt, Mt, n, pr, An, cn, Af, cf, hb, rfl⟩, hC, hO⟩ := h
  obtain ⟨q1, q2, q3, q4⟩ := xg_up hb.xg
  exact ⟨q1, q2, q3, q4, hb.po.ns_le, hb.po.fs_le⟩
set_option maxHeartbeats 1000000 in
theorem YR.needs_no (h : YR w0 O P M X T Q lim tk kn rs es ns fs G w) (rep : Nat) (A : Option Addr) (c : Nat) (ah be : Int) :
    Calls Tryz.prog 50 #[.pointer (some ⟨P, 0, none⟩), Yp.ndv rep A 0 c ah be] w fun e w' => e = .returned (.int .i64 1) ∧ YR w0 O P M X T Q lim tk kn rs es ns fs G w' := by
  have H := Lib.hid (h.below ((Below.refl _ w).alloc (Nat.le_refl _) (Yp.ndo rep A 0 c ah be)))
  have k1 : (w.alloc (Yp.ndo rep A 0 c ah be)).cell? ⟨w.heap.size, 1, none⟩ = some (.slice A 0 c) := (Yp.nd_cells (K.alloc_top w _)).2.1
  clear h
  go_enter Tryz.func50, Tryz.ntmps50
  go_wp2
  go_ret
  exact ⟨rfl, H.out⟩
set_option maxHeartbeats 1000000 in
theorem needs_yes_T (h : YT w P M X T Q lim tk kn rs es ns fs G O) (rep : Nat) (hrep : rep < 18446744073709551616) (A : Option Addr) (n c : Nat) (ah be : Int) (hn : 0 < n) (hnc : n ≤ 1000) (hf : K.fo rs rep = false) (hz : K.xfast (K.add rs rep) ≤ 1000000) :
    Calls Tryz.prog 50 #[.pointer (some ⟨P, 0, none⟩), Yp.ndv rep A n c ah be] w fun e w' => e = .returned (.int .i64 ((K.xfast (K.add rs rep) - K.xfast rs + 2 : Nat) : Int)) ∧ YR w O P M X T Q lim tk kn rs es ns fs G w' := by
  have hb : Below w.heap.size w (w.alloc (Yp.ndo rep A n c ah be)) := (Below.refl _ w).alloc (Nat.le_refl _) _
  have h1 := YR.start (h.below hb)
  have h2 : YR (w.alloc (Yp.ndo rep A n c ah be)) O P M X T Q lim tk kn rs es ns fs G (w.alloc (Yp.ndo rep A n c ah be)).drew := h1.drewN 1
  have hn0 : ¬ O w.heap.size := fun ho => by have := h.lt.1 _ ho; omega
  have r5 : (w.alloc (Yp.ndo rep A n c ah be)).heap[w.heap.size]? = some (Yp.ndo rep A n c ah be) := K.alloc_top w _
  have k1 : (w.alloc (Yp.ndo rep A n c ah be)).cell? ⟨w.heap.size, 1, none⟩ = some (.slice A n c) := (Yp.nd_cells r5).2.1
  have k0 : (w.alloc (Yp.ndo rep A n c ah be)).drew.cell? ⟨w.heap.size, 0, none⟩ = some (.int .u64 (rep : Int)) := (Yp.nd_cells r5).1
  have HS0 := Lib.hid (And.intro h2.c1 k0)
  have HN := Lib.hid hn0
  have R5 := Lib.hid r5
  have HB := Lib.hid hb
  have HX := Lib.hid (h2.xneed rep hrep hf)
  have g1 : ((n : Int) == 0) = false := by rw [beq_eq_false_iff_ne]; omega
  obtain ⟨q, hq⟩ : ∃ q, K.xfast (K.add rs rep) - K.xfast rs = q := ⟨_, rfl⟩
  rw [hq] at HX ⊢
  have hw : IntKind.i64.wrap ((q : Int) + 2) = ((q + 2 : Nat) : Int) := by rw [IntWalk.i64_in _ (by omega)]; omega
  clear h h1 h2 k0 hz hn0 r5 hb
  go_enter Tryz.func50, Tryz.ntmps50
  go_wp2
  go_region_held3 (fun Y => Y.cell? ⟨P, 1, none⟩ = some (.pointer (some ⟨X, 0, none⟩)) ∧ Y.cell? ⟨w.heap.size, 0, none⟩ = some (.int .u64 (rep : Int))) (first | (with_reducible exact HS0.out) | (with_reducible exact HS1.out) | go_keep)
    ((go_at_call 88; (with_reducible refine HX.out.mono ?_); rintro e w1 ⟨rfl, h1⟩
      have HS1 := Lib.hid (And.intro h1.c1 (Yp.nd_cells ((h1.same (row_lt R5.out) HN.out).trans R5.out)).1)
      have H1 := Lib.hid h1
      clear h1))
  all_goals
    go_wp2
    go_ret
    exact ⟨rfl, YR.trans (K.Chg.of_below HB.out) (fun j hj => .inl hj) H1.out⟩
theorem YR.needs_yes (h : YR w0 O P M X T Q lim tk kn rs es ns fs G w) (rep : Nat) (hrep : rep < 18446744073709551616) (A : Option Addr) (n c : Nat) (ah be : Int) (hn : 0 < n) (hnc : n ≤ 1000) (hf : K.fo rs rep = false) (hz : K.xfast (K.add rs rep) ≤ 1000000) :
    Calls Tryz.prog 50 #[.pointer (some ⟨P, 0, none⟩), Yp.ndv rep A n c ah be] w fun e w' => e = .returned (.int .i64 ((K.xfast (K.add rs rep) - K.xfast rs + 2 : Nat) : Int)) ∧ YR w0 O P M X T Q lim tk kn rs es ns fs G w' := by
  obtain ⟨O', hT, hC, hO⟩ := h
  refine (needs_yes_T hT rep hrep A n c ah be hn hnc hf hz).mono ?_
  rintro e w' ⟨he', hy⟩
  exact ⟨he', YR.trans hC hO hy⟩
set_option maxHeartbeats 2000000 in
theorem YR.used (h : YR w0 O P M X T Q lim tk kn rs es ns fs G w) (k : Nat) (hk : kn = (k : Int)) (hkl : k ≤ 1000000) :
    Calls Tryz.prog 12 #[.pointer (some ⟨P, 0, none⟩)] w fun e w' => e = .returned (.int .i64 ((K.xfast rs + (ns.length - fs.length) + k : Nat) : Int)) ∧ YR w0 O P M X T Q lim tk kn rs es ns fs G w' := by
  subst hk
  obtain ⟨_, _, b1, b2, b3, b4⟩ := h.bounds
  have h2 : YR w0 O P M X T Q lim tk (k : Int) rs es ns fs G w.drew := h.drewN 1
  have HS0 := Lib.hid (And.intro h2.c1 (And.intro h2.c3 h2.c4))
  have HX := Lib.hid h2.xused
  have HL := Lib.hid h2.plen
  obtain ⟨q, hq⟩ : ∃ q, ns.length - fs.length = q := ⟨_, rfl⟩
  have HQ := Lib.hid hq
  rw [hq] at HL ⊢
  obtain ⟨u, hu⟩ : ∃ u, K.xfast rs = u := ⟨_, rfl⟩
  have HU := Lib.hid hu
  rw [hu] at HX b1 ⊢
  obtain ⟨s, hs⟩ : ∃ s, u + q + k = s := ⟨_, rfl⟩
  rw [hs]
  have w1 : IntKind.i64.wrap ((u : Int) + (q : Int)) = (u : Int) + (q : Int) := IntWalk.i64_in _ (by omega)
  have w2 : IntKind.i64.wrap ((u : Int) + (q : Int) + (k : Int)) = (s : Int) := by rw [IntWalk.i64_in _ (by omega)]; omega
  clear h h2 hq hu
  go_enter Tryz.func12, Tryz.ntmps12
  go_wp2
  go_region_held3 (fun Y => Y.cell? ⟨P, 1, none⟩ = some (.pointer (some ⟨X, 0, none⟩)) ∧ Y.cell? ⟨P, 3, none⟩ = some (.pointer (some ⟨Q, 0, none⟩)) ∧ Y.cell? ⟨P, 4, none⟩ = some (.int .i64 (k : Int))) (first | (with_reducible exact HS0.out) | (with_reducible exact HS1.out) | (with_reducible exact HS2.out) | go_keep) (first
    | (go_at_call 41; (with_reducible refine HX2.out.mono ?_); rintro e w2 ⟨rfl, h2⟩
       have HS2 := Lib.hid (And.intro h2.c1 (And.intro h2.c3 h2.c4))
       have H2 := Lib.hid h2
       clear h2)
    | (go_at_call 42; (with_reducible refine HL2.out.mono ?_); rintro e w2 ⟨rfl, h2⟩
       have HS2 := Lib.hid (And.intro h2.c1 (And.intro h2.c3 h2.c4))
       have H2 := Lib.hid h2
       clear h2)
    | (go_at_call 41; (with_reducible refine HX.out.mono ?_); rintro e w1 ⟨rfl, h1⟩
       have HS1 := Lib.hid (And.intro h1.c1 (And.intro h1.c3 h1.c4))
       have q1 := h1.plen
       rw [HQ.out] at q1
       have HL2 := Lib.hid q1
       clear h1 q1)
    | (go_at_call 42; (with_reducible refine HL.out.mono ?_); rintro e w1 ⟨rfl, h1⟩
       have HS1 := Lib.hid (And.intro h1.c1 (And.intro h1.c3 h1.c4))
       have q1 := h1.xused
       rw [HU.out] at q1
       have HX2 := Lib.hid q1
       clear h1 q1))
  all_goals
    go_wp2
    go_ret
    exact ⟨rfl, H2.out⟩
end
end Go.Proofs.YtelfacchhclgnaaGreat
end
