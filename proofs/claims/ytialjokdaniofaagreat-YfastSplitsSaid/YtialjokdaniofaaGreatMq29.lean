/- The trie's steps are counted over; the text walked, for each function that is carried. A y-fast trie in memory: its parts, what is apart, what stays. -/
import Derived.Test.YtialjokdaniofaaGreatMq28
section
namespace Go.Proofs.YtialjokdaniofaaGreat
set_option maxRecDepth 20000
open Go.RowKit
set_option maxHeartbeats 4000000 in
theorem y_carry_find (w : World) (P M X tk N lim : Nat) (vT vQ vK vL : Value) (r c : Int) (rs : List Nat) (OX : Nat → Prop) (a0 a1 a2 a3 : Value) (R : World → Prop)
    (hP : w.heap[P]? = some (.cells #[.pointer (some ⟨M, 0, none⟩), .pointer (some ⟨X, 0, none⟩), vT, vQ, vK, vL] 45 (0, 0))) (htk : tk ≤ 100) (hN : N ≤ 900000) (hx : XG r c w X rs lim 2000000 OX)
    (hF : ∀ W, (∃ n, W = w.drewN n) → Calls Tryz.prog 81 #[a0, a1, a2, a3] W fun e w2 => e = .returned (.tuple #[]) ∧ R w2 ∧ (∃ rs' t OX', (t ≤ N ∨ t = 2000000) ∧ XG r c w2 X rs' lim t OX' ∧ ¬ OX' M) ∧ w2.heap[P]? = w.heap[P]? ∧ Yp.Mx w2 M tk) :
    Calls Tryz.prog 80 #[.pointer (some ⟨P, 0, none⟩), .func (.func 81) #[] #[a0, a1, a2, a3]] w fun e w' => e = .returned (.tuple #[]) ∧ ∃ w2 t, R w2 ∧ t ≤ N ∧ K.Chg w2 w' (· = M) ∧ Yp.Mx w' M (tk + t) := by
  obtain ⟨m, r0, c0, s, t, p, x0, hr, _, _, he, _⟩ := xg_now hx
  obtain ⟨rfl, rfl⟩ := he rfl
  have c0' := cell_of_row w P 0 _ _ (0, 0) hP
  have c1 := cell_of_row w P 1 _ _ (0, 0) hP
  simp at c0' c1
  have HR := Lib.hid hr
  have HP := Lib.hid hP
  have HF := Lib.hid hF
  clear hP hx hF he hr
  go_enter Tryz.func80, Tryz.ntmps80
  go_wp2
  go_quiet (first
    | (go_at_call 112; refine Calls.quiet_of_same (m_reads _ _ _ _ _ _ _ HR.out))
    | (go_at_call 113; refine Calls.quiet_of_same (m_calls _ _ _ _ _ _ _ HR.out)))
  go_wp2_with (first
    | (go_at_call 81; (with_reducible refine (HF.out _ ⟨_, rfl⟩).mono ?_); rintro e w2 ⟨rfl, hR, ⟨rs', u, OX', hu, hxg, hnm⟩, hp2, hm2⟩
       obtain ⟨m2, r2, k2, s2, t2, p2, a, b, x2, hr2, hs, wa, wb, hOm, hOX⟩ := xg_delta hxg hu hN
       rw [HP.out] at hp2
       have d0 := cell_of_row w2 P 0 _ _ (0, 0) hp2
       have d1 := cell_of_row w2 P 1 _ _ (0, 0) hp2
       simp at d0 d1
       have hpm : P ≠ M := (by obtain ⟨_, _, _, _, hmr⟩ := hm2; exact row_ne hp2 hmr (by decide))
       have hpl : P < w2.heap.size := row_lt hp2
       have hml : m2 < w2.heap.size := row_lt hr2
       have hmm : m2 ≠ M := (fun e => hnm (e ▸ hOm))
       have hxm : X ≠ M := (fun e => hnm (e ▸ hOX))
       have hxl : X < w2.heap.size := xg_lt hxg X hOX
       have HRR := Lib.hid hR
       have HM2 := Lib.hid hm2
       have HR2 := Lib.hid hr2
       have HU : Hid (a + b ≤ N) := Lib.hid hs
       have HD0 := Lib.hid d0
       have HD1 := Lib.hid d1
       have HX2 := Lib.hid x2
       have HNE := Lib.hid (And.intro hpm (And.intro hpl (And.intro hml (And.intro hmm (And.intro hxm hxl)))))
       have hwa : IntKind.i64.wrap (a : Int) = (a : Int) := IntWalk.i64_in _ (by omega)
       have hwb : IntKind.i64.wrap (b : Int) = (b : Int) := IntWalk.i64_in _ (by omega)
       clear hR hxg hnm hp2 hm2 hr2 hu hs hpm hpl hml hmm hxm hxl hOm hOX)
    | (go_at_call 112; (with_reducible refine (m_reads _ _ _ _ _ _ _ HR2.out).mono ?_); rintro e w' ⟨rfl, hw⟩; replace hw := hw.symm; subst hw))
  clear d0 d1 x2
  go_loopw [34] (fun vi wr => ∃ i : Nat, i ≤ a ∧ vi = .int .i64 (i : Int) ∧ Hid (Yp.Mx wr M (tk + i)) ∧ Hid (K.Chg w2 wr (· = M))) (fun vi _ => a - (intOf vi).toNat)
  case atStart => exact ⟨0, Nat.zero_le _, rfl, HM2, Lib.hid (chg_refl w2 _)⟩
  case round =>
    clear HM2
    obtain ⟨i, hi, rfl, HM, HC⟩ := hrel
    have q0 := (HC.out.cell HNE.out.2.1 HNE.out.1 0).trans HD0.out
    by_cases hlt : i < a
    · have hd : decide ((i : Int) < (a : Int)) = true := decide_eq_true (by omega)
      have hd2 : decide (i < a) = true := decide_eq_true hlt
      have hU := HU.out
      go_wp2_with (go_at_call 114; (with_reducible refine (Yp.x_read _ M (tk + i) HM.out (by omega)).mono ?_); rintro e w3 ⟨rfl, hm3, hc3⟩; have HM3 := Lib.hid hm3; have HC3 := Lib.hid hc3; clear hm3 hc3)
      go_roundw
      case rel => exact ⟨i + 1, by omega, by go_num, Lib.hid (show Yp.Mx w3 M (tk + (i + 1)) from HM3.out), Lib.hid (HC.out.same HC3.out)⟩
      case measure => simp [intOf]; omega
    · obtain rfl : i = a := by omega
      have hd : decide ((i : Int) < (i : Int)) = false := decide_eq_false (by omega)
      have q1 := (HC.out.cell HNE.out.2.1 HNE.out.1 1).trans HD1.out
      have q2 := (HC.out.cell HNE.out.2.2.2.2.2 HNE.out.2.2.2.2.1 0).trans HX2.out
      have hr3 := (HC.out.block m2 HNE.out.2.2.1 HNE.out.2.2.2.1).trans HR2.out
      have HR3 := Lib.hid hr3
      clear hr3
      go_wp2_with (go_at_call 113; (with_reducible refine (m_calls _ _ _ _ _ _ _ HR3.out).mono ?_); rintro e w' ⟨rfl, hw⟩; replace hw := hw.symm; subst hw)
      clear q0 q1 q2
      go_loopw [52] (fun vi wr => ∃ j : Nat, j ≤ b ∧ vi = .int .i64 (j : Int) ∧ Hid (Yp.Mx wr M (tk + i + j)) ∧ Hid (K.Chg w2 wr (· = M))) (fun vi _ => b - (intOf vi).toNat)
      case atStart => exact ⟨0, Nat.zero_le _, rfl, HM, HC⟩
      case round =>
        clear HM HC HR3
        obtain ⟨j, hj, rfl, HM, HC⟩ := hrel
        have q0 := (HC.out.cell HNE.out.2.1 HNE.out.1 0).trans HD0.out
        by_cases hlt : j < b
        · have hd : decide ((j : Int) < (b : Int)) = true := decide_eq_true (by omega)
          have hd2 : decide (j < b) = true := decide_eq_true hlt
          have hU := HU.out
          go_wp2_with (go_at_call 83; (with_reducible refine (Yp.x_call _ M (tk + i + j) HM.out (by omega)).mono ?_); rintro e w3 ⟨rfl, hm3, hc3⟩; have HM3 := Lib.hid hm3; have HC3 := Lib.hid hc3; clear hm3 hc3)
          go_roundw
          case rel => exact ⟨j + 1, by omega, by go_num, Lib.hid (show Yp.Mx w3 M (tk + i + (j + 1)) from HM3.out), Lib.hid (HC.out.same HC3.out)⟩
          case measure => simp [intOf]; omega
        · obtain rfl : j = b := by omega
          have hd : decide ((j : Int) < (j : Int)) = false := decide_eq_false (by omega)
          go_wp2
          go_end0
          exact ⟨rfl, w2, i + j, HRR.out, HU.out, HC.out, by rw [← Nat.add_assoc]; exact HM.out⟩
set_option maxHeartbeats 4000000 in
theorem y_carry_begin (w : World) (P M X tk N lim : Nat) (vT vQ vK vL : Value) (r c : Int) (rs : List Nat) (OX : Nat → Prop) (a0 a1 : Value) (R : World → Prop)
    (hP : w.heap[P]? = some (.cells #[.pointer (some ⟨M, 0, none⟩), .pointer (some ⟨X, 0, none⟩), vT, vQ, vK, vL] 45 (0, 0))) (htk : tk ≤ 100) (hN : N ≤ 900000) (hx : XG r c w X rs lim 2000000 OX)
    (hF : ∀ W, (∃ n, W = w.drewN n) → Calls Tryz.prog 96 #[a0, a1] W fun e w2 => e = .returned (.tuple #[]) ∧ R w2 ∧ (∃ rs' t OX', (t ≤ N ∨ t = 2000000) ∧ XG r c w2 X rs' lim t OX' ∧ ¬ OX' M) ∧ w2.heap[P]? = w.heap[P]? ∧ Yp.Mx w2 M tk) :
    Calls Tryz.prog 80 #[.pointer (some ⟨P, 0, none⟩), .func (.func 96) #[] #[a0, a1]] w fun e w' => e = .returned (.tuple #[]) ∧ ∃ w2 t, R w2 ∧ t ≤ N ∧ K.Chg w2 w' (· = M) ∧ Yp.Mx w' M (tk + t) := by
  obtain ⟨m, r0, c0, s, t, p, x0, hr, _, _, he, _⟩ := xg_now hx
  obtain ⟨rfl, rfl⟩ := he rfl
  have c0' := cell_of_row w P 0 _ _ (0, 0) hP
  have c1 := cell_of_row w P 1 _ _ (0, 0) hP
  simp at c0' c1
  have HR := Lib.hid hr
  have HP := Lib.hid hP
  have HF := Lib.hid hF
  clear hP hx hF he hr
  go_enter Tryz.func80, Tryz.ntmps80
  go_wp2
  go_quiet (first
    | (go_at_call 112; refine Calls.quiet_of_same (m_reads _ _ _ _ _ _ _ HR.out))
    | (go_at_call 113; refine Calls.quiet_of_same (m_calls _ _ _ _ _ _ _ HR.out)))
  go_wp2_with (first
    | (go_at_call 96; (with_reducible refine (HF.out _ ⟨_, rfl⟩).mono ?_); rintro e w2 ⟨rfl, hR, ⟨rs', u, OX', hu, hxg, hnm⟩, hp2, hm2⟩
       obtain ⟨m2, r2, k2, s2, t2, p2, a, b, x2, hr2, hs, wa, wb, hOm, hOX⟩ := xg_delta hxg hu hN
       rw [HP.out] at hp2
       have d0 := cell_of_row w2 P 0 _ _ (0, 0) hp2
       have d1 := cell_of_row w2 P 1 _ _ (0, 0) hp2
       simp at d0 d1
       have hpm : P ≠ M := (by obtain ⟨_, _, _, _, hmr⟩ := hm2; exact row_ne hp2 hmr (by decide))
       have hpl : P < w2.heap.size := row_lt hp2
       have hml : m2 < w2.heap.size := row_lt hr2
       have hmm : m2 ≠ M := (fun e => hnm (e ▸ hOm))
       have hxm : X ≠ M := (fun e => hnm (e ▸ hOX))
       have hxl : X < w2.heap.size := xg_lt hxg X hOX
       have HRR := Lib.hid hR
       have HM2 := Lib.hid hm2
       have HR2 := Lib.hid hr2
       have HU : Hid (a + b ≤ N) := Lib.hid hs
       have HD0 := Lib.hid d0
       have HD1 := Lib.hid d1
       have HX2 := Lib.hid x2
       have HNE := Lib.hid (And.intro hpm (And.intro hpl (And.intro hml (And.intro hmm (And.intro hxm hxl)))))
       have hwa : IntKind.i64.wrap (a : Int) = (a : Int) := IntWalk.i64_in _ (by omega)
       have hwb : IntKind.i64.wrap (b : Int) = (b : Int) := IntWalk.i64_in _ (by omega)
       clear hR hxg hnm hp2 hm2 hr2 hu hs hpm hpl hml hmm hxm hxl hOm hOX)
    | (go_at_call 112; (with_reducible refine (m_reads _ _ _ _ _ _ _ HR2.out).mono ?_); rintro e w' ⟨rfl, hw⟩; replace hw := hw.symm; subst hw))
  clear d0 d1 x2
  go_loopw [34] (fun vi wr => ∃ i : Nat, i ≤ a ∧ vi = .int .i64 (i : Int) ∧ Hid (Yp.Mx wr M (tk + i)) ∧ Hid (K.Chg w2 wr (· = M))) (fun vi _ => a - (intOf vi).toNat)
  case atStart => exact ⟨0, Nat.zero_le _, rfl, HM2, Lib.hid (chg_refl w2 _)⟩
  case round =>
    clear HM2
    obtain ⟨i, hi, rfl, HM, HC⟩ := hrel
    have q0 := (HC.out.cell HNE.out.2.1 HNE.out.1 0).trans HD0.out
    by_cases hlt : i < a
    · have hd : decide ((i : Int) < (a : Int)) = true := decide_eq_true (by omega)
      have hd2 : decide (i < a) = true := decide_eq_true hlt
      have hU := HU.out
      go_wp2_with (go_at_call 114; (with_reducible refine (Yp.x_read _ M (tk + i) HM.out (by omega)).mono ?_); rintro e w3 ⟨rfl, hm3, hc3⟩; have HM3 := Lib.hid hm3; have HC3 := Lib.hid hc3; clear hm3 hc3)
      go_roundw
      case rel => exact ⟨i + 1, by omega, by go_num, Lib.hid (show Yp.Mx w3 M (tk + (i + 1)) from HM3.out), Lib.hid (HC.out.same HC3.out)⟩
      case measure => simp [intOf]; omega
    · obtain rfl : i = a := by omega
      have hd : decide ((i : Int) < (i : Int)) = false := decide_eq_false (by omega)
      have q1 := (HC.out.cell HNE.out.2.1 HNE.out.1 1).trans HD1.out
      have q2 := (HC.out.cell HNE.out.2.2.2.2.2 HNE.out.2.2.2.2.1 0).trans HX2.out
      have hr3 := (HC.out.block m2 HNE.out.2.2.1 HNE.out.2.2.2.1).trans HR2.out
      have HR3 := Lib.hid hr3
      clear hr3
      go_wp2_with (go_at_call 113; (with_reducible refine (m_calls _ _ _ _ _ _ _ HR3.out).mono ?_); rintro e w' ⟨rfl, hw⟩; replace hw := hw.symm; subst hw)
      clear q0 q1 q2
      go_loopw [52] (fun vi wr => ∃ j : Nat, j ≤ b ∧ vi = .int .i64 (j : Int) ∧ Hid (Yp.Mx wr M (tk + i + j)) ∧ Hid (K.Chg w2 wr (· = M))) (fun vi _ => b - (intOf vi).toNat)
      case atStart => exact ⟨0, Nat.zero_le _, rfl, HM, HC⟩
      case round =>
        clear HM HC HR3
        obtain ⟨j, hj, rfl, HM, HC⟩ := hrel
        have q0 := (HC.out.cell HNE.out.2.1 HNE.out.1 0).trans HD0.out
        by_cases hlt : j < b
        · have hd : decide ((j : Int) < (b : Int)) = true := decide_eq_true (by omega)
          have hd2 : decide (j < b) = true := decide_eq_true hlt
          have hU := HU.out
          go_wp2_with (go_at_call 83; (with_reducible refine (Yp.x_call _ M (tk + i + j) HM.out (by omega)).mono ?_); rintro e w3 ⟨rfl, hm3, hc3⟩; have HM3 := Lib.hid hm3; have HC3 := Lib.hid hc3; clear hm3 hc3)
          go_roundw
          case rel => exact ⟨j + 1, by omega, by go_num, Lib.hid (show Yp.Mx w3 M (tk + i + (j + 1)) from HM3.out), Lib.hid (HC.out.same HC3.out)⟩
          case measure => simp [intOf]; omega
        · obtain rfl : j = b := by omega
          have hd : decide ((j : Int) < (j : Int)) = false := decide_eq_false (by omega)
          go_wp2
          go_end0
          exact ⟨rfl, w2, i + j, HRR.out, HU.out, HC.out, by rw [← Nat.add_assoc]; exact HM.out⟩
end Go.Proofs.YtialjokdaniofaaGreat
end
section
namespace Go.Proofs.YtialjokdaniofaaGreat
set_option maxRecDepth 20000
open Go.RowKit
/-- The blocks of its lists of keys. -/
def KBl (ns : List (Yp.Nd × Bool)) (j : Nat) : Prop := ∃ x ∈ ns, x.2 = true ∧ x.1.ksA.map (·.block) = some j
abbrev yrow (P M X T Q lim : Nat) (kn : Int) : Obj := .cells #[.pointer (some ⟨M, 0, none⟩), .pointer (some ⟨X, 0, none⟩), .pointer (some ⟨T, 0, none⟩), .pointer (some ⟨Q, 0, none⟩), .int .i64 kn, .int .i64 (lim : Int)] 45 (0, 0)
abbrev ksl (x : Yp.Nd) : Value := .slice x.ksA x.ksn x.ksc
structure YB (w : World) (P M X T Q lim tk : Nat) (kn : Int) (rs : List Nat) (es : Es) (ns : List (Yp.Nd × Bool)) (fs : List Nat) (G : Nat → List Nat) (OX : Nat → Prop) (r c : Int) (seed Qt Mt n pr : Nat) (An : Option Addr) (cn : Nat) (Af : Option Addr) (cf : Nat) : Prop where
  row : w.heap[P]? = some (yrow P M X T Q lim kn)
  mx : Yp.Mx w M tk
  xg : XG r c w X rs lim 2000000 OX
  tab : Hs.Tab w T Qt Mt seed n es pr 0
  po : Yp.Qo w Q M lim An cn Af cf ns fs
  ks : ∀ i (h : i < ns.length), ns[i].2 = true → KX w (ksl ns[i].1) (G i)
  a1 : ∀ j, OX j → j ≠ P ∧ j ≠ M ∧ ¬ Hs.TF T Qt Mt j ∧ ¬ Yp.QB Q An Af j ∧ ¬ KBl ns j
  a2 : M ≠ Mt
/-- All its blocks. -/
def YK (P M T Q Qt Mt : Nat) (OX : Nat → Prop) (An Af : Option Addr) (ns : List (Yp.Nd × Bool)) (j : Nat) : Prop := j = P ∨ j = M ∨ OX j ∨ Hs.TF T Qt Mt j ∨ Yp.QB Q An Af j ∨ KBl ns j
/-- The blocks that it writes. -/
def YW (P M T Q Qt Mt : Nat) (OX : Nat → Prop) (An Af : Option Addr) (j : Nat) : Prop := j = P ∨ j = M ∨ OX j ∨ Hs.TF T Qt Mt j ∨ Yp.QB Q An Af j
theorem YW.yk {P M T Q Qt Mt : Nat} {OX : Nat → Prop} {An Af : Option Addr} {ns : List (Yp.Nd × Bool)} {j : Nat} (h : YW P M T Q Qt Mt OX An Af j) : YK P M T Q Qt Mt OX An Af ns j := by
  rcases h with h | h | h | h | h
  · exact .inl h
  · exact .inr (.inl h)
  · exact .inr (.inr (.inl h))
  · exact .inr (.inr (.inr (.inl h)))
  · exact .inr (.inr (.inr (.inr (.inl h))))
/-- Of what kind a block is. -/
def Bt (w : World) (j : Nat) (t : TypeId) : Prop := ∃ cs, w.heap[j]? = some (.cells cs t (0, 0))
theorem Bt.ne {w : World} {j k : Nat} {t u : TypeId} (h : Bt w j t) (h' : Bt w k u) (ht : t ≠ u) : j ≠ k := by
  obtain ⟨a, ha⟩ := h
  obtain ⟨b, hb⟩ := h'
  exact row_ne ha hb ht
theorem Bt.lt {w : World} {j : Nat} {t : TypeId} (h : Bt w j t) : j < w.heap.size := by
  obtain ⟨a, ha⟩ := h
  exact row_lt ha
theorem kx_bt {w : World} {A : Option Addr} {n c j : Nat} {xs : List Nat} (h : KX w (.slice A n c) xs) (hj : A.map (·.block) = some j) : Bt w j 22 := by
  rcases h.2 with ⟨e, _⟩ | ⟨g, cap, cur, e, _, hg, _⟩
  · injection e with e
    subst e
    cases hj
  · injection e with e
    subst e
    cases hj
    exact ⟨_, hg⟩
section
variable {w w' : World} {P M X T Q lim tk : Nat} {kn : Int} {rs : List Nat} {es : Es} {ns : List (Yp.Nd × Bool)} {fs : List Nat} {G : Nat → List Nat} {OX : Nat → Prop} {r c : Int} {seed Qt Mt n pr : Nat} {An : Option Addr} {cn : Nat} {Af : Option Addr} {cf : Nat}
theorem YB.bP (h : YB w P M X T Q lim tk kn rs es ns fs G OX r c seed Qt Mt n pr An cn Af cf) : Bt w P 45 := ⟨_, h.row⟩
theorem YB.bM (h : YB w P M X T Q lim tk kn rs es ns fs G OX r c seed Qt Mt n pr An cn Af cf) : Bt w M 87 := by
  obtain ⟨_, _, _, _, hr⟩ := h.mx
  exact ⟨_, hr⟩
theorem YB.bT (h : YB w P M X T Q lim tk kn rs es ns fs G OX r c seed Qt Mt n pr An cn Af cf) {j : Nat} (hj : Hs.TF T Qt Mt j) : Bt w j 118 ∨ Bt w j 169 ∨ (j = Mt ∧ Bt w j 87) := by
  letI : Gh := ⟨0, 0⟩
  obtain ⟨h1, h2, h3⟩ := tab_rows h.tab
  rcases hj with rfl | rfl | rfl
  · exact .inl h1
  · exact .inr (.inl h2)
  · exact .inr (.inr ⟨rfl, h3⟩)
theorem YB.bQ (h : YB w P M X T Q lim tk kn rs es ns fs G OX r c seed Qt Mt n pr An cn Af cf) {j : Nat} (hj : Yp.QB Q An Af j) : Bt w j 78 ∨ Bt w j 153 ∨ Bt w j 3 := by
  rcases hj with rfl | hj | hj
  · exact .inl ⟨_, h.po.row⟩
  · obtain ⟨_, cur, hc⟩ := Yp.own_block_lt h.po.nodes hj
    exact .inr (.inl ⟨_, hc⟩)
  · obtain ⟨_, cur, hc⟩ := Yp.own_block_lt h.po.freed hj
    exact .inr (.inr ⟨_, hc⟩)
theorem YB.bK (h : YB w P M X T Q lim tk kn rs es ns fs G OX r c seed Qt Mt n pr An cn Af cf) {j : Nat} (hj : KBl ns j) : Bt w j 22 := by
  obtain ⟨x, hx, ht, hj⟩ := hj
  obtain ⟨i, hi, rfl⟩ := List.getElem_of_mem hx
  exact kx_bt (h.ks i hi ht) hj
theorem YB.lt (h : YB w P M X T Q lim tk kn rs es ns fs G OX r c seed Qt Mt n pr An cn Af cf) {j : Nat} (hj : YK P M T Q Qt Mt OX An Af ns j) : j < w.heap.size := by
  rcases hj with rfl | rfl | hj | hj | hj | hj
  · exact h.bP.lt
  · exact h.bM.lt
  · exact xg_lt h.xg j hj
  · rcases h.bT hj with h | h | ⟨_, h⟩ <;> exact h.lt
  · rcases h.bQ hj with h | h | h <;> exact h.lt
  · exact (h.bK hj).lt
/-- What is apart by its kind. -/
theorem YB.P_M (h : YB w P M X T Q lim tk kn rs es ns fs G OX r c seed Qt Mt n pr An cn Af cf) : P ≠ M := h.bP.ne h.bM (by decide)
theorem YB.P_T (h : YB w P M X T Q lim tk kn rs es ns fs G OX r c seed Qt Mt n pr An cn Af cf) : ¬ Hs.TF T Qt Mt P := fun hj => by
  rcases h.bT hj with h2 | h2 | ⟨_, h2⟩ <;> exact h.bP.ne h2 (by decide) rfl
theorem YB.P_Q (h : YB w P M X T Q lim tk kn rs es ns fs G OX r c seed Qt Mt n pr An cn Af cf) : ¬ Yp.QB Q An Af P := fun hj => by
  rcases h.bQ hj with h2 | h2 | h2 <;> exact h.bP.ne h2 (by decide) rfl
theorem YB.P_K (h : YB w P M X T Q lim tk kn rs es ns fs G OX r c seed Qt Mt n pr An cn Af cf) : ¬ KBl ns P := fun hj => h.bP.ne (h.bK hj) (by decide) rfl
theorem YB.M_T (h : YB w P M X T Q lim tk kn rs es ns fs G OX r c seed Qt Mt n pr An cn Af cf) : ¬ Hs.TF T Qt Mt M := fun hj => by
  rcases h.bT hj with h2 | h2 | ⟨e, _⟩
  · exact h.bM.ne h2 (by decide) rfl
  · exact h.bM.ne h2 (by decide) rfl
  · exact h.a2 e
theorem YB.M_Q (h : YB w P M X T Q lim tk kn rs es ns fs G OX r c seed Qt Mt n pr An cn Af cf) : ¬ Yp.QB Q An Af M := fun hj => by
  rcases h.bQ hj with h2 | h2 | h2 <;> exact h.bM.ne h2 (by decide) rfl
theorem YB.M_K (h : YB w P M X T Q lim tk kn rs es ns fs G OX r c seed Qt Mt n pr An cn Af cf) : ¬ KBl ns M := fun hj => h.bM.ne (h.bK hj) (by decide) rfl
theorem YB.T_Q (h : YB w P M X T Q lim tk kn rs es ns fs G OX r c seed Qt Mt n pr An cn Af cf) {j : Nat} (h1 : Hs.TF T Qt Mt j) (h2 : Yp.QB Q An Af j) : False := by
  rcases h.bT h1 with h3 | h3 | ⟨_, h3⟩ <;> rcases h.bQ h2 with h4 | h4 | h4 <;> exact h3.ne h4 (by decide) rfl
theorem YB.T_K (h : YB w P M X T Q lim tk kn rs es ns fs G OX r c seed Qt Mt n pr An cn Af cf) {j : Nat} (h1 : Hs.TF T Qt Mt j) (h2 : KBl ns j) : False := by
  rcases h.bT h1 with h3 | h3 | ⟨_, h3⟩ <;> exact h3.ne (h.bK h2) (by decide) rfl
theorem YB.Q_K (h : YB w P M X T Q lim tk kn rs es ns fs G OX r c seed Qt Mt n pr An cn Af cf) {j : Nat} (h1 : Yp.QB Q An Af j) (h2 : KBl ns j) : False := by
  rcases h.bQ h1 with h3 | h3 | h3 <;> exact h3.ne (h.bK h2) (by decide) rfl
theorem kx_chg {w w' : World} {O : Nat → Prop} {A : Option Addr} {n c : Nat} {xs : List Nat} (h : KX w (.slice A n c) xs) (b : K.Chg w w' O) (hO : ∀ j, A.map (·.block) = some j → ¬ O j) : KX w' (.slice A n c) xs :=
  b.kx h (fun g hg => hO g (by
    cases A with
    | none => simp [Value.ownBlock] at hg
    | some a => simpa [Value.ownBlock] using hg))
theorem YB.kss (h : YB w P M X T Q lim tk kn rs es ns fs G OX r c seed Qt Mt n pr An cn Af cf) {O : Nat → Prop} (b : K.Chg w w' O) (hO : ∀ j, KBl ns j → ¬ O j) : ∀ i (h : i < ns.length), ns[i].2 = true → KX w' (ksl ns[i].1) (G i) :=
  fun i hi ht => kx_chg (h.ks i hi ht) b (fun j hj => hO j ⟨ns[i], List.getElem_mem _, ht, hj⟩)
theorem YB.chg (h : YB w P M X T Q lim tk kn rs es ns fs G OX r c seed Qt Mt n pr An cn Af cf) {O : Nat → Prop} (b : K.Chg w w' O) (hO : ∀ j, YK P M T Q Qt Mt OX An Af ns j → ¬ O j) : YB w' P M X T Q lim tk kn rs es ns fs G OX r c seed Qt Mt n pr An cn Af cf :=
  ⟨(b.block P h.bP.lt (hO P (.inl rfl))).trans h.row, h.mx.chg b (hO M (.inr (.inl rfl))), xg_chg h.xg b (fun j hj => hO j (.inr (.inr (.inl hj)))), h.tab.but (ButS.of_chg b) (fun j hj => hO j (.inr (.inr (.inr (.inl hj))))), h.po.chg b (fun j hj => hO j (.inr (.inr (.inr (.inr (.inl hj)))))), h.kss b (fun j hj => hO j (.inr (.inr (.inr (.inr (.inr hj)))))), h.a1, h.a2⟩
theorem YB.met {tk' : Nat} (h : YB w P M X T Q lim tk kn rs es ns fs G OX r c seed Qt Mt n pr An cn Af cf) (b : K.Chg w w' (· = M)) (hm : Yp.Mx w' M tk') : YB w' P M X T Q lim tk' kn rs es ns fs G OX r c seed Qt Mt n pr An cn Af cf :=
  ⟨(b.block P h.bP.lt h.P_M).trans h.row, hm, xg_chg h.xg b (fun j hj => (h.a1 j hj).2.1), h.tab.but (ButS.of_chg b) (fun j hj e => by have e2 : j = M := e; subst e2; exact h.M_T hj), h.po.chg b (fun j hj e => by have e2 : j = M := e; subst e2; exact h.M_Q hj), h.kss b (fun j hj e => by have e2 : j = M := e; subst e2; exact h.M_K hj), h.a1, h.a2⟩
/-- The trie of representatives is another one then. -/
theorem YB.xx {rs' : List Nat} {OX' : Nat → Prop} {r' c' : Int} (h : YB w P M X T Q lim tk kn rs es ns fs G OX r c seed Qt Mt n pr An cn Af cf) (b : K.Chg w w' OX) (hx : XG r' c' w' X rs' lim 2000000 OX') (hO : ∀ j, OX' j → OX j ∨ w.heap.size ≤ j) : YB w' P M X T Q lim tk kn rs' es ns fs G OX' r' c' seed Qt Mt n pr An cn Af cf :=
  ⟨(b.block P h.bP.lt (fun hj => (h.a1 P hj).1 rfl)).trans h.row, h.mx.chg b (fun hj => (h.a1 M hj).2.1 rfl), hx, h.tab.but (ButS.of_chg b) (fun j hj ho => (h.a1 j ho).2.2.1 hj), h.po.chg b (fun j hj ho => (h.a1 j ho).2.2.2.1 hj), h.kss b (fun j hj ho => (h.a1 j ho).2.2.2.2 hj), fun j hj => by
    rcases hO j hj with h1 | h1
    · exact h.a1 j h1
    · have hn : ∀ i, YK P M T Q Qt Mt OX An Af ns i → j ≠ i := fun i hi e => by have := h.lt hi; omega
      exact ⟨hn P (.inl rfl), hn M (.inr (.inl rfl)), fun e => hn j (.inr (.inr (.inr (.inl e)))) rfl, fun e => hn j (.inr (.inr (.inr (.inr (.inl e))))) rfl, fun e => hn j (.inr (.inr (.inr (.inr (.inr e))))) rfl⟩, h.a2⟩
theorem YB.tabs {es' : Es} {cl : Nat} (h : YB w P M X T Q lim tk kn rs es ns fs G OX r c seed Qt Mt n pr An cn Af cf) (hs : Hs.TStep w T Qt Mt seed n es' cl w') :
    ∃ Qt' n' pr', YB w' P M X T Q lim tk kn rs es' ns fs G OX r c seed Qt' Mt n' pr' An cn Af cf ∧ K.Chg w w' (Hs.TF T Qt Mt) ∧ (Qt' = Qt ∨ w.heap.size ≤ Qt') := by
  obtain ⟨Qt', n', pr', ht, hb, hq, _⟩ := hs
  have b := hb.chg
  refine ⟨Qt', n', pr', ⟨(b.block P h.bP.lt h.P_T).trans h.row, h.mx.chg b h.M_T, xg_chg h.xg b (fun j hj => (h.a1 j hj).2.2.1), ht.any 0, h.po.chg b (fun j hj hj2 => h.T_Q hj2 hj), h.kss b (fun j hj hj2 => h.T_K hj2 hj), fun j hj => ?_, h.a2⟩, b, hq⟩
  obtain ⟨q1, q2, q3, q4, q5⟩ := h.a1 j hj
  refine ⟨q1, q2, fun ht => ?_, q4, q5⟩
  rcases ht with e | e | e
  · exact q3 (.inl e)
  · rcases hq with e2 | e2
    · exact q3 (.inr (.inl (e.trans e2)))
    · have := xg_lt h.xg j hj
      omega
  · exact q3 (.inr (.inr e))
/-- The pool of buckets is another one then. -/
theorem YB.pool {ns' : List (Yp.Nd × Bool)} {fs' : List Nat} {G' : Nat → List Nat} (h : YB w P M X T Q lim tk kn rs es ns fs G OX r c seed Qt Mt n pr An cn Af cf) (hq : Yp.QStep w Q M lim An Af ns' fs' w')
    (hk : ∀ i (hi : i < ns'.length), ns'[i].2 = true → KX w (ksl ns'[i].1) (G' i) ∧ ∀ j, ns'[i].1.ksA.map (·.block) = some j → ¬ OX j) :
    ∃ An' cn' Af' cf', YB w' P M X T Q lim tk kn rs es ns' fs' G' OX r c seed Qt Mt n pr An' cn' Af' cf' ∧ K.Chg w w' (Yp.QB Q An Af) ∧ ∀ j, Yp.QB Q An' Af' j → Yp.QB Q An Af j ∨ w.heap.size ≤ j := by
  obtain ⟨An', cn', Af', cf', hp, b, hO⟩ := hq
  have hx := xg_chg h.xg b (fun j hj => (h.a1 j hj).2.2.2.1)
  refine ⟨An', cn', Af', cf', ⟨(b.block P h.bP.lt h.P_Q).trans h.row, h.mx.chg b h.M_Q, hx, h.tab.but (ButS.of_chg b) (fun j hj hj2 => h.T_Q hj hj2), hp, fun i hi ht => ?_, fun j hj => ?_, h.a2⟩, b, hO⟩
  · refine kx_chg (hk i hi ht).1 b (fun j hj hj2 => ?_)
    have h1 := kx_bt (hk i hi ht).1 hj
    rcases h.bQ hj2 with h2 | h2 | h2 <;> exact h1.ne h2 (by decide) rfl
  · obtain ⟨q1, q2, q3, q4, q5⟩ := h.a1 j hj
    refine ⟨q1, q2, q3, fun hq => ?_, fun hkb => ?_⟩
    · rcases hO j hq with e | e
      · exact q4 e
      · have := xg_lt h.xg j hj
        omega
    · obtain ⟨x, hx, ht, he⟩ := hkb
      obtain ⟨i, hi, rfl⟩ := List.getElem_of_mem hx
      exact (hk i hi ht).2 j he hj
theorem YB.cnt (h : YB w P M X T Q lim tk kn rs es ns fs G OX r c seed Qt Mt n pr An cn Af cf) (k : Int) : YB (w.setCell ⟨P, 4, none⟩ (.int .i64 k)) P M X T Q lim tk k rs es ns fs G OX r c seed Qt Mt n pr An cn Af cf := by
  have b := chg_set w P 4 (.int .i64 k) (· = P) rfl
  refine ⟨?_, h.mx.chg b (fun e => h.P_M e.symm), xg_chg h.xg b (fun j hj => (h.a1 j hj).1), h.tab.but (ButS.of_chg b) (fun j hj e => ?_), h.po.chg b (fun j hj e => ?_), h.kss b (fun j hj e => ?_), h.a1, h.a2⟩
  · have := row_set h.row 4 (.int .i64 k)
    simpa using this
  · have e2 : j = P := e
    subst e2
    exact h.P_T hj
  · have e2 : j = P := e
    subst e2
    exact h.P_Q hj
  · have e2 : j = P := e
    subst e2
    exact h.P_K hj
end
end Go.Proofs.YtialjokdaniofaaGreat
end
