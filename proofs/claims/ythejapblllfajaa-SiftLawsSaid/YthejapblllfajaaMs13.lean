/- What the cards of the chain's laws use: the last step over a world of which all that was there is as it was; how slices of words and of truth values that came in read. The law SiftLaws; the text walked. -/
import Derived.Test.YthejapblllfajaaRows
import Derived.WalkKit
import Derived.ProofKit
import Derived.OpenShut
import Derived.Below
import Derived.ChangeSame
import Derived.ChangeSlices
import Derived.Carry
import Derived.Deep.Grids
import Derived.JoinedOf
import Derived.Test.YthejapblllfajaaMs12
section
namespace Go.Proofs.Ythejapblllfajaa
open Go.ChangeShapes Go.WideShapes Go.ChangeAt Go.RowKit
section
variable {H : Type} {enc : TypeId × Value → H} {P : Program}
theorem post_of_below {f : Func} {s : ChangeSpec} {apart fresh handsOn again : Bool} {W W' : World} {args : Array Value} {v : Value} {ds gs : List (DataW H)} {before pa pv : List MemPlace}
    (hW : DataW.Whole enc P f.params.toList s.vars apart W args.toList ds gs before)
    (hres : ∀ (b : Nat) (sp : Nat → Bool) (hd : Bool), DataW.TrodAll enc P W' b sp hd f.resultTypes.toList (v.resultList f.resultTypes.size) (s.fn H (ds ++ gs)).results [])
    (hargs : ∀ sp : Nat → Bool, (∀ p ∈ before, sp p.block = true) → DataW.TrodAll enc P W' 0 sp true f.params.toList args.toList (s.fn H (ds ++ gs)).args pa)
    (hvars : ∀ sp : Nat → Bool, (∀ p ∈ before, sp p.block = true) → DataW.TrodVars enc P W' sp s.vars (s.fn H (ds ++ gs)).vars pv)
    (hps : before = pa ++ pv) (hb : Below W.heap.size W W')
    (hok : ∀ (j : Nat) (t : TypeId) (r : Value), f.resultTypes[j]? = some t → (v.resultList f.resultTypes.size)[j]? = some r → Value.okWide P W' .any 0 t r) :
    s.post enc P f apart fresh handsOn again W args v W' := by
  have hlt : ∀ p ∈ before, p.block < W.heap.size := fun p hp => hW.lt p hp
  have hold : ∀ p ∈ before, (fun b => decide (b < W.heap.size)) p.block = true := fun p hp => by simpa using hlt p hp
  refine ⟨ds, gs, before, [], pa, pv, hW, hres _ _ _, hargs _ hold, hvars _ hold, World.keptBut_mono (fun p hp => ⟨hp, ?_⟩) (hb.frame (· ∈ before)), fun _ => ?_⟩
  · rw [hps, List.mem_append] at hp
    exact Or.inr hp
  · obtain ⟨_, _, _, _, _, hz, hn⟩ := hW
    refine ⟨hok, _, _, ([] ++ pa) ++ pv, ⟨[] ++ pa, pv, trodAll_append (hargs _ (fun _ _ => rfl)) (hres _ _ _), hvars _ (fun _ _ => rfl), rfl, ?_, ?_⟩, ?_⟩
    · intro b off hp
      have hin : MemPlace.cell b off ∈ before := by rw [hps]; simpa using hp
      rw [hb.frozen (hlt _ hin)]
      exact hz b off hin
    · intro ha
      have := hn ha
      rw [hps] at this
      simpa using this
    · intro p hp _
      rw [hps]
      simpa using hp
end

theorem own : ownKnob Try.prog.godebug = none := by kernel_rfl
theorem laidOut : laidOutB Try.prog = true := by kernel_rfl
theorem u64_nat {n : Int} (h : (Lit.int .u64 n).wf = true) : ∃ m : Nat, n = m ∧ m < 18446744073709551616 := by
  simp [Lit.wf, IntKind.min, IntKind.max, IntKind.signed, IntKind.bits] at h
  exact ⟨n.toNat, by omega, by omega⟩
theorem cellsWord : Try.prog.cellsOf 31 = 1 := by kernel_rfl
theorem readWords : Try.prog.readableRec 22 = true := by kernel_rfl
theorem rowWords : 22 < Try.prog.types.size := of_decide_eq_true (by kernel_rfl)
theorem nats_of {zs : List Int} (h : ∀ n ∈ zs, (Lit.int .u64 n).wf = true) : ∃ xs : List Nat, (zs = xs.map fun a : Nat => (a : Int)) ∧ ∀ x ∈ xs, x < 18446744073709551616 := by
  induction zs with
  | nil => exact ⟨[], rfl, fun x hx => by cases hx⟩
  | cons z zs ih =>
    obtain ⟨xs, rfl, hxs⟩ := ih fun n hn => h n (List.mem_cons_of_mem _ hn)
    obtain ⟨m, rfl, hm⟩ := u64_nat (h z (by simp))
    refine ⟨m :: xs, by simp, fun x hx => ?_⟩
    rcases List.mem_cons.1 hx with rfl | hx
    · exact hm
    · exact hxs x hx

set_option maxRecDepth 100000 in
theorem open_rw {H : Type} {enc : TypeId × Value → H} {W : World} {b0 : Nat} {v : Value} {d : DataW H} {p : List MemPlace}
    (hval : Value.okWide Try.prog W .any b0 22 v) (h : DataW.Trod enc Try.prog W 0 (fun _ => true) true 22 v d p) (hlt : ∀ x ∈ p, x.block < W.heap.size) :
    ∃ A cp xs, v = .slice A xs.length cp ∧ Rw W W.heap.size A xs ∧ xs.length ≤ 9223372036854775807 ∧ ∀ x ∈ xs, x < 18446744073709551616 := by
  obtain ⟨a0, len, cap, rfl⟩ := okWide_slice Try.underlying22 hval
  obtain ⟨fuel, hf⟩ := h
  rcases open_ints Try.underlying22 Try.underlying31 cellsWord hf with ⟨hcs, hx⟩ | ⟨a, len', cap', zs, hcs, _, hl, hm, hz, hx, hcell, hwz⟩
  · simp [Value.cells] at hcs
    obtain ⟨rfl, rfl, rfl⟩ := hcs
    exact ⟨none, 0, [], rfl, fun h => absurd rfl h, by simp, fun x hx => by cases hx⟩
  · simp [Value.cells] at hcs
    obtain ⟨rfl, rfl, rfl⟩ := hcs
    simp only [Prod.mk.injEq] at hx
    obtain ⟨rfl, rfl⟩ := hx
    simp only [if_true] at hz
    obtain ⟨xs, rfl, hxs⟩ := nats_of hwz
    rw [List.length_map] at hz hcell hlt
    unfold maxLen at hm
    refine ⟨some a, cap, xs.take len, ?_, fun hne => ?_, by rw [List.length_take]; omega, fun x hx => hxs x (List.mem_of_mem_take hx)⟩
    · rw [List.length_take, Nat.min_eq_left (by omega)]
    · have hpos : 0 < xs.length := by
        rcases Nat.eq_zero_or_pos xs.length with h0 | h0
        · have : xs = [] := List.eq_nil_of_length_eq_zero h0
          subst this; simp at hne
        · exact h0
      obtain ⟨b, off, spot⟩ := a
      have hspot : spot = none := by simpa [Addr.add] using World.cell?_spot (hcell 0 hpos)
      subst hspot
      refine ⟨b, off, rfl, hlt (.cell b off) (MemPlace.mem_row.2 ⟨0, hpos, by simp⟩), fun k hk => ?_⟩
      rw [List.length_take] at hk
      have := hcell k (by omega)
      rw [add_plain] at this
      rw [this]
      simp [List.getD, show k < xs.length by omega]
end Go.Proofs.Ythejapblllfajaa
end
section
namespace Go.Proofs.Ythejapblllfajaa
set_option maxRecDepth 20000
open Go.RowKit Go.Shelf
section
variable {w W : World} {L : List (Value × List Nat)}
theorem bg_eqT (h : Bg w W L) {f1 f2 : Value} {x1 x2 : List Nat} (m1 : (f1, x1) ∈ L) (m2 : (f2, x2) ∈ L) (e : x1 = x2) : Calls Try.prog 17 #[f1, f2] W fun e w' => e = .returned (.bool true) ∧ Bg w w' L := by
  refine (bg_equal h m1 m2).mono ?_
  rintro _ w' ⟨rfl, hb⟩
  exact ⟨by rw [decide_eq_true e], hb⟩
theorem bg_countN (h : Bg w W L) {f1 : Value} {x1 : List Nat} (m1 : (f1, x1) ∈ L) {n : Nat} (hn : x1.length = n) : Calls Try.prog 21 #[f1] W fun e w' => e = .returned (.int .i64 (n : Int)) ∧ Bg w w' L := by
  subst hn
  exact bg_count h m1
theorem bg_inT (h : Bg w W L) {f1 f2 : Value} {x1 x2 : List Nat} (m1 : (f1, x1) ∈ L) (m2 : (f2, x2) ∈ L) (e : ∀ z ∈ x1, z ∈ x2) : Calls Try.prog 19 #[f1, f2] W fun e w' => e = .returned (.bool true) ∧ Bg w w' L := by
  refine (bg_within h m1 m2).mono ?_
  rintro _ w' ⟨rfl, hb⟩
  exact ⟨by rw [decide_eq_true e], hb⟩
end
/-- The keys of a list's words. -/
theorem words_of (w : World) (A : Option Addr) (cp : Nat) (xs : List Nat) (k : Nat) (hr : Rw w w.heap.size A xs) (hl : xs.length ≤ 9223372036854775807) (hk : k ≤ 1000) : ∃ n P, K.Up P ∧ P.length ≤ k ∧ P = K.off (xs.take k) ∧
    (∀ (W : World) (L : List (Value × List Nat)), Bg w W L → Calls Try.prog 8 #[.slice A xs.length cp, .int .i64 (k : Int)] W fun e w' => ∃ A' c', e = .returned (.slice A' n c') ∧ KX w' (.slice A' n c') (xs.take k) ∧ Bg w w' L) ∧
    (∀ (W : World) (L : List (Value × List Nat)) (v : Value), Bg w W L → KX W v (xs.take k) → Calls Try.prog 9 #[v] W (JB w L P)) :=
  ⟨(xs.take k).length, K.off (xs.take k), S.off_up _, Nat.le_trans (S.off_len _) (by rw [List.length_take]; omega), rfl, fun W L h => bg_words h A cp xs k hr hl (by omega),
    fun W L v h hv => bg_of h v _ hv (by rw [List.length_take]; omega)⟩
set_option maxRecDepth 100000 in
set_option maxHeartbeats 16000000 in
theorem siftLaws_any (w : World) (A1 A2 A3 : Option Addr) (c1 c2 c3 : Nat) (xs1 xs2 xs3 : List Nat) (hr1 : Rw w w.heap.size A1 xs1) (hr2 : Rw w w.heap.size A2 xs2) (hr3 : Rw w w.heap.size A3 xs3)
    (hl1 : xs1.length ≤ 9223372036854775807) (hl2 : xs2.length ≤ 9223372036854775807) (hl3 : xs3.length ≤ 9223372036854775807) :
    Calls Try.prog 5 #[.slice A1 xs1.length c1, .slice A2 xs2.length c2, .slice A3 xs3.length c3] w fun e w' => e = .returned (.bool true) ∧ Below w.heap.size w w' := by
  obtain ⟨n1, P, uP, lP, _, HW1, HO1⟩ := words_of w A1 c1 xs1 50 hr1 hl1 (by decide)
  obtain ⟨n2, Q, uQ, lQ, _, HW2, HO2⟩ := words_of w A2 c2 xs2 50 hr2 hl2 (by decide)
  obtain ⟨n3, R, uR, lR, _, HW3, HO3⟩ := words_of w A3 c3 xs3 50 hr3 hl3 (by decide)
  simp only [Int.cast_ofNat_Int] at HW1 HW2 HW3
  replace HW1 := Lib.hid HW1
  replace HW2 := Lib.hid HW2
  replace HW3 := Lib.hid HW3
  replace HO1 := Lib.hid HO1
  replace HO2 := Lib.hid HO2
  replace HO3 := Lib.hid HO3
  have HL1 := Lib.hid (show P.length + Q.length ≤ 100000 by omega)
  have HL2 := Lib.hid (show P.length + (Q.length + R.length) ≤ 100000 by omega)
  have HL3 := Lib.hid (show Q.length + P.length ≤ 100000 by omega)
  have HL4 := Lib.hid (show R.length + (S.o2 Q P).length ≤ 100000 by have := S.o2_len Q P; omega)
  have HL5 := Lib.hid (show Q.length + R.length ≤ 100000 by omega)
  have HL6 := Lib.hid (show (S.a2 P Q).length + (S.a2 P R).length ≤ 100000 by have := S.a2_len P Q; have := S.a2_len P R; omega)
  obtain ⟨no, hno⟩ : ∃ n, (S.o2 P Q).length = n := ⟨_, rfl⟩
  obtain ⟨na, hna⟩ : ∃ n, (S.a2 P Q).length = n := ⟨_, rfl⟩
  obtain ⟨np, hnp⟩ : ∃ n, P.length = n := ⟨_, rfl⟩
  obtain ⟨nq, hnq⟩ : ∃ n, Q.length = n := ⟨_, rfl⟩
  have hsum := S.len_both uP uQ
  rw [hno, hna, hnp, hnq] at hsum
  obtain ⟨sm, E1b⟩ : ∃ s, IntKind.i64.wrap ((np : Int) + (nq : Int)) = s := ⟨_, rfl⟩
  have E1 : IntKind.i64.wrap ((no : Int) + (na : Int)) = sm := by
    rw [← E1b]
    congr 1
    omega
  have NO := Lib.hid hno
  have NA := Lib.hid hna
  have NP := Lib.hid hnp
  have NQ := Lib.hid hnq
  clear hno hna hnp hnq hsum
  have E2 : Hid (S.x2 P Q = S.l2 (S.o2 P Q) (S.a2 P Q)) := Lib.hid (T.up_extV (S.x2_up _ _) (S.l2_up (S.o2_up _ _)) fun z => by
    rw [S.x2_mem, S.l2_mem, S.o2_mem, S.a2_mem]
    by_cases h1 : z ∈ P <;> by_cases h2 : z ∈ Q <;> simp [h1, h2])
  have E3 : Hid (S.o2 P (S.o2 Q R) = S.o2 R (S.o2 Q P)) := Lib.hid (T.up_extV (S.o2_up _ _) (S.o2_up _ _) fun z => by
    simp only [S.o2_mem]
    by_cases h1 : z ∈ P <;> by_cases h2 : z ∈ Q <;> simp [h1, h2])
  have E4 : Hid (S.a2 P (S.a2 Q R) = S.a2 R (S.a2 P Q)) := Lib.hid (T.up_extV (S.a2_up uP) (S.a2_up uR) fun z => by
    simp only [S.a2_mem]
    by_cases h1 : z ∈ P <;> by_cases h2 : z ∈ Q <;> simp [h1, h2])
  have E5 : Hid (∀ z ∈ S.a2 P Q, z ∈ P) := Lib.hid fun z hz => ((S.a2_mem P Q z).1 hz).1
  have E6 : Hid (∀ z ∈ P, z ∈ S.o2 P Q) := Lib.hid fun z hz => (S.o2_mem P Q z).2 (.inl hz)
  have E7 : Hid (S.a2 P (S.o2 Q R) = S.o2 (S.a2 P Q) (S.a2 P R)) := Lib.hid (T.up_extV (S.a2_up uP) (S.o2_up _ _) fun z => by
    simp only [S.a2_mem, S.o2_mem]
    by_cases h1 : z ∈ P <;> by_cases h2 : z ∈ Q <;> simp [h1, h2])
  clear uP uQ uR lP lQ lR hr1 hr2 hr3 hl1 hl2 hl3
  generalize xs1.length = len1 at *
  generalize xs2.length = len2 at *
  generalize xs3.length = len3 at *
  go_enter Try.func5, Try.ntmps5
  go_wp2_with (first
    | (go_at_call 17; (with_reducible refine (bg_eqT HB29.out (x1 := (S.a2 P (S.o2 Q R))) (x2 := (S.o2 (S.a2 P Q) (S.a2 P R))) (by simp) (by simp) E7.out).mono ?_); rintro e W30 ⟨rfl, hb30⟩; have HB30 := Lib.hid hb30; clear hb30)
    | (go_at_call 12; (with_reducible refine (bg_or2 HB28.out (x1 := (S.a2 P Q)) (x2 := (S.a2 P R)) (by simp) (by simp) HL6.out).mono ?_); rintro e W29 ⟨gg29, ll29, rfl, hb29⟩; have HB29 := Lib.hid hb29; clear hb29)
    | (go_at_call 14; (with_reducible refine (bg_and2 HB27.out (x1 := P) (x2 := R) (by simp) (by simp)).mono ?_); rintro e W28 ⟨gg28, ll28, rfl, hb28⟩; have HB28 := Lib.hid hb28; clear hb28)
    | (go_at_call 14; (with_reducible refine (bg_and2 HB26.out (x1 := P) (x2 := (S.o2 Q R)) (by simp) (by simp)).mono ?_); rintro e W27 ⟨gg27, ll27, rfl, hb27⟩; have HB27 := Lib.hid hb27; clear hb27)
    | (go_at_call 12; (with_reducible refine (bg_or2 HB25.out (x1 := Q) (x2 := R) (by simp) (by simp) HL5.out).mono ?_); rintro e W26 ⟨gg26, ll26, rfl, hb26⟩; have HB26 := Lib.hid hb26; clear hb26)
    | (go_at_call 19; (with_reducible refine (bg_inT HB24.out (x1 := P) (x2 := (S.o2 P Q)) (by simp) (by simp) E6.out).mono ?_); rintro e W25 ⟨rfl, hb25⟩; have HB25 := Lib.hid hb25; clear hb25)
    | (go_at_call 19; (with_reducible refine (bg_inT HB23.out (x1 := (S.a2 P Q)) (x2 := P) (by simp) (by simp) E5.out).mono ?_); rintro e W24 ⟨rfl, hb24⟩; have HB24 := Lib.hid hb24; clear hb24)
    | (go_at_call 17; (with_reducible refine (bg_eqT HB22.out (x1 := (S.a2 P (S.a2 Q R))) (x2 := (S.a2 R (S.a2 P Q))) (by simp) (by simp) E4.out).mono ?_); rintro e W23 ⟨rfl, hb23⟩; have HB23 := Lib.hid hb23; clear hb23)
    | (go_at_call 14; (with_reducible refine (bg_and2 HB21.out (x1 := R) (x2 := (S.a2 P Q)) (by simp) (by simp)).mono ?_); rintro e W22 ⟨gg22, ll22, rfl, hb22⟩; have HB22 := Lib.hid hb22; clear hb22)
    | (go_at_call 14; (with_reducible refine (bg_and3 HB20.out (x1 := P) (x2 := Q) (x3 := R) (by simp) (by simp) (by simp)).mono ?_); rintro e W21 ⟨gg21, ll21, rfl, hb21⟩; have HB21 := Lib.hid hb21; clear hb21)
    | (go_at_call 17; (with_reducible refine (bg_eqT HB19.out (x1 := (S.o2 P (S.o2 Q R))) (x2 := (S.o2 R (S.o2 Q P))) (by simp) (by simp) E3.out).mono ?_); rintro e W20 ⟨rfl, hb20⟩; have HB20 := Lib.hid hb20; clear hb20)
    | (go_at_call 12; (with_reducible refine (bg_or2 HB18.out (x1 := R) (x2 := (S.o2 Q P)) (by simp) (by simp) HL4.out).mono ?_); rintro e W19 ⟨gg19, ll19, rfl, hb19⟩; have HB19 := Lib.hid hb19; clear hb19)
    | (go_at_call 12; (with_reducible refine (bg_or2 HB17.out (x1 := Q) (x2 := P) (by simp) (by simp) HL3.out).mono ?_); rintro e W18 ⟨gg18, ll18, rfl, hb18⟩; have HB18 := Lib.hid hb18; clear hb18)
    | (go_at_call 12; (with_reducible refine (bg_or3 HB16.out (x1 := P) (x2 := Q) (x3 := R) (by simp) (by simp) (by simp) HL2.out).mono ?_); rintro e W17 ⟨gg17, ll17, rfl, hb17⟩; have HB17 := Lib.hid hb17; clear hb17)
    | (go_at_call 17; (with_reducible refine (bg_eqT HB15.out (x1 := (S.x2 P Q)) (x2 := (S.l2 (S.o2 P Q) (S.a2 P Q))) (by simp) (by simp) E2.out).mono ?_); rintro e W16 ⟨rfl, hb16⟩; have HB16 := Lib.hid hb16; clear hb16)
    | (go_at_call 15; (with_reducible refine (bg_less HB14.out (x1 := (S.o2 P Q)) (x2 := (S.a2 P Q)) (by simp) (by simp)).mono ?_); rintro e W15 ⟨gg15, ll15, rfl, hb15⟩; have HB15 := Lib.hid hb15; clear hb15)
    | (go_at_call 16; (with_reducible refine (bg_xor HB13.out (x1 := P) (x2 := Q) (by simp) (by simp) HL1.out).mono ?_); rintro e W14 ⟨gg14, ll14, rfl, hb14⟩; have HB14 := Lib.hid hb14; clear hb14)
    | (go_at_call 21; (with_reducible refine (bg_countN HB12.out (x1 := Q) (by simp) NQ.out).mono ?_); rintro e W13 ⟨rfl, hb13⟩; have HB13 := Lib.hid hb13; clear hb13)
    | (go_at_call 21; (with_reducible refine (bg_countN HB11.out (x1 := P) (by simp) NP.out).mono ?_); rintro e W12 ⟨rfl, hb12⟩; have HB12 := Lib.hid hb12; clear hb12)
    | (go_at_call 21; (with_reducible refine (bg_countN HB10.out (x1 := (S.a2 P Q)) (by simp) NA.out).mono ?_); rintro e W11 ⟨rfl, hb11⟩; have HB11 := Lib.hid hb11; clear hb11)
    | (go_at_call 21; (with_reducible refine (bg_countN HB9.out (x1 := (S.o2 P Q)) (by simp) NO.out).mono ?_); rintro e W10 ⟨rfl, hb10⟩; have HB10 := Lib.hid hb10; clear hb10)
    | (go_at_call 14; (with_reducible refine (bg_and2 HB8.out (x1 := P) (x2 := Q) (by simp) (by simp)).mono ?_); rintro e W9 ⟨gg9, ll9, rfl, hb9⟩; have HB9 := Lib.hid hb9; clear hb9)
    | (go_at_call 12; (with_reducible refine (bg_or2 HB7.out (x1 := P) (x2 := Q) (by simp) (by simp) HL1.out).mono ?_); rintro e W8 ⟨gg8, ll8, rfl, hb8⟩; have HB8 := Lib.hid hb8; clear hb8)
    | (go_at_call 9; (with_reducible refine (HO3.out _ _ _ HB6.out HK3.out).mono ?_); rintro e W7 ⟨gg7, ll7, rfl, hb7⟩; have HB7 := Lib.hid hb7; clear hb7)
    | (go_at_call 8; (with_reducible refine (HW3.out _ _ HB5.out).mono ?_); rintro e W6 ⟨A3', c3', rfl, hk6, hb6⟩; have HB6 := Lib.hid hb6; have HK3 := Lib.hid hk6; clear hk6 hb6)
    | (go_at_call 9; (with_reducible refine (HO2.out _ _ _ HB4.out HK2.out).mono ?_); rintro e W5 ⟨gg5, ll5, rfl, hb5⟩; have HB5 := Lib.hid hb5; clear hb5)
    | (go_at_call 8; (with_reducible refine (HW2.out _ _ HB3.out).mono ?_); rintro e W4 ⟨A2', c2', rfl, hk4, hb4⟩; have HB4 := Lib.hid hb4; have HK2 := Lib.hid hk4; clear hk4 hb4)
    | (go_at_call 9; (with_reducible refine (HO1.out _ _ _ HB2.out HK1.out).mono ?_); rintro e W3 ⟨gg3, ll3, rfl, hb3⟩; have HB3 := Lib.hid hb3; clear hb3)
    | (go_at_call 8; (with_reducible refine (HW1.out _ _ HB1.out).mono ?_); rintro e W2 ⟨A1', c1', rfl, hk2, hb2⟩; have HB2 := Lib.hid hb2; have HK1 := Lib.hid hk2; clear hk2 hb2)
    | (go_at_call 6; (with_reducible refine (awake_any _).mono ?_); rintro e W1 ⟨rfl, hb1⟩; have HB1 : Hid (Bg w _ []) := Lib.hid ((Bg.start w).below hb1); clear hb1))
  all_goals
    go_ret
    exact ⟨by simp, HB30.out.low⟩
end Go.Proofs.Ythejapblllfajaa
end
