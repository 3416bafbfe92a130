/- All: what a body is told of a node's keys; the words, and a node with children; the texts walked. All: what a body is told of a node of the last level; the text walked. All: the iterator of a trie; what the law's own function 'all' collects of it; the texts walked. What the law's own function 'all' collects of a trie: the first keys; the text walked. -/
import Derived.Maps.OwnIn
import Derived.Maps.AppendAt
import Derived.Test.YtbiingpdchoppaaDoorMgQ
import Derived.Test.YtbiingpdchoppaaDoorMgO
import Derived.Test.YtbiingpdchoppaaDoorMgU
import Derived.Test.YtbiingpdchoppaaDoorMgN
import Derived.Test.YtbiingpdchoppaaDoorMgG
section
namespace Go.Proofs.YtbiingpdchoppaaDoor
set_option maxRecDepth 40000
open Go.RowKit Go.Shelf
attribute [local go_sem] Oper.semAt_some
attribute [local simp] wide_fn
theorem tell_res (tmps : Array Value) (w : World) (g : Nat) (b : Bool) (hp : tmps.getD 8 undef = .pointer (some ⟨g, 0, none⟩)) (hc : w.cell? ⟨g, 0, none⟩ = some (.bool b)) :
    (results Tryd.f67 tmps).run Tryd.prog w = .ok (.bool b) w := by
  have hres : Tryd.f67.results = #[.cell 8 4] := by kernel_rfl
  have hp' : tmps[8]?.getD undef = .pointer (some ⟨g, 0, none⟩) := by simpa using hp
  simp only [results, hres]
  simp [hp', asAddr]
  go_simp
theorem t_key2 (w : World) (W : Nat) (A : Option Addr) (n c ks le gr d : Nat) (hle : le < 18446744073709551616) (hd : d < 64) :
    Calls Tryd.prog 59 #[ndv W A n c ks le gr, .int .i64 (d : Int)] w fun e w' => e = .returned (.int .u64 ((T.pre 10 le * 64 + d : Nat) : Int)) ∧ w' = w.alloc (ndo W A n c ks le gr) := by
  have hE := Lib.hid (T.key_eq le d hle hd)
  have q1 : bits .andNot .u64 (le : Int) 63 = ((le &&& (18446744073709551615 - 63) : Nat) : Int) := u64_andNot_nat le 63 hle (by decide)
  have h2 : (le &&& (18446744073709551615 - 63)) < 18446744073709551616 := Nat.lt_of_le_of_lt Nat.and_le_left hle
  have q2 : bits .or .u64 ((le &&& (18446744073709551615 - 63) : Nat) : Int) (d : Int) = ((T.pre 10 le * 64 + d : Nat) : Int) := by
    rw [u64_or_nat _ d h2 (by omega), hE.out]
  generalize (le &&& (18446744073709551615 - 63)) = b at *
  generalize T.pre 10 le * 64 + d = r at *
  go_enter Tryd.func59, Tryd.ntmps59
  go_wp2
  go_ret
  exact ⟨rfl, rfl⟩
/-- What a body must do with a key that is told. -/
structure TellH (Z : Nat → Prop) (xs : List Nat) (ly d0 : Nat) (J Jx : List Nat → (Nat → Prop) → World → Prop) : Prop where
  sJ : Steps J
  sX : Steps Jx
  y : ∀ pre x R W1, J pre R W1 → pre ++ [x] <+: xs → YieldAt Fence.wide d0 Tryd.prog ly #[.int .u64 ((x : Nat) : Int)] W1 fun e W' =>
    ((e = .returned (.bool true) ∧ J (pre ++ [x]) R W') ∨ (e = .returned (.bool false) ∧ Jx (pre ++ [x]) R W')) ∧ ButS W1 W' (fun j => ¬ (Z j ∨ R j))
/-- What telling leaves. -/
def TellP (Z : Nat → Prop) (xs : List Nat) (J Jx : List Nat → (Nat → Prop) → World → Prop) (W : World) (R0 : Nat → Prop) (qs : List Nat) (e : Ending) (W' : World) : Prop :=
  ∃ R' : Nat → Prop, ((e = .returned (.bool true) ∧ J qs R' W') ∨ (e = .returned (.bool false) ∧ ∃ q, q <+: xs ∧ Jx q R' W')) ∧ (∀ j, R0 j → R' j) ∧ (∀ j, R' j → (R0 j ∨ W.heap.size ≤ j) ∧ j < W'.heap.size) ∧ ButS W W' (fun j => ¬ (Z j ∨ R0 j))
theorem ButS.back {W W' : World} {S : Nat → Prop} (h : ButS W W' S) {j : Nat} (hj : j < W.heap.size) (hS : ¬ S j) : W'.heap[j]? = W.heap[j]? := h.block j hj hS
namespace T
def cat (xs : List Nat) (l p j : Nat) : List Nat := ((dgs xs l p).take j).flatMap fun d => sub xs (l + 1) (p * 64 + d)
theorem cat_zero (xs : List Nat) (l p : Nat) : cat xs l p 0 = [] := rfl
theorem cat_succ (xs : List Nat) (l p j : Nat) (h : j < (dgs xs l p).length) : cat xs l p (j + 1) = cat xs l p j ++ sub xs (l + 1) (p * 64 + (dgs xs l p)[j]) := by
  unfold cat
  rw [List.take_succ_eq_append_getElem h, List.flatMap_append]
  simp
theorem cat_all {xs : List Nat} (hu : K.Up xs) {l : Nat} (hl : l < 11) (p : Nat) : cat xs l p (dgs xs l p).length = sub xs l p := by
  unfold cat
  rw [List.take_length]
  exact (sub_flat hu hl p).symm
theorem cat_pre {xs : List Nat} (hu : K.Up xs) {l : Nat} (hl : l < 11) (p j : Nat) : cat xs l p j <+: sub xs l p := by
  rw [sub_flat hu hl p]
  unfold cat
  refine ⟨((dgs xs l p).drop j).flatMap fun d => sub xs (l + 1) (p * 64 + d), ?_⟩
  rw [← List.flatMap_append, List.take_append_drop]
end T
section
variable (W0 : World) (P Q m0 lim tk root cn cf : Nat) (An Af : Option Addr) (ns : List (Nd × Bool)) (fs xs : List Nat) (pl : Nat → Nat → Nat) (Z : Nat → Prop) (ly d0 : Nat) (J Jx : List Nat → (Nat → Prop) → World → Prop)
/-- Telling the keys of the nodes of a level. -/
def TellL (l : Nat) : Prop := ∀ p, T.prs xs l p → ∀ (pre0 : List Nat) (R0 : Nat → Prop) (W : World), pre0 ++ T.sub xs l p <+: xs → (∀ j, R0 j → j < W.heap.size ∧ ¬ Z j) → K.Chg W0 W (fun j => ¬ Z j) → J pre0 R0 W →
  Calls Tryd.prog 67 #[.pointer (some ⟨P, 0, none⟩), .int .i64 ((pl l p : Nat) : Int), .int .i64 (l : Int), .func (.yield ly) #[] #[]] W (TellP Z xs J Jx W R0 (pre0 ++ T.sub xs l p))
set_option maxRecDepth 100000 in
set_option maxHeartbeats 4000000 in
theorem tell_up (h : TW W0 P Q m0 lim tk An cn Af cf ns fs root pl xs) (hZT : ∀ j, TBk P Q m0 An Af ns j → Z j) (hZl : ∀ j, Z j → j < W0.heap.size) (hH : TellH Z xs ly d0 J Jx) (l : Nat) (hl : l < 10) (ih : TellL W0 P xs pl Z ly J Jx (l + 1)) : TellL W0 P xs pl Z ly J Jx l := by
  intro p hp pre0 R0 W hpre hR0 hW hJ
  have hTW := h.chg hW (fun j hj hn => hn (hZT j hj))
  obtain ⟨hin, hne, hok⟩ := hTW.node (by omega) hp
  have hpk := Lib.hid (fun V (hb : Below W.heap.size W V) => (t_peek_node V P Q m0 lim tk root cn cf An Af ns fs xs pl (hTW.chg (K.Chg.of_below (O := fun _ => False) hb) (fun _ _ h => h)) l p (by omega) hp).2)
  have hown := hTW.kids.own _ hin
  have hkz : ∀ g, ns[pl l p].1.A.map (·.block) = some g → Z g := fun g hg => hZT g (.inr (.inr (.inr ⟨_, hin, hg⟩)))
  rw [hne] at hown hkz
  have hdl := T.dgs_len xs l p
  have hch := hok.ch
  rw [if_pos hl] at hch
  have hil : pl l p < 1048576 := by
    have := hTW.po.ns_le
    have := hTW.po.lim_le
    omega
  have hWs : W0.heap.size ≤ W.heap.size := hW.size
  obtain ⟨pi, hpi⟩ : ∃ pi, pl l p = pi := ⟨_, rfl⟩
  clear hne hin
  rw [hpi] at hpk hown hkz hok hch hil ⊢
  obtain ⟨nd, hnd⟩ : ∃ nd, nat ns pi = nd := ⟨_, rfl⟩
  rw [hnd] at hpk hown hkz hok hch
  clear hnd hpi
  obtain ⟨W1, A, ch, c, ks, le, gr⟩ := nd
  dsimp only at hown hkz hok hch
  obtain ⟨n, hn⟩ : ∃ n, ch.length = n := ⟨_, rfl⟩
  have hnd : (T.dgs xs l p).length = n := by rw [← hn, hch, List.length_map]
  have hpk : Hid (∀ V, Below W.heap.size W V → Calls Tryd.prog 57 #[.pointer (some ⟨P, 0, none⟩), .int .i64 (pi : Int)] V (RetB V (ndv W1 A ch.length c ks le gr))) := hpk
  rw [hn] at hpk hown
  have hn64 : n ≤ 64 := by omega
  have HND := Lib.hid hnd
  have HOWN := Lib.hid hown
  have HKZ := Lib.hid hkz
  have HCH := Lib.hid hch
  have HW := Lib.hid hW
  have HR0 := Lib.hid hR0
  have HJ := Lib.hid hJ
  have HPRE := Lib.hid hpre
  have HU := Lib.hid h.up
  have HIH := Lib.hid ih
  have HZL := Lib.hid hZl
  have HH := Lib.hid hH
  have hB2 : Hid (Below W.heap.size W ((W.alloc (.cells #[.func (.yield ly) #[] #[]] 54)).alloc (.cells #[.bool false] 4))) := Lib.hid (((Below.refl _ W).alloc (Nat.le_refl _) _).alloc (by simp) _)
  have hY0 : Hid (((W.alloc (.cells #[.func (.yield ly) #[] #[]] 54)).alloc (.cells #[.bool false] 4)).heap[W.heap.size]? = some (.cells #[.func (.yield ly) #[] #[]] 54 (0, 0))) := Lib.hid ((Below.heap_alloc _ _ _ (by simp)).trans (K.alloc_top _ _))
  have hY1 : Hid (((W.alloc (.cells #[.func (.yield ly) #[] #[]] 54)).alloc (.cells #[.bool false] 4)).heap[W.heap.size + 1]? = some (.cells #[.bool false] 4 (0, 0))) := Lib.hid (top_two W _ _)
  have hS2 : Hid (((W.alloc (.cells #[.func (.yield ly) #[] #[]] 54)).alloc (.cells #[.bool false] 4)).heap.size = W.heap.size + 2) := Lib.hid (by simp)
  have el : ((l : Int) == 10) = false := by rw [Bool.eq_false_iff]; intro e; rw [beq_iff_eq] at e; omega
  have wl : IntKind.i64.wrap ((l : Int) + 1) = ((l + 1 : Nat) : Int) := by rw [IntWalk.i64_in _ (by omega)]; omega
  clear hnd hown hkz hch hW hR0 hJ hpre h ih hZl hH hok hTW hdl hn
  refine (callsIn_wide (n := 9)).1 ?_
  refine callsIn_of_wp_marks Tryd.func67 rfl trivial ?_ rfl
  simp only [Tryd.ntmps67, List.size_toArray, List.length_cons, List.length_nil, Nat.reduceAdd, Nat.reduceSub, Array.replicate_succ, Array.replicate_zero, List.push_toArray, List.append_toArray, List.nil_append, List.cons_append]
  gi_wp2_with (gi_at_call 57; refine (callsIn_wide.2 (hpk.out _ hB2.out)).mono ?_; rintro e w1 ⟨rfl, hb1⟩
               have HB1 := Lib.hid (hB2.out.trans (hb1.mono hB2.out.size))
               have hs1 := hb1.size
               rw [hS2.out] at hs1
               have HY0 := Lib.hid ((hb1.block W.heap.size (by rw [hS2.out]; omega)).trans hY0.out)
               have HY1 := Lib.hid ((hb1.block (W.heap.size + 1) (by rw [hS2.out]; omega)).trans hY1.out)
               clear hb1)
  obtain ⟨wr0, hwr0⟩ : ∃ wr0, w1.alloc (ndo W1 A n c ks le gr) = wr0 := ⟨_, rfl⟩
  have ha := chg_alloc w1 (ndo W1 A n c ks le gr) (fun _ => False)
  have hB0 : Below W.heap.size W (w1.alloc (ndo W1 A n c ks le gr)) := HB1.out.alloc (by omega) _
  have hz0 : (w1.alloc (ndo W1 A n c ks le gr)).heap.size = w1.heap.size + 1 := by simp
  have hA0 := (ha.block W.heap.size (by omega) (fun h => h)).trans HY0.out
  have hA1 := (ha.block (W.heap.size + 1) (by omega) (fun h => h)).trans HY1.out
  rw [hwr0] at hB0 hz0 hA0 hA1 ⊢
  have hJ0 : Hid (J (pre0 ++ T.cat xs l p 0) (fun j => R0 j ∨ (W.heap.size ≤ j ∧ j < wr0.heap.size)) wr0) := Lib.hid (by
    rw [T.cat_zero, List.append_nil]
    exact HH.out.sJ _ _ _ _ _ HJ.out (ButS.of_below hB0 (Nat.le_refl _)) (fun j hj => by
      rcases hj with hj | hj
      · exact ⟨.inl hj, Nat.lt_of_lt_of_le (HR0.out j hj).1 hB0.size⟩
      · exact ⟨.inr hj.1, hj.2⟩))
  have HB0 := Lib.hid hB0
  have HA0 := Lib.hid hA0
  have HA1 := Lib.hid hA1
  have hs3 : W.heap.size + 2 < wr0.heap.size := by omega
  clear hwr0 ha hB0 hz0 hA0 hA1 HB1 HY0 HY1 hY0 hY1 hB2 hS2 HJ
  gi_loopw [31] (fun cv wr => ∃ (j : Nat) (Rj : Nat → Prop), j ≤ n ∧ cv = .int .i64 (j : Int) ∧ Hid (J (pre0 ++ T.cat xs l p j) Rj wr) ∧ Hid (∀ i, R0 i ∨ (W.heap.size ≤ i ∧ i < wr0.heap.size) → Rj i) ∧ Hid (∀ i, Rj i → (R0 i ∨ W.heap.size ≤ i) ∧ i < wr.heap.size) ∧ Hid (ButS wr0 wr (fun i => ¬ (Z i ∨ R0 i ∨ (W.heap.size ≤ i ∧ i < wr0.heap.size))))) (fun cv _ => n - (intOf cv).toNat)
  case atStart => exact ⟨0, _, by omega, rfl, hJ0, Lib.hid (fun i hi => hi), Lib.hid (fun i hi => by
    rcases hi with hi | hi
    · exact ⟨.inl hi, Nat.lt_of_lt_of_le (HR0.out i hi).1 HB0.out.size⟩
    · exact ⟨.inr hi.1, hi.2⟩), Lib.hid (ButS.refl _ _)⟩
  case round =>
    obtain ⟨j, Rj, hj, rfl, HJj, HRa, HRb, HBj⟩ := hrel
    have hA0 := (HBj.out.back (j := W.heap.size) (by omega) (fun h => h (.inr (.inr ⟨Nat.le_refl _, by omega⟩)))).trans HA0.out
    have hA1 := (HBj.out.back (j := W.heap.size + 1) (by omega) (fun h => h (.inr (.inr ⟨by omega, by omega⟩)))).trans HA1.out
    have x0 := cell_of_row wr _ 0 _ _ (0, 0) hA0
    have x1 := cell_of_row wr _ 0 _ _ (0, 0) hA1
    have f1 := frozen_of_row wr _ 0 _ _ hA1
    simp at x0 x1
    have hWW : ButS W wr (fun i => ¬ (Z i ∨ R0 i)) := ((ButS.of_below HB0.out (Nat.le_refl _)).then HBj.out (fun i hi => by
      by_cases h1 : W.heap.size ≤ i
      · exact .inr h1
      · exact .inl (fun h2 => hi (h2.elim .inl (fun h3 => .inr (.inl h3))))))
    have HWW := Lib.hid hWW
    have hsz := hWW.size
    rcases Nat.lt_or_ge j n with hjn | hjn
    · have d1 : decide ((j : Int) < (n : Int)) = true := decide_eq_true (by omega)
      have d2 : decide (j < n) = true := decide_eq_true hjn
      have wj : IntKind.i64.wrap ((j : Int) + 1) = ((j + 1 : Nat) : Int) := by rw [IntWalk.i64_in _ (by omega)]; omega
      have gj : (j : Int) < (n : Int) := by omega
      have hjd : j < (T.dgs xs l p).length := by rw [HND.out]; exact hjn
      have hW0r : K.Chg W0 wr (fun i => ¬ Z i) := HW.out.trans hWW.chg (fun i hi => by
        by_cases h1 : Z i
        · rcases Nat.lt_or_ge i W.heap.size with h2 | h2
          · exact absurd (.inl h1) hi
          · exact .inr (by omega)
        · exact .inl h1)
      have hownr := hWW.chg.own HOWN.out (fun b hb hn => hn (.inl (HKZ.out b (own_of_map hb))))
      obtain ⟨g, rfl⟩ := own_some HOWN.out (by omega)
      have hcj : wr.cell? ⟨g, j, none⟩ = some (.int .i64 ((pl (l + 1) (p * 64 + (T.dgs xs l p)[j]) : Nat) : Int)) := by
        refine (hownr.cellAt j (by omega)).trans ?_
        rw [iw_at, HCH.out, List.getElem?_map, List.getElem?_eq_getElem hjd]
        rfl
      have hpp := (T.mem_dgs.1 (List.getElem_mem hjd)).2
      have hcs := T.cat_succ xs l p j hjd
      have hpre2 : pre0 ++ T.cat xs l p j ++ T.sub xs (l + 1) (p * 64 + (T.dgs xs l p)[j]) <+: xs := by
        rw [List.append_assoc, ← hcs]
        exact ((List.prefix_append_right_inj _).2 (T.cat_pre HU.out (by omega) p (j + 1))).trans HPRE.out
      have hrec := Lib.hid (HIH.out (p * 64 + (T.dgs xs l p)[j]) hpp (pre0 ++ T.cat xs l p j) Rj wr hpre2 (fun i hi => ⟨(HRb.out i hi).2, fun hz => by
        rcases (HRb.out i hi).1 with h1 | h1
        · exact (HR0.out i h1).2 hz
        · have := HZL.out i hz; omega⟩) hW0r HJj.out)
      rw [List.append_assoc, ← hcs] at hrec
      generalize p * 64 + (T.dgs xs l p)[j] = p2 at *
      generalize pl (l + 1) p2 = pi2 at *
      have lt0 := row_lt hA0
      have HA0r := Lib.hid hA0
      have HA1r := Lib.hid hA1
      clear hWW hW0r hownr hpp hcs hpre2 hA0 hA1 hjd
      have hR1 : Rj (W.heap.size + 1) := HRa.out _ (.inr ⟨by omega, by omega⟩)
      have HR1 := Lib.hid hR1
      clear hR1
      gi_wp2_with (gi_at_call 67; refine (callsIn_wide.2 hrec.out).mono ?_
                   (rintro e w3 ⟨R3, ⟨rfl, hJ3⟩ | ⟨rfl, q, hq, hJ3⟩, h3a, h3b, h3c⟩ <;>
                     (have hr1 := (h3c.back (j := W.heap.size + 1) (row_lt HA1r.out) (fun h => h (.inr HR1.out))).trans HA1r.out
                      have y1 := cell_of_row w3 _ 0 _ _ (0, 0) hr1
                      have g1 := frozen_of_row w3 _ 0 _ _ hr1
                      simp at y1
                      have HRR := Lib.hid hr1
                      have HJ3' := Lib.hid hJ3
                      have H3A := Lib.hid h3a
                      have H3B := Lib.hid h3b
                      have H3C := Lib.hid h3c
                      clear hr1 hJ3 h3a h3b h3c)))
      · have HJ3 := HJ3'
        have h3a := H3A.out
        have h3b := H3B.out
        have h3c := H3C.out
        have H3a := Lib.hid (fun i hi => h3a i (HRa.out i hi))
        have H3b : Hid (∀ i, R3 i → (R0 i ∨ W.heap.size ≤ i) ∧ i < w3.heap.size) := Lib.hid (fun i hi => ⟨(h3b i hi).1.elim (fun h => (HRb.out i h).1) (fun h => .inr (by omega)), (h3b i hi).2⟩)
        have H3c : Hid (ButS wr0 w3 (fun i => ¬ (Z i ∨ R0 i ∨ (W.heap.size ≤ i ∧ i < wr0.heap.size)))) := Lib.hid (HBj.out.then h3c (fun i hi => .inl (fun h => hi (h.elim .inl (fun h2 => .inr (HRa.out i h2))))))
        clear h3a h3b h3c
        go_roundw
        case rel => exact ⟨j + 1, R3, by omega, by go_num, HJ3, H3a, H3b, H3c⟩
        case measure => first | (simp [intOf]; done) | (simp [intOf]; omega)
      · have hJx := HJ3'.out
        have h3a := H3A.out
        have h3b := H3B.out
        have h3c := H3C.out
        have hz4 : (w3.setCell ⟨W.heap.size + 1, 0, none⟩ (.bool false)).heap.size = w3.heap.size := size_set _ _ _
        refine ⟨_, tell_res _ _ _ _ rfl ?_, R3, .inr ⟨rfl, q, hq, HH.out.sX _ _ _ _ _ hJx (ButS.of_chg (chg_set w3 (W.heap.size + 1) 0 (.bool false) R3 (h3a _ HR1.out))) (fun i hi => ⟨.inl hi, by rw [hz4]; exact (h3b i hi).2⟩)⟩, fun i hi => h3a i (HRa.out i (.inl hi)), fun i hi => ⟨(h3b i hi).1.elim (fun h => (HRb.out i h).1) (fun h => .inr (by omega)), by rw [hz4]; exact (h3b i hi).2⟩, ?_⟩
        · have := cell_of_row _ _ 0 _ _ (0, 0) (row_set HRR.out 0 (.bool false))
          simpa using this
        · exact (HWW.out.then h3c (fun i hi => .inl (fun h => hi (h.elim .inl (fun h2 => .inr (HRa.out i (.inl h2))))))).then (ButS.of_chg (chg_set w3 (W.heap.size + 1) 0 (.bool false) (fun i => i = W.heap.size + 1) rfl)) (fun i hi => .inr (by omega))
    · obtain rfl : j = n := by omega
      have d1 : decide ((j : Int) < (j : Int)) = false := decide_eq_false (by omega)
      have hR1 : Rj (W.heap.size + 1) := HRa.out _ (.inr ⟨by omega, by omega⟩)
      have HJx : Hid (J (pre0 ++ T.sub xs l p) Rj (wr.setCell ⟨W.heap.size + 1, 0, none⟩ (.bool true))) := Lib.hid (by
        have h1 := HJj.out
        rw [← HND.out, T.cat_all HU.out (by omega)] at h1
        exact HH.out.sJ _ _ _ _ _ h1 (ButS.of_chg (chg_set wr (W.heap.size + 1) 0 (.bool true) Rj hR1)) (fun i hi => ⟨.inl hi, by rw [size_set]; exact (HRb.out i hi).2⟩))
      have H3c : Hid (ButS W (wr.setCell ⟨W.heap.size + 1, 0, none⟩ (.bool true)) (fun i => ¬ (Z i ∨ R0 i))) := Lib.hid (hWW.then (ButS.of_chg (chg_set wr (W.heap.size + 1) 0 (.bool true) (fun i => i = W.heap.size + 1) rfl)) (fun i hi => .inr (by omega)))
      have HA1r := Lib.hid hA1
      clear hWW hA0 hA1
      gi_wp2
      refine ⟨_, tell_res _ _ _ _ rfl ?_, Rj, .inl ⟨rfl, HJx.out⟩, fun i hi => HRa.out i (.inl hi), fun i hi => ⟨(HRb.out i hi).1, by rw [size_set]; exact (HRb.out i hi).2⟩, H3c.out⟩
      have := cell_of_row _ _ 0 _ _ (0, 0) (row_set HA1r.out 0 (.bool true))
      simpa using this
end
end Go.Proofs.YtbiingpdchoppaaDoor
end
section
namespace Go.Proofs.YtbiingpdchoppaaDoor
set_option maxRecDepth 40000
open Go.RowKit Go.Shelf
attribute [local go_sem] Oper.semAt_some
attribute [local simp] wide_fn
/-- What the inner loop keeps: its own blocks lie as they lay, all else but them is the outer body's. -/
def IJW {β : Type} (Z S : Nat → Prop) (Wq : World) (J : List β → (Nat → Prop) → World → Prop) (f : List Int → List β) (pre : List Int) (O : Nat → Prop) (W : World) : Prop :=
  (∀ j, O j → ¬ Z j ∧ ¬ S j ∧ j < W.heap.size) ∧ ButS Wq W (fun j => ¬ (Z j ∨ S j)) ∧ J (f pre) (fun j => j < W.heap.size ∧ ¬ Z j ∧ ¬ O j) W
theorem IJW.abides {β : Type} {Z S : Nat → Prop} {Wq : World} {J : List β → (Nat → Prop) → World → Prop} (f : List Int → List β) (hJ : Steps J) (hZ : ∀ j, Z j → j < Wq.heap.size) : Abides Wq.heap.size (IJW Z S Wq J f) := by
  intro s O W W' R ⟨h1, h2, h3⟩ hw hR
  refine ⟨fun j hj => ⟨(h1 j hj).1, (h1 j hj).2.1, Nat.lt_of_lt_of_le (h1 j hj).2.2 hw.size⟩, h2.then hw (fun j hj => .inr (hR j hj).2), ?_⟩
  refine hJ _ _ _ _ _ h3 (hw.mono fun j hlt hj => ⟨hlt, fun hz => by have := hZ j hz; have := (hR j hj).2; omega, (hR j hj).1⟩) (fun j hj => ⟨?_, hj.1⟩)
  by_cases hlt : j < W.heap.size
  · exact .inl ⟨hlt, hj.2.1, hj.2.2⟩
  · exact .inr (by omega)
/-- The outer round is over: what it has turned is the body's. -/
theorem IJW.next {β : Type} {Z S : Nat → Prop} {Wq W1 W' : World} {J J' : List β → (Nat → Prop) → World → Prop} {f : List Int → List β} {pre pre' : List Int} {O : Nat → Prop} (hJ : Steps J') (hSl : ∀ j, S j → j < Wq.heap.size ∧ ¬ Z j) (h : IJW Z S Wq J f pre O W1)
    (hj : J' (f pre') (fun j => j < W1.heap.size ∧ ¬ Z j ∧ ¬ O j) W') (hb : ButS W1 W' (fun j => ¬ (Z j ∨ (j < W1.heap.size ∧ ¬ Z j ∧ ¬ O j)))) : ∃ O', OwnStep O O' W1 W' ∧ IJW Z S Wq J' f pre' O' W' := by
  obtain ⟨h1, h2, h3⟩ := h
  have hs := hb.size
  refine ⟨fun j => j < W'.heap.size ∧ ¬ Z j ∧ ¬ (j < W1.heap.size ∧ ¬ Z j ∧ ¬ O j), ⟨hb.mono (fun j hlt hj => ?_), fun j hj => ⟨?_, hj.1⟩⟩, fun j hj => ⟨hj.2.1, fun hS => ?_, hj.1⟩, ?_, ?_⟩
  · exact Classical.byContradiction fun ho => hj (Classical.byContradiction fun hn => hn (.inr ⟨hlt, fun hz => hn (.inl hz), ho⟩))
  · by_cases hlt : j < W1.heap.size
    · exact .inl (Classical.byContradiction fun ho => hj.2.2 ⟨hlt, hj.2.1, ho⟩)
    · exact .inr (by omega)
  · have := h2.size
    exact hj.2.2 ⟨by have := (hSl j hS).1; omega, hj.2.1, fun ho => (h1 j ho).2.1 hS⟩
  · refine h2.then hb (fun j hj => ?_)
    by_cases hlt : j < Wq.heap.size
    · refine .inl (fun h => hj ?_)
      rcases h with h | h
      · exact .inl h
      · exact .inr ⟨by have := h2.size; omega, (hSl j h).2, fun ho => (h1 j ho).2.1 h⟩
    · exact .inr (by omega)
  · refine hJ _ _ _ _ _ hj (ButS.refl _ _) (fun j hj => ⟨.inl ?_, hj.1⟩)
    exact Classical.byContradiction fun h => hj.2.2 ⟨hj.1, hj.2.1, h⟩
theorem but_same_set {W : World} {b : Nat} {v : Value} {T : TypeId} (h : W.heap[b]? = some (.cells #[v] T (0, 0))) : ButS W (W.setCell ⟨b, 0, none⟩ v) (fun _ => False) := by
  refine ⟨rfl, rfl, rfl, by rw [size_set]; exact Nat.le_refl _, fun j _ _ => ?_⟩
  by_cases e : j = b
  · subst e
    have := row_set h 0 v
    simp at this
    rw [this, h]
  · exact (chg_set W b 0 v (fun i => i = b) rfl).block j (by assumption) e
theorem roundIn_wide {m m' : Nat} {P : Program} {l : Nat} {f : FuncId} {tmps : Array Value} {assign body : Code} {w : World} {R : Ending → World → Prop}
    (h : RoundIn Fence.wide m P l f tmps assign body w R) : RoundIn Fence.wide m' P l f tmps assign body w R :=
  ⟨h.1, fun c cs _ => h.2 c cs (fun d hd => by cases hd)⟩
theorem map_bz (W p : Nat) : (M.bz W).map (fun y : Int => p * 64 + y.toNat) = (M.bl W).map fun d => p * 64 + d := by
  unfold M.bz
  rw [List.map_map]
  rfl
section
variable (W0 : World) (P Q m0 lim tk root cn cf : Nat) (An Af : Option Addr) (ns : List (Nd × Bool)) (fs xs : List Nat) (pl : Nat → Nat → Nat) (Z : Nat → Prop) (ly d0 : Nat) (J Jx : List Nat → (Nat → Prop) → World → Prop)
set_option maxRecDepth 100000 in
set_option maxHeartbeats 4000000 in
theorem tell_last (h : TW W0 P Q m0 lim tk An cn Af cf ns fs root pl xs) (hTab0 : Tab W0) (hZT : ∀ j, TBk P Q m0 An Af ns j → Z j) (hZ0 : Z 0) (hZl : ∀ j, Z j → j < W0.heap.size) (hH : TellH Z xs ly d0 J Jx) : TellL W0 P xs pl Z ly J Jx 10 := by
  intro p hp pre0 R0 W hpre hR0 hW hJ
  have hTW := h.chg hW (fun j hj hn => hn (hZT j hj))
  obtain ⟨hin, hne, hok⟩ := hTW.node (by omega) hp
  have hpk := Lib.hid (fun V (hb : Below W.heap.size W V) => (t_peek_node V P Q m0 lim tk root cn cf An Af ns fs xs pl (hTW.chg (K.Chg.of_below (O := fun _ => False) hb) (fun _ _ h => h)) 10 p (by omega) hp).2)
  have hil : pl 10 p < 1048576 := by
    have := hTW.po.ns_le
    have := hTW.po.lim_le
    omega
  have hWs : W0.heap.size ≤ W.heap.size := hW.size
  have hle := T.mem_sub.1 (List.mem_of_head? hok.le)
  have hlt := h.lt _ hle.1
  have hsub := T.sub_ten h.up p
  rw [← hok.bits] at hsub
  have hWl := hok.wlt
  have hTabW : Tab W := fun j hj => (hW.cell hTab0.pos (fun hn => hn hZ0) j).trans (hTab0 j hj)
  clear hne hin
  obtain ⟨pi, hpi⟩ : ∃ pi, pl 10 p = pi := ⟨_, rfl⟩
  rw [hpi] at hpk hok hil hle hlt hsub hWl ⊢
  obtain ⟨nd, hnd⟩ : ∃ nd, nat ns pi = nd := ⟨_, rfl⟩
  rw [hnd] at hpk hle hlt hsub hWl
  clear hnd hpi hok
  obtain ⟨W1, A, ch, c, ks, le, gr⟩ := nd
  dsimp only at hle hlt hsub hWl
  obtain ⟨n, hn⟩ : ∃ n, ch.length = n := ⟨_, rfl⟩
  have hpk : Hid (∀ V, Below W.heap.size W V → Calls Tryd.prog 57 #[.pointer (some ⟨P, 0, none⟩), .int .i64 (pi : Int)] V (RetB V (ndv W1 A ch.length c ks le gr))) := hpk
  rw [hn] at hpk
  have hkey := Lib.hid (fun (V : World) (d : Nat) (hd : d < 64) => t_key2 V W1 A n c ks le gr d hlt hd)
  rw [hle.2] at hkey
  have HSUB := Lib.hid hsub
  have HR0 := Lib.hid hR0
  have HJ := Lib.hid hJ
  have HPRE := Lib.hid hpre
  have HZL := Lib.hid hZl
  have HH := Lib.hid hH
  have HTAB := Lib.hid hTabW
  have hB2 : Hid (Below W.heap.size W ((W.alloc (.cells #[.func (.yield ly) #[] #[]] 54)).alloc (.cells #[.bool false] 4))) := Lib.hid (((Below.refl _ W).alloc (Nat.le_refl _) _).alloc (by simp) _)
  have hY0 : Hid (((W.alloc (.cells #[.func (.yield ly) #[] #[]] 54)).alloc (.cells #[.bool false] 4)).heap[W.heap.size]? = some (.cells #[.func (.yield ly) #[] #[]] 54 (0, 0))) := Lib.hid ((Below.heap_alloc _ _ _ (by simp)).trans (K.alloc_top _ _))
  have hY1 : Hid (((W.alloc (.cells #[.func (.yield ly) #[] #[]] 54)).alloc (.cells #[.bool false] 4)).heap[W.heap.size + 1]? = some (.cells #[.bool false] 4 (0, 0))) := Lib.hid (top_two W _ _)
  have hS2 : Hid (((W.alloc (.cells #[.func (.yield ly) #[] #[]] 54)).alloc (.cells #[.bool false] 4)).heap.size = W.heap.size + 2) := Lib.hid (by simp)
  clear hW hR0 hJ hpre h hZl hH hTW hn hsub hTabW hTab0 hlt hle
  show Calls _ _ #[_, _, .int .i64 10, _] _ _
  refine (callsIn_wide (n := 9)).1 ?_
  refine callsIn_of_wp_marks Tryd.func67 rfl trivial ?_ rfl
  simp only [Tryd.ntmps67, List.size_toArray, List.length_cons, List.length_nil, Nat.reduceAdd, Nat.reduceSub, Array.replicate_succ, Array.replicate_zero, List.push_toArray, List.append_toArray, List.nil_append, List.cons_append]
  gi_wp2_with (first
    | (gi_at_call 57; refine (callsIn_wide.2 (hpk.out _ hB2.out)).mono ?_; rintro e w1 ⟨rfl, hb1⟩
       have HB1 := Lib.hid (hB2.out.trans (hb1.mono hB2.out.size))
       have hs1 := hb1.size
       rw [hS2.out] at hs1
       have HY0 := Lib.hid ((hb1.block W.heap.size (by rw [hS2.out]; omega)).trans hY0.out)
       have HY1 := Lib.hid ((hb1.block (W.heap.size + 1) (by rw [hS2.out]; omega)).trans hY1.out)
       clear hb1)
    | (gi_at_call 85; refine (callsIn_wide.2 (rising_any W1 _)).mono ?_; rintro e w' ⟨rfl, rfl⟩))

  obtain ⟨Wq, hWq⟩ : ∃ Wq, (w1.alloc (ndo W1 A n c ks le gr)).alloc (.cells #[.int .u64 (W1 : Int)] 30) = Wq := ⟨_, rfl⟩
  have hz2 : ((w1.alloc (ndo W1 A n c ks le gr)).alloc (.cells #[.int .u64 (W1 : Int)] 30)).heap.size = w1.heap.size + 2 := by simp
  have hB0 : Below W.heap.size W ((w1.alloc (ndo W1 A n c ks le gr)).alloc (.cells #[.int .u64 (W1 : Int)] 30)) := (HB1.out.alloc (by omega) _).alloc (by simp; omega) _
  have hc2 : K.Chg w1 ((w1.alloc (ndo W1 A n c ks le gr)).alloc (.cells #[.int .u64 (W1 : Int)] 30)) (fun _ => False) := (chg_alloc w1 _ _).same (chg_alloc _ _ _)
  have hA0 := (hc2.block W.heap.size (by omega) (fun h => h)).trans HY0.out
  have hA1 := (hc2.block (W.heap.size + 1) (by omega) (fun h => h)).trans HY1.out
  have hAn : ((w1.alloc (ndo W1 A n c ks le gr)).alloc (.cells #[.int .u64 (W1 : Int)] 30)).heap[w1.heap.size]? = some (ndo W1 A n c ks le gr) := (Below.heap_alloc _ _ _ (by simp)).trans (K.alloc_top _ _)
  have hAw : ((w1.alloc (ndo W1 A n c ks le gr)).alloc (.cells #[.int .u64 (W1 : Int)] 30)).heap[w1.heap.size + 1]? = some (.cells #[.int .u64 (W1 : Int)] 30 (0, 0)) := top_two w1 _ _
  rw [hWq] at hz2 hB0 hA0 hA1 hAn hAw ⊢
  clear hc2
  obtain ⟨S, hS⟩ : ∃ S : Nat → Prop, S = fun j => R0 j ∨ (W.heap.size ≤ j ∧ j < Wq.heap.size) := ⟨_, rfl⟩
  have hSl : ∀ j, S j → j < Wq.heap.size ∧ ¬ Z j := fun j hj => by
    rw [hS] at hj
    rcases hj with hj | hj
    · exact ⟨Nat.lt_of_lt_of_le (HR0.out j hj).1 hB0.size, (HR0.out j hj).2⟩
    · exact ⟨hj.2, fun hz => by have := HZL.out j hz; omega⟩
  have hZq : ∀ j, Z j → j < Wq.heap.size := fun j hj => by have := HZL.out j hj; have := hB0.size; omega
  have hJq : IJW Z S Wq J (fun pre2 : List Int => pre0 ++ pre2.map fun y => p * 64 + y.toNat) [] (fun j => j < Wq.heap.size ∧ ¬ Z j ∧ ¬ S j) Wq := by
    refine ⟨fun j hj => ⟨hj.2.1, hj.2.2, hj.1⟩, ButS.refl _ _, ?_⟩
    simp only [List.map_nil, List.append_nil]
    refine HH.out.sJ _ _ _ _ _ HJ.out (ButS.of_below hB0 (Nat.le_refl _)) (fun j hj => ⟨?_, hj.1⟩)
    have hSj : S j := Classical.byContradiction fun h => hj.2.2 ⟨hj.1, hj.2.1, h⟩
    rw [hS] at hSj
    exact hSj.imp (fun h => h) (fun h => h.1)
  have hTq : Tab Wq := HTAB.out.below hB0 HTAB.out.pos
  have hqc : Wq.cell? ⟨w1.heap.size + 1, 0, none⟩ = some (.int .u64 (W1 : Int)) := cell_of_row Wq _ 0 _ _ (0, 0) hAw
  have hS0 : S W.heap.size := by rw [hS]; exact .inr ⟨Nat.le_refl _, by omega⟩
  have hS1 : S (W.heap.size + 1) := by rw [hS]; exact .inr ⟨by omega, by omega⟩
  have hSn : S w1.heap.size := by rw [hS]; exact .inr ⟨by omega, by omega⟩
  have hSR : ∀ j, R0 j → S j := fun j hj => by rw [hS]; exact .inl hj
  have hSW : ∀ j, S j → R0 j ∨ W.heap.size ≤ j := fun j hj => by rw [hS] at hj; exact hj.imp (fun h => h) (fun h => h.1)
  have hWqs := hB0.size
  have HBW : Hid (ButS W Wq (fun _ => False)) := Lib.hid (ButS.of_below hB0 (Nat.le_refl _))
  clear hB0 hS HB1 HY0 HY1 hY0 hY1 hB2 hS2 HJ hpk
  clear hWq
  refine wpIn_rangeW (Q := _) rfl (by decide) (gf := 97) (lb := #[.pointer (some ⟨w1.heap.size + 1, 0, none⟩)]) rfl trivial (enters_of Tryd.func97 (by kernel_rfl) rfl)
    (rising_w 8 (by decide) (w1.heap.size + 1) Z hZ0 W1 hWl Wq (by omega) hTq hqc) hZq (Below.refl _ _) (fun _ => rfl)
    (fun pre O W' => IJW Z S Wq J (fun pre2 : List Int => pre0 ++ pre2.map fun y => p * 64 + y.toNat) pre O W')
    (fun c pre O W' => c = .ret ∧ IJW Z S Wq Jx (fun pre2 : List Int => pre0 ++ pre2.map fun y => p * 64 + y.toNat) pre O W')
    (fun pp a1 O W' => a1 = { tmps := #[.pointer (some ⟨P, 0, none⟩), .int .i64 (pi : Int), .int .i64 10, .func (.yield ly) #[] #[], undef, undef, undef, .pointer (some ⟨W.heap.size, 0, none⟩), .pointer (some ⟨W.heap.size + 1, 0, none⟩), .pointer (some ⟨w1.heap.size, 0, none⟩), .int .i64 pp.2, undef, undef, .pointer (some ⟨P, 0, none⟩), .int .i64 (pi : Int), ndv W1 A n c ks le gr, .int .i64 10, .bool true, .pointer (some ⟨w1.heap.size, 0, none⟩), .int .u64 (W1 : Int), .func (.func 97) #[] #[.pointer (some ⟨w1.heap.size + 1, 0, none⟩)], .int .i64 pp.2, undef, undef, undef, undef, undef, undef, undef, undef, undef, undef, undef, undef, undef, undef, undef, undef, undef, undef, undef, undef, undef], defers := [] } ∧ pp.1 ++ [pp.2] <+: M.bz W1 ∧ IJW Z S Wq J (fun pre2 : List Int => pre0 ++ pre2.map fun y => p * 64 + y.toNat) pp.1 O W')
    (IJW.abides _ HH.out.sJ hZq) (fun c => fun s O W' W'' R hi hw hR => ⟨hi.1, IJW.abides _ HH.out.sX hZq s O W' W'' R hi.2 hw hR⟩)
    (fun a' pp O W' W'' R hi hw hR => ⟨hi.1, hi.2.1, IJW.abides _ HH.out.sJ hZq pp.1 O W' W'' R hi.2.2 hw hR⟩)
    (fun pre O W' hi j hj => (hi.1 j hj).1) (fun j => j < Wq.heap.size ∧ ¬ Z j ∧ ¬ S j) (fun j hj => hj.1) hJq ?assign ?body ?done ?stop
  case assign =>
    intro l2 pre y O1 W' hi hT1
    gi_wp2
    exact ⟨O1, ⟨ButS.refl _ _, fun j hj => ⟨.inl hj, (hi.1 j hj).2.2⟩⟩, by first | trivial | rfl, hT1, hi⟩
  case body =>
    rintro l2 pre y O1 a1 Wc ⟨rfl, hT1, hi⟩
    have hT1 : pre ++ [y] <+: M.bz W1 := hT1
    have hmem := prefix_snoc hT1
    obtain ⟨d, hdm, rfl⟩ : ∃ d, d ∈ M.bl W1 ∧ (d : Int) = y := by
      unfold M.bz at hmem
      obtain ⟨d, h1, h2⟩ := List.mem_map.1 hmem
      exact ⟨d, h1, h2⟩
    have hd64 : d < 64 := (M.mem_bl.1 hdm).1
    have hkeep := fun j (hj : S j) => hi.2.1.back (j := j) (hSl j hj).1 (fun h => h (.inr hj))
    have k0 := (hkeep _ hS0).trans hA0
    have k1 := (hkeep _ hS1).trans hA1
    have kn := (hkeep _ hSn).trans hAn
    have c0 := cell_of_row Wc _ 0 _ _ (0, 0) k0
    obtain ⟨y0, y1, y2, y3, y4⟩ := nd_cells kn
    simp at c0
    have l0 := row_lt k0
    have l1 := row_lt k1
    have ln := row_lt kn
    have hik := IJW.abides _ HH.out.sJ hZq pre O1 Wc (Wc.alloc (ndo W1 A n c ks le gr)).drew (fun _ => False) hi (ButS.of_chg ((chg_alloc Wc (ndo W1 A n c ks le gr) (fun _ => False)).drewN 1)) (fun _ h => h.elim)
    have hpx : pre0 ++ (pre.map fun y : Int => p * 64 + y.toNat) ++ [p * 64 + d] <+: xs := by
      have h1 : (pre ++ [(d : Int)]).map (fun y : Int => p * 64 + y.toNat) <+: T.sub xs 10 p := by
        rw [HSUB.out, ← map_bz]
        exact List.IsPrefix.map _ hT1
      rw [List.map_append] at h1
      rw [List.append_assoc]
      exact ((List.prefix_append_right_inj _).2 h1).trans HPRE.out
    have hyy := HH.out.y _ (p * 64 + d) _ _ hik.2.2 hpx
    have hst : OwnStep O1 O1 Wc (Wc.alloc (ndo W1 A n c ks le gr)).drew := ⟨ButS.of_chg ((chg_alloc Wc (ndo W1 A n c ks le gr) O1).drewN 1), fun j hj => ⟨.inl hj, by have := (hi.1 j hj).2.2; show j < (Wc.heap.push _).size; simp; omega⟩⟩
    have hk1' : (Wc.alloc (ndo W1 A n c ks le gr)).drew.heap[W.heap.size + 1]? = some (.cells #[.bool false] 4 (0, 0)) := (Below.heap_alloc _ _ _ l1).trans k1
    have epd : ((p * 64 + d : Nat) : Int) = (p : Int) * 64 + (d : Int) := by omega
    rw [epd] at hyy
    clear epd
    obtain ⟨fn, tm, asg, bd, hy, hR⟩ := hyy
    have HIK := Lib.hid hik
    have HST := Lib.hid hst
    have HK1 := Lib.hid hk1'
    have HI := Lib.hid hi
    have hmapd : (fun pre2 : List Int => pre0 ++ pre2.map fun y => p * 64 + y.toNat) (pre ++ [(d : Int)]) = pre0 ++ (pre.map fun y : Int => p * 64 + y.toNat) ++ [p * 64 + d] := by simp
    have HMD := Lib.hid hmapd
    clear hkeep k0 k1 kn hik hpx hst hk1' hi hmem hT1 hmapd
    gi_wp2
    refine wpIn_region_any (by kernel_rfl) (wpAnyIn_round (F := Fence.wide) l2 (by kernel_rfl) _ _ _ _ ?_)
    (try (change wpAnyIn _ _ _ _ _ _ _ _ _ (World.drew _)))
    refine with_tail (T := ?TT1) ?tp1 (fun tail => ?bd1)
    case bd1 =>
      refine wpAnyIn_take (i := 2) (v := ?tv2) rfl rfl (by kernel_rfl) (by kernel_rfl) (by kernel_rfl) (fun _ _ _ h => h) ⟨Or.inl ⟨by rfl, ?th2⟩, fun _ => rfl⟩ ?tr2
      case th2 => (intro w; go_simp; try with_reducible rfl)
      refine wpAnyIn_ready (rs := [0, 1]) (by kernel_rfl) (by simp) ?_
      refine AllReadyIn.cons rfl (fun K hK => ?_) ?_
      · go_simp
        refine hK _ _ ?_
        clear hK K
        refine wpAnyIn_ready (rs := [1]) (by kernel_rfl) (by simp) ?_
        refine AllReadyIn.cons rfl (fun K hK => ?_) ?_
        · go_simp
          refine hK _ _ ?_
          clear hK K
          refine wpAnyIn_ready (rs := [3]) (by kernel_rfl) (by simp) ?_
          refine AllReadyIn.cons rfl (fun K hK => ?_) ?_
          · go_simp
            gi_wp2_with (gi_at_call 59; refine (callsIn_wide.2 (hkey.out _ d hd64)).mono ?_; rintro e w' ⟨rfl, rfl⟩)
            exact tail
          exact AllReadyIn.nil
        exact AllReadyIn.nil
      refine AllReadyIn.cons rfl (fun K hK => ?_) ?_
      · go_simp
        refine hK _ _ ?_
        clear hK K
        refine wpAnyIn_ready (rs := [0, 3]) (by kernel_rfl) (by simp) ?_
        refine AllReadyIn.cons rfl (fun K hK => ?_) ?_
        · go_simp
          refine hK _ _ ?_
          clear hK K
          refine wpAnyIn_ready (rs := [3]) (by kernel_rfl) (by simp) ?_
          refine AllReadyIn.cons rfl (fun K hK => ?_) ?_
          · go_simp
            gi_wp2_with (gi_at_call 59; refine (callsIn_wide.2 (hkey.out _ d hd64)).mono ?_; rintro e w' ⟨rfl, rfl⟩)
            exact tail
          exact AllReadyIn.nil
        refine AllReadyIn.cons rfl (fun K hK => ?_) ?_
        · go_simp
          gi_wp2_with (gi_at_call 59; refine (callsIn_wide.2 (hkey.out _ d hd64)).mono ?_; rintro e w' ⟨rfl, rfl⟩)
          refine wpAnyIn_ready (rs := [0]) (by kernel_rfl) (by simp) ?_
          refine AllReadyIn.cons rfl (fun K hK => ?_) ?_
          · go_simp
            refine hK _ _ ?_
            clear hK K
            exact tail
          exact AllReadyIn.nil
        exact AllReadyIn.nil
      exact AllReadyIn.nil
    case tp1 =>
      refine wpAnyIn_ready (rs := [4]) (by kernel_rfl) (by simp) ?_
      refine AllReadyIn.cons rfl (fun K hK => ?_) AllReadyIn.nil
      go_simp
      gi_wp2
      refine (roundIn_wide hR).mono ?_
      rintro e W2 ⟨⟨rfl, hj2⟩ | ⟨rfl, hj2⟩, hb2⟩
      · rw [← HMD.out] at hj2
        obtain ⟨O2, ho2, hI2⟩ := HIK.out.next (pre' := pre ++ [(d : Int)]) HH.out.sJ hSl hj2 hb2
        have HO2 := Lib.hid (HST.out.trans ho2)
        have HI2 := Lib.hid hI2
        clear hj2 hb2 ho2 hI2
        refine hK _ _ ?_
        clear hK K
        refine wpAnyIn_ready (rs := [5]) (by kernel_rfl) (by simp) ?_
        refine AllReadyIn.cons rfl (fun K hK => ?_) AllReadyIn.nil
        go_simp
        refine hK _ _ ?_
        clear hK K
        refine wpAnyIn_done (by kernel_rfl) ?_ _
        gi_wp2
        exact ⟨O2, HO2.out, HI2.out⟩
      · rw [← HMD.out] at hj2
        obtain ⟨O2, ho2, hI2⟩ := HIK.out.next (pre' := pre ++ [(d : Int)]) HH.out.sX hSl hj2 hb2
        have r1 := (hI2.2.1.back (j := W.heap.size + 1) (hSl _ hS1).1 (fun h => h (.inr hS1))).trans hA1
        have z1 := cell_of_row W2 _ 0 _ _ (0, 0) r1
        have g1 := frozen_of_row W2 _ 0 _ _ r1
        simp at z1
        have hbs := but_same_set r1
        have hI3 := IJW.abides _ HH.out.sX hZq (pre ++ [(d : Int)]) O2 W2 _ (fun _ => False) hI2 hbs (fun _ h => h.elim)
        have hO3 : OwnStep O2 O2 W2 (W2.setCell ⟨W.heap.size + 1, 0, none⟩ (.bool false)) := ⟨hbs.mono (fun _ _ h => h.elim), fun j hj => ⟨.inl hj, by rw [size_set]; exact (hI2.1 j hj).2.2⟩⟩
        have HO2 := Lib.hid ((HST.out.trans ho2).trans hO3)
        have HI2 := Lib.hid hI3
        clear hj2 hb2 ho2 hI2 r1 hbs hI3 hO3
        refine hK _ _ ?_
        clear hK K
        refine wpAnyIn_ready (rs := [5]) (by kernel_rfl) (by simp) ?_
        refine AllReadyIn.cons rfl (fun K hK => ?_) AllReadyIn.nil
        go_simp
        refine hK _ _ ?_
        clear hK K
        refine wpAnyIn_done (by kernel_rfl) ?_ _
        gi_wp2
        exact ⟨O2, HO2.out, rfl, HI2.out⟩
  case done =>
    rintro D ys O W' hD hOD rfl hI hK
    have r1 := (hI.2.1.back (j := W.heap.size + 1) (hSl _ hS1).1 (fun h => h (.inr hS1))).trans hA1
    have z1 := cell_of_row W' _ 0 _ _ (0, 0) r1
    have g1 := frozen_of_row W' _ 0 _ _ r1
    simp at z1
    have hDl := row_lt hK
    have hne : ¬ D = W.heap.size + 1 := fun e => by have := (hSl _ hS1).1; omega
    have hK2 : (W'.setCell ⟨W.heap.size + 1, 0, none⟩ (.bool true)).heap[D]? = some (.deferred (some [])) := ((chg_set W' (W.heap.size + 1) 0 (.bool true) (fun i => i = W.heap.size + 1) rfl).block D hDl hne).trans hK
    have hR2 := row_set r1 0 (.bool true)
    simp at hR2
    have hR3 : ((W'.setCell ⟨W.heap.size + 1, 0, none⟩ (.bool true)).putObj D (.deferred none)).heap[W.heap.size + 1]? = some (.cells #[.bool true] 4 (0, 0)) := (World.putObj_heap_other (fun e => hne e.symm)).trans hR2
    have hcS := hSl
    have hfin : Hid (TellP Z xs J Jx W R0 (pre0 ++ T.sub xs 10 p) (.returned (.bool true)) ((W'.setCell ⟨W.heap.size + 1, 0, none⟩ (.bool true)).putObj D (.deferred none))) := Lib.hid (by
      have hsz : ((W'.setCell ⟨W.heap.size + 1, 0, none⟩ (.bool true)).putObj D (.deferred none)).heap.size = W'.heap.size := by rw [World.putObj_size, size_set]
      have hWs2 := hI.2.1.size
      have hmem : ∀ j, S j → j < W'.heap.size ∧ ¬ Z j ∧ ¬ O j := fun j hj => ⟨by have := (hSl j hj).1; omega, (hSl j hj).2, fun ho => (hI.1 j ho).2.1 hj⟩
      have hch : ButS W' ((W'.setCell ⟨W.heap.size + 1, 0, none⟩ (.bool true)).putObj D (.deferred none)) (fun j => j = W.heap.size + 1 ∨ j = D) := (ButS.of_chg (chg_set W' (W.heap.size + 1) 0 (.bool true) (fun j => j = W.heap.size + 1 ∨ j = D) (.inl rfl))).trans ((but_put _ D _).mono (fun j _ h => .inr h))
      refine ⟨S, .inl ⟨rfl, ?_⟩, hSR, fun j hj => ⟨hSW j hj, by rw [hsz]; exact (hmem j hj).1⟩, ?_⟩
      · have h3 := hI.2.2
        simp only at h3
        rw [map_bz, ← HSUB.out] at h3
        refine HH.out.sJ _ _ _ _ _ h3 (hch.mono (fun j hlt hj => ?_)) (fun j hj => ⟨.inl (hmem j hj), by rw [hsz]; exact (hmem j hj).1⟩)
        rcases hj with rfl | rfl
        · exact hmem _ hS1
        · exact ⟨hlt, fun hz => by have := hZq _ hz; omega, hOD⟩
      · refine ((HBW.out.mono (T := fun j => ¬ (Z j ∨ R0 j)) (fun _ _ h => h.elim)).then hI.2.1 (fun j hj => ?_)).then hch (fun j hj => .inr ?_)
        · by_cases h1 : S j
          · exact absurd (.inr h1) hj
          · exact .inl (fun h => hj (h.elim .inl (fun h2 => .inr (hSR j h2))))
        · rcases hj with rfl | rfl <;> omega)
    have HK2 := Lib.hid hK2
    have HR3 := Lib.hid hR3
    clear hI hK r1 hK2 hR2 hR3
    gi_wp2
    refine ⟨by simp, .inl ⟨_, _, rfl, run_takeDeferred HK2.out, ⟨_, tell_res _ _ _ _ rfl ?_, hfin.out⟩⟩⟩
    simpa using cell_of_row _ _ 0 _ _ (0, 0) HR3.out
  case stop =>
    rintro D c pre O W' hD hOD hpre ⟨rfl, hI⟩ hK
    have r1 := (hI.2.1.back (j := W.heap.size + 1) (hSl _ hS1).1 (fun h => h (.inr hS1))).trans hA1
    have hDl := row_lt hK
    have hne : ¬ D = W.heap.size + 1 := fun e => by have := (hSl _ hS1).1; omega
    have hR3 : (W'.putObj D (.deferred none)).heap[W.heap.size + 1]? = some (.cells #[.bool false] 4 (0, 0)) := (World.putObj_heap_other (fun e => hne e.symm)).trans r1
    have hfin : Hid (TellP Z xs J Jx W R0 (pre0 ++ T.sub xs 10 p) (.returned (.bool false)) (W'.putObj D (.deferred none))) := Lib.hid (by
      have hsz : (W'.putObj D (.deferred none)).heap.size = W'.heap.size := World.putObj_size ..
      have hWs2 := hI.2.1.size
      have hmem : ∀ j, S j → j < W'.heap.size ∧ ¬ Z j ∧ ¬ O j := fun j hj => ⟨by have := (hSl j hj).1; omega, (hSl j hj).2, fun ho => (hI.1 j ho).2.1 hj⟩
      have hch : ButS W' (W'.putObj D (.deferred none)) (fun j => j = D) := but_put _ D _
      refine ⟨S, .inr ⟨rfl, pre0 ++ pre.map (fun y : Int => p * 64 + y.toNat), ?_, ?_⟩, hSR, fun j hj => ⟨hSW j hj, by rw [hsz]; exact (hmem j hj).1⟩, ?_⟩
      · refine ((List.prefix_append_right_inj _).2 ?_).trans HPRE.out
        rw [HSUB.out, ← map_bz]
        exact List.IsPrefix.map _ hpre
      · refine HH.out.sX _ _ _ _ _ hI.2.2 (hch.mono (fun j hlt hj => ?_)) (fun j hj => ⟨.inl (hmem j hj), by rw [hsz]; exact (hmem j hj).1⟩)
        subst hj
        exact ⟨hlt, fun hz => by have := hZq _ hz; omega, hOD⟩
      · refine ((HBW.out.mono (T := fun j => ¬ (Z j ∨ R0 j)) (fun _ _ h => h.elim)).then hI.2.1 (fun j hj => ?_)).then hch (fun j hj => .inr (by omega))
        by_cases h1 : S j
        · exact absurd (.inr h1) hj
        · exact .inl (fun h => hj (h.elim .inl (fun h2 => .inr (hSR j h2)))))
    have HK2 := Lib.hid hK
    have HR3 := Lib.hid hR3
    clear hI hK r1 hR3
    gi_wp2
    refine ⟨by simp, .inl ⟨_, _, rfl, run_takeDeferred HK2.out, ⟨_, tell_res _ _ _ _ rfl ?_, hfin.out⟩⟩⟩
    simpa using cell_of_row _ _ 0 _ _ (0, 0) HR3.out
end
end Go.Proofs.YtbiingpdchoppaaDoor
end
section
namespace Go.Proofs.YtbiingpdchoppaaDoor
set_option maxRecDepth 40000
open Go.RowKit Go.Shelf
attribute [local go_sem] Oper.semAt_some
attribute [local simp] wide_fn
section
variable (W0 : World) (P Q m0 lim tk root cn cf : Nat) (An Af : Option Addr) (ns : List (Nd × Bool)) (fs xs : List Nat) (pl : Nat → Nat → Nat) (Z : Nat → Prop)
theorem tell_any (ly d0 : Nat) (J Jx : List Nat → (Nat → Prop) → World → Prop) (h : TW W0 P Q m0 lim tk An cn Af cf ns fs root pl xs) (hTab0 : Tab W0) (hZT : ∀ j, TBk P Q m0 An Af ns j → Z j) (hZ0 : Z 0) (hZl : ∀ j, Z j → j < W0.heap.size) (hH : TellH Z xs ly d0 J Jx) : ∀ d l, l + d = 10 → TellL W0 P xs pl Z ly J Jx l
  | 0, l, e => by
    obtain rfl : l = 10 := by omega
    exact tell_last W0 P Q m0 lim tk root cn cf An Af ns fs xs pl Z ly d0 J Jx h hTab0 hZT hZ0 hZl hH
  | d + 1, l, e => tell_up W0 P Q m0 lim tk root cn cf An Af ns fs xs pl Z ly d0 J Jx h hZT hZl hH l (by omega) (tell_any ly d0 J Jx h hTab0 hZT hZ0 hZl hH d (l + 1) (by omega))
set_option maxRecDepth 100000 in
set_option maxHeartbeats 2000000 in
theorem all_w (h : TW W0 P Q m0 lim tk An cn Af cf ns fs root pl xs) (hTab0 : Tab W0) (hZT : ∀ j, TBk P Q m0 An Af ns j → Z j) (hZ0 : Z 0) (hZl : ∀ j, Z j → j < W0.heap.size) (n Bn : Nat) (hBn : Bn < W0.heap.size) (hc : W0.cell? ⟨Bn, 0, none⟩ = some (.pointer (some ⟨P, 0, none⟩))) :
    SeqW Fence.wide n Tryd.prog 66 #[.pointer (some ⟨Bn, 0, none⟩)] (fun x : Nat => #[Value.int .u64 ((x : Nat) : Int)]) Z (fun ys => ys = xs) (fun pre => pre <+: xs) (fun pre => pre <+: xs) W0 := by
  intro l J Jx W hW hJ hJx hY h0
  have hH : TellH Z xs l (n - 1) J Jx := ⟨hJ, hJx, hY⟩
  have hWc : K.Chg W0 W (fun j => ¬ Z j) := K.Chg.of_below hW
  have hTW := h.chg hWc (fun j hj hn => hn (hZT j hj))
  have hlen := Lib.hid (t_len W P Q m0 lim tk root cn cf An Af ns fs xs pl hTW)
  have hBc := (hW.cell (p := ⟨Bn, 0, none⟩) hBn).trans hc
  have hBl : Bn < W.heap.size := Nat.lt_of_lt_of_le hBn hW.size
  have hPl := row_lt hTW.row
  have hPc := cell_of_row W P 2 _ _ (0, 0) hTW.row
  simp at hPc
  refine callsIn_wide.2 ((callsIn_wide (n := 9)).1 ?_)
  by_cases hx : xs = []
  · have hn0 : xs.length = 0 := by rw [hx]; rfl
    rw [hn0] at hlen
    have HX := Lib.hid hx
    have H0 := Lib.hid h0
    have HH := Lib.hid hH
    clear hx hn0 h0 hTW hWc h hZT hTab0 hY hJ hJx hH
    refine callsIn_of_wp Tryd.func66 rfl trivial ?_ rfl
    simp only [Tryd.ntmps66, List.size_toArray, List.length_cons, List.length_nil, Nat.reduceAdd, Nat.reduceSub, Array.replicate_succ, Array.replicate_zero, List.push_toArray, List.append_toArray, List.nil_append, List.cons_append]
    gi_wp2_with (gi_at_call 32; refine (callsIn_wide.2 hlen.out).mono ?_; rintro e w1 ⟨rfl, hb1⟩; have HB1 := Lib.hid hb1; clear hb1)
    go_end0
    refine ⟨⟨_, rfl⟩, .inl ⟨[], fun _ => False, HX.out.symm, HH.out.sJ _ _ _ _ _ H0.out (ButS.of_below HB1.out (Nat.le_refl _)) (fun j hj => hj.elim)⟩⟩
  · have hroot := h.rt hx
    have hs0 := T.sub_zero h.lt
    have hp0 : T.prs xs 0 0 := T.prs_sub.2 (by rw [hs0]; exact hx)
    have htell := Lib.hid (fun (V : World) (hb : Below W.heap.size W V) => by
      have := tell_any W0 P Q m0 lim tk root cn cf An Af ns fs xs pl Z l (n - 1) J Jx h hTab0 hZT hZ0 hZl hH 10 0 (by omega) 0 hp0 [] (fun _ => False) V (by rw [hs0]; exact List.prefix_refl _) (fun _ hj => hj.elim) (hWc.same (K.Chg.of_below hb)) (hJ _ _ _ _ _ h0 (ButS.of_below hb (Nat.le_refl _)) (fun j hj => hj.elim))
      rw [← hroot, hs0, List.nil_append] at this
      exact this)
    have hn1 : 0 < xs.length := List.length_pos_iff.2 hx
    have d1 : decide (0 < xs.length) = true := decide_eq_true hn1
    have d2 : decide ((0 : Int) < (xs.length : Int)) = true := decide_eq_true (by omega)
    obtain ⟨nx, hnx⟩ : ∃ nx, xs.length = nx := ⟨_, rfl⟩
    rw [hnx] at d1 d2 hlen
    clear hnx hn1 hroot hs0 hp0 hx h0 hTW hWc h hZT hTab0 hY hJ hJx hH
    refine callsIn_of_wp Tryd.func66 rfl trivial ?_ rfl
    simp only [Tryd.ntmps66, List.size_toArray, List.length_cons, List.length_nil, Nat.reduceAdd, Nat.reduceSub, Array.replicate_succ, Array.replicate_zero, List.push_toArray, List.append_toArray, List.nil_append, List.cons_append]
    gi_wp2_with (gi_at_call 32; refine (callsIn_wide.2 hlen.out).mono ?_; rintro e w1 ⟨rfl, hb1⟩; have HB1 := Lib.hid hb1; have x0 := (hb1.cell (p := ⟨Bn, 0, none⟩) hBl).trans hBc; have x2 := (hb1.cell (p := ⟨P, 2, none⟩) hPl).trans hPc; clear hb1)
    refine wpIn_region_any (by kernel_rfl) ?_
    (try (change wpAnyIn _ _ _ _ _ _ _ _ _ (World.drew _)))
    refine with_tail (T := ?TT1) ?tp1 (fun tail => ?bd1)
    case bd1 =>
      refine wpAnyIn_take (i := 5) (v := ?tv2) rfl rfl (by kernel_rfl) (by kernel_rfl) (by kernel_rfl) (fun _ _ _ h => h) ⟨Or.inl ⟨by rfl, ?th2⟩, fun _ => rfl⟩ ?tr2
      case th2 => (intro w; go_simp; try with_reducible rfl)
      refine wpAnyIn_ready (rs := [0, 1]) (by kernel_rfl) (by simp) ?_
      refine AllReadyIn.cons rfl (fun K hK => ?_) ?_
      · go_simp
        refine hK _ _ ?_
        clear hK K
        refine wpAnyIn_ready (rs := [1]) (by kernel_rfl) (by simp) ?_
        refine AllReadyIn.cons rfl (fun K hK => ?_) ?_
        · go_simp
          refine hK _ _ ?_
          clear hK K
          refine wpAnyIn_take (i := 2) (v := ?tv3) rfl rfl (by kernel_rfl) (by kernel_rfl) (by kernel_rfl) (fun _ _ _ h => h) ⟨Or.inl ⟨by rfl, ?th3⟩, fun _ => rfl⟩ ?tr3
          case th3 => (intro w; go_simp; try with_reducible rfl)
          refine wpAnyIn_take (i := 3) (v := ?tv4) rfl rfl (by kernel_rfl) (by kernel_rfl) (by kernel_rfl) (fun _ _ _ h => h) ⟨Or.inl ⟨by rfl, ?th4⟩, fun _ => rfl⟩ ?tr4
          case th4 => (intro w; go_simp; try with_reducible rfl)
          refine wpAnyIn_ready (rs := [4]) (by kernel_rfl) (by simp) ?_
          refine AllReadyIn.cons rfl (fun K hK => ?_) ?_
          · go_simp
            refine hK _ _ ?_
            clear hK K
            exact tail
          exact AllReadyIn.nil
        exact AllReadyIn.nil
      refine AllReadyIn.cons rfl (fun K hK => ?_) ?_
      · go_simp
        refine hK _ _ ?_
        clear hK K
        refine wpAnyIn_take (i := 2) (v := ?tv5) rfl rfl (by kernel_rfl) (by kernel_rfl) (by kernel_rfl) (fun _ _ _ h => h) ⟨Or.inl ⟨by rfl, ?th5⟩, fun _ => rfl⟩ ?tr5
        case th5 => (intro w; go_simp; try with_reducible rfl)
        refine wpAnyIn_take (i := 3) (v := ?tv6) rfl rfl (by kernel_rfl) (by kernel_rfl) (by kernel_rfl) (fun _ _ _ h => h) ⟨Or.inl ⟨by rfl, ?th6⟩, fun _ => rfl⟩ ?tr6
        case th6 => (intro w; go_simp; try with_reducible rfl)
        refine wpAnyIn_ready (rs := [0, 4]) (by kernel_rfl) (by simp) ?_
        refine AllReadyIn.cons rfl (fun K hK => ?_) ?_
        · go_simp
          refine hK _ _ ?_
          clear hK K
          refine wpAnyIn_ready (rs := [4]) (by kernel_rfl) (by simp) ?_
          refine AllReadyIn.cons rfl (fun K hK => ?_) ?_
          · go_simp
            refine hK _ _ ?_
            clear hK K
            exact tail
          exact AllReadyIn.nil
        refine AllReadyIn.cons rfl (fun K hK => ?_) ?_
        · go_simp
          refine hK _ _ ?_
          clear hK K
          refine wpAnyIn_ready (rs := [0]) (by kernel_rfl) (by simp) ?_
          refine AllReadyIn.cons rfl (fun K hK => ?_) ?_
          · go_simp
            refine hK _ _ ?_
            clear hK K
            exact tail
          exact AllReadyIn.nil
        exact AllReadyIn.nil
      exact AllReadyIn.nil
    case tp1 =>
      refine wpAnyIn_ready (rs := [6]) (by kernel_rfl) (by simp) ?_
      refine AllReadyIn.cons rfl (fun K hK => ?_) AllReadyIn.nil
      go_simp
      gi_wp2_with (gi_at_call 67; refine (callsIn_wide.2 (htell.out _ (below_drewN HB1.out 1))).mono ?_; rintro e w3 ⟨R3, ⟨rfl, hJ3⟩ | ⟨rfl, q, hq, hJ3⟩, _, _, _⟩)
      · refine wpAnyIn_done (by kernel_rfl) ?_ _
        gi_wp2
        go_end0
        exact ⟨⟨_, rfl⟩, .inl ⟨xs, R3, rfl, hJ3⟩⟩
      · refine wpAnyIn_done (by kernel_rfl) ?_ _
        gi_wp2
        go_end0
        exact ⟨⟨_, rfl⟩, .inr ⟨q, R3, hq, hJ3⟩⟩
end
end Go.Proofs.YtbiingpdchoppaaDoor
end
section
namespace Go.Proofs.YtbiingpdchoppaaDoor
set_option maxRecDepth 40000
open Go.RowKit Go.Shelf
attribute [local go_sem] Oper.semAt_some
attribute [local simp] wide_fn
theorem cell_oneB (w : World) (v : Value) (T : TypeId) : ∀ j u, [v][j]? = some u → (w.alloc (.cells #[v] T)).cell? (Addr.add ⟨w.heap.size, 0, none⟩ j) = some u := by
  intro j u hu
  match j, hu with
  | 0, hu => simp at hu; subst hu; simp [Addr.add]
theorem alloc_top (w : World) (o : Obj) {n : Nat} (h : n = w.heap.size) : (w.alloc o).heap[n]? = some o := by
  subst h
  exact K.alloc_top w o
theorem but_alloc2 (w : World) (o : Obj) (S : Nat → Prop) : ButS w (w.alloc o) S := but_alloc' w o S
theorem but_set' (w : World) (h k : Nat) (u : Value) (S : Nat → Prop) (hS : S h) : ButS w (w.setCell ⟨h, k, none⟩ u) S := ButS.of_chg (chg_set w h k u S hS)
/-- The list that is collected: its box at b, its row. -/
def Outs (b : Nat) (es : List Nat) (O : Nat → Prop) (W : World) : Prop :=
  ∃ v, W.heap[b]? = some (.cells #[v] 29 (0, 0)) ∧ W.ownsRow b 30 1 v es.length (wv es) ∧ v.ownBlock ≠ some b ∧ ∀ j, O j ↔ (j = b ∨ v.ownBlock = some j)
theorem own_ltG {W : World} {base : Nat} {e : TypeId} {size n : Nat} {v : Value} {xs : List Value} (h : W.ownsRow base e size v n xs) {j : Nat} (hj : v.ownBlock = some j) : j < W.heap.size ∧ base ≤ j := by
  rcases h.2 with ⟨rfl, _⟩ | ⟨g, cap, cur, rfl, hb, hg, _⟩
  · simp [Value.ownBlock] at hj
  · simp [Value.ownBlock] at hj
    subst hj
    exact ⟨(Array.getElem?_eq_some_iff.1 hg).1, hb⟩
theorem Outs.but {b : Nat} {es : List Nat} {O R : Nat → Prop} {W W' : World} (h : Outs b es O W) (hw : ButS W W' R) (hR : ∀ j, R j → ¬ O j) : Outs b es O W' := by
  obtain ⟨v, h1, h2, h3, h4⟩ := h
  refine ⟨v, (hw.block b (Array.getElem?_eq_some_iff.1 h1).1 (fun hr => hR b hr ((h4 b).2 (.inl rfl)))).trans h1, hw.own h2 (fun k hk hr => hR k hr ((h4 k).2 (.inr hk))), h3, h4⟩
theorem Outs.lt {b : Nat} {es : List Nat} {O : Nat → Prop} {W : World} (h : Outs b es O W) : ∀ j, O j → b ≤ j ∧ j < W.heap.size := by
  obtain ⟨v, h1, h2, h3, h4⟩ := h
  intro j hj
  rcases (h4 j).1 hj with rfl | hj
  · exact ⟨Nat.le_refl _, (Array.getElem?_eq_some_iff.1 h1).1⟩
  · exact ⟨(own_ltG h2 hj).2, (own_ltG h2 hj).1⟩
theorem eq_testG (a m : Nat) : ((a : Int) + 1 == (m : Int)) = decide (a + 1 = m) := by
  rw [Bool.eq_iff_iff]; simp; omega
theorem far_blockG {W w2 : World} {o : Obj} {row : Option Nat} (hg : (W.alloc o).grownBy w2 row) {b : Nat} (hb : b < W.heap.size) (hne : some b ≠ row) : w2.heap[b]? = W.heap[b]? :=
  (hg.block b (by simp; omega) hne).trans (Below.heap_alloc _ _ _ hb)
theorem far_cellG {W w2 : World} {o : Obj} {row : Option Nat} (hg : (W.alloc o).grownBy w2 row) {b : Nat} (off : Nat) (hb : b < W.heap.size) (hne : some b ≠ row) : w2.cell? ⟨b, off, none⟩ = W.cell? ⟨b, off, none⟩ := by
  have := far_blockG hg hb hne
  simp [World.cell?, this]
theorem own_baseG {w : World} {base base' : Nat} {e : TypeId} {size n : Nat} {v : Value} {xs : List Value} (h : w.ownsRow base e size v n xs) (hb : base' ≤ base) : w.ownsRow base' e size v n xs := by
  refine ⟨h.1, ?_⟩
  rcases h.2 with h | ⟨g, cap, cur, hv, hb', rest⟩
  · exact .inl h
  · exact .inr ⟨g, cap, cur, hv, by omega, rest⟩
theorem set_heapG {w : World} {b : Nat} {v u : Value} {T : TypeId} (h : w.heap[b]? = some (.cells #[v] T (0, 0))) : (w.setCell ⟨b, 0, none⟩ u).heap[b]? = some (.cells #[u] T (0, 0)) := by
  simp [World.setCell, Array.getElem?_modify, h]
/-- What 'all' answers. -/
def AllQ (w : World) (es : List Nat) (e : Ending) (w' : World) : Prop :=
  ∃ v, e = .returned v ∧ KX w' v es ∧ Below w.heap.size w w'
set_option maxRecDepth 100000 in
set_option maxHeartbeats 4000000 in
theorem all_law (w : World) (p : Option Addr) (xs : List Nat) (m : Nat) (hm : 0 < m) (hm2 : m ≤ 1000000) (hl : xs.length ≤ 100000000)
    (hseq : ∀ Bn W, Below w.heap.size w W → w.heap.size + 1 ≤ W.heap.size → Bn < W.heap.size → W.cell? ⟨Bn, 0, none⟩ = some (.pointer p) →
      SeqW Fence.wide 8 Tryd.prog 66 #[.pointer (some ⟨Bn, 0, none⟩)] (fun y : Nat => #[Value.int .u64 ((y : Nat) : Int)]) (fun j => j < w.heap.size + 1) (fun ys => ys = xs) (fun pre => pre <+: xs) (fun pre => pre <+: xs) W) :
    Calls Tryd.prog 19 #[.pointer p, .int .i64 (m : Int)] w (AllQ w (xs.take m)) := by
  refine (callsIn_wide (n := 9)).1 ?_
  obtain ⟨i0, hi, hz0, hz1, hz2⟩ := info_parts u64_info
  refine callsIn_of_wp_marks Tryd.func19 rfl trivial ?_ rfl
  simp only [Tryd.ntmps19, List.size_toArray, List.length_cons, List.length_nil, Nat.reduceAdd, Nat.reduceSub, Array.replicate_succ, Array.replicate_zero, List.push_toArray, List.append_toArray, List.nil_append, List.cons_append]
  gi_wp2_with (gi_at_call 43; refine (callsIn_wide.2 (t_all_any _ p)).mono ?_; rintro e w' ⟨rfl, rfl⟩)
  have b1 : Below w.heap.size w (w.alloc (.cells #[.int .i64 (m : Int)] 3)) := (Below.refl _ w).alloc (Nat.le_refl _) _
  have hcm : (w.alloc (.cells #[.int .i64 (m : Int)] 3)).cell? ⟨w.heap.size, 0, none⟩ = some (.int .i64 (m : Int)) := by simp
  have hs1 : (w.alloc (.cells #[.int .i64 (m : Int)] 3)).heap.size = w.heap.size + 1 := by simp
  generalize hw1 : w.alloc (.cells #[.int .i64 (m : Int)] 3) = w1 at *
  have hs2 : (w1.alloc (.cells #[.slice none 0 0] 29)).heap.size = w.heap.size + 2 := by simp; omega
  have hs3 : ((w1.alloc (.cells #[.slice none 0 0] 29)).alloc (.cells #[.pointer p] 25)).heap.size = w.heap.size + 3 := by simp; omega
  have hout : (w1.alloc (.cells #[.slice none 0 0] 29)).heap[w.heap.size + 1]? = some (.cells #[.slice none 0 0] 29 (0, 0)) := alloc_top _ _ hs1.symm
  have hout2 : ((w1.alloc (.cells #[.slice none 0 0] 29)).alloc (.cells #[.pointer p] 25)).heap[w.heap.size + 1]? = some (.cells #[.slice none 0 0] 29 (0, 0)) :=
    (Below.heap_alloc _ _ _ (by omega)).trans hout
  have hbp : ((w1.alloc (.cells #[.slice none 0 0] 29)).alloc (.cells #[.pointer p] 25)).cell? ⟨w.heap.size + 1 + 1, 0, none⟩ = some (.pointer p) :=
    cell_of_row _ _ 0 _ _ (0, 0) (alloc_top _ _ (by omega))
  have hb0 : Below (w.heap.size + 1) w1 ((w1.alloc (.cells #[.slice none 0 0] 29)).alloc (.cells #[.pointer p] 25)) :=
    (((Below.refl _ w1).alloc (by omega) _).alloc (by omega) _)
  generalize hW0 : (w1.alloc (.cells #[.slice none 0 0] 29)).alloc (.cells #[.pointer p] 25) = W0 at *
  have hO0 : Outs (w.heap.size + 1) [] (fun j => j = w.heap.size + 1) W0 := ⟨_, hout2, World.ownsRow_nil _ _ _ _, by simp [Value.ownBlock], fun j => by simp [Value.ownBlock]⟩
  have hbw0 : Below w.heap.size w W0 := b1.trans (hb0.mono (by omega))
  have hsq := hseq (w.heap.size + 1 + 1) W0 hbw0 (by omega) (by omega) hbp
  clear hout hout2 hs2 hW0 hseq
  refine wpIn_rangeW rfl (by decide) (gf := 66) (lb := #[.pointer (some ⟨w.heap.size + 1 + 1, 0, none⟩)]) rfl trivial (enters_of Tryd.func66 (by kernel_rfl) rfl)
    hsq (fun j hj => by have hj : j < w.heap.size + 1 := hj; omega) (Below.refl _ _) (fun _ => rfl)
    (fun pre O W => Outs (w.heap.size + 1) pre O W ∧ pre.length < m ∧ Below (w.heap.size + 1) w1 W)
    (fun c pre O W => c = .exit 0 ∧ Outs (w.heap.size + 1) pre O W ∧ pre.length = m ∧ Below (w.heap.size + 1) w1 W)
    (fun s a1 O W => a1 = { tmps := #[.pointer p, .int .i64 (m : Int), undef, .pointer (some ⟨w.heap.size, 0, none⟩), .slice none 0 0, .pointer (some ⟨w.heap.size + 1, 0, none⟩), .int .u64 ((s.2 : Nat) : Int), .pointer p, .func (.func 66) #[] #[.pointer (some ⟨w.heap.size + 1 + 1, 0, none⟩)], .int .u64 ((s.2 : Nat) : Int), undef, undef, undef, undef, undef, undef, undef, undef, undef], defers := [] }
      ∧ Outs (w.heap.size + 1) s.1 O W ∧ s.1.length < m ∧ Below (w.heap.size + 1) w1 W)
    ?hI ?hIx ?hA ?hlow (fun j => j = w.heap.size + 1) (fun j hj => by omega) ⟨hO0, hm, hb0⟩ ?assign ?body ?done ?stop
  case hI =>
    rintro pre O W W' R ⟨h1, h2, h3⟩ hw hR
    exact ⟨h1.but hw (fun j hj => (hR j hj).1), h2, h3.trans (hw.below (by have := h3.size; omega) (fun j hj => by have := (hR j hj).2; omega))⟩
  case hIx =>
    rintro c pre O W W' R ⟨h0, h1, h2, h3⟩ hw hR
    exact ⟨h0, h1.but hw (fun j hj => (hR j hj).1), h2, h3.trans (hw.below (by have := h3.size; omega) (fun j hj => by have := (hR j hj).2; omega))⟩
  case hA =>
    rintro a' s O W W' R ⟨e1, h1, h2, h3⟩ hw hR
    exact ⟨e1, h1.but hw (fun j hj ho => (hR j hj).1 ho), h2, h3.trans (hw.below (by have := h3.size; omega) (fun j hj => by have := (hR j hj).2; omega))⟩
  case hlow =>
    rintro pre O W ⟨h1, _⟩ j hj hz
    have := (h1.lt j hj).1
    have hz : j < w.heap.size + 1 := hz
    omega
  case assign =>
    rintro L pre x O W ⟨h1, h2, h3⟩ _
    gi_wp2
    exact ⟨O, ⟨ButS.refl _ _, fun j hj => ⟨.inl hj, (h1.lt j hj).2⟩⟩, by first | trivial | rfl, h1, h2, h3⟩
  case body =>
    rintro L pre x O a1 W ⟨rfl, ⟨v, hv, hrow, hvb, hO⟩, h2, h3⟩
    have hc : W.cell? ⟨w.heap.size + 1, 0, none⟩ = some v := cell_of_row _ _ 0 _ _ (0, 0) hv
    have hmc : W.cell? ⟨w.heap.size, 0, none⟩ = some (.int .i64 (m : Int)) := (h3.cell (p := ⟨w.heap.size, 0, none⟩) (by show w.heap.size < w.heap.size + 1; omega)).trans hcm
    have hvl : ∀ j, v.ownBlock = some j → j < W.heap.size ∧ w.heap.size + 1 ≤ j := fun j hj => own_ltG hrow hj
    have hsz := h3.size
    have h2 : pre.length < m := h2
    have hbl : w.heap.size + 1 < W.heap.size := (Array.getElem?_eq_some_iff.1 hv).1
    have HV := Lib.hid hv
    have HR := Lib.hid hrow
    have HVB := Lib.hid hvb
    have HVL := Lib.hid hvl
    have H3 := Lib.hid h3
    have eqb := eq_testG pre.length m
    clear hv hrow hvb hvl h3
    gi_wp2_with (gi_at_builtin; refine wpListIn_append_own_at _ rfl _ _ 29 rfl (w.heap.size + 1) 30 i0 _ 1 8 Tryd.underlying29 hi hz0 hz1 hz2 rfl (by decide) v pre.length (wv pre) rfl (HR.out.alloc _) ⟨W.heap.size, 0, none⟩ 1 1 [.int .u64 ((x : Nat) : Int)] rfl rfl (cell_oneB W _ _) (by intro u hu; simp at hu; subst hu; rfl) (by unfold maxLen; omega) (by omega) (by simp; omega) ?_; intro v' w2 hown' hgrow _ hblk; obtain ⟨A', c', rfl⟩ := K.own_form hown'; have hbB := (far_blockG hgrow hbl (fun e => HVB.out e.symm)).trans HV.out; have hcb : w2.cell? ⟨w.heap.size + 1, 0, none⟩ = some v := cell_of_row _ _ 0 _ _ (0, 0) hbB; have hfb : w2.frozen? ⟨w.heap.size + 1, 0, none⟩ = false := (by simp [World.frozen?, hbB]); have hmb : w2.cell? ⟨w.heap.size, 0, none⟩ = some (.int .i64 (m : Int)) := (far_cellG hgrow 0 (by omega) (fun e => by have := (HVL.out _ e.symm).2; omega)).trans hmc; have HBB := Lib.hid hbB; have HOW := Lib.hid hown'; have HGR := Lib.hid hgrow; have HBL := Lib.hid hblk; clear hbB hown' hgrow hblk)
    all_goals
      have hown2 : w2.ownsRow (w.heap.size + 1) 30 1 (.slice A' (pre.length + 1) c') (pre.length + 1) (wv pre ++ [.int .u64 ((x : Nat) : Int)]) := HOW.out
      have hvb2 : (Value.slice A' (pre.length + 1) c').ownBlock ≠ some (w.heap.size + 1) := by
        intro e
        rcases HBL.out with h | h
        · rw [e] at h; exact HVB.out h.symm
        · rw [e] at h; simp at h; omega
      have hbut : ButS W (w2.setCell ⟨w.heap.size + 1, 0, none⟩ (.slice A' (pre.length + 1) c')) O := by
        refine ((but_alloc' W _ O).trans (ButS.of_grown HGR.out (fun j e => (hO j).2 (.inr e)))).trans (but_set' w2 _ 0 _ O ((hO _).2 (.inl rfl)))
      have hout : Outs (w.heap.size + 1) (pre ++ [x]) (fun j => j = w.heap.size + 1 ∨ (Value.slice A' (pre.length + 1) c').ownBlock = some j) (w2.setCell ⟨w.heap.size + 1, 0, none⟩ (.slice A' (pre.length + 1) c')) := by
        refine ⟨.slice A' (pre.length + 1) c', set_heapG HBB.out, ?_, hvb2, fun j => Iff.rfl⟩
        rw [show wv (pre ++ [x]) = wv pre ++ [.int .u64 ((x : Nat) : Int)] by simp [wv], List.length_append]
        exact (but_set' w2 (w.heap.size + 1) 0 (.slice A' (pre.length + 1) c') (· = w.heap.size + 1) rfl).own hown2 (fun k hk e => hvb2 (by rw [hk, e]))
      have hstep : OwnStep O (fun j => j = w.heap.size + 1 ∨ (Value.slice A' (pre.length + 1) c').ownBlock = some j) W (w2.setCell ⟨w.heap.size + 1, 0, none⟩ (.slice A' (pre.length + 1) c')) := by
        refine ⟨hbut, fun j hj => ⟨?_, (hout.lt j hj).2⟩⟩
        rcases hj with hj | hj
        · left; exact (hO j).2 (.inl hj)
        · rcases HBL.out with h | h
          · left; rw [hj] at h; exact (hO j).2 (.inr h.symm)
          · right; rw [hj] at h; simp at h; omega
      have hlow : ∀ j, O j → w.heap.size + 1 ≤ j := fun j hj => by
        rcases (hO j).1 hj with h | h
        · omega
        · exact (HVL.out j h).2
      have hbel : Below (w.heap.size + 1) w1 (w2.setCell ⟨w.heap.size + 1, 0, none⟩ (.slice A' (pre.length + 1) c')) := H3.out.trans (hbut.below (by omega) hlow)
    · have hpm : pre.length + 1 = m := by assumption
      rw [hpm] at hstep hout hbel
      exact ⟨_, hstep, rfl, hout, by simp; omega, hbel⟩
    · exact ⟨_, hstep, hout, by simp at *; omega, hbel⟩
  case done =>
    rintro D ys O W hD hnD rfl ⟨⟨v, hv, hrow, hvb, hO⟩, h2, h3⟩ hK
    have hc : W.cell? ⟨w.heap.size + 1, 0, none⟩ = some v := cell_of_row _ _ 0 _ _ (0, 0) hv
    have e : ys.take m = ys := List.take_of_length_le (by omega)
    have hDl := (Array.getElem?_eq_some_iff.1 hK).1
    have hvD : v.ownBlock ≠ some D := fun h => hnD ((hO D).2 (.inr h))
    have hfin : w.heap.size + 1 ≤ W.heap.size := by have := h3.size; omega
    gi_wp2
    refine ⟨by simp, .inl ⟨_, _, rfl, run_takeDeferred hK, ?_⟩⟩
    have hr' := own_baseG ((but_put W D (.deferred none)).own hrow (fun k hk h => hvD (by rw [hk, h]))) (base' := 0) (by omega)
    exact ⟨_, results_tmp rfl _ _ _, v, rfl, by rw [e]; exact hr', (b1.trans (h3.mono (by omega))).trans ((but_put W D (.deferred none)).below (by omega) (fun j h => by omega))⟩
  case stop =>
    rintro D c pre O W hD hnD hpre ⟨rfl, ⟨v, hv, hrow, hvb, hO⟩, h2, h3⟩ hK
    have hc : W.cell? ⟨w.heap.size + 1, 0, none⟩ = some v := cell_of_row _ _ 0 _ _ (0, 0) hv
    have e : xs.take m = pre := by
      rw [← h2]
      exact (List.prefix_iff_eq_take.1 hpre).symm
    have hDl := (Array.getElem?_eq_some_iff.1 hK).1
    have hvD : v.ownBlock ≠ some D := fun h => hnD ((hO D).2 (.inr h))
    have hfin : w.heap.size + 1 ≤ W.heap.size := by have := h3.size; omega
    gi_wp2
    refine ⟨by simp, .inl ⟨_, _, rfl, run_takeDeferred hK, ?_⟩⟩
    have hr' := own_baseG ((but_put W D (.deferred none)).own hrow (fun k hk h => hvD (by rw [hk, h]))) (base' := 0) (by omega)
    exact ⟨_, results_tmp rfl _ _ _, v, rfl, by rw [e]; exact hr', (b1.trans (h3.mono (by omega))).trans ((but_put W D (.deferred none)).below (by omega) (fun j h => by omega))⟩
end Go.Proofs.YtbiingpdchoppaaDoor
end
