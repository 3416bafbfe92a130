
/- An act on runs and on the document's set; the text walked. -/
import Derived.Test.YtejboemifncjoaaRun20
import Derived.Test.YtejboemifncjoaaBDo
namespace Go.Proofs.Ytejboemifncjoaa
open Go.RowKit
theorem rq_grown {w w' : World} {B g m : Nat} {A : Option Addr} {rs : List (Int × Int)} {bs : List Bool} (h : Rq w B A rs) (hs : Bs w g m bs) (hg : w.grownBy w' (some g)) (hB : B ≤ w.heap.size) : Rq w' B A rs := fun hne => by
  obtain ⟨b, off, h1, h2, h3⟩ := h hne
  have hbg : b ≠ g := fun e => by
    subst e
    have hpos : 0 < rs.length := Nat.pos_of_ne_zero (fun h => hne (List.eq_nil_of_length_eq_zero h))
    have c := (h3 0 hpos).1
    rw [cell_of_row _ _ _ _ _ (0, 0) hs.row] at c
    have : (bv bs).toArray[off + 0 * 2]? = some (Value.int .u16 rs[0].1) := c
    rw [List.getElem?_toArray, List.getElem?_map] at this
    cases e : bs[off + 0 * 2]? with
    | none => rw [e] at this; cases this
    | some x => rw [e] at this; cases this
  refine ⟨b, off, h1, h2, fun k hk => ?_⟩
  have hb : w'.heap[b]? = w.heap[b]? := hg.block b (by omega) (by intro e; cases e; exact hbg rfl)
  obtain ⟨c1, c2⟩ := h3 k hk
  unfold World.cell? at c1 c2 ⊢
  rw [hb]
  exact ⟨c1, c2⟩
/-- What an act answers: runs and a set that are the same. -/
def DoR (w : World) (g m : Nat) (e : Ending) (w' : World) : Prop := ∃ (val : Value) (qs : List (Int × Int)) (cs : List Bool), e = .returned val ∧ Rn.Ok qs ∧ (∀ x, x ∈ M.L cs ↔ Rn.V qs x) ∧ w'.ownsRow w.heap.size 46 2 val qs.length (rv qs) ∧ Bs w' g m cs ∧ ∀ B, B ≤ w.heap.size → B ≤ g → Below B w w'
theorem chg_true {l l' : List Int} {f t : Int} {n : Nat} (h : M.Chg true l l' f t n) (y : Int) : y ∈ l' ↔ y ∈ l ∨ (f ≤ y ∧ y ≤ t) := by
  rw [h.2.1 y]
  split
  · exact iff_of_true rfl (.inr (by assumption))
  · exact ⟨.inl, fun h => h.elim id (fun h => absurd h (by assumption))⟩
theorem chg_false {l l' : List Int} {f t : Int} {n : Nat} (h : M.Chg false l l' f t n) (y : Int) : y ∈ l' ↔ y ∈ l ∧ ¬ (f ≤ y ∧ y ≤ t) := by
  rw [h.2.1 y]
  split
  · exact iff_of_false (by decide) (fun h => absurd (by assumption) h.2)
  · exact ⟨fun h => ⟨h, by assumption⟩, fun h => h.1⟩
theorem ar_range {a b s k : Nat} (h : M.Stops a b s k) (hb : b ≤ 65535) (y : Int) (hy : y ∈ M.ar a s k) : 0 ≤ y ∧ y ≤ 65535 := by
  unfold M.ar at hy
  obtain ⟨j, hj, rfl⟩ := List.mem_map.1 hy
  rw [List.mem_range] at hj
  have h1 := h.1 (by omega)
  have h2 : s * j ≤ s * (k - 1) := Nat.mul_le_mul_left s (by omega)
  omega
set_option maxHeartbeats 1000000 in
theorem f_stepsC (w : World) (d A B S : Nat) (hA : A ≤ 65535) (hB : B ≤ 65535) (hS : S ≤ 65535) :
    Calls Try.prog 44 #[actB d A B S] w fun e w' => ∃ k P c, M.Stops A B (2 + S % 9) k ∧ k ≤ 65536 ∧ e = .returned (.slice P k c) ∧ k ≤ c ∧ Rh w' w'.heap.size P (M.ar A (2 + S % 9) k) ∧ Below w.heap.size w w' := by
  obtain ⟨i0, hi, hz0, hz1, hz2⟩ := info_parts u16_info
  obtain ⟨r1, r2, r3⟩ := rem9 S hS
  generalize S % 9 = q at *
  have w1 := i64B (A : Int) (by omega) (by omega)
  have w2 := i64B (B : Int) (by omega) (by omega)
  have w3 := i64B (q : Int) (by omega) (by omega)
  have w4 : IntKind.u16.wrap (q : Int) = (q : Int) := u16B (by omega) (by omega)
  have hat := atB_of (alloc_topB w (actoB d A B S) rfl)
  have hBx : Below w.heap.size w (w.alloc (actoB d A B S)) := (Below.refl _ _).alloc (Nat.le_refl _) _
  obtain ⟨wa, hwa⟩ : ∃ wa, w.alloc (actoB d A B S) = wa := ⟨_, rfl⟩
  rw [hwa] at hat hBx
  have hzA : wa.heap.size = w.heap.size + 1 := by rw [← hwa]; simp
  have hzAH := Lib.hid hzA
  have hwaH := Lib.hid hwa
  have hBxH := Lib.hid hBx
  clear hwa hzA hBx
  go_enter Try.func44, Try.ntmps44
  obtain ⟨c0, c1, c2, c3⟩ := hat
  go_wp2
  rw [hwaH.out]
  go_loopw [3, 4] (fun v i wr => ∃ k : Nat, i = .int .i64 ((A + (2 + q) * k : Nat) : Int) ∧ (0 < k → A + (2 + q) * (k - 1) ≤ B) ∧ wr.ownsRow w.heap.size 31 1 v (M.ar A (2 + q) k).length (hv (M.ar A (2 + q) k)) ∧ Below (w.heap.size + 1) wa wr)
    (fun _ i _ => 65536 - (intOf i).toNat)
  case atStart => exact ⟨0, by simp, by omega, by simp [World.ownsRow_nil, M.ar_zero], Below.refl _ _⟩
  case round =>
    obtain ⟨k, rfl, hk, hown, hb⟩ := hrel
    have d1 := (hb.cell (p := ⟨w.heap.size, 1, none⟩) (Nat.lt_succ_self _)).trans c1
    have d2 := (hb.cell (p := ⟨w.heap.size, 2, none⟩) (Nat.lt_succ_self _)).trans c2
    have d3 := (hb.cell (p := ⟨w.heap.size, 3, none⟩) (Nat.lt_succ_self _)).trans c3
    have hbW : Below w.heap.size w wr := hBxH.out.trans (hb.mono (by omega))
    have hlen : Hid ((M.ar A (2 + q) k).length = k) := M.ar_len A (2 + q) k
    have hsucc := Lib.hid (M.ar_succ A (2 + q) k)
    have hnext : Hid ((A + (2 + q) * k : Nat) + (2 + q) = A + (2 + q) * (k + 1)) := by show _ = _; rw [Nat.mul_succ]; omega
    have hkk : k ≤ (2 + q) * k := Nat.le_mul_of_pos_left k (by omega)
    obtain ⟨i, hI⟩ : ∃ i, A + (2 + q) * k = i := ⟨_, rfl⟩
    rw [hI] at hsucc hnext
    have hki : k ≤ i := by omega
    have hIH := Lib.hid hI
    rw [hI]
    clear hI hkk
    have hkH := Lib.hid hk
    clear hk
    by_cases hlt : i ≤ B
    · have hT1 : decide ((i : Int) ≤ (B : Int)) = true := decide_eq_true (by omega)
      have hT2 : decide (i ≤ B) = true := decide_eq_true hlt
      have hw16 : IntKind.u16.wrap (i : Int) = (i : Int) := u16B (by omega) (by omega)
      have hk9 : (M.ar A (2 + q) k).length ≤ 65535 := by rw [hlen.out]; omega
      generalize M.ar A (2 + q) k = ds at *
      go_wp2_with (at_builtin; refine wpList_append_own _ rfl _ _ 40 rfl w.heap.size 31 i0 (.int .u16 0) 1 2 Try.underlying40 hi hz0 hz1 hz2 rfl (by decide) _ _ _ rfl (hown.alloc _) ⟨wr.heap.size, 0, none⟩ 1 1 [.int .u16 (i : Int)] rfl rfl ?c1 ?c2 ?c3 ?c4 ?c5 ?_)
      case c1 => exact cell_oneB _ _ _
      case c2 => first | exact one_intB _ _ | rfl
      case c3 => unfold maxLen; omega
      case c4 => omega
      case c5 => have := hbW.size; simp; omega
      intro v' w1 hown' hgrow _
      have hgl : ∀ g, v'.ownBlock = some g → w.heap.size + 1 ≤ g ∨ True := fun _ _ => .inr trivial
      have hb2 : Below (w.heap.size + 1) wa w1 := by
        have hz := hb.size
        rw [hzAH.out] at hz
        refine (hb.alloc hz _).grown hgrow (by simp; omega) (fun g hg => ?_)
        have h1 := (hown.lt g hg).1
        rcases Nat.lt_or_ge w.heap.size g with h2 | h2
        · exact h2
        · exfalso
          have h3 : g = w.heap.size := by omega
          subst h3
          rcases hown.2 with ⟨rfl, _⟩ | ⟨g', cap, cur, rfl, _, hh, _⟩
          · simp [Value.ownBlock] at hg
          · simp [Value.ownBlock] at hg
            subst hg
            have h4 := (hb.block w.heap.size (Nat.lt_succ_self _)).symm.trans hh
            rw [← hwaH.out, alloc_topB w _ rfl] at h4
            simp at h4
      have hown2 := (own_snocH hbW hown hown' hgrow).1
      rw [← hsucc.out] at hown2
      clear hown' hgrow hown hgl
      have e1 := (hb2.cell (p := ⟨w.heap.size, 3, none⟩) (Nat.lt_succ_self _)).trans c3
      clear hb d1 d2 d3 hbW
      go_wp2
      go_roundw
      case rel => exact ⟨k + 1, by rw [← hnext.out]; go_num, fun _ => by have := hIH.out; simpa using (by omega : A + (2 + q) * k ≤ B), hown2, hb2⟩
      case measure => simp [intOf]; omega
    · have hT1 : decide ((i : Int) ≤ (B : Int)) = false := decide_eq_false (by omega)
      have hT2 : decide (i ≤ B) = false := decide_eq_false hlt
      have hst : Hid (M.Stops A B (2 + q) k ∧ k ≤ 65536) := by
        have h1 := hIH.out
        refine ⟨⟨hkH.out, by omega⟩, ?_⟩
        rcases Nat.eq_zero_or_pos k with h0 | h0
        · omega
        · have h2 := hkH.out h0
          have h3 : k - 1 ≤ (2 + q) * (k - 1) := Nat.le_mul_of_pos_left _ (by omega)
          omega
      obtain ⟨A', c', rfl, hr', hF⟩ := Rh.of_own hown
      have hcapH := Lib.hid (own_cap hown A' c' rfl)
      go_wp2
      go_ret
      exact ⟨k, A', c', hst.out.1, hst.out.2, congrArg (fun n => Ending.returned (.slice A' n c')) hlen.out, by have h := hcapH.out; rw [hlen.out] at h; exact h, hr', hbW⟩
theorem below_grownB {w w' : World} {B h : Nat} (g : w.grownBy w' (some h)) (hB : B ≤ w.heap.size) (hh : B ≤ h) : Below B w w' :=
  ⟨g.os, g.tape, g.output, g.size, fun k hk => g.block k (by omega) (by intro e; cases e; omega)⟩
set_option maxRecDepth 100000 in
theorem cut16_h (A : Option Addr) (n c l : Nat) (L : Int) (hL : L = (l : Int)) (hl : l ≤ n) (hc : n ≤ c) : (∀ w, (Instr.sliceAt 40 (.slice A n c) none (some (.int .i64 L)) none).run Try.prog w = .ok (.slice A l c) w) ∧
    (∀ w, (Instr.slice 40 (.slice A n c) none (some (.int .i64 L)) none).run Try.prog w = .ok (.slice A l c) w) := by
  subst hL
  have hu : Try.prog.underlying 40 = some (.slice (Try.prog.elem 40)) := by kernel_rfl
  have hz : ∀ w, (Go.sizeOf (Try.prog.elem 40)).run Try.prog w = .ok 1 w := fun w => Try.sizeOf31 w
  have h2 : ∀ w, (Instr.slice 40 (.slice A n c) none (some (.int .i64 (l : Int))) none).run Try.prog w = .ok (.slice A l c) w := fun w => by
    have h := run_slice_h (P := Try.prog) (w := w) (t := 40) (a := A) (len := n) (cap := c) (ht := hu) (kh := .i64) (h := (l : Int)) (h0 := by omega) (h2 := by omega)
    rw [h, hz]
    simp [Result.andThen]
    cases A <;> simp [sliced, Addr.add]
  exact ⟨fun w => (run_sliceAt_slice (w := w) (h := hu) ..).trans (h2 w), h2⟩
set_option maxHeartbeats 8000000 in
set_option maxRecDepth 100000 in
theorem do_0 (w : World) (B n c g m : Nat) (A : Option Addr) (rs : List (Int × Int)) (bs : List Bool) (hn : n = rs.length) (hr : Rq w B A rs) (hB : B ≤ w.heap.size) (_hcap : n ≤ c) (hg : Rn.Ok rs) (hb : Bs w g m bs) (hv : ∀ x, x ∈ M.L bs ↔ Rn.V rs x) (d a b S : Nat) (hd : d < 256) (ha : a ≤ 65535) (hb' : b ≤ 65535) (hS : S ≤ 65535) (hk : d % 5 = 0) : Calls Try.prog 33 #[.slice A n c, .slice (some ⟨g, 0, none⟩) m m, actB d a b S] w (DoR w g m) := by
  obtain ⟨e1, e2⟩ := mod5 d hd 0 hk
  have b1 := (Below.refl w.heap.size w).alloc (Nat.le_refl _) (actoB d a b S)
  have at1 := atB_of (alloc_topI w (actoB d a b S))
  have hgl := hb.lt
  have HD := Lib.hid (f_do (w.alloc (actoB d a b S)) g m bs (hb.all_below b1) d a b S hd ha hb' hS)
  have HR1 := Lib.hid (hr.below b1 hB)
  have HB1 := Lib.hid (hb.all_below b1)
  have HL1 := Lib.hid b1
  have HBw := Lib.hid hB
  have HN := Lib.hid hn
  have HG := Lib.hid hg
  have HV := Lib.hid hv
  have z1 : (w.alloc (actoB d a b S)).heap.size = w.heap.size + 1 := by simp
  have HZ := Lib.hid z1
  obtain ⟨k0, k1, k2, k3⟩ := at1
  clear hn hr hB hg hb hv b1 z1
  go_enter Try.func33, Try.ntmps33
  go_wp2_with (go_at_call 43; (with_reducible refine HD.out.mono ?_); rintro e w2 ⟨q, cs, rfl, h1, h2, h3, h4⟩
               have HA : Hid (M.Acted d a b S (M.L bs) (M.L cs) q) := Lib.hid h1
               have HB2 := Lib.hid h3
               have HG2 := Lib.hid h4
               have R2 : Hid (Rq w2 B A rs) := Lib.hid (rq_grown HR1.out HB1.out h4 (by rw [HZ.out]; exact Nat.le_succ_of_le HBw.out))
               have hz2 : w.heap.size + 1 ≤ w2.heap.size := by have := h4.size; rw [HZ.out] at this; exact this
               have hbx : w2.heap[w.heap.size]? = some (actoB d a b S) := (h4.block w.heap.size (by rw [HZ.out]; omega) (by intro e; cases e; omega)).trans (alloc_topI w _)
               have c0 := (atB_of hbx).c0
               have c1 := (atB_of hbx).c1
               have c2 := (atB_of hbx).c2
               have c3 := (atB_of hbx).c3
               clear h1 h2 h3 h4 HD hbx k0 k1 k2 k3
               have b3 := (Below.refl w2.heap.size w2).alloc (Nat.le_refl _) (.cells (hv [(a : Int)]).toArray 31)
               have HC : Hid (Calls Try.prog 28 #[.slice A n c, .slice (some ⟨w2.heap.size, 0, none⟩) 1 1] (w2.alloc (.cells #[.int .u16 (a : Int)] 31)) (ResP (w2.alloc (.cells (hv [(a : Int)]).toArray 31)) fun x => Rn.V rs x ∨ x ∈ [(a : Int)])) := Lib.hid (r_add (w2.alloc (.cells (hv [(a : Int)]).toArray 31)) B n c (w2.heap.size + 1) 1 1 A (some ⟨w2.heap.size, 0, none⟩) rs [(a : Int)] HN.out (R2.out.below b3 (by have := HBw.out; omega)) (by have := HBw.out; simp; omega) HG.out rfl (rh_new w2 [(a : Int)]) (by simp) (by intro y hy; simp at hy; omega) (by omega))
               have HL3 := Lib.hid b3
               have HZ3 : Hid ((w2.alloc (.cells (hv [(a : Int)]).toArray 31)).heap.size = w2.heap.size + 1) := Lib.hid (by simp)
               clear b3)
  go_wp2_with (go_at_call 28; (with_reducible refine HC.out.mono ?_); rintro e w3 ⟨val, qs, rfl, q1, q2, q3, q4⟩; replace q1 := Lib.hid q1; replace q2 := Lib.hid q2; replace q3 := Lib.hid q3; replace q4 := Lib.hid q4)
  have LOWX : Below w2.heap.size w2 w3 := HL3.out.trans (q4.out.mono (by rw [HZ3.out]; omega))
  go_ret
  refine ⟨val, qs, cs, rfl, q1.out, fun x => ?_, own_low q3.out (by rw [HZ3.out]; omega), HB2.out.all_below LOWX, fun B' hB' hg' => ?_⟩
  · have hA := HA.out
    unfold M.Acted at hA
    rw [if_pos (by omega)] at hA
    refine (chg_true hA x).trans (Iff.trans ?_ (q2.out x).symm)
    rw [HV.out x, List.mem_singleton]
    exact or_congr Iff.rfl (by omega)
  · exact (HL1.out.mono hB').trans ((below_grownB HG2.out (by rw [HZ.out]; omega) hg').trans (LOWX.mono (by omega)))
set_option maxHeartbeats 8000000 in
set_option maxRecDepth 100000 in
theorem do_1 (w : World) (B n c g m : Nat) (A : Option Addr) (rs : List (Int × Int)) (bs : List Bool) (hn : n = rs.length) (hr : Rq w B A rs) (hB : B ≤ w.heap.size) (_hcap : n ≤ c) (hg : Rn.Ok rs) (hb : Bs w g m bs) (hv : ∀ x, x ∈ M.L bs ↔ Rn.V rs x) (d a b S : Nat) (hd : d < 256) (ha : a ≤ 65535) (hb' : b ≤ 65535) (hS : S ≤ 65535) (hk : d % 5 = 1) : Calls Try.prog 33 #[.slice A n c, .slice (some ⟨g, 0, none⟩) m m, actB d a b S] w (DoR w g m) := by
  obtain ⟨e1, e2⟩ := mod5 d hd 1 hk
  have b1 := (Below.refl w.heap.size w).alloc (Nat.le_refl _) (actoB d a b S)
  have at1 := atB_of (alloc_topI w (actoB d a b S))
  have hgl := hb.lt
  have HD := Lib.hid (f_do (w.alloc (actoB d a b S)) g m bs (hb.all_below b1) d a b S hd ha hb' hS)
  have HR1 := Lib.hid (hr.below b1 hB)
  have HB1 := Lib.hid (hb.all_below b1)
  have HL1 := Lib.hid b1
  have HBw := Lib.hid hB
  have HN := Lib.hid hn
  have HG := Lib.hid hg
  have HV := Lib.hid hv
  have z1 : (w.alloc (actoB d a b S)).heap.size = w.heap.size + 1 := by simp
  have HZ := Lib.hid z1
  obtain ⟨k0, k1, k2, k3⟩ := at1
  clear hn hr hB hg hb hv b1 z1
  go_enter Try.func33, Try.ntmps33
  go_wp2_with (go_at_call 43; (with_reducible refine HD.out.mono ?_); rintro e w2 ⟨q, cs, rfl, h1, h2, h3, h4⟩
               have HA : Hid (M.Acted d a b S (M.L bs) (M.L cs) q) := Lib.hid h1
               have HB2 := Lib.hid h3
               have HG2 := Lib.hid h4
               have R2 : Hid (Rq w2 B A rs) := Lib.hid (rq_grown HR1.out HB1.out h4 (by rw [HZ.out]; exact Nat.le_succ_of_le HBw.out))
               have hz2 : w.heap.size + 1 ≤ w2.heap.size := by have := h4.size; rw [HZ.out] at this; exact this
               have hbx : w2.heap[w.heap.size]? = some (actoB d a b S) := (h4.block w.heap.size (by rw [HZ.out]; omega) (by intro e; cases e; omega)).trans (alloc_topI w _)
               have c0 := (atB_of hbx).c0
               have c1 := (atB_of hbx).c1
               have c2 := (atB_of hbx).c2
               have c3 := (atB_of hbx).c3
               clear h1 h2 h3 h4 HD hbx k0 k1 k2 k3
               have b3 := (Below.refl w2.heap.size w2).alloc (Nat.le_refl _) (.cells (hv [(a : Int)]).toArray 31)
               have HC : Hid (Calls Try.prog 31 #[.slice A n c, .slice (some ⟨w2.heap.size, 0, none⟩) 1 1] (w2.alloc (.cells #[.int .u16 (a : Int)] 31)) (ResP (w2.alloc (.cells (hv [(a : Int)]).toArray 31)) fun x => Rn.V rs x ∧ ¬ x ∈ [(a : Int)])) := Lib.hid (r_drop (w2.alloc (.cells (hv [(a : Int)]).toArray 31)) B n c (w2.heap.size + 1) 1 1 A (some ⟨w2.heap.size, 0, none⟩) rs [(a : Int)] HN.out (R2.out.below b3 (by have := HBw.out; omega)) (by have := HBw.out; simp; omega) HG.out rfl (rh_new w2 [(a : Int)]) (by simp) (by intro y hy; simp at hy; omega) (by omega))
               have HL3 := Lib.hid b3
               have HZ3 : Hid ((w2.alloc (.cells (hv [(a : Int)]).toArray 31)).heap.size = w2.heap.size + 1) := Lib.hid (by simp)
               clear b3)
  go_wp2_with (go_at_call 31; (with_reducible refine HC.out.mono ?_); rintro e w3 ⟨val, qs, rfl, q1, q2, q3, q4⟩; replace q1 := Lib.hid q1; replace q2 := Lib.hid q2; replace q3 := Lib.hid q3; replace q4 := Lib.hid q4)
  have LOWX : Below w2.heap.size w2 w3 := HL3.out.trans (q4.out.mono (by rw [HZ3.out]; omega))
  go_ret
  refine ⟨val, qs, cs, rfl, q1.out, fun x => ?_, own_low q3.out (by rw [HZ3.out]; omega), HB2.out.all_below LOWX, fun B' hB' hg' => ?_⟩
  · have hA := HA.out
    unfold M.Acted at hA
    rw [if_neg (by omega)] at hA
    rw [if_pos (by omega)] at hA
    refine (chg_false hA x).trans (Iff.trans ?_ (q2.out x).symm)
    rw [HV.out x, List.mem_singleton]
    exact and_congr Iff.rfl (not_congr (by omega))
  · exact (HL1.out.mono hB').trans ((below_grownB HG2.out (by rw [HZ.out]; omega) hg').trans (LOWX.mono (by omega)))
set_option maxHeartbeats 8000000 in
set_option maxRecDepth 100000 in
theorem do_2 (w : World) (B n c g m : Nat) (A : Option Addr) (rs : List (Int × Int)) (bs : List Bool) (hn : n = rs.length) (hr : Rq w B A rs) (hB : B ≤ w.heap.size) (hcap : n ≤ c) (hg : Rn.Ok rs) (hb : Bs w g m bs) (hv : ∀ x, x ∈ M.L bs ↔ Rn.V rs x) (d a b S : Nat) (hd : d < 256) (ha : a ≤ 65535) (hb' : b ≤ 65535) (hS : S ≤ 65535) (hk : d % 5 = 2) : Calls Try.prog 33 #[.slice A n c, .slice (some ⟨g, 0, none⟩) m m, actB d a b S] w (DoR w g m) := by
  obtain ⟨e1, e2⟩ := mod5 d hd 2 hk
  have b1 := (Below.refl w.heap.size w).alloc (Nat.le_refl _) (actoB d a b S)
  have at1 := atB_of (alloc_topI w (actoB d a b S))
  have hgl := hb.lt
  have HD := Lib.hid (f_do (w.alloc (actoB d a b S)) g m bs (hb.all_below b1) d a b S hd ha hb' hS)
  have HR1 := Lib.hid (hr.below b1 hB)
  have HB1 := Lib.hid (hb.all_below b1)
  have HL1 := Lib.hid b1
  have HBw := Lib.hid hB
  have HN := Lib.hid hn
  have HG := Lib.hid hg
  have HV := Lib.hid hv
  have z1 : (w.alloc (actoB d a b S)).heap.size = w.heap.size + 1 := by simp
  have HZ := Lib.hid z1
  obtain ⟨k0, k1, k2, k3⟩ := at1
  clear hn hr hB hg hb hv b1 z1
  go_enter Try.func33, Try.ntmps33
  go_wp2_with (go_at_call 43; (with_reducible refine HD.out.mono ?_); rintro e w2 ⟨q, cs, rfl, h1, h2, h3, h4⟩
               have HA : Hid (M.Acted d a b S (M.L bs) (M.L cs) q) := Lib.hid h1
               have HB2 := Lib.hid h3
               have HG2 := Lib.hid h4
               have R2 : Hid (Rq w2 B A rs) := Lib.hid (rq_grown HR1.out HB1.out h4 (by rw [HZ.out]; exact Nat.le_succ_of_le HBw.out))
               have hz2 : w.heap.size + 1 ≤ w2.heap.size := by have := h4.size; rw [HZ.out] at this; exact this
               have hbx : w2.heap[w.heap.size]? = some (actoB d a b S) := (h4.block w.heap.size (by rw [HZ.out]; omega) (by intro e; cases e; omega)).trans (alloc_topI w _)
               have c0 := (atB_of hbx).c0
               have c1 := (atB_of hbx).c1
               have c2 := (atB_of hbx).c2
               have c3 := (atB_of hbx).c3
               clear h1 h2 h3 h4 HD hbx k0 k1 k2 k3
               have HC := Lib.hid (r_fill w2 B n c A rs (a : Int) (b : Int) HN.out R2.out (by have := HBw.out; omega) HG.out hcap (by omega) (by omega)))
  go_wp2_with (go_at_call 25; (with_reducible refine HC.out.mono ?_); rintro e w3 ⟨val, qs, rfl, q1, q2, q3, q4⟩; replace q1 := Lib.hid q1; replace q2 := Lib.hid q2; replace q3 := Lib.hid q3; replace q4 := Lib.hid q4)
  have LOWX : Below w2.heap.size w2 w3 := q4.out
  go_ret
  refine ⟨val, qs, cs, rfl, q1.out, fun x => ?_, own_low q3.out (by omega), HB2.out.all_below LOWX, fun B' hB' hg' => ?_⟩
  · have hA := HA.out
    unfold M.Acted at hA
    rw [if_neg (by omega)] at hA
    rw [if_neg (by omega)] at hA
    rw [if_pos (by omega)] at hA
    refine (chg_true hA x).trans (Iff.trans ?_ (q2.out x).symm)
    rw [HV.out x]
  · exact (HL1.out.mono hB').trans ((below_grownB HG2.out (by rw [HZ.out]; omega) hg').trans (LOWX.mono (by omega)))
set_option maxHeartbeats 8000000 in
set_option maxRecDepth 100000 in
theorem do_3 (w : World) (B n c g m : Nat) (A : Option Addr) (rs : List (Int × Int)) (bs : List Bool) (hn : n = rs.length) (hr : Rq w B A rs) (hB : B ≤ w.heap.size) (hcap : n ≤ c) (hg : Rn.Ok rs) (hb : Bs w g m bs) (hv : ∀ x, x ∈ M.L bs ↔ Rn.V rs x) (d a b S : Nat) (hd : d < 256) (ha : a ≤ 65535) (hb' : b ≤ 65535) (hS : S ≤ 65535) (hk : d % 5 = 3) : Calls Try.prog 33 #[.slice A n c, .slice (some ⟨g, 0, none⟩) m m, actB d a b S] w (DoR w g m) := by
  obtain ⟨e1, e2⟩ := mod5 d hd 3 hk
  have b1 := (Below.refl w.heap.size w).alloc (Nat.le_refl _) (actoB d a b S)
  have at1 := atB_of (alloc_topI w (actoB d a b S))
  have hgl := hb.lt
  have HD := Lib.hid (f_do (w.alloc (actoB d a b S)) g m bs (hb.all_below b1) d a b S hd ha hb' hS)
  have HR1 := Lib.hid (hr.below b1 hB)
  have HB1 := Lib.hid (hb.all_below b1)
  have HL1 := Lib.hid b1
  have HBw := Lib.hid hB
  have HN := Lib.hid hn
  have HG := Lib.hid hg
  have HV := Lib.hid hv
  have z1 : (w.alloc (actoB d a b S)).heap.size = w.heap.size + 1 := by simp
  have HZ := Lib.hid z1
  obtain ⟨k0, k1, k2, k3⟩ := at1
  clear hn hr hB hg hb hv b1 z1
  go_enter Try.func33, Try.ntmps33
  go_wp2_with (go_at_call 43; (with_reducible refine HD.out.mono ?_); rintro e w2 ⟨q, cs, rfl, h1, h2, h3, h4⟩
               have HA : Hid (M.Acted d a b S (M.L bs) (M.L cs) q) := Lib.hid h1
               have HB2 := Lib.hid h3
               have HG2 := Lib.hid h4
               have R2 : Hid (Rq w2 B A rs) := Lib.hid (rq_grown HR1.out HB1.out h4 (by rw [HZ.out]; exact Nat.le_succ_of_le HBw.out))
               have hz2 : w.heap.size + 1 ≤ w2.heap.size := by have := h4.size; rw [HZ.out] at this; exact this
               have hbx : w2.heap[w.heap.size]? = some (actoB d a b S) := (h4.block w.heap.size (by rw [HZ.out]; omega) (by intro e; cases e; omega)).trans (alloc_topI w _)
               have c0 := (atB_of hbx).c0
               have c1 := (atB_of hbx).c1
               have c2 := (atB_of hbx).c2
               have c3 := (atB_of hbx).c3
               clear h1 h2 h3 h4 HD hbx k0 k1 k2 k3
               have HC := Lib.hid (r_wipe w2 B n c A rs (a : Int) (b : Int) HN.out R2.out (by have := HBw.out; omega) HG.out hcap (by omega) (by omega)))
  go_wp2_with (go_at_call 26; (with_reducible refine HC.out.mono ?_); rintro e w3 ⟨val, qs, rfl, q1, q2, q3, q4⟩; replace q1 := Lib.hid q1; replace q2 := Lib.hid q2; replace q3 := Lib.hid q3; replace q4 := Lib.hid q4)
  have LOWX : Below w2.heap.size w2 w3 := q4.out
  go_ret
  refine ⟨val, qs, cs, rfl, q1.out, fun x => ?_, own_low q3.out (by omega), HB2.out.all_below LOWX, fun B' hB' hg' => ?_⟩
  · have hA := HA.out
    unfold M.Acted at hA
    rw [if_neg (by omega)] at hA
    rw [if_neg (by omega)] at hA
    rw [if_neg (by omega)] at hA
    rw [if_pos (by omega)] at hA
    refine (chg_false hA x).trans (Iff.trans ?_ (q2.out x).symm)
    rw [HV.out x]
  · exact (HL1.out.mono hB').trans ((below_grownB HG2.out (by rw [HZ.out]; omega) hg').trans (LOWX.mono (by omega)))
set_option maxHeartbeats 8000000 in
set_option maxRecDepth 100000 in
theorem do_4 (w : World) (B n c g m : Nat) (A : Option Addr) (rs : List (Int × Int)) (bs : List Bool) (hn : n = rs.length) (hr : Rq w B A rs) (hB : B ≤ w.heap.size) (_hcap : n ≤ c) (hg : Rn.Ok rs) (hb : Bs w g m bs) (hv : ∀ x, x ∈ M.L bs ↔ Rn.V rs x) (d a b S : Nat) (hd : d < 256) (ha : a ≤ 65535) (hb' : b ≤ 65535) (hS : S ≤ 65535) (hk : d % 5 = 4) (hlim : ∀ k, M.Stops a b (2 + S % 9) k → k ≤ 200) : Calls Try.prog 33 #[.slice A n c, .slice (some ⟨g, 0, none⟩) m m, actB d a b S] w (DoR w g m) := by
  obtain ⟨e1, e2⟩ := mod5 d hd 4 hk
  have b1 := (Below.refl w.heap.size w).alloc (Nat.le_refl _) (actoB d a b S)
  have at1 := atB_of (alloc_topI w (actoB d a b S))
  have hgl := hb.lt
  have HD := Lib.hid (f_do (w.alloc (actoB d a b S)) g m bs (hb.all_below b1) d a b S hd ha hb' hS)
  have HR1 := Lib.hid (hr.below b1 hB)
  have HB1 := Lib.hid (hb.all_below b1)
  have HL1 := Lib.hid b1
  have HBw := Lib.hid hB
  have HN := Lib.hid hn
  have HG := Lib.hid hg
  have HV := Lib.hid hv
  have z1 : (w.alloc (actoB d a b S)).heap.size = w.heap.size + 1 := by simp
  have HZ := Lib.hid z1
  obtain ⟨k0, k1, k2, k3⟩ := at1
  clear hn hr hB hg hb hv b1 z1
  go_enter Try.func33, Try.ntmps33
  go_wp2_with (go_at_call 43; (with_reducible refine HD.out.mono ?_); rintro e w2 ⟨q, cs, rfl, h1, h2, h3, h4⟩
               have HA : Hid (M.Acted d a b S (M.L bs) (M.L cs) q) := Lib.hid h1
               have HB2 := Lib.hid h3
               have HG2 := Lib.hid h4
               have R2 : Hid (Rq w2 B A rs) := Lib.hid (rq_grown HR1.out HB1.out h4 (by rw [HZ.out]; exact Nat.le_succ_of_le HBw.out))
               have hz2 : w.heap.size + 1 ≤ w2.heap.size := by have := h4.size; rw [HZ.out] at this; exact this
               have hbx : w2.heap[w.heap.size]? = some (actoB d a b S) := (h4.block w.heap.size (by rw [HZ.out]; omega) (by intro e; cases e; omega)).trans (alloc_topI w _)
               have c0 := (atB_of hbx).c0
               have c1 := (atB_of hbx).c1
               have c2 := (atB_of hbx).c2
               have c3 := (atB_of hbx).c3
               clear h1 h2 h3 h4 HD hbx k0 k1 k2 k3
               have hbx2 : w2.cell? ⟨w.heap.size, 0, none⟩ = some (.int .u8 (d : Int)) ∧ w2.cell? ⟨w.heap.size, 1, none⟩ = some (.int .u16 (a : Int)) ∧ w2.cell? ⟨w.heap.size, 2, none⟩ = some (.int .u16 (b : Int)) ∧ w2.cell? ⟨w.heap.size, 3, none⟩ = some (.int .u16 (S : Int)) := ⟨c0, c1, c2, c3⟩
               have hbw : w.heap.size < w2.heap.size := by omega
               have STA : Hid (Calls Try.prog 44 #[actB d a b S] w2.drew fun e w' => ∃ k P cc, M.Stops a b (2 + S % 9) k ∧ k ≤ 65536 ∧ e = .returned (.slice P k cc) ∧ k ≤ cc ∧ Rh w' w'.heap.size P (M.ar a (2 + S % 9) k) ∧ Below w2.heap.size w2 w') := Lib.hid (by
                 refine (f_stepsC w2.drew d a b S ha hb' hS).mono ?_
                 rintro e w' ⟨k, P, cc, h1, h2, rfl, h3, h4, h5⟩
                 exact ⟨k, P, cc, h1, h2, rfl, h3, h4, (below_drewN (Below.refl _ _) 1).trans h5⟩))
  go_region_held3 (fun (V : World) => V.cell? ⟨w.heap.size, 0, none⟩ = some (.int .u8 (d : Int)) ∧ V.cell? ⟨w.heap.size, 1, none⟩ = some (.int .u16 (a : Int)) ∧ V.cell? ⟨w.heap.size, 2, none⟩ = some (.int .u16 (b : Int)) ∧ V.cell? ⟨w.heap.size, 3, none⟩ = some (.int .u16 (S : Int))) (first | exact hbx2 | exact hbx5 | exact hbx6 | exact hbx3) (first
    | (go_at_call 44; (with_reducible refine STA.out.mono ?_); rintro e w5 ⟨k1, P1, cc1, s1, l1, rfl, p1, r1, b5⟩
       have hk200 := hlim k1 s1
       obtain ⟨g1, g2⟩ := cut16_h P1 k1 cc1 k1 (k1 : Int) rfl (Nat.le_refl _) p1
       have hmin : min (k1 : Int) 200 = (k1 : Int) := by omega
       have hkc : (k1 : Int) ≤ (cc1 : Int) := by omega
       have S1 := Lib.hid s1
       have R1' := Lib.hid r1
       have B5 := Lib.hid b5
       have hbx5 : w5.cell? ⟨w.heap.size, 0, none⟩ = some (.int .u8 (d : Int)) ∧ w5.cell? ⟨w.heap.size, 1, none⟩ = some (.int .u16 (a : Int)) ∧ w5.cell? ⟨w.heap.size, 2, none⟩ = some (.int .u16 (b : Int)) ∧ w5.cell? ⟨w.heap.size, 3, none⟩ = some (.int .u16 (S : Int)) := ⟨(b5.cell (p := ⟨w.heap.size, 0, none⟩) hbw).trans c0, (b5.cell (p := ⟨w.heap.size, 1, none⟩) hbw).trans c1, (b5.cell (p := ⟨w.heap.size, 2, none⟩) hbw).trans c2, (b5.cell (p := ⟨w.heap.size, 3, none⟩) hbw).trans c3⟩
       have STB := Lib.hid (f_stepsC w5 d a b S ha hb' hS)
       clear s1 r1 b5 STA)
    | (go_at_call 44; (with_reducible refine STB.out.mono ?_); rintro e w6 ⟨k2, P2, cc2, s2, l2, rfl, p2, r2, b6⟩
       obtain rfl : k2 = k1 := M.Stops.same s2 S1.out
       have hbw5 : w.heap.size < w5.heap.size := by have := B5.out.size; omega
       have hbx6 : w6.cell? ⟨w.heap.size, 0, none⟩ = some (.int .u8 (d : Int)) ∧ w6.cell? ⟨w.heap.size, 1, none⟩ = some (.int .u16 (a : Int)) ∧ w6.cell? ⟨w.heap.size, 2, none⟩ = some (.int .u16 (b : Int)) ∧ w6.cell? ⟨w.heap.size, 3, none⟩ = some (.int .u16 (S : Int)) := ⟨(b6.cell (p := ⟨w.heap.size, 0, none⟩) hbw5).trans hbx5.1, (b6.cell (p := ⟨w.heap.size, 1, none⟩) hbw5).trans hbx5.2.1, (b6.cell (p := ⟨w.heap.size, 2, none⟩) hbw5).trans hbx5.2.2.1, (b6.cell (p := ⟨w.heap.size, 3, none⟩) hbw5).trans hbx5.2.2.2⟩
       have B6 := Lib.hid (B5.out.trans (b6.mono B5.out.size))
       have hs2 := B6.out.size
       have HC := Lib.hid (r_add w6 B n c w5.heap.size k2 cc1 A P1 rs (M.ar a (2 + S % 9) k2) HN.out (R2.out.below B6.out (by have := HBw.out; omega)) (by have := HBw.out; omega) HG.out (M.ar_len _ _ _).symm (R1'.out.below b6 (Nat.le_refl _)) b6.size (fun y hy => ar_range S1.out hb' y hy) (by omega))
       clear s2 r2 b6 STB)
    | (go_at_call 28; (with_reducible refine HC.out.mono ?_); rintro e w3 ⟨val, qs, rfl, q1, q2, q3, q4⟩
       have hbx3 : w3.cell? ⟨w.heap.size, 0, none⟩ = some (.int .u8 (d : Int)) ∧ w3.cell? ⟨w.heap.size, 1, none⟩ = some (.int .u16 (a : Int)) ∧ w3.cell? ⟨w.heap.size, 2, none⟩ = some (.int .u16 (b : Int)) ∧ w3.cell? ⟨w.heap.size, 3, none⟩ = some (.int .u16 (S : Int)) := by
         have hbw6 : w.heap.size < w6.heap.size := by omega
         exact ⟨(q4.cell (p := ⟨w.heap.size, 0, none⟩) hbw6).trans hbx6.1, (q4.cell (p := ⟨w.heap.size, 1, none⟩) hbw6).trans hbx6.2.1, (q4.cell (p := ⟨w.heap.size, 2, none⟩) hbw6).trans hbx6.2.2.1, (q4.cell (p := ⟨w.heap.size, 3, none⟩) hbw6).trans hbx6.2.2.2⟩
       replace q1 := Lib.hid q1
       replace q2 := Lib.hid q2
       replace q3 := Lib.hid q3
       replace q4 := Lib.hid q4))
  go_wp2
  have LOWX : Below w2.heap.size w2 w3 := B6.out.trans (q4.out.mono B6.out.size)
  go_ret
  refine ⟨val, qs, cs, rfl, q1.out, fun x => ?_, own_low q3.out (by omega), HB2.out.all_below LOWX, fun B' hB' hg' => ?_⟩
  · have hA := HA.out
    unfold M.Acted at hA
    rw [if_neg (by omega)] at hA
    rw [if_neg (by omega)] at hA
    rw [if_neg (by omega)] at hA
    rw [if_neg (by omega)] at hA
    obtain ⟨k3, hk3, hadd⟩ := hA
    obtain rfl : k3 = k2 := M.Stops.same hk3 S1.out
    exact (hadd.2.1 x).trans (Iff.trans (or_congr (HV.out x) Iff.rfl) (q2.out x).symm)
  · exact (HL1.out.mono hB').trans ((below_grownB HG2.out (by rw [HZ.out]; omega) hg').trans (LOWX.mono (by omega)))
end Go.Proofs.Ytejboemifncjoaa
