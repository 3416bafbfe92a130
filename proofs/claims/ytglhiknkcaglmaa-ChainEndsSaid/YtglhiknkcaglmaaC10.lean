
/- ChainEnds, walked. -/
import Derived.Test.YtglhiknkcaglmaaC9
namespace Go.Proofs.Ytglhiknkcaglmaa
open Go.RowKit
/-- How a slice of truth values that came in reads. -/
def Rbl (w : World) (B : Nat) (A : Option Addr) (bs : List Bool) : Prop :=
  bs ≠ [] → ∃ b off, A = some ⟨b, off, none⟩ ∧ b < B ∧ ∀ (k : Nat) (h : k < bs.length), w.cell? ⟨b, off + k, none⟩ = some (.bool bs[k])
theorem Rbl.at {w w' : World} {B : Nat} {A : Option Addr} {bs : List Bool} (h : Rbl w B A bs) (hb : Below B w w') {k : Nat} (hk : k < bs.length) : ∃ b off, A = some ⟨b, off, none⟩ ∧ w'.cell? ⟨b, off + k, none⟩ = some (.bool bs[k]) := by
  obtain ⟨b, off, rfl, hlt, hc⟩ := h (by rintro rfl; simp at hk)
  exact ⟨b, off, rfl, (hb.cell (p := ⟨b, off + k, none⟩) hlt).trans (hc k hk)⟩
theorem slice_tail (b off n c : Nat) (hn : 1 ≤ n) (hc : n ≤ c) : ∃ A3, (1 < n → A3 = some ⟨b, off + 1, none⟩) ∧
    (∀ w, (Instr.sliceAt 22 (.slice (some ⟨b, off, none⟩) n c) (some (.int .i64 1)) none none).run Try.prog w = .ok (.slice A3 (n - 1) (c - 1)) w) ∧
    (∀ w, (Instr.slice 22 (.slice (some ⟨b, off, none⟩) n c) (some (.int .i64 1)) none none).run Try.prog w = .ok (.slice A3 (n - 1) (c - 1)) w) := by
  have hu : Try.prog.underlying 22 = some (.slice (Try.prog.elem 22)) := by kernel_rfl
  have hz : ∀ w, (Go.sizeOf (Try.prog.elem 22)).run Try.prog w = .ok 1 w := fun w => Try.sizeOf23 w
  have h2 : ∀ w, (Instr.slice 22 (.slice (some ⟨b, off, none⟩) n c) (some (.int .i64 1)) none none).run Try.prog w = .ok (sliced (some ⟨b, off, none⟩) 1 n c 1) w := fun w => by
    have h := run_slice_l (P := Try.prog) (w := w) (t := 22) (a := some ⟨b, off, none⟩) (len := n) (cap := c) (ht := hu) (kl := .i64) (l := 1) (h0 := by omega) (h1 := by omega)
    rw [h, hz]
    simp [Result.andThen]
  refine ⟨if c = 1 then some ⟨b, off, none⟩ else (some (⟨b, off, none⟩ : Addr)).map (·.add (1 * 1)), fun h => ?_, fun w => ?_, fun w => (h2 w).trans rfl⟩
  · rw [if_neg (by omega)]
    simp [Addr.add]
  · exact (run_sliceAt_slice (w := w) (h := hu) ..).trans ((h2 w).trans rfl)
theorem slice_init (b off n c m : Nat) (hc : m ≤ c) :
    (∀ w, (Instr.sliceAt 22 (.slice (some ⟨b, off, none⟩) n c) none (some (.int .i64 (m : Int))) none).run Try.prog w = .ok (.slice (some ⟨b, off, none⟩) m c) w) ∧
    (∀ w, (Instr.slice 22 (.slice (some ⟨b, off, none⟩) n c) none (some (.int .i64 (m : Int))) none).run Try.prog w = .ok (.slice (some ⟨b, off, none⟩) m c) w) := by
  have hu : Try.prog.underlying 22 = some (.slice (Try.prog.elem 22)) := by kernel_rfl
  have hz : ∀ w, (Go.sizeOf (Try.prog.elem 22)).run Try.prog w = .ok 1 w := fun w => Try.sizeOf23 w
  have h2 : ∀ w, (Instr.slice 22 (.slice (some ⟨b, off, none⟩) n c) none (some (.int .i64 (m : Int))) none).run Try.prog w = .ok (.slice (some ⟨b, off, none⟩) m c) w := fun w => by
    have h := run_slice_h (P := Try.prog) (w := w) (t := 22) (a := some ⟨b, off, none⟩) (len := n) (cap := c) (ht := hu) (kh := .i64) (h := (m : Int)) (h0 := by omega) (h2 := by omega)
    rw [h, hz]
    simp [Result.andThen, sliced, Addr.add]
  exact ⟨fun w => (run_sliceAt_slice (w := w) (h := hu) ..).trans (h2 w), h2⟩
theorem CL.drop_at {B : Nat} {w0 w : World} {C Q M lim : Nat} {L1 L2 : LL} {x y : Nat} (h : CL B w0 w C Q M lim (L1 ++ (x, y) :: L2)) :
    Calls Try.prog 13 #[.pointer (some ⟨C, 0, none⟩), .int .i64 (x : Int)] w fun e w' => e = .returned (.bool true) ∧ CL B w0 w' C Q M lim (L1 ++ L2) ∧ ∀ tk, Mx w M tk → Mx w' M tk := by
  have hL := h
  obtain ⟨An, cn, Af, cf, ns, fs, hw, hb, hB, hm⟩ := h
  refine (c_drop w C Q M lim cn cf An Af ns fs x y L1 L2 hw).mono ?_
  rintro e w' ⟨rfl, An', cn', Af', cf', ns', fs', hw', hc, hi⟩
  exact ⟨rfl, hL.step hw hm hw' hc hi, fun tk hM => hM.chg hc (hw.ne_m hM)⟩
theorem CL.key_at {B : Nat} {w0 w : World} {C Q M lim : Nat} {L1 L2 : LL} {x y : Nat} (h : CL B w0 w C Q M lim (L1 ++ (x, y) :: L2)) {tk : Nat} (hM : Mx w M tk) (hMB : B ≤ M) (htk : tk < 1000000) :
    Calls Try.prog 11 #[.pointer (some ⟨C, 0, none⟩), .int .i64 (x : Int)] w fun e w' => e = .returned (.tuple #[.int .u64 (y : Int), .bool true]) ∧ CL B w0 w' C Q M lim (L1 ++ (x, y) :: L2) ∧ Mx w' M (tk + 1) := by
  have hL := h
  obtain ⟨An, cn, Af, cf, ns, fs, hw, hb, hB, hm⟩ := h
  obtain ⟨hx, hnx⟩ := hw.at rfl
  refine (c_key_yes w C Q M lim cn cf _ _ An Af ns fs hw.cb hw.po x hx y _ _ hnx tk hM htk).mono ?_
  rintro e w' ⟨rfl, hm', hc⟩
  exact ⟨rfl, hL.met hM hMB hc, hm'⟩
theorem CL.len_at {B : Nat} {w0 w : World} {C Q M lim : Nat} {L : LL} (h : CL B w0 w C Q M lim L) :
    Calls Try.prog 18 #[.pointer (some ⟨C, 0, none⟩)] w fun e w' => e = .returned (.int .i64 (L.length : Int)) ∧ ∃ n, w' = w.drewN n := by
  obtain ⟨An, cn, Af, cf, ns, fs, hw, hb, hB, hm⟩ := h
  exact c_len w C Q M lim cn cf An Af ns fs L hw
theorem words_lit (A : Option Addr) (cp : Nat) (xs : List Nat) (n : Nat) (i : Int) (hi : i = (n : Int)) (w : World) (hr : Rw w w.heap.size A xs) (hl : xs.length ≤ 9223372036854775807) (hn : n ≤ 1000000) :
    Calls Try.prog 6 #[.slice A xs.length cp, .int .i64 i] w fun e w' => ∃ A' c', e = .returned (.slice A' (xs.take n).length c') ∧ (xs.take n).length ≤ c' ∧ Rw w' w'.heap.size A' (xs.take n) ∧ Below w.heap.size w w' ∧ Fr w.heap.size A' := by
  subst hi
  refine (ref_words_own A cp xs n w hr hl hn).mono ?_
  rintro e w' ⟨v, rfl, hown, hb⟩
  obtain ⟨A', c', rfl, hrw, hfr⟩ := Rw.of_own hown
  exact ⟨A', c', rfl, own_cap hown, hrw, hb, hfr⟩
set_option maxHeartbeats 4000000 in
theorem law_ends (A : Option Addr) (c : Nat) (xs : List Nat) (Af : Option Addr) (cf : Nat) (bs : List Bool) (w : World) (hr : Rw w w.heap.size A xs) (hl : xs.length ≤ 9223372036854775807) (hx : ∀ x ∈ xs, x < 18446744073709551616)
    (hf : Rbl w w.heap.size Af bs) (hlf : bs.length ≤ 9223372036854775807) :
    Calls Try.prog 4 #[.slice A xs.length c, .slice Af bs.length cf] w fun e w' => e = .returned (.bool true) ∧ Below w.heap.size w w' := by
  have hA := Lib.hid (awake_any w)
  have HR := Lib.hid hr
  have HF := Lib.hid hf
  have HX := Lib.hid hx
  have HLL := Lib.hid hl
  clear hr hf hx hl
  go_enter Try.func4, Try.ntmps4
  go_wp2_with (first
    | (go_at_call 5; (with_reducible refine hA.out.mono ?_); rintro e w1 ⟨rfl, hb1⟩; have HB1 := Lib.hid hb1; clear hb1)
    | (go_at_call 6; (with_reducible refine (words_lit A c xs 40 40 rfl w1 ((HR.out.below HB1.out (Nat.le_refl _)).more HB1.out.size) HLL.out (by decide)).mono ?_); rintro e w2 ⟨A2, c2, rfl, hcap, hrw, hb2, _⟩
       obtain ⟨n, hn⟩ : ∃ n, (xs.take 40).length = n := ⟨_, rfl⟩
       rw [hn] at hcap ⊢
       have hnle : n ≤ 40 := (by rw [← hn]; exact List.length_take_le _ _)
       have HRW := Lib.hid hrw
       have HN := Lib.hid hn
       have HB2 := Lib.hid hb2
       have HN0 : Hid (Calls Try.prog 7 #[.pointer none, .int .i64 100] w2 fun e w' => ∃ C Q M, e = .returned (.tuple #[.pointer (some ⟨C, 0, none⟩), .int .i64 0]) ∧ CW w' C Q M 100 none 0 none 0 [] [] [] ∧ Mx w' M 0 ∧ w2.heap.size ≤ C ∧ w2.heap.size ≤ Q ∧ w2.heap.size ≤ M ∧ Below w2.heap.size w2 w') := Lib.hid (c_new w2 100 (by decide))
       clear hrw hn hb2)
    | (go_at_call 7; (with_reducible refine HN0.out.mono ?_); rintro e w3 ⟨C, Q, M, rfl, hw, hM, hC, hQ, hMl, hb⟩
       have HCL : Hid (CL w2.heap.size w2 w3 C Q M 100 []) := Lib.hid ⟨none, 0, none, 0, [], [], hw, hb, Nat.le_refl _, fun j hj => by
         rcases hj with rfl | (rfl | h | h)
         · exact hC
         · exact hQ
         · cases h
         · cases h⟩
       have HMM := Lib.hid hM
       have HML := Lib.hid hMl
       have hmin : ((min 100 n : Nat) : Int) = (n : Int) := by omega
       have HLN := Lib.hid (c_line w2.heap.size w2 w3 C Q M 100 0 HCL.out hM A2 n c2 (xs.take 40) HN.out (by omega) (fun k hk => HX.out k (List.mem_of_mem_take hk)) HRW.out)
       rw [hmin] at HLN
       clear hw hM hC hQ hMl hb hmin)
    | (go_at_call 8; (with_reducible refine HLN.out.mono ?_); rintro e w4 ⟨rfl, L, hcl, hmap, hm4⟩
       have HCL4 := Lib.hid hcl
       have HM4 := Lib.hid hm4
       have HMP : Hid (L.map (·.2) = xs.take 40) := Lib.hid (by rw [hmap, List.take_of_length_le (by rw [HN.out]; omega)])
       clear hcl hmap hm4))
  obtain ⟨B, hB⟩ : ∃ B, w2.heap.size = B := ⟨_, rfl⟩
  rw [hB] at HCL4 HRW HML HCL
  have HBE := Lib.hid hB
  clear HLN HN0 hA HLL HCL HMM hB
  go_wp2
  go_loopw [0, 7] (fun v ix wr => ∃ (zs : List Nat) (A' : Option Addr) (c' j : Nat) (L : LL), v = .slice A' zs.length c' ∧ ix = .int .i64 (j : Int) ∧ zs.length ≤ c' ∧ j + zs.length ≤ 40 ∧ Hid (CL B w2 wr C Q M 100 L) ∧ Hid (Mx wr M j) ∧ Hid (L.map (·.2) = zs) ∧ Hid (Rw w2 B A' zs)) (fun v _ _ => match v with | .slice _ n _ => n | _ => 0)
  case atStart => exact ⟨xs.take 40, A2, c2, 0, L, by rw [HN.out], rfl, by rw [HN.out]; exact hcap, by rw [HN.out]; omega, HCL4, HM4, HMP, HRW⟩
  case round =>
    obtain ⟨zs, A', c', j, L, rfl, rfl, hcz, hjz, hT, hM, hE, hZ⟩ := hrel
    have hBw := HBE.out
    have hMB := HML.out
    have wj : IntKind.i64.wrap ((j : Int) + 1) = ((j + 1 : Nat) : Int) := by rw [IntWalk.i64_in _ (by omega)]; omega
    have hbw : Hid (Below w.heap.size w wr) := Lib.hid ((HB1.out.trans (HB2.out.mono HB1.out.size)).trans (hT.out.below.mono (by have := HB1.out.size; have := HB2.out.size; omega)))
    rcases Nat.eq_zero_or_pos zs.length with h0 | h0
    · have hz0 : zs = [] := List.eq_nil_of_length_eq_zero h0
      subst hz0
      have hL0 : L = [] := by have := hE.out; simpa using this
      subst hL0
      have hfi := Lib.hid (c_first wr C Q M _ _ hT.out.cb)
      have hla := Lib.hid (c_last wr C Q M _ _ hT.out.cb)
      have hlen := Lib.hid hT.out.len_at
      have g0 : decide ((0 : Int) < ((0 : Nat) : Int)) = false := by decide
      go_wp2_with (first
        | (go_at_call 16; (with_reducible refine hfi.out.mono ?_); rintro e w5 ⟨rfl, rfl⟩)
        | (go_at_call 17; (with_reducible refine hla.out.mono ?_); rintro e w5 ⟨rfl, rfl⟩)
        | (go_at_call 18; (with_reducible refine hlen.out.mono ?_); rintro e w5 ⟨rfl, q5, rfl⟩))
      go_ret
      exact ⟨rfl, below_drewN hbw.out _⟩
    · obtain ⟨m, hm⟩ : ∃ m, zs.length = m + 1 := ⟨zs.length - 1, by omega⟩
      have hLl : L.length = m + 1 := by rw [← hm, ← hE.out, List.length_map]
      obtain ⟨l0, L0, rfl⟩ : ∃ l0 L0, L = l0 :: L0 := by
        cases L with
        | nil => simp at hLl
        | cons a b => exact ⟨a, b, rfl⟩
      obtain ⟨L1, l1, hL1⟩ : ∃ L1 l1, l0 :: L0 = L1 ++ [l1] := by
        rcases List.eq_nil_or_concat (l0 :: L0) with h | ⟨a, b, h⟩
        · cases h
        · exact ⟨a, b, by rw [h, List.concat_eq_append]⟩
      obtain ⟨x0, y0⟩ := l0
      obtain ⟨x1, y1⟩ := l1
      have hzne : zs ≠ [] := by rintro rfl; simp at hm
      have hz0 : zs = y0 :: L0.map (·.2) := hE.out.symm
      have hz1 : zs = L1.map (·.2) ++ [y1] := by
        have h1 := hE.out
        rw [hL1, List.map_append] at h1
        exact h1.symm
      have hl1 : L1.length = m := by have := congrArg List.length hL1; simp at this hLl; omega
      have ht1 := Lib.hid (show (zs.take m).length = m by rw [List.length_take]; omega)
      have hd1 := Lib.hid (show (zs.drop 1).length = m by rw [List.length_drop]; omega)
      have HD0 : Hid (([] ++ L0 : LL).map (·.2) = zs.drop 1) := Lib.hid (by rw [hz0]; rfl)
      have HD1 : Hid ((L1 ++ [] : LL).map (·.2) = zs.take m) := Lib.hid (by rw [hz1, List.append_nil, List.take_append_of_le_length (by simp; omega), List.take_of_length_le (by simp; omega)])
      obtain ⟨b, off, rfl, hbB, hc⟩ := hZ.out hzne
      have hcA : wr.cell? ⟨b, off, none⟩ = some (.int .u64 (y0 : Int)) := by
        have h1 := hc 0 (by omega)
        rw [← hT.out.below.cell (p := ⟨b, off + 0, none⟩) hbB] at h1
        rw [Nat.add_zero] at h1
        rw [h1]
        simp [hz0]
      have hcB : wr.cell? ⟨b, off + m, none⟩ = some (.int .u64 (y1 : Int)) := by
        have h1 := hc m (by omega)
        rw [← hT.out.below.cell (p := ⟨b, off + m, none⟩) hbB] at h1
        rw [h1]
        simp only [hz1]
        rw [List.getElem_append_right (by simp; omega)]
        simp
      have HT0 : Hid (CL B w2 wr C Q M 100 ([] ++ (x0, y0) :: L0)) := Lib.hid hT.out
      have HT1 : Hid (CL B w2 wr C Q M 100 (L1 ++ (x1, y1) :: [])) := Lib.hid (by have := hT.out; rw [hL1] at this; exact this)
      have hfi : Hid (∀ W N, K.Chg wr W (fun _ => False) → Calls Try.prog 16 #[.pointer (some ⟨C, 0, none⟩)] (W.drewN N) fun e w' => e = .returned (.int .i64 (x0 : Int)) ∧ ∃ n, w' = (W.drewN N).drewN n) := Lib.hid (fun W N hW => (c_first (W.drewN N) C Q M _ _ ((HT0.out.cb).chg (hW.drewN N) (fun h => h))).mono (by rintro e w' ⟨rfl, rfl⟩; exact ⟨rfl, 0, rfl⟩))
      have hla : Hid (∀ N, Calls Try.prog 17 #[.pointer (some ⟨C, 0, none⟩)] (wr.drewN N) fun e w' => e = .returned (.int .i64 (x1 : Int)) ∧ ∃ n, w' = (wr.drewN N).drewN n) := Lib.hid (fun N => by
        have h1 := c_last (wr.drewN N) C Q M _ _ ((HT1.out.cb).chg ((chg_refl wr (fun _ => False)).drewN N) (fun h => h))
        rw [lst_app] at h1
        exact h1.mono (by rintro e w' ⟨rfl, rfl⟩; exact ⟨rfl, 0, rfl⟩))
      obtain ⟨A3, hA3, hs1, hs2⟩ := slice_tail b off (m + 1) c' (by omega) (by omega)
      obtain ⟨hs3, hs4⟩ := slice_init b off (m + 1) c' m (by omega)
      rw [show m + 1 - 1 = m from rfl] at hs1 hs2
      have HZ0 : Hid (Rw w2 B A3 (zs.drop 1)) := Lib.hid (fun hne => by
        have hml : 1 < m + 1 := by
          rcases Nat.eq_zero_or_pos m with h | h
          · exact absurd (List.eq_nil_of_length_eq_zero (by rw [hd1.out]; exact h)) hne
          · omega
        refine ⟨b, off + 1, hA3 hml, hbB, fun k hk => ?_⟩
        have h1 := hc (k + 1) (by rw [hd1.out] at hk; omega)
        rw [show off + 1 + k = off + (k + 1) by omega, h1]
        simp)
      have HZ1 : Hid (Rw w2 B (some ⟨b, off, none⟩) (zs.take m)) := Lib.hid (fun hne => ⟨b, off, rfl, hbB, fun k hk => by
        have h1 := hc k (by rw [ht1.out] at hk; omega)
        rw [h1]
        simp [List.getElem_take]⟩)
      have w1 : IntKind.i64.wrap (((m + 1 : Nat) : Int) - 1) = (m : Int) := by rw [IntWalk.i64_in _ (by omega)]; omega
      have w1b : IntKind.i64.wrap ((m : Int) + 1 - 1) = (m : Int) := by rw [IntWalk.i64_in _ (by omega)]; omega
      have k1 : (m : Int) < ((m + 1 : Nat) : Int) := by omega
      have k0 : (0 : Int) < ((m + 1 : Nat) : Int) := by omega
      have k2 : (0 : Int) < (m : Int) + 1 := by omega
      have g0 : decide ((0 : Int) < ((m + 1 : Nat) : Int)) = true := decide_eq_true (by omega)
      clear hz0 hz1 hL1 hc hzne hE hZ hA3 hl1 hLl
      rw [hm]
      rcases Nat.lt_or_ge j bs.length with hjf | hjf
      · cases hft : bs[j] with
        | true =>
          have g1 : decide ((j : Int) < (bs.length : Int)) = true := decide_eq_true (by omega)
          have g1n : (j : Int) < (bs.length : Int) := by omega
          obtain ⟨fb, fo, hfa, hfc⟩ := HF.out.at hbw.out hjf
          rw [hft] at hfc
          subst hfa
          have HK : Hid (∀ W, K.Chg wr W (fun _ => False) → Calls Try.prog 11 #[.pointer (some ⟨C, 0, none⟩), .int .i64 (x0 : Int)] W fun e w' => e = .returned (.tuple #[.int .u64 (y0 : Int), .bool true]) ∧ CL B w2 w' C Q M 100 ([] ++ (x0, y0) :: L0) ∧ Mx w' M (j + 1)) := Lib.hid (fun W hW => CL.key_at (HT0.out.stay hW) (hM.out.chg hW (fun h => h)) hMB (by omega))
          clear hT hM
          go_wp2_with (fail)
          go_quiet (first | (go_at_call 17; exact Calls.quiet_of (hla.out _)))
          obtain ⟨W, hW⟩ : ∃ W, wr.drewN nq = W := ⟨_, rfl⟩
          rw [hW]
          have hWC : Hid (K.Chg wr W (fun _ => False)) := Lib.hid (by rw [← hW]; exact (chg_refl wr _).drewN _)
          have hcA2 : W.cell? ⟨b, off, none⟩ = some (.int .u64 (y0 : Int)) := by rw [← hW]; exact hcA
          have hfc2 : W.cell? ⟨fb, fo + j, none⟩ = some (.bool true) := by rw [← hW]; exact hfc
          clear hW
          go_wp2_with (fail)
          go_quiet (first | (go_at_call 16; exact Calls.quiet_of (hfi.out _ _ hWC.out)))
          go_wp2_with (first
            | (go_at_call 11; (with_reducible refine (HK.out _ (by first | exact hWC.out | exact hWC.out.drewN _)).mono ?_); rintro e w5 ⟨rfl, hcl5, hm5⟩
               have HT5 := Lib.hid hcl5
               have HM5 := Lib.hid hm5
               clear hcl5 hm5)
            | (go_at_call 13; (with_reducible refine HT5.out.drop_at.mono ?_); rintro e w6 ⟨rfl, hcl6, hm6⟩
               have HT6 := Lib.hid hcl6
               have HM6 := Lib.hid (hm6 _ HM5.out)
               clear hcl6 hm6))
          go_roundw
          case rel => exact ⟨zs.drop 1, _, _, j + 1, _, by rw [hd1.out], by go_num, by rw [hd1.out]; omega, by rw [hd1.out]; omega, HT6, HM6, HD0, HZ0⟩
          case measure => simp
        | false =>
          have g1 : decide ((j : Int) < (bs.length : Int)) = true := decide_eq_true (by omega)
          have g1n : (j : Int) < (bs.length : Int) := by omega
          obtain ⟨fb, fo, hfa, hfc⟩ := HF.out.at hbw.out hjf
          rw [hft] at hfc
          subst hfa
          have HK : Hid (∀ W, K.Chg wr W (fun _ => False) → Calls Try.prog 11 #[.pointer (some ⟨C, 0, none⟩), .int .i64 (x1 : Int)] W fun e w' => e = .returned (.tuple #[.int .u64 (y1 : Int), .bool true]) ∧ CL B w2 w' C Q M 100 (L1 ++ (x1, y1) :: []) ∧ Mx w' M (j + 1)) := Lib.hid (fun W hW => CL.key_at (HT1.out.stay hW) (hM.out.chg hW (fun h => h)) hMB (by omega))
          clear hT hM
          go_wp2_with (fail)
          go_quiet (first | (go_at_call 17; exact Calls.quiet_of (hla.out _)))
          obtain ⟨W, hW⟩ : ∃ W, wr.drewN nq = W := ⟨_, rfl⟩
          rw [hW]
          have hWC : Hid (K.Chg wr W (fun _ => False)) := Lib.hid (by rw [← hW]; exact (chg_refl wr _).drewN _)
          have hcA2 : W.cell? ⟨b, off, none⟩ = some (.int .u64 (y0 : Int)) := by rw [← hW]; exact hcA
          have hfc2 : W.cell? ⟨fb, fo + j, none⟩ = some (.bool false) := by rw [← hW]; exact hfc
          clear hW
          go_wp2_with (fail)

          go_wp2_with (first
            | (go_at_call 11; (with_reducible refine (HK.out _ (by first | exact hWC.out | exact hWC.out.drewN _)).mono ?_); rintro e w5 ⟨rfl, hcl5, hm5⟩
               have HT5 := Lib.hid hcl5
               have HM5 := Lib.hid hm5
               clear hcl5 hm5)
            | (go_at_call 13; (with_reducible refine HT5.out.drop_at.mono ?_); rintro e w6 ⟨rfl, hcl6, hm6⟩
               have HT6 := Lib.hid hcl6
               have HM6 := Lib.hid (hm6 _ HM5.out)
               clear hcl6 hm6))
          go_roundw
          case rel => exact ⟨zs.take m, _, _, j + 1, _, by rw [ht1.out], by go_num, by rw [ht1.out]; omega, by rw [ht1.out]; omega, HT6, HM6, HD1, HZ1⟩
          case measure => simp
      · have g1 : decide ((j : Int) < (bs.length : Int)) = false := decide_eq_false (by omega)
        have HK : Hid (∀ W, K.Chg wr W (fun _ => False) → Calls Try.prog 11 #[.pointer (some ⟨C, 0, none⟩), .int .i64 (x1 : Int)] W fun e w' => e = .returned (.tuple #[.int .u64 (y1 : Int), .bool true]) ∧ CL B w2 w' C Q M 100 (L1 ++ (x1, y1) :: []) ∧ Mx w' M (j + 1)) := Lib.hid (fun W hW => CL.key_at (HT1.out.stay hW) (hM.out.chg hW (fun h => h)) hMB (by omega))
        clear hT hM
        go_wp2_with (fail)
        go_quiet (first | (go_at_call 17; exact Calls.quiet_of (hla.out _)))
        obtain ⟨W, hW⟩ : ∃ W, wr.drewN nq = W := ⟨_, rfl⟩
        rw [hW]
        have hWC : Hid (K.Chg wr W (fun _ => False)) := Lib.hid (by rw [← hW]; exact (chg_refl wr _).drewN _)
        have hcA2 : W.cell? ⟨b, off, none⟩ = some (.int .u64 (y0 : Int)) := by rw [← hW]; exact hcA
        clear hW
        go_wp2_with (fail)

        go_wp2_with (first
          | (go_at_call 11; (with_reducible refine (HK.out _ (by first | exact hWC.out | exact hWC.out.drewN _)).mono ?_); rintro e w5 ⟨rfl, hcl5, hm5⟩
             have HT5 := Lib.hid hcl5
             have HM5 := Lib.hid hm5
             clear hcl5 hm5)
          | (go_at_call 13; (with_reducible refine HT5.out.drop_at.mono ?_); rintro e w6 ⟨rfl, hcl6, hm6⟩
             have HT6 := Lib.hid hcl6
             have HM6 := Lib.hid (hm6 _ HM5.out)
             clear hcl6 hm6))
        go_roundw
        case rel => exact ⟨zs.take m, _, _, j + 1, _, by rw [ht1.out], by go_num, by rw [ht1.out]; omega, by rw [ht1.out]; omega, HT6, HM6, HD1, HZ1⟩
        case measure => simp
end Go.Proofs.Ytglhiknkcaglmaa
