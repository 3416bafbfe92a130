
/- Links behind all others, one by one; the layer's example; the texts walked. -/
import Derived.Test.YtglhiknkcaglmaaC7
namespace Go.Proofs.Ytglhiknkcaglmaa
open Go.RowKit
/-- A chain that lies, with its meter, in blocks from B on. -/
def CL (B : Nat) (w0 w : World) (C Q M lim : Nat) (L : LL) : Prop :=
  ∃ An cn Af cf ns fs, CW w C Q M lim An cn Af cf ns fs L ∧ Below B w0 w ∧ B ≤ w0.heap.size ∧ ∀ j, CB C Q An Af j → B ≤ j
section
variable {B : Nat} {w0 w w' : World} {C Q M lim : Nat} {L : LL}
theorem CL.lt (h : CL B w0 w C Q M lim L) : B ≤ w.heap.size := by
  obtain ⟨_, _, _, _, _, _, _, hb, hB, _⟩ := h
  exact Nat.le_trans hB hb.size
theorem CL.cb (h : CL B w0 w C Q M lim L) : Cb w C Q M (hd L (-1)) (lst (-1) L) := by
  obtain ⟨_, _, _, _, _, _, hw, _⟩ := h
  exact hw.cb
theorem CL.below (h : CL B w0 w C Q M lim L) : Below B w0 w := by
  obtain ⟨_, _, _, _, _, _, _, hb, _⟩ := h
  exact hb
theorem CL.step (h : CL B w0 w C Q M lim L) {An cn Af cf ns fs An' cn' Af' cf' ns' fs'} {L' : LL} (hw : CW w C Q M lim An cn Af cf ns fs L) (hB : ∀ j, CB C Q An Af j → B ≤ j) (hw' : CW w' C Q M lim An' cn' Af' cf' ns' fs' L') (hc : K.Chg w w' (CB C Q An Af)) (hi : ∀ j, QB Q An' Af' j → QB Q An Af j ∨ w.heap.size ≤ j) : CL B w0 w' C Q M lim L' := by
  have hlt := h.lt
  refine ⟨An', cn', Af', cf', ns', fs', hw', h.below.trans (hc.below h.lt hB), ?_, fun j hj => ?_⟩
  · obtain ⟨_, _, _, _, _, _, _, _, hB, _⟩ := h
    exact hB
  · rcases hj with rfl | hj
    · exact hB _ (.inl rfl)
    · rcases hi j hj with h | h
      · exact hB j (.inr h)
      · omega
theorem CL.same {O : Nat → Prop} (h : CL B w0 w C Q M lim L) (hc : K.Chg w w' O) (hO : ∀ j, O j → B ≤ j ∧ ∀ An cn Af cf ns fs, CW w C Q M lim An cn Af cf ns fs L → ¬ CB C Q An Af j) : CL B w0 w' C Q M lim L := by
  have hlt := h.lt
  obtain ⟨An, cn, Af, cf, ns, fs, hw, hb, hB, hm⟩ := h
  exact ⟨An, cn, Af, cf, ns, fs, hw.chg hc (fun j hj ho => (hO j ho).2 _ _ _ _ _ _ hw hj), hb.trans (hc.below hlt (fun j ho => (hO j ho).1)), hB, hm⟩
theorem CL.stay (h : CL B w0 w C Q M lim L) (hc : K.Chg w w' (fun _ => False)) : CL B w0 w' C Q M lim L := h.same hc (fun _ ho => ho.elim)
theorem CL.met (h : CL B w0 w C Q M lim L) {tk : Nat} (hM : Mx w M tk) (hMB : B ≤ M) (hc : K.Chg w w' (· = M)) : CL B w0 w' C Q M lim L := h.same hc (fun j ho => by
  have e : j = M := ho
  subst e
  exact ⟨hMB, fun _ _ _ _ _ _ hw => hw.ne_m hM⟩)
theorem CL.push (h : CL B w0 w C Q M lim L) (k : Nat) (hk : k < 18446744073709551616) (hl : L.length < lim) :
    Calls Try.prog 10 #[.pointer (some ⟨C, 0, none⟩), .int .i64 (lst (-1) L), .int .u64 (k : Int)] w fun e w' => ∃ n : Nat, e = .returned (.tuple #[.int .i64 (n : Int), .bool true]) ∧ CL B w0 w' C Q M lim (L ++ [(n, k)]) ∧ ∀ tk, Mx w M tk → Mx w' M tk := by
  have hL := h
  obtain ⟨An, cn, Af, cf, ns, fs, hw, hb, hB, hm⟩ := h
  have fin : ∀ e w', BehP w C Q M lim An Af ns fs L [] k e w' → ∃ n : Nat, e = .returned (.tuple #[.int .i64 (n : Int), .bool true]) ∧ CL B w0 w' C Q M lim (L ++ [(n, k)]) ∧ ∀ tk, Mx w M tk → Mx w' M tk := by
    rintro e w' ⟨n, rfl, _, _, _, An', cn', Af', cf', ns', fs', hw', hc, hi, _⟩
    exact ⟨n, rfl, hL.step hw hm hw' hc hi, fun tk hM => hM.chg hc (hw.ne_m hM)⟩
  rcases List.eq_nil_or_concat L with rfl | ⟨L', x, rfl⟩
  · exact (c_behind_a w C Q M lim cn cf An Af ns fs (-1) (by decide) [] hw k hk hl).mono fin
  · obtain ⟨x, y⟩ := x
    rw [List.concat_eq_append] at *
    have e : lst (-1) (L' ++ [(x, y)]) = (x : Int) := by rw [lst_app]; rfl
    rw [e]
    rw [← List.append_nil (L' ++ [(x, y)])] at hw hl
    exact (c_behind_b w C Q M lim cn cf An Af ns fs x y L' [] hw k hk hl).mono fin
theorem CL.full (h : CL B w0 w C Q M lim L) (k : Nat) (hl : ¬ L.length < lim) :
    Calls Try.prog 10 #[.pointer (some ⟨C, 0, none⟩), .int .i64 (lst (-1) L), .int .u64 (k : Int)] w fun e w' => e = .returned (.tuple #[.int .i64 0, .bool false]) ∧ CL B w0 w' C Q M lim L ∧ ∀ tk, Mx w M tk → Mx w' M tk := by
  have hL := h
  obtain ⟨An, cn, Af, cf, ns, fs, hw, hb, hB, hm⟩ := h
  have fin : ∀ e w', e = Ending.returned (.tuple #[.int .i64 0, .bool false]) ∧ K.Chg w w' (fun _ => False) → e = .returned (.tuple #[.int .i64 0, .bool false]) ∧ CL B w0 w' C Q M lim L ∧ ∀ tk, Mx w M tk → Mx w' M tk := by
    rintro e w' ⟨rfl, hc⟩
    exact ⟨rfl, hL.stay hc, fun tk hM => hM.chg hc (fun h => h)⟩
  rcases List.eq_nil_or_concat L with rfl | ⟨L', x, rfl⟩
  · exact (c_behind_no_a w C Q M lim cn cf An Af ns fs (-1) (by decide) [] hw k hl).mono fin
  · obtain ⟨x, y⟩ := x
    rw [List.concat_eq_append] at *
    have e : lst (-1) (L' ++ [(x, y)]) = (x : Int) := by rw [lst_app]; rfl
    rw [e]
    exact (c_behind_no_b w C Q M lim cn cf An Af ns fs x y L' [] hw k hl).mono fin
end
set_option maxHeartbeats 1000000 in
theorem c_line (B : Nat) (w0 w : World) (C Q M lim tk : Nat) (h : CL B w0 w C Q M lim []) (hM : Mx w M tk) (A : Option Addr) (n c : Nat) (ks : List Nat) (hn : ks.length = n) (hn2 : n ≤ 1000000) (hks : ∀ k ∈ ks, k < 18446744073709551616) (hR : Rw w0 B A ks) :
    Calls Try.prog 8 #[.pointer (some ⟨C, 0, none⟩), .slice A n c] w fun e w' => e = .returned (.int .i64 ((min lim n : Nat) : Int)) ∧ ∃ L, CL B w0 w' C Q M lim L ∧ L.map (·.2) = ks.take lim ∧ Mx w' M tk := by
  have HN := Lib.hid hn
  have HT := Lib.hid h
  have HM := Lib.hid hM
  have HR := Lib.hid hR
  have HKS := Lib.hid hks
  clear h hM hR hks hn
  go_enter Try.func8, Try.ntmps8
  go_wp2
  go_loopw [11] (fun ix wr => ∃ (j : Nat) (L : LL), j ≤ n ∧ j ≤ lim ∧ ix = .int .i64 (j : Int) ∧ Hid (CL B w0 wr C Q M lim L) ∧ Hid (Mx wr M tk) ∧ Hid (L.map (·.2) = ks.take j)) (fun ix _ => n - (intOf ix).toNat)
  case atStart => exact ⟨0, [], by omega, by omega, rfl, HT, HM, rfl⟩
  case round =>
    obtain ⟨j, L, hj, hjl, rfl, hT, hM, hE⟩ := hrel
    have hL : L.length = min j n := by
      have := congrArg List.length hE.out
      rw [List.length_map, List.length_take, HN.out] at this
      exact this
    rcases Nat.lt_or_ge j n with hjr | hjr
    · have hjk : j < ks.length := by rw [HN.out]; exact hjr
      obtain ⟨b, off, rfl, hbB, hcell⟩ := (HR.out.below hT.out.below (Nat.le_refl _)).at hjk
      have hkl := HKS.out ks[j] (List.getElem_mem hjk)
      have htk := Lib.hid (show ks.take (j + 1) = ks.take j ++ [ks[j]] from by rw [List.take_succ_eq_append_getElem hjk])
      have hlast := Lib.hid (c_last wr C Q M _ _ hT.out.cb)
      have gk : (j : Int) < (n : Int) := by omega
      have wj : IntKind.i64.wrap ((j : Int) + 1) = ((j + 1 : Nat) : Int) := by rw [IntWalk.i64_in _ (by omega)]; omega
      by_cases hlt : L.length < lim
      · have hpush := Lib.hid (hT.out.push ks[j] hkl hlt)
        have htk2 : Hid (∀ n', (L ++ [((n', ks[j]) : Nat × Nat)]).map (·.2) = ks.take (j + 1)) := Lib.hid (fun n' => by rw [List.map_append, hE.out, htk.out]; rfl)
        generalize ks[j] = k at *
        generalize lst (-1) L = la at *
        clear htk
        go_wp2_with (first
          | (go_at_call 17; (with_reducible refine hlast.out.mono ?_); rintro e w1 ⟨rfl, rfl⟩)
          | (go_at_call 10; (with_reducible refine hpush.out.mono ?_); rintro e w2 ⟨n2, rfl, hT2, hM2⟩; have HT2 := Lib.hid hT2; have HM2 := Lib.hid (hM2 tk hM.out); clear hT2 hM2))
        go_roundw
        case rel => exact ⟨j + 1, _, by omega, by omega, by go_num, HT2, HM2, Lib.hid (htk2.out n2)⟩
        case measure => simp [intOf]; omega
      · have hfull := Lib.hid (hT.out.full ks[j] hlt)
        have hjlim := Lib.hid (show j = lim by omega)
        generalize ks[j] = k at *
        generalize lst (-1) L = la at *
        clear htk
        go_wp2_with (first
          | (go_at_call 17; (with_reducible refine hlast.out.mono ?_); rintro e w1 ⟨rfl, rfl⟩)
          | (go_at_call 10; (with_reducible refine hfull.out.mono ?_); rintro e w2 ⟨rfl, hT2, hM2⟩; have HT2 := Lib.hid hT2; have HM2 := Lib.hid (hM2 tk hM.out); clear hT2 hM2))
        go_ret
        have hjl2 := hjlim.out
        refine ⟨by rw [show min lim n = j by omega]; rfl, L, HT2.out, ?_, HM2.out⟩
        rw [hE.out, hjl2]
    · obtain rfl : j = n := by omega
      have g0 : decide ((j : Int) < (j : Int)) = false := decide_eq_false (by omega)
      go_wp2
      go_ret
      refine ⟨by rw [show min lim j = j by omega]; rfl, L, hT.out, ?_, hM.out⟩
      rw [hE.out, List.take_of_length_le (by rw [HN.out]; omega), List.take_of_length_le (by rw [HN.out]; omega)]
theorem c_line_nil (w : World) (A : Option Addr) (n c : Nat) (ks : List Nat) (B : Nat) (hn : ks.length = n) (hR : Rw w B A ks) :
    Calls Try.prog 8 #[.pointer none, .slice A n c] w fun e w' => e = .returned (.int .i64 0) ∧ w = w' := by
  cases ks with
  | nil =>
    obtain rfl : n = 0 := hn.symm
    clear hR hn
    go_enter Try.func8, Try.ntmps8
    go_wp2
    go_loopw [11] (fun ix wr => ix = .int .i64 0 ∧ wr = w) (fun _ _ => 0)
    case atStart => exact ⟨rfl, rfl⟩
    case round =>
      obtain ⟨rfl, rfl⟩ := hrel
      go_wp2
      go_ret
      exact ⟨rfl, rfl⟩
  | cons k ks =>
    obtain ⟨b, off, rfl, hbB, hcell⟩ := hR.at (k := 0) (by simp)
    simp only [List.getElem_cons_zero, Nat.add_zero] at hcell
    have hn0 : (0 : Int) < (n : Int) := by simp at hn; omega
    have hn1 : decide ((0 : Int) < (n : Int)) = true := decide_eq_true hn0
    have hn2 : decide (0 < n) = true := decide_eq_true (by omega)
    clear hn hR
    go_enter Try.func8, Try.ntmps8
    go_wp2
    go_loopw [11] (fun ix wr => ix = .int .i64 0 ∧ wr = w) (fun _ _ => 0)
    case atStart => exact ⟨rfl, rfl⟩
    case round =>
      obtain ⟨rfl, rfl⟩ := hrel
      go_wp2_with (first
          | (go_at_call 17; (with_reducible refine (c_last_nil _).mono ?_); rintro e w1 ⟨rfl, rfl⟩)
          | (go_at_call 10; (with_reducible refine (c_behind_nil _ _ k).mono ?_); rintro e w2 ⟨rfl, rfl⟩))
      go_ret
      exact ⟨rfl, rfl⟩
end Go.Proofs.Ytglhiknkcaglmaa
