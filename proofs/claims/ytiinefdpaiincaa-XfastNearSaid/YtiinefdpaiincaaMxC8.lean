/- Links behind all others, one by one; the layer's example; the texts walked. -/
import Derived.Test.YtiinefdpaiincaaMxC7
namespace Go.Proofs.Ytiinefdpaiincaa
open Go.RowKit
/-- A chain that lies, with its meter, in blocks from B on. -/
def CL (B : Nat) (w0 w : World) (C Q M lim : Nat) (L : LL) : Prop :=
  ∃ An cn Af cf ns fs, CW w C Q M lim An cn Af cf ns fs L ∧ Below B w0 w ∧ B ≤ w0.heap.size ∧ ∀ j, CB C Q An Af j → B ≤ j
section
variable {B : Nat} {w0 w w' : World} {C Q M lim : Nat} {L : LL}
theorem CL.lt (h : CL B w0 w C Q M lim L) : B ≤ w.heap.size := by
  obtain ⟨_, _, _, _, _, _, _, hb, hB, _⟩ := h
  exact Nat.le_trans hB hb.size
theorem CL.cb (h : CL B w0 w C Q M lim L) : Cb w C Q M (hd L (-1)) (lst (-1) L) := by
  obtain ⟨_, _, _, _, _, _, hw, _⟩ := h
  exact hw.cb
theorem CL.below (h : CL B w0 w C Q M lim L) : Below B w0 w := by
  obtain ⟨_, _, _, _, _, _, _, hb, _⟩ := h
  exact hb
theorem CL.step (h : CL B w0 w C Q M lim L) {An cn Af cf ns fs An' cn' Af' cf' ns' fs'} {L' : LL} (hw : CW w C Q M lim An cn Af cf ns fs L) (hB : ∀ j, CB C Q An Af j → B ≤ j) (hw' : CW w' C Q M lim An' cn' Af' cf' ns' fs' L') (hc : K.Chg w w' (CB C Q An Af)) (hi : ∀ j, QB Q An' Af' j → QB Q An Af j ∨ w.heap.size ≤ j) : CL B w0 w' C Q M lim L' := by
  have hlt := h.lt
  refine ⟨An', cn', Af', cf', ns', fs', hw', h.below.trans (hc.below h.lt hB), ?_, fun j hj => ?_⟩
  · obtain ⟨_, _, _, _, _, _, _, _, hB, _⟩ := h
    exact hB
  · rcases hj with rfl | hj
    · exact hB _ (.inl rfl)
    · rcases hi j hj with h | h
      · exact hB j (.inr h)
      · omega
theorem CL.same {O : Nat → Prop} (h : CL B w0 w C Q M lim L) (hc : K.Chg w w' O) (hO : ∀ j, O j → B ≤ j ∧ ∀ An cn Af cf ns fs, CW w C Q M lim An cn Af cf ns fs L → ¬ CB C Q An Af j) : CL B w0 w' C Q M lim L := by
  have hlt := h.lt
  obtain ⟨An, cn, Af, cf, ns, fs, hw, hb, hB, hm⟩ := h
  exact ⟨An, cn, Af, cf, ns, fs, hw.chg hc (fun j hj ho => (hO j ho).2 _ _ _ _ _ _ hw hj), hb.trans (hc.below hlt (fun j ho => (hO j ho).1)), hB, hm⟩
theorem CL.stay (h : CL B w0 w C Q M lim L) (hc : K.Chg w w' (fun _ => False)) : CL B w0 w' C Q M lim L := h.same hc (fun _ ho => ho.elim)
theorem CL.met (h : CL B w0 w C Q M lim L) {tk : Nat} (hM : Mx w M tk) (hMB : B ≤ M) (hc : K.Chg w w' (· = M)) : CL B w0 w' C Q M lim L := h.same hc (fun j ho => by
  have e : j = M := ho
  subst e
  exact ⟨hMB, fun _ _ _ _ _ _ hw => hw.ne_m hM⟩)
theorem CL.push (h : CL B w0 w C Q M lim L) (k : Nat) (hk : k < 18446744073709551616) (hl : L.length < lim) :
    Calls Try.prog 66 #[.pointer (some ⟨C, 0, none⟩), .int .i64 (lst (-1) L), .int .u64 (k : Int)] w fun e w' => ∃ n : Nat, e = .returned (.tuple #[.int .i64 (n : Int), .bool true]) ∧ CL B w0 w' C Q M lim (L ++ [(n, k)]) ∧ ∀ tk, Mx w M tk → Mx w' M tk := by
  have hL := h
  obtain ⟨An, cn, Af, cf, ns, fs, hw, hb, hB, hm⟩ := h
  have fin : ∀ e w', BehP w C Q M lim An Af ns fs L [] k e w' → ∃ n : Nat, e = .returned (.tuple #[.int .i64 (n : Int), .bool true]) ∧ CL B w0 w' C Q M lim (L ++ [(n, k)]) ∧ ∀ tk, Mx w M tk → Mx w' M tk := by
    rintro e w' ⟨n, rfl, _, _, _, An', cn', Af', cf', ns', fs', hw', hc, hi, _⟩
    exact ⟨n, rfl, hL.step hw hm hw' hc hi, fun tk hM => hM.chg hc (hw.ne_m hM)⟩
  rcases List.eq_nil_or_concat L with rfl | ⟨L', x, rfl⟩
  · exact (c_behind_a w C Q M lim cn cf An Af ns fs (-1) (by decide) [] hw k hk hl).mono fin
  · obtain ⟨x, y⟩ := x
    rw [List.concat_eq_append] at *
    have e : lst (-1) (L' ++ [(x, y)]) = (x : Int) := by rw [lst_app]; rfl
    rw [e]
    rw [← List.append_nil (L' ++ [(x, y)])] at hw hl
    exact (c_behind_b w C Q M lim cn cf An Af ns fs x y L' [] hw k hk hl).mono fin
theorem CL.full (h : CL B w0 w C Q M lim L) (k : Nat) (hl : ¬ L.length < lim) :
    Calls Try.prog 66 #[.pointer (some ⟨C, 0, none⟩), .int .i64 (lst (-1) L), .int .u64 (k : Int)] w fun e w' => e = .returned (.tuple #[.int .i64 0, .bool false]) ∧ CL B w0 w' C Q M lim L ∧ ∀ tk, Mx w M tk → Mx w' M tk := by
  have hL := h
  obtain ⟨An, cn, Af, cf, ns, fs, hw, hb, hB, hm⟩ := h
  have fin : ∀ e w', e = Ending.returned (.tuple #[.int .i64 0, .bool false]) ∧ K.Chg w w' (fun _ => False) → e = .returned (.tuple #[.int .i64 0, .bool false]) ∧ CL B w0 w' C Q M lim L ∧ ∀ tk, Mx w M tk → Mx w' M tk := by
    rintro e w' ⟨rfl, hc⟩
    exact ⟨rfl, hL.stay hc, fun tk hM => hM.chg hc (fun h => h)⟩
  rcases List.eq_nil_or_concat L with rfl | ⟨L', x, rfl⟩
  · exact (c_behind_no_a w C Q M lim cn cf An Af ns fs (-1) (by decide) [] hw k hl).mono fin
  · obtain ⟨x, y⟩ := x
    rw [List.concat_eq_append] at *
    have e : lst (-1) (L' ++ [(x, y)]) = (x : Int) := by rw [lst_app]; rfl
    rw [e]
    exact (c_behind_no_b w C Q M lim cn cf An Af ns fs x y L' [] hw k hl).mono fin
end
end Go.Proofs.Ytiinefdpaiincaa
