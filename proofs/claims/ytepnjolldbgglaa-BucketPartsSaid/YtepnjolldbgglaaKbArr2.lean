
/- slices.Compact over a row of one's own that is in order: each number once. -/
import Derived.Test.YtepnjolldbgglaaKbArrC
import Derived.Test.YtepnjolldbgglaaKbSrt10
namespace Go.Proofs.Ytepnjolldbgglaa.Kb
open Go.RowKit Go.Sort Go.Lib
theorem keeps_at (d : Array Int) (j : Nat) : keeps d j = true ↔ (j = 0 ∨ d[j]! ≠ d[j - 1]!) := by
  unfold keeps; simp
/-- Of a row in order the kept ones rise, and are just the row's numbers. -/
theorem comp_spec {xs : List Int} (h : xs.Pairwise (· ≤ ·)) : ∀ m, m ≤ xs.length → (compactUpTo xs.toArray m).Pairwise (· < ·) ∧ (∀ x, x ∈ compactUpTo xs.toArray m ↔ x ∈ xs.take m) ∧ ((compactUpTo xs.toArray m).length ≤ m) := by
  intro m
  induction m with
  | zero => intro _; exact ⟨by simp [compactUpTo], by simp [compactUpTo], by simp [compactUpTo]⟩
  | succ m ih =>
    intro hm
    obtain ⟨h1, h2, h3⟩ := ih (by omega)
    have hat : ∀ k (hk : k < xs.length), xs.toArray[k]! = xs[k] := fun k hk => by rw [getElem!_pos xs.toArray k (by simpa using hk)]; simp
    have hmono : ∀ a b (ha : a < xs.length) (hb : b < xs.length), a < b → xs[a] ≤ xs[b] := fun a b ha hb hab => List.pairwise_iff_getElem.1 h a b ha hb hab
    rw [compactUpTo_succ, List.take_succ_eq_append_getElem (show m < xs.length by omega), hat m (by omega)]
    by_cases hk : keeps xs.toArray m = true
    · rw [if_pos hk]
      refine ⟨?_, fun x => ?_, by simp; omega⟩
      · rw [List.pairwise_append]
        refine ⟨h1, by simp, fun a ha b hb => ?_⟩
        simp at hb
        subst hb
        rw [h2 a, List.mem_take_iff_getElem] at ha
        obtain ⟨i, hi, rfl⟩ := ha
        rcases (keeps_at _ _).1 hk with h0 | h0
        · omega
        · rw [hat m (by omega), hat (m - 1) (by omega)] at h0
          have q1 : xs[m - 1] ≤ xs[m] := hmono _ _ _ _ (by omega)
          have q2 : xs[i] ≤ xs[m - 1] := by
            by_cases e : i = m - 1
            · subst e; exact Int.le_refl _
            · exact hmono _ _ _ _ (by omega)
          omega
      · rw [List.mem_append, List.mem_append, h2 x]
    · rw [if_neg hk]
      rw [List.append_nil]
      refine ⟨h1, fun x => ?_, by omega⟩
      rw [h2 x]
      have hne : ¬ (m = 0 ∨ xs.toArray[m]! ≠ xs.toArray[m - 1]!) := fun e => hk ((keeps_at _ _).2 e)
      have h0 : 0 < m := by omega
      have he : xs[m] = xs[m - 1] := by
        have : ¬ xs.toArray[m]! ≠ xs.toArray[m - 1]! := fun e => hne (.inr e)
        rw [hat m (by omega), hat (m - 1) (by omega)] at this
        omega
      constructor
      · intro hx; exact List.mem_append_left _ hx
      · intro hx
        rw [List.mem_append] at hx
        rcases hx with hx | hx
        · exact hx
        · rw [List.mem_singleton.1 hx, he, List.mem_take_iff_getElem]
          exact ⟨m - 1, by omega, rfl⟩
theorem so_comp (w : World) (base g n cap : Nat) (ys : List Int) (h : w.ownsRow base 23 1 (.slice (some ⟨g, 0, none⟩) n cap) n (hv ys)) (hl : ys.length = n) (ho : ys.Pairwise (· ≤ ·)) (few : n < 4611686018427387904) :
    Calls Try.prog 28 #[.slice (some ⟨g, 0, none⟩) n cap] w fun e w' => ∃ zs : List Int, e = .returned (.slice (some ⟨g, 0, none⟩) zs.length cap) ∧ zs.Pairwise (· < ·) ∧ (∀ x, x ∈ zs ↔ x ∈ ys) ∧
      w'.ownsRow base 23 1 (.slice (some ⟨g, 0, none⟩) zs.length cap) zs.length (hv zs) ∧ ButS w w' (· = g) ∧ zs.length ≤ n := by
  obtain ⟨p1, p2, p3⟩ := comp_spec ho ys.length (Nat.le_refl _)
  rw [List.take_length] at p2
  have hcap : n ≤ cap := by
    obtain ⟨g', cap', cur, hv', _, _, hnc, _⟩ | h2 := h.2.symm
    · simp only [Value.slice.injEq, true_and] at hv'; omega
    · obtain ⟨h2, _⟩ := h2; simp at h2
  have hc := AnyE.slices_Compact Try.compH (Value.int .u64) (fun _ => rfl)
    ⟨fun x y w => by simp [binOp, Op.intCmp]; rfl, (EqlAt.int Try.prog 23 .u64).2⟩ ⟨fun x y w => by simp [binOp, Op.intCmp]; rfl, (EqlAt.int Try.prog 23 .u64).2⟩ 0 Try.zeroValue23 g 0 cap ys.toArray w (own_holdsH h hl) (by simp; omega) (by simp; omega)
  have hc' : Calls Try.prog 28 #[.slice (some ⟨g, 0, none⟩) ys.toArray.size cap] w _ := hc
  rw [show ys.toArray.size = n by simp [hl]] at hc'
  refine hc'.mono ?_
  rintro e w' ⟨rfl, q, hw⟩
  obtain ⟨zs, hz⟩ : ∃ zs, zs = compactUpTo ys.toArray ys.length := ⟨_, rfl⟩
  rw [← hl] at hw ⊢
  rw [← hz] at p1 p2 p3 hw ⊢
  have hsw : SW (Value.int .u64) w g 0 (zs ++ List.replicate (ys.length - zs.length) 0).toArray w' := ⟨q, #[], by unfold sortWorld; rw [grow_empty]; exact hw⟩
  have ho2 := sw_own h (ys := zs ++ List.replicate (ys.length - zs.length) 0) (by simp; omega) hsw
  have ho3 := own_cut ho2 (k := zs.length) (by omega)
  refine ⟨zs, rfl, p1, p2, ?_, sw_but hsw, by omega⟩
  have e : (hv (zs ++ List.replicate (ys.length - zs.length) 0)).take (zs.length * 1) = hv zs := by
    simp [hv]
  rw [e] at ho3
  exact ho3
end Go.Proofs.Ytepnjolldbgglaa.Kb
