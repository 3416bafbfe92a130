
/- How many bits are set after some words were changed; a range filled or wiped, as a list. -/
import Derived.Test.YtbbnamdlfnonoaaDoorSMath2
namespace Go.Proofs.YtbbnamdlfnonoaaDoor
theorem sbit_set {ws : List Nat} {k : Nat} (y : Nat) (hk : k < ws.length) (b : Nat) : sbit (ws.set k y) b = if b / 64 = k then y.testBit (b % 64) else sbit ws b := by
  unfold sbit
  rw [List.getElem?_set]
  by_cases h : b / 64 = k
  · subst h; simp [hk]
  · rw [if_neg h, if_neg (fun e => h e.symm)]
theorem sl_len_sum (ws : List Nat) : (sl ws).length = (ws.map fun x => (M.bl x).length).sum := by
  have : ∀ k, k ≤ ws.length → (sl (ws.take k)).length = ((ws.take k).map fun x => (M.bl x).length).sum := by
    intro k
    induction k with
    | zero => intro _; simp [sl]
    | succ k ih =>
      intro hk
      have hlt : k < ws.length := by omega
      rw [List.take_succ_eq_append_getElem hlt, sl_snoc, List.length_append, ih (by omega), List.map_append, List.sum_append]
      simp [M.bz]
  have := this ws.length (Nat.le_refl _)
  rwa [List.take_length] at this
theorem sum_at (f : Nat → Nat) (ws : List Nat) (k : Nat) (hk : k < ws.length) : (ws.map f).sum = ((ws.take k).map f).sum + (f ws[k] + ((ws.drop (k + 1)).map f).sum) := by
  have : (ws.map f).sum = ((ws.take k ++ ws[k] :: ws.drop (k + 1)).map f).sum := by rw [List.getElem_cons_drop, List.take_append_drop]
  rw [this, List.map_append, List.sum_append, List.map_cons, List.sum_cons]
theorem sl_len_set {ws : List Nat} {k : Nat} (y : Nat) (hk : k < ws.length) : (sl (ws.set k y)).length + (M.bl ws[k]).length = (sl ws).length + (M.bl y).length := by
  rw [sl_len_sum, sl_len_sum, sum_at _ ws k hk, List.set_eq_take_append_cons_drop, if_pos hk, List.map_append, List.sum_append, List.map_cons, List.sum_cons]
  omega
theorem cnt_split (l : List Nat) (p q r : Nat → Bool) (h : ∀ i ∈ l, r i = (p i ^^ q i)) (hpq : ∀ i ∈ l, p i = true → q i = true) : (l.filter r).length + (l.filter p).length = (l.filter q).length := by
  induction l with
  | nil => rfl
  | cons a l ih =>
    have ih := ih (fun i hi => h i (List.mem_cons_of_mem _ hi)) (fun i hi => hpq i (List.mem_cons_of_mem _ hi))
    have ha := h a (List.mem_cons_self ..)
    have hb := hpq a (List.mem_cons_self ..)
    cases hp : p a <;> cases hq : q a <;> simp_all <;> omega
theorem cnt_or (x m : Nat) : (M.bl (x ^^^ (x ||| m))).length + (M.bl x).length = (M.bl (x ||| m)).length := by
  unfold M.bl
  apply cnt_split
  · intro i _; rw [Nat.testBit_xor]
  · intro i _ h; rw [Nat.testBit_or, h]; rfl
theorem cnt_and (x m : Nat) : (M.bl (x ^^^ (x &&& m))).length + (M.bl (x &&& m)).length = (M.bl x).length := by
  unfold M.bl
  apply cnt_split
  · intro i _; rw [Nat.testBit_xor]; exact Bool.xor_comm _ _
  · intro i _ h; rw [Nat.testBit_and] at h; simp at h; exact h.1
/-- Are the first k words done: their bits from f on below t set (o), or not? -/
def Done (o : Bool) (ws us : List Nat) (f t : Int) (k : Nat) : Prop :=
  us.length = ws.length ∧ ∀ b, b < 64 * ws.length → sbit us b = if f ≤ (b : Int) ∧ (b : Int) < t ∧ b < 64 * k then o else sbit ws b
theorem Done.start (o : Bool) (ws : List Nat) (f t : Int) (k : Nat) (h : (64 * k : Nat) ≤ f) : Done o ws ws f t k :=
  ⟨rfl, fun b _ => by rw [if_neg (by omega)]⟩
theorem Done.or_step {ws us : List Nat} {f t : Int} {k : Nat} (h : Done true ws us f t k) (hk : k < us.length) :
    Done true ws (us.set k (us[k] ||| M.mask (f - (k : Int) * 64) (t - (k : Int) * 64))) f t (k + 1) := by
  refine ⟨by rw [List.length_set]; exact h.1, fun b hb => ?_⟩
  have hm : b % 64 < 64 := Nat.mod_lt _ (by decide)
  rw [sbit_set _ hk]
  by_cases hq : b / 64 = k
  · rw [if_pos hq, Nat.testBit_or, M.mask_bit]
    have e : us[k].testBit (b % 64) = sbit us b := by unfold sbit; rw [hq, List.getElem?_eq_getElem hk]; rfl
    rw [e, h.2 b hb, if_neg (by omega)]
    by_cases hr : f ≤ (b : Int) ∧ (b : Int) < t
    · rw [if_pos (by omega)]
      have : decide (b % 64 < 64 ∧ f - (k : Int) * 64 ≤ ((b % 64 : Nat) : Int) ∧ ((b % 64 : Nat) : Int) < t - (k : Int) * 64) = true := by rw [decide_eq_true_eq]; omega
      rw [this]; simp
    · rw [if_neg (by omega)]
      have : decide (b % 64 < 64 ∧ f - (k : Int) * 64 ≤ ((b % 64 : Nat) : Int) ∧ ((b % 64 : Nat) : Int) < t - (k : Int) * 64) = false := by rw [decide_eq_false_iff_not]; omega
      rw [this]; simp
  · rw [if_neg hq, h.2 b hb]
    congr 1
    apply propext
    omega
theorem Done.and_step {ws us : List Nat} {f t : Int} {k : Nat} (h : Done false ws us f t k) (hk : k < us.length) :
    Done false ws (us.set k (us[k] &&& (18446744073709551615 - M.mask (f - (k : Int) * 64) (t - (k : Int) * 64)))) f t (k + 1) := by
  refine ⟨by rw [List.length_set]; exact h.1, fun b hb => ?_⟩
  have hm : b % 64 < 64 := Nat.mod_lt _ (by decide)
  rw [sbit_set _ hk]
  by_cases hq : b / 64 = k
  · rw [if_pos hq, Nat.testBit_and, M.not_bit _ _ (M.mask_lt _ _) hm, M.mask_bit]
    have e : us[k].testBit (b % 64) = sbit us b := by unfold sbit; rw [hq, List.getElem?_eq_getElem hk]; rfl
    rw [e, h.2 b hb, if_neg (by omega)]
    by_cases hr : f ≤ (b : Int) ∧ (b : Int) < t
    · rw [if_pos (by omega)]
      have : decide (b % 64 < 64 ∧ f - (k : Int) * 64 ≤ ((b % 64 : Nat) : Int) ∧ ((b % 64 : Nat) : Int) < t - (k : Int) * 64) = true := by rw [decide_eq_true_eq]; omega
      rw [this]; simp
    · rw [if_neg (by omega)]
      have : decide (b % 64 < 64 ∧ f - (k : Int) * 64 ≤ ((b % 64 : Nat) : Int) ∧ ((b % 64 : Nat) : Int) < t - (k : Int) * 64) = false := by rw [decide_eq_false_iff_not]; omega
      rw [this]; simp
  · rw [if_neg hq, h.2 b hb]
    congr 1
    apply propext
    omega
/-- All from f on below t are set (o), or aren't; no other one is changed. -/
def Laid (o : Bool) (ws us : List Nat) (f t : Int) : Prop :=
  us.length = ws.length ∧ ∀ b, b < 64 * ws.length → sbit us b = if f ≤ (b : Int) ∧ (b : Int) < t then o else sbit ws b
theorem Done.laid {o : Bool} {ws us : List Nat} {i j : Int} {k : Nat} (h : Done o ws us (max i 0) (min j ((64 * ws.length : Nat) : Int)) k) (hk : min j ((64 * ws.length : Nat) : Int) ≤ (k : Int) * 64) : Laid o ws us i j := by
  refine ⟨h.1, fun b hb => ?_⟩
  rw [h.2 b hb]
  congr 1
  apply propext
  omega
theorem Laid.mem_true {ws us : List Nat} {f t : Int} (h : Laid true ws us f t) {y : Int} : y ∈ sl us ↔ y ∈ sl ws ∨ (max f 0 ≤ y ∧ y < min t ((64 * ws.length : Nat) : Int)) := by
  rw [sl_in, sl_in, h.1]
  constructor
  · rintro ⟨h0, h1, h2⟩
    rw [h.2 _ (by omega)] at h2
    by_cases hc : f ≤ ((y.toNat : Nat) : Int) ∧ ((y.toNat : Nat) : Int) < t
    · right; omega
    · rw [if_neg hc] at h2; left; exact ⟨h0, h1, h2⟩
  · rintro (⟨h0, h1, h2⟩ | h2)
    · refine ⟨h0, h1, ?_⟩
      rw [h.2 _ (by omega), h2]
      split <;> rfl
    · refine ⟨by omega, by omega, ?_⟩
      rw [h.2 _ (by omega), if_pos (by omega)]
theorem Laid.mem_false {ws us : List Nat} {f t : Int} (h : Laid false ws us f t) {y : Int} : y ∈ sl us ↔ y ∈ sl ws ∧ ¬ (max f 0 ≤ y ∧ y < min t ((64 * ws.length : Nat) : Int)) := by
  rw [sl_in, sl_in, h.1]
  constructor
  · rintro ⟨h0, h1, h2⟩
    rw [h.2 _ (by omega)] at h2
    by_cases hc : f ≤ ((y.toNat : Nat) : Int) ∧ ((y.toNat : Nat) : Int) < t
    · rw [if_pos hc] at h2; cases h2
    · rw [if_neg hc] at h2; exact ⟨⟨h0, h1, h2⟩, by omega⟩
  · rintro ⟨⟨h0, h1, h2⟩, h3⟩
    refine ⟨h0, h1, ?_⟩
    rw [h.2 _ (by omega), if_neg (by omega), h2]
end Go.Proofs.YtbbnamdlfnonoaaDoor
