/- What a law of y-fast tries keeps; keys that rise, put in one behind another. Buckets of which any two neighbours have more than 64 keys: they stay so behind a deletion; how many they are, and what is used. Where a representative's bucket is: of the blocks that were there the table's alone change; the text walked. -/
import Derived.Test.YtelfacchhclgnaaGreatMu40
import Derived.Test.YtelfacchhclgnaaGreatMu41
section
namespace Go.Proofs.YtelfacchhclgnaaGreat
set_option maxRecDepth 20000
open Go.RowKit
namespace Bk
theorem len_le : ∀ (l : BL), (∀ b ∈ l, b.2 ≠ []) → l.length ≤ (keys l).length
  | [], _ => Nat.le_refl _
  | b :: l, h => by
    have h1 := len_le l (fun c hc => h c (by simp [hc]))
    have h2 := List.length_pos_iff.2 (h b (by simp))
    rw [keys_cons, List.length_append, List.length_cons]
    omega
theorem used_le {l : BL} (h : Ok l) : usedB l ≤ 68 * (keys l).length := by
  have h1 := len_le l (fun b hb => (h.good b hb).1)
  have h2 := K.xfs_le (reps l) 65
  have h3 : (reps l).length = l.length := by simp [reps]
  unfold usedB K.xfast
  rw [h3] at h2
  omega
/-- Buckets that rising keys have made. -/
def Sp (l : BL) : Prop := l = [] ∨ ∃ L1 c, l = L1 ++ [c] ∧ (∀ b ∈ L1, b.2.length = 65) ∧ (L1 ≠ [] → 64 ≤ c.2.length)
theorem len_same : ∀ (l : BL), (∀ b ∈ l, b.2.length = 65) → (keys l).length = 65 * l.length
  | [], _ => rfl
  | b :: l, h => by
    have h1 := len_same l (fun c hc => h c (by simp [hc]))
    have h2 := h b (by simp)
    rw [keys_cons, List.length_append, List.length_cons, h1, h2]
    omega
theorem Sp.count {l : BL} (h : Sp l) (ho : Ok l) (hn : 0 < (keys l).length) : l.length ≤ 1 + (keys l).length / 64 ∧ ((keys l).length + 127) / 128 ≤ l.length := by
  rcases h with rfl | ⟨L1, c, rfl, h1, h2⟩
  · exact absurd hn (Nat.lt_irrefl _)
  · have h3 := len_same L1 h1
    have h4 : c.2.length ≤ 128 := (ho.good c (by simp)).2.1
    have e : (keys (L1 ++ [c])).length = 65 * L1.length + c.2.length := by rw [keys_app, List.length_append, h3]; simp [keys]
    have e2 : (L1 ++ [c]).length = L1.length + 1 := by simp
    rw [e, e2]
    by_cases hL : L1 = []
    · subst hL
      simp only [List.length_nil]
      omega
    · have := h2 hL
      have := List.length_pos_iff.2 hL
      omega
theorem Sp.ins {l l' : BL} {k : Nat} (h : Sp l) (ho : Ok l) (hi : InsTo l k l') (hk : ∀ x ∈ keys l, x < k) : Sp l' := by
  rcases hi with ⟨rfl, rfl⟩ | ⟨L1, c, L2, rfl, h1, h2, rfl⟩
  · exact .inr ⟨[], (0, [k]), rfl, (fun b hb => by cases hb), fun e => absurd rfl e⟩
  · have hL2 : L2 = [] := by
      cases L2 with
      | nil => rfl
      | cons d L2 =>
        have g := ho.good d (by simp)
        obtain ⟨x, hx⟩ := List.exists_mem_of_ne_nil _ g.1
        have q1 := (g.2.2.2 x hx).1
        have q2 := h2 d (by simp)
        have q3 := hk x (mem_keys.2 ⟨d, by simp, hx⟩)
        omega
    subst hL2
    have hg := ho.cup
    have hfo : K.fo c.2 k = false := by
      rw [Bool.eq_false_iff]
      intro hf
      have := hk k (mem_keys.2 ⟨c, by simp, (K.fo_mem hg.2.2.1 k).1 hf⟩)
      omega
    have hal := add_len1 hfo
    have hcl := hg.2.1
    rcases h with e | ⟨L1', c', e, h3, h4⟩
    · simp at e
    · obtain ⟨e1, e2⟩ := List.append_inj' e rfl
      injection e2 with e2 _
      subst e1 e2
      rw [List.append_nil]
      unfold put
      split
      · refine .inr ⟨L1 ++ [(c.1, (K.add c.2 k).take ((K.add c.2 k).length - (K.add c.2 k).length / 2))], _, by simp; rfl, fun b hb => ?_, fun _ => ?_⟩
        · rcases List.mem_append.1 hb with hb | hb
          · exact h3 b hb
          · obtain rfl := List.mem_singleton.1 hb
            show ((K.add c.2 k).take _).length = 65
            rw [List.length_take]
            omega
        · show 64 ≤ ((K.add c.2 k).drop _).length
          rw [List.length_drop]
          omega
      · refine .inr ⟨L1, _, rfl, h3, fun hL => ?_⟩
        have := h4 hL
        show 64 ≤ (K.add c.2 k).length
        omega
end Bk
/-- The trie at P holds these buckets; these lists of the law's own lie apart. -/
def TYs (w W : World) (P lim : Nat) (l : Bk.BL) (S : List (Value × List Nat)) : Prop :=
  ∃ tk O, YS W P l lim tk O ∧ Below w.heap.size w W ∧ (∀ j, O j → w.heap.size ≤ j) ∧ ∀ p ∈ S, KX W p.1 p.2 ∧ ∀ g, p.1.ownBlock = some g → ¬ O g
section
variable {w W W' : World} {P lim : Nat} {l : Bk.BL} {S : List (Value × List Nat)}
theorem YS.below {tk : Nat} {O : Nat → Prop} (h : YS W P l lim tk O) (hb : Below W.heap.size W W') : YS W' P l lim tk O := by
  obtain ⟨M, X, T, Q, rs, es, ns, fs, G, BL, hT, hI⟩ := h
  exact ⟨M, X, T, Q, rs, es, ns, fs, G, BL, hT.below hb, hI⟩
theorem TYs.low (h : TYs w W P lim l S) : Below w.heap.size w W := by
  obtain ⟨_, _, _, hb, _, _⟩ := h
  exact hb
theorem TYs.kx (h : TYs w W P lim l S) {v : Value} {xs : List Nat} (hm : (v, xs) ∈ S) : KX W v xs := by
  obtain ⟨_, _, _, _, _, hS⟩ := h
  exact (hS _ hm).1
theorem TYs.fresh (h : TYs w W P lim l S) {v : Value} {xs : List Nat} (hk : KX W' v xs) (hb : Below W.heap.size W W') (hf : ∀ g, v.ownBlock = some g → W.heap.size ≤ g) : TYs w W' P lim l ((v, xs) :: S) := by
  obtain ⟨tk, O, hT, hb0, hO, hS⟩ := h
  refine ⟨tk, O, hT.below hb, hb0.trans (hb.mono hb0.size), hO, fun p hp => ?_⟩
  rcases List.mem_cons.1 hp with rfl | hp
  · exact ⟨hk, fun g hg ho => by have := hf g hg; have := hT.low g ho; omega⟩
  · exact ⟨(hS p hp).1.below hb, (hS p hp).2⟩
theorem yop_tys {O : Nat → Prop} (hb : Below w.heap.size w W) (hO : ∀ j, O j → w.heap.size ≤ j) (hS : ∀ p ∈ S, KX W p.1 p.2 ∧ ∀ g, p.1.ownBlock = some g → ¬ O g) {v : Value} {l' : Bk.BL} {m : Nat} {e : Ending} {w' : World} (h : YOp W P O v l' lim m e w') : e = .returned v ∧ TYs w w' P lim l' S := by
  obtain ⟨rfl, tk', O', _, hT', hC, hO'⟩ := h
  refine ⟨rfl, tk', O', hT', hb.trans (hC.below hb.size hO), fun j hj => ?_, fun p hp => ?_⟩
  · rcases hO' j hj with h1 | h1
    · exact hO j h1
    · exact Nat.le_trans hb.size h1
  · obtain ⟨h1, h2⟩ := hS p hp
    refine ⟨hC.kx h1 h2, fun g hg ho => ?_⟩
    rcases hO' g ho with h3 | h3
    · exact h2 g hg h3
    · rcases h1.form with ⟨e1, _⟩ | ⟨g', c, e1, _, hg', _⟩
      · rw [e1] at hg; simp [Value.ownBlock] at hg
      · rw [e1] at hg
        simp [Value.ownBlock] at hg
        omega
theorem TYs.op (h : TYs w W P lim l S) {f : FuncId} {args : Array Value} {v : Value} {l' : Bk.BL} {m : Nat → Nat}
    (hc : ∀ tk O, YS W P l lim tk O → Calls Tryz.prog f args W (YOp W P O v l' lim (m tk))) : Calls Tryz.prog f args W fun e w' => e = .returned v ∧ TYs w w' P lim l' S := by
  obtain ⟨tk, O, hT, hb, hO, hS⟩ := h
  exact (hc tk O hT).mono fun e w' hy => yop_tys hb hO hS hy
/-- A key that is above all. -/
theorem tys_insert (h : TYs w W P lim l S) (k : Nat) (hk : k < 18446744073709551616) (hs : Bk.Sp l) (hm : ∀ x ∈ Bk.keys l, x < k) (hl : 68 * ((Bk.keys l).length + 1) ≤ lim) {ys : List Nat} (hys : K.add (Bk.keys l) k = ys) :
    Calls Tryz.prog 24 #[.pointer (some ⟨P, 0, none⟩), .int .u64 (k : Int)] W fun e w' => e = .returned (.int .i64 0) ∧ ∃ l', Bk.keys l' = ys ∧ Bk.Sp l' ∧ TYs w w' P lim l' S := by
  obtain ⟨tk, O, hT, hb, hO, hS⟩ := h
  have hok : Bk.Ok l := by
    obtain ⟨_, _, _, _, _, _, _, _, _, _, _, _, h, _⟩ := hT
    exact h
  have hfo : K.fo (Bk.keys l) k = false := by
    rw [Bool.eq_false_iff]
    intro hf
    have := hm k ((K.fo_mem hok.kup k).1 hf)
    omega
  refine (ys_insert hT k hk).mono ?_
  rintro e w' (⟨h1, _⟩ | ⟨_, l', h1, h2, h3, h4⟩)
  · rw [hfo] at h1
    cases h1
  · have hu := Bk.used_le h2
    rw [h3, Bk.add_len1 hfo] at hu
    rcases h4 with ⟨h5, _⟩ | ⟨_, h5⟩
    · omega
    · obtain ⟨he, hy⟩ := yop_tys hb hO hS h5
      exact ⟨he, l', by rw [h3, hys], hs.ins hok h1 hm, hy⟩
theorem TYs.ok (h : TYs w W P lim l S) : Bk.Ok l := by
  obtain ⟨_, _, ⟨_, _, _, _, _, _, _, _, _, _, _, _, h, _⟩, _⟩ := h
  exact h
end
end Go.Proofs.YtelfacchhclgnaaGreat
end
section
namespace Go.Proofs.YtelfacchhclgnaaGreat
open Go.RowKit
namespace Bk
/-- Any two neighbours have more than 64 keys. -/
def Sh : BL → Prop
  | [] => True
  | a :: l => (∀ b l', l = b :: l' → 64 < a.2.length + b.2.length) ∧ Sh l
theorem sh_app : ∀ (L1 : BL) (a : Nat × List Nat) (L2 : BL), Sh (L1 ++ a :: L2) ↔ Sh (L1 ++ [a]) ∧ Sh (a :: L2)
  | [], a, L2 => by
    refine ⟨fun h => ⟨⟨(fun b l' e => by cases e), trivial⟩, h⟩, fun h => h.2⟩
  | c :: L1, a, L2 => by
    have ih := sh_app L1 a L2
    show ((∀ b l', L1 ++ a :: L2 = b :: l' → 64 < c.2.length + b.2.length) ∧ Sh (L1 ++ a :: L2)) ↔ ((∀ b l', L1 ++ [a] = b :: l' → 64 < c.2.length + b.2.length) ∧ Sh (L1 ++ [a])) ∧ Sh (a :: L2)
    rw [ih]
    have e : (∀ b l', L1 ++ a :: L2 = b :: l' → 64 < c.2.length + b.2.length) ↔ (∀ b l', L1 ++ [a] = b :: l' → 64 < c.2.length + b.2.length) := by
      cases L1 with
      | nil =>
        constructor
        · intro h b l' e
          injection e with e _
          rw [← e]
          exact h a L2 rfl
        · intro h b l' e
          injection e with e _
          rw [← e]
          exact h a [] rfl
      | cons d L1 =>
        constructor
        · intro h b l' e
          injection e with e _
          rw [← e]
          exact h d _ rfl
        · intro h b l' e
          injection e with e _
          rw [← e]
          exact h d _ rfl
    rw [e]
    constructor
    · rintro ⟨h1, h2, h3⟩
      exact ⟨⟨h1, h2⟩, h3⟩
    · rintro ⟨⟨h1, h2⟩, h3⟩
      exact ⟨h1, h2, h3⟩
theorem sh_snoc {L : BL} {a b : Nat × List Nat} : Sh ((L ++ [a]) ++ [b]) ↔ Sh (L ++ [a]) ∧ 64 < a.2.length + b.2.length := by
  rw [List.append_assoc, List.singleton_append, sh_app]
  constructor
  · rintro ⟨h1, h2, _⟩
    exact ⟨h1, h2 b [] rfl⟩
  · rintro ⟨h1, h2⟩
    refine ⟨h1, ⟨fun c l' e => ?_, ⟨(fun c l' e => by cases e), trivial⟩⟩⟩
    injection e with e _
    rw [← e]
    exact h2
theorem sh_cons {L : BL} {a b : Nat × List Nat} : Sh (a :: b :: L) ↔ 64 < a.2.length + b.2.length ∧ Sh (b :: L) := by
  constructor
  · rintro ⟨h1, h2⟩
    exact ⟨h1 b L rfl, h2⟩
  · rintro ⟨h1, h2⟩
    refine ⟨fun c l' e => ?_, h2⟩
    injection e with e _
    rw [← e]
    exact h1
theorem sh_one (a : Nat × List Nat) : Sh [a] := ⟨(fun b l' e => by cases e), trivial⟩
/-- A bucket that has become another one, by its neighbours. -/
theorem sh_put {L1 L2 : BL} {c c' : Nat × List Nat} (h : Sh (L1 ++ c :: L2)) (h1 : ∀ L0 b, L1 = L0 ++ [b] → 64 < b.2.length + c'.2.length) (h2 : ∀ b L3, L2 = b :: L3 → 64 < c'.2.length + b.2.length) : Sh (L1 ++ c' :: L2) := by
  obtain ⟨g1, g2⟩ := (sh_app _ _ _).1 h
  refine (sh_app _ _ _).2 ⟨?_, ⟨h2, g2.2⟩⟩
  rcases List.eq_nil_or_concat L1 with rfl | ⟨L0, b, rfl⟩
  · exact sh_one c'
  · rw [List.concat_eq_append] at *
    exact sh_snoc.2 ⟨(sh_snoc.1 g1).1, h1 L0 b rfl⟩
/-- Two that have become one. -/
theorem sh_join {L1 L2 : BL} {c d c' : Nat × List Nat} (h : Sh (L1 ++ c :: d :: L2)) (h1 : ∀ L0 b, L1 = L0 ++ [b] → 64 < b.2.length + c'.2.length) (h2 : ∀ b L3, L2 = b :: L3 → 64 < c'.2.length + b.2.length) : Sh (L1 ++ c' :: L2) := by
  obtain ⟨g1, g2⟩ := (sh_app _ _ _).1 h
  refine (sh_app _ _ _).2 ⟨?_, ⟨h2, g2.2.2⟩⟩
  rcases List.eq_nil_or_concat L1 with rfl | ⟨L0, b, rfl⟩
  · exact sh_one c'
  · rw [List.concat_eq_append] at *
    exact sh_snoc.2 ⟨(sh_snoc.1 g1).1, h1 L0 b rfl⟩
theorem not_few {a b : List Nat} (h : ¬ few a b) : 64 < a.length + b.length := by
  unfold few at h
  omega
theorem Sh.del {l l' : BL} {k : Nat} (h : Sh l) (ho : Ok l) (hd : DelTo l k l') : Sh l' := by
  obtain ⟨L1, c, L2, rfl, h1, h2, hc⟩ := hd
  have hdl : (K.drop c.2 k).length + 1 ≥ c.2.length := by
    unfold K.drop
    split
    · simp
      omega
    · omega
  rcases hc with ⟨b, L3, rfl, hf, rfl⟩ | ⟨hn, ⟨L0, b, rfl, hf, rfl⟩ | ⟨hn2, ⟨_, _, _, rfl⟩ | ⟨_, rfl⟩⟩⟩
  · have hb := List.length_pos_iff.2 (ho.good b (by simp)).1
    obtain ⟨g1, g2⟩ := (sh_app _ _ _).1 h
    refine sh_join h (fun L0 a e => ?_) (fun a L4 e => ?_)
    · subst e
      have := (sh_snoc.1 g1).2
      show 64 < a.2.length + (K.drop c.2 k ++ b.2).length
      rw [List.length_append]
      omega
    · subst e
      have := (sh_cons.1 g2.2).1
      show 64 < (K.drop c.2 k ++ b.2).length + a.2.length
      rw [List.length_append]
      omega
  · rw [List.append_assoc, List.singleton_append] at h
    obtain ⟨g1, g2⟩ := (sh_app _ _ _).1 h
    refine sh_join h (fun L1 a e => ?_) (fun a L4 e => ?_)
    · subst e
      have := (sh_snoc.1 g1).2
      show 64 < a.2.length + (b.2 ++ K.drop c.2 k).length
      rw [List.length_append]
      omega
    · have := not_few (hn a L4 e)
      show 64 < (b.2 ++ K.drop c.2 k).length + a.2.length
      rw [List.length_append]
      omega
  · exact trivial
  · exact sh_put h (fun L0 b e => not_few (hn2 L0 b e)) (fun b L3 e => not_few (hn b L3 e))
theorem Sh.ins {l l' : BL} {k : Nat} (h : Sh l) (ho : Ok l) (hi : InsTo l k l') : Sh l' := by
  rcases hi with ⟨rfl, rfl⟩ | ⟨L1, c, L2, rfl, h1, h2, rfl⟩
  · exact sh_one _
  · have hal : c.2.length ≤ (K.add c.2 k).length := by
      unfold K.add
      split
      · exact Nat.le_refl _
      · simp
        omega
    have hal2 := K.add_len c.2 k
    have hcl := ho.cup.2.1
    obtain ⟨g1, g2⟩ := (sh_app _ _ _).1 h
    unfold put
    split
    · have hb1 : ∀ L0 b, L1 = L0 ++ [b] → 0 < b.2.length := fun L0 b e => List.length_pos_iff.2 (ho.good b (by rw [e]; simp)).1
      have hb2 : ∀ b L3, L2 = b :: L3 → 0 < b.2.length := fun b L3 e => List.length_pos_iff.2 (ho.good b (by rw [e]; simp)).1
      have t1 : ((K.add c.2 k).take ((K.add c.2 k).length - (K.add c.2 k).length / 2)).length = 65 := by rw [List.length_take]; omega
      have t2 : ((K.add c.2 k).drop ((K.add c.2 k).length - (K.add c.2 k).length / 2)).length = 64 := by rw [List.length_drop]; omega
      rw [List.append_assoc]
      refine (sh_app _ _ _).2 ⟨?_, sh_cons.2 ⟨?_, ⟨fun b L3 e => ?_, g2.2⟩⟩⟩
      · rcases List.eq_nil_or_concat L1 with rfl | ⟨L0, b, rfl⟩
        · exact sh_one _
        · rw [List.concat_eq_append] at *
          refine sh_snoc.2 ⟨(sh_snoc.1 g1).1, ?_⟩
          have := hb1 L0 b rfl
          show 64 < b.2.length + ((K.add c.2 k).take _).length
          omega
      · show 64 < ((K.add c.2 k).take _).length + ((K.add c.2 k).drop _).length
        omega
      · have := hb2 b L3 e
        show 64 < ((K.add c.2 k).drop _).length + b.2.length
        omega
    · rw [List.append_assoc]
      refine sh_put h (fun L0 b e => ?_) (fun b L3 e => ?_)
      · subst e
        have := (sh_snoc.1 g1).2
        show 64 < b.2.length + (K.add c.2 k).length
        omega
      · subst e
        have := (sh_cons.1 g2).1
        show 64 < (K.add c.2 k).length + b.2.length
        omega
theorem Sh.half : ∀ (l : BL), Sh l → (∀ b ∈ l, b.2 ≠ []) → 65 * (l.length / 2) + l.length % 2 ≤ (keys l).length
  | [], _, _ => Nat.le_refl _
  | [a], _, h => by
    have := List.length_pos_iff.2 (h a (by simp))
    rw [keys_cons, List.length_append]
    simp only [List.length_cons, List.length_nil]
    omega
  | a :: b :: l, hs, h => by
    obtain ⟨h1, h2⟩ := sh_cons.1 hs
    have ih := Sh.half l h2.2 (fun c hc => h c (by simp [hc]))
    rw [keys_cons, keys_cons, List.length_append, List.length_append, List.length_cons, List.length_cons]
    omega
theorem Sh.count {l : BL} (h : Sh l) (ho : Ok l) : l.length ≤ (keys l).length / 32 + 1 := by
  have := Sh.half l h (fun b hb => (ho.good b hb).1)
  omega
theorem Sh.used {l : BL} (h : Sh l) (ho : Ok l) : usedB l ≤ 4 * (keys l).length + 68 := by
  have h1 := Sh.half l h (fun b hb => (ho.good b hb).1)
  have h2 := K.xfs_le (reps l) 65
  have h3 : (reps l).length = l.length := by simp [reps]
  unfold usedB K.xfast
  rw [h3] at h2
  omega
theorem Sh.same : ∀ (l : BL) (c : Nat × List Nat), (∀ b ∈ l, b.2.length = 65) → (l ≠ [] → 64 ≤ c.2.length) → Sh (l ++ [c])
  | [], c, _, _ => sh_one c
  | [a], c, h, hc => by
    refine sh_cons.2 ⟨?_, sh_one c⟩
    have := h a (by simp)
    have := hc (by simp)
    omega
  | a :: b :: l, c, h, hc => by
    refine sh_cons.2 ⟨?_, Sh.same (b :: l) c (fun d hd => h d (by simp [hd])) (fun _ => hc (by simp))⟩
    have := h a (by simp)
    have := h b (by simp)
    omega
theorem Sp.sh {l : BL} (h : Sp l) : Sh l := by
  rcases h with rfl | ⟨L1, c, rfl, h1, h2⟩
  · exact trivial
  · exact Sh.same L1 c h1 h2
end Bk
end Go.Proofs.YtelfacchhclgnaaGreat
end
section
namespace Go.Proofs.YtelfacchhclgnaaGreat
open Go.RowKit
section
variable {w : World} {P M X T Q lim tk : Nat} {kn : Int} {rs : List Nat} {es : Es} {ns : List (Yp.Nd × Bool)} {fs : List Nat} {G : Nat → List Nat} {OX : Nat → Prop} {r c : Int} {seed Qt Mt n pr : Nat} {An : Option Addr} {cn : Nat} {Af : Option Addr} {cf : Nat}
theorem YB.c2 (h : YB w P M X T Q lim tk kn rs es ns fs G OX r c seed Qt Mt n pr An cn Af cf) : w.cell? ⟨P, 2, none⟩ = some (.pointer (some ⟨T, 0, none⟩)) := cell_of_row w P 2 _ _ (0, 0) h.row
theorem yb_get (h : YB w P M X T Q lim tk kn rs es ns fs G OX r c seed Qt Mt n pr An cn Af cf) (k v : Nat) (hv : ((0, k), v) ∈ es) :
    Calls Tryz.prog 111 #[.pointer (some ⟨T, 0, none⟩), .agg #[.int .u8 0, .int .u64 (k : Int)]] w fun e w' => e = .returned (.tuple #[.int .u64 (v : Int), .bool true]) ∧ ∃ cl, Hs.TStep w T Qt Mt seed n es cl w' :=
  (Hs.tab_get w T Qt Mt seed n pr 0 es h.tab (0, k) (show (0 : Nat) < 256 by decide) (by decide) v true (.inl ⟨rfl, hv⟩)).mono fun e w' ⟨h1, h2⟩ => ⟨h1, _, h2⟩
set_option maxHeartbeats 1000000 in
theorem y_place_b (h : YB w P M X T Q lim tk kn rs es ns fs G OX r c seed Qt Mt n pr An cn Af cf) (k v : Nat) (hv : ((0, k), v) ∈ es) (hvl : v < 1048576) :
    Calls Tryz.prog 79 #[.pointer (some ⟨P, 0, none⟩), .int .u64 (k : Int)] w fun e w' => e = .returned (.int .i64 (v : Int)) ∧ ∃ Qt' n' pr', YB w' P M X T Q lim tk kn rs es ns fs G OX r c seed Qt' Mt n' pr' An cn Af cf ∧ K.Chg w w' (Hs.TF T Qt Mt) ∧ (Qt' = Qt ∨ w.heap.size ≤ Qt') := by
  have hw : IntKind.i64.wrap (v : Int) = (v : Int) := IntWalk.i64_in _ (by omega)
  have HV := Lib.hid hv
  have hd : YB w.drew P M X T Q lim tk kn rs es ns fs G OX r c seed Qt Mt n pr An cn Af cf := h.drewN 1
  have HS0 : Hid (w.drew.cell? ⟨P, 2, none⟩ = some (.pointer (some ⟨T, 0, none⟩))) := Lib.hid hd.c2
  have H := Lib.hid hd
  clear h hv hd
  go_enter Tryz.func79, Tryz.ntmps79
  go_wp2
  go_region_held3 (fun Y => Y.cell? ⟨P, 2, none⟩ = some (.pointer (some ⟨T, 0, none⟩))) (first | (with_reducible exact HS0.out) | (with_reducible exact HS1.out) | (with_reducible exact HS2.out) | go_keep) (first
    | (go_at_call 95; (with_reducible refine (y_name _ k).mono ?_); rintro e w1 ⟨rfl, hb1⟩
       have h1 := H.out.below hb1
       have HS1 := Lib.hid h1.c2
       have HG := Lib.hid (yb_get h1 k v HV.out)
       have H1 := Lib.hid h1
       have HB1 := Lib.hid hb1
       clear hb1 h1)
    | (go_at_call 111; (with_reducible refine HG.out.mono ?_); rintro e w2 ⟨rfl, cl, hst⟩
       obtain ⟨Qt', n', pr', h2, b2, q2⟩ := H1.out.tabs hst
       have HS2 := Lib.hid h2.c2
       have H2 := Lib.hid (And.intro h2 (And.intro b2 q2))
       clear h2 b2 q2 hst))
  all_goals
    go_wp2
    go_ret
    refine ⟨rfl, Qt', n', pr', H2.out.1, ?_, ?_⟩
    · have hd0 : K.Chg w w.drew (Hs.TF T Qt Mt) := (chg_refl w _).drewN 1
      exact (hd0.same (K.Chg.of_below HB1.out)).same H2.out.2.1
    · rcases H2.out.2.2 with h | h
      · exact .inl h
      · exact .inr (Nat.le_trans HB1.out.size h)
end
end Go.Proofs.YtelfacchhclgnaaGreat
end
