/- What a law of x-fast tries keeps: the trie, and lists of the law's own. -/
import Derived.Test.YtiinefdpaiincaaMxX19
namespace Go.Proofs.Ytiinefdpaiincaa
open Go.RowKit
namespace K
theorem xfast_le (xs : List Nat) : xfast xs ≤ 66 * xs.length := by
  have := xfs_le xs 65
  unfold xfast
  omega
theorem off_self {l : List Nat} (h : Up l) : off l = l := T.up_ext (T.off_up l) h (T.off_mem l)
theorem off_le (l : List Nat) : (off l).length ≤ l.length := by
  have := off_len l l.length
  rwa [List.take_length] at this
theorem fi_self {xs : List Nat} (h : Up xs) {i : Nat} (hi : i < xs.length) : fi xs xs[i] = i := by
  have h1 := fi_le xs xs[i]
  rcases Nat.lt_trichotomy (fi xs xs[i]) i with hlt | he | hgt
  · have h2 := fi_at (xs := xs) (k := xs[i]) (by omega)
    have h3 := up_lt h hlt hi
    omega
  · exact he
  · obtain ⟨_, h2⟩ := fi_lt hgt
    omega
end K
/-- The trie at P holds xs; these lists of the law's own lie apart. -/
def TKs (w W : World) (P lim : Nat) (xs : List Nat) (S : List (Value × List Nat)) : Prop :=
  ∃ tk O, XZ W P xs lim tk O ∧ Below w.heap.size w W ∧ (∀ j, O j → w.heap.size ≤ j) ∧ ∀ p ∈ S, KX W p.1 p.2 ∧ ∀ g, p.1.ownBlock = some g → ¬ O g
section
variable {w W W' : World} {P lim : Nat} {xs : List Nat} {S : List (Value × List Nat)}
theorem TKs.low (h : TKs w W P lim xs S) : Below w.heap.size w W := by
  obtain ⟨_, _, _, hb, _, _⟩ := h
  exact hb
theorem TKs.kx (h : TKs w W P lim xs S) {v : Value} {l : List Nat} (hm : (v, l) ∈ S) : KX W v l := by
  obtain ⟨_, _, _, _, _, hS⟩ := h
  exact (hS _ hm).1
theorem TKs.less (h : TKs w W P lim xs S) {S' : List (Value × List Nat)} (hs : ∀ p ∈ S', p ∈ S) : TKs w W P lim xs S' := by
  obtain ⟨tk, O, hT, hb, hO, hS⟩ := h
  exact ⟨tk, O, hT, hb, hO, fun p hp => hS p (hs p hp)⟩
theorem TKs.below (h : TKs w W P lim xs S) (hb : Below W.heap.size W W') : TKs w W' P lim xs S := by
  obtain ⟨tk, O, hT, hb0, hO, hS⟩ := h
  exact ⟨tk, O, xz_tc.below hT hb, hb0.trans (hb.mono hb0.size), hO, fun p hp => ⟨(hS p hp).1.below hb, (hS p hp).2⟩⟩
theorem TKs.fresh (h : TKs w W P lim xs S) {v : Value} {l : List Nat} (hk : KX W' v l) (hb : Below W.heap.size W W') (hf : ∀ g, v.ownBlock = some g → W.heap.size ≤ g) : TKs w W' P lim xs ((v, l) :: S) := by
  obtain ⟨tk, O, hT, hb0, hO, hS⟩ := h
  refine ⟨tk, O, xz_tc.below hT hb, hb0.trans (hb.mono hb0.size), hO, fun p hp => ?_⟩
  rcases List.mem_cons.1 hp with rfl | hp
  · exact ⟨hk, fun g hg ho => by have := hf g hg; have := xz_tc.lt hT g ho; omega⟩
  · exact ⟨(hS p hp).1.below hb, (hS p hp).2⟩
theorem TKs.klp (h : TKs w W P lim xs S) {v v0 : Value} {l l0 : List Nat} (h0 : (v0, l0) ∈ S) (hk : KX W' v l) (hb : Below W.heap.size W W') (hf : v = v0 ∨ ∀ g, v.ownBlock = some g → W.heap.size ≤ g) : TKs w W' P lim xs ((v, l) :: S) := by
  rcases hf with rfl | hf
  · obtain ⟨tk, O, hT, hb0, hO, hS⟩ := h
    refine ⟨tk, O, xz_tc.below hT hb, hb0.trans (hb.mono hb0.size), hO, fun p hp => ?_⟩
    rcases List.mem_cons.1 hp with rfl | hp
    · exact ⟨hk, (hS _ h0).2⟩
    · exact ⟨(hS p hp).1.below hb, (hS p hp).2⟩
  · exact h.fresh hk hb hf
theorem TKs.klp0 (h : TKs w W P lim xs S) {v : Value} {l : List Nat} (hk : KX W' v l) (hb : Below W.heap.size W W') (hf : v = .slice none 0 0 ∨ ∀ g, v.ownBlock = some g → W.heap.size ≤ g) : TKs w W' P lim xs ((v, l) :: S) := by
  refine h.fresh hk hb ?_
  rcases hf with rfl | hf
  · intro g hg; simp [Value.ownBlock] at hg
  · exact hf
theorem tks_new (hb : Below w.heap.size w W) (sd : Nat) (hsd : sd < 18446744073709551616) (n : Nat) (hn : n ≤ 500000) :
    Calls Try.prog 8 #[.int .u64 (sd : Int), .int .i64 (n : Int)] W fun e w' => ∃ P, e = .returned (.tuple #[.pointer (some ⟨P, 0, none⟩), .int .i64 0]) ∧ TKs w w' P n [] [] := by
  refine (xz_tc2.new W sd hsd n hn).mono ?_
  rintro e w' ⟨P, tk, O, rfl, h, hb2, hO⟩
  exact ⟨P, rfl, tk, O, h, hb.trans (hb2.mono hb.size), fun j hj => Nat.le_trans hb.size (hO j hj), fun p hp => by cases hp⟩
theorem TKs.op2 (h : TKs w W P lim xs S) {f : FuncId} {args : Array Value} {v : Value} {ys : List Nat} {m : Nat}
    (hc : ∀ tk O, XZ W P xs lim tk O → (∀ p ∈ S, KX W p.1 p.2 ∧ ∀ g, p.1.ownBlock = some g → ¬ O g) → Calls Try.prog f args W (TOp XZ W P O v ys lim m)) : Calls Try.prog f args W fun e w' => e = .returned v ∧ TKs w w' P lim ys S := by
  obtain ⟨tk, O, hT, hb, hO, hS⟩ := h
  refine (hc tk O hT hS).mono ?_
  rintro e w' ⟨tk', O', rfl, hT', _, hC, hO'⟩
  refine ⟨rfl, tk', O', hT', hb.trans (hC.below hb.size hO), fun j hj => ?_, fun p hp => ?_⟩
  · rcases hO' j hj with h1 | h1
    · exact hO j h1
    · exact Nat.le_trans hb.size h1
  · obtain ⟨h1, h2⟩ := hS p hp
    refine ⟨hC.kx h1 h2, fun g hg ho => ?_⟩
    rcases hO' g ho with h3 | h3
    · exact h2 g hg h3
    · rcases h1.form with ⟨e1, _⟩ | ⟨g', c, e1, _, hg', _⟩
      · rw [e1] at hg; simp [Value.ownBlock] at hg
      · rw [e1] at hg
        simp [Value.ownBlock] at hg
        omega
theorem TKs.op (h : TKs w W P lim xs S) {f : FuncId} {args : Array Value} {v : Value} {ys : List Nat} {m : Nat}
    (hc : ∀ tk O, XZ W P xs lim tk O → Calls Try.prog f args W (TOp XZ W P O v ys lim m)) : Calls Try.prog f args W fun e w' => e = .returned v ∧ TKs w w' P lim ys S :=
  h.op2 fun tk O hT _ => hc tk O hT
theorem TKs.ask (h : TKs w W P lim xs S) {f : FuncId} {args : Array Value} {v : Value}
    (hc : ∀ tk O, XZ W P xs lim tk O → Calls Try.prog f args W fun e w' => e = .returned v ∧ Below W.heap.size W w') : Calls Try.prog f args W fun e w' => e = .returned v ∧ TKs w w' P lim xs S := by
  have h9 := h
  obtain ⟨tk, O, hT, _⟩ := h
  exact (hc tk O hT).mono fun e w' ⟨h1, h2⟩ => ⟨h1, h9.below h2⟩
theorem tks_same (h : TKs w W P lim xs S) (v : Value) (ys : List Nat) (hm : (v, ys) ∈ S) (hl : xs.length ≤ 100000) (hl2 : ys.length ≤ 100000) :
    Calls Try.prog 15 #[.pointer (some ⟨P, 0, none⟩), v] W fun e w' => e = .returned (.bool (decide (xs = ys))) ∧ TKs w w' P lim xs S :=
  h.ask fun tk O hT => law_same xz_tc2 W P xs lim tk O hT hl v ys (h.kx hm) (by omega)
/-- The first n keys of a list that is handed in. -/
theorem tks_words (h : TKs w W P lim xs S) (A : Option Addr) (cp : Nat) (l : List Nat) (n : Nat) (hr : Rw w w.heap.size A l) (hl : l.length ≤ 9223372036854775807) (hn : n ≤ 1000000) :
    Calls Try.prog 20 #[.slice A l.length cp, .int .i64 (n : Int)] W fun e w' => ∃ A' c', e = .returned (.slice A' (l.take n).length c') ∧ TKs w w' P lim xs ((.slice A' (l.take n).length c', l.take n) :: S) := by
  have hb := h.low
  refine (ref_words_own A cp l n W ((hr.below hb (Nat.le_refl _)).more hb.size) hl hn).mono ?_
  rintro e w' ⟨v, rfl, ho, hb2⟩
  have hk : KX w' v (l.take n) := ⟨ho.1, ho.2.imp id fun ⟨g, cap, cur, a, _, c⟩ => ⟨g, cap, cur, a, Nat.zero_le _, c⟩⟩
  obtain ⟨A', c', rfl, _, _⟩ := Rw.of_own ho
  refine ⟨A', c', rfl, h.fresh hk hb2 fun g hg => ?_⟩
  rcases ho.2 with ⟨e1, _⟩ | ⟨g', cap, cur, e1, hb', _⟩
  · rw [e1] at hg; simp [Value.ownBlock] at hg
  · rw [e1] at hg
    simp [Value.ownBlock] at hg
    omega
theorem tks_of (h : TKs w W P lim xs S) (v : Value) (l : List Nat) (hm : (v, l) ∈ S) (hl : l.length ≤ 1000000) :
    Calls Try.prog 19 #[v] W fun e w' => ∃ A c, e = .returned (.slice A (K.off l).length c) ∧ TKs w w' P lim xs ((.slice A (K.off l).length c, K.off l) :: S) := by
  refine (k_of W v l (h.kx hm) hl).mono ?_
  rintro e w' ⟨v2, rfl, hk, hb, hf⟩
  obtain ⟨A, c, rfl, _⟩ := kx_rw hk
  exact ⟨A, c, rfl, h.klp0 hk hb hf⟩
end
end Go.Proofs.Ytiinefdpaiincaa
