
/- Beginnings of bytes, and bytes with more behind; how many there are. -/
import Derived.Test.YtclaejaicjmohaaD23
import Derived.Test.YtclaejaicjmohaaD21
namespace Go.Proofs.Ytclaejaicjmohaa
set_option maxRecDepth 20000
open Go.RowKit
namespace E
theorem rs_of : ∀ (l : List (Nat × Nat)) (a : Nat), K.Up (l.map (·.1)) → (∀ x ∈ l, a ≤ x.1 ∧ x.1 < 18446744073709551616 ∧ x.2 < 18446744073709551616) → Rs a l
  | [], _, _, _ => trivial
  | x :: t, a, hu, hb => by
    have h1 := hb x (by simp)
    have h2 : K.Up (x.1 :: t.map (·.1)) := hu
    refine ⟨h1.1, h1.2.1, h1.2.2, rs_of t (x.1 + 1) (List.pairwise_cons.1 h2).2 fun y hy => ?_⟩
    have h3 := (List.pairwise_cons.1 h2).1 y.1 (List.mem_map.2 ⟨y, hy, rfl⟩)
    have h4 := hb y (List.mem_cons_of_mem _ hy)
    exact ⟨by omega, h4.2⟩
theorem bts_pre {two one : Bool} {l m : List (Nat × Nat)} {r s : List Nat} (h1 : Rs 0 l) (h2 : Rs 0 m) (h3 : Vd two l) (h4 : Vd one m) (h : bts two l ++ r = bts one m ++ s) : l = m ∧ two = one ∧ r = s := by
  unfold bts at h
  rw [List.cons_append, List.cons_append] at h
  injection h with e1 e2
  have e3 : two = one := by cases two <;> cases one <;> simp at e1 <;> rfl
  subst e3
  rw [List.append_assoc, List.append_assoc] at e2
  obtain ⟨e4, e5⟩ := enc_pre e2
  obtain ⟨e6, e7⟩ := body_one two l m 0 r s h1 h2 h3 h4 e4 e5
  exact ⟨e6, rfl, e7⟩
theorem ps_yes {two : Bool} {l : List (Nat × Nat)} (h1 : Rs 0 l) (h2 : l.length ≤ 262144) (h3 : Vd two l) : Ps (bts two l) (some (l, two)) := ⟨rfl, h1, h2, h3⟩
theorem ps_less {two : Bool} {l : List (Nat × Nat)} {p r : List Nat} (h1 : Rs 0 l) (h3 : Vd two l) (h : bts two l = p ++ r) (hr : r ≠ []) : Ps p none := fun m one g1 _ g3 e => by
  subst e
  have h' : bts two l ++ [] = bts one m ++ r := by rw [List.append_nil]; exact h
  exact hr (bts_pre h1 g1 h3 g3 h').2.2.symm
theorem ps_more {two : Bool} {l : List (Nat × Nat)} {r : List Nat} (h1 : Rs 0 l) (h3 : Vd two l) (hr : r ≠ []) : Ps (bts two l ++ r) none := fun m one g1 _ g3 e => by
  have h' : bts two l ++ r = bts one m ++ [] := by rw [List.append_nil]; exact e
  exact hr (bts_pre h1 g1 h3 g3 h').2.2
theorem ps_long {two : Bool} {l : List (Nat × Nat)} (h1 : Rs 0 l) (h2 : 262144 < l.length) (h3 : Vd two l) : Ps (bts two l) none := fun m one g1 g2 g3 e => by
  obtain ⟨rfl, _⟩ := bts_one h1 g1 h3 g3 e
  omega
theorem gaps_len (l : List (Nat × Nat)) : (bts false l).length = 1 + szs (l.length :: gp 0 (l.map (·.1))) := by
  rw [bts_gaps, List.length_cons, List.length_append, ebs_len]
  simp [szs]
  omega
theorem nums_len2 (l : List (Nat × Nat)) : (bts true l).length = 1 + szs (l.length :: nums 0 l) := by
  rw [bts_nums, List.length_cons, List.length_append, ebs_len]
  simp [szs]
  omega
theorem bts_byte (two : Bool) (l : List (Nat × Nat)) : ∀ b ∈ bts two l, b < 256 := by
  have hb : ∀ (l : List (Nat × Nat)) (a : Nat), ∀ b ∈ body two a l, b < 256 := by
    intro l
    induction l with
    | nil => intro a b h; simp [body] at h
    | cons x t ih =>
      intro a b h
      unfold body at h
      rcases List.mem_append.1 h with h | h
      · exact enc_byte _ b h
      · rcases List.mem_append.1 h with h | h
        · cases two with
          | true => exact enc_byte _ b h
          | false => simp at h
        · exact ih _ b h
  intro b h
  unfold bts at h
  rcases List.mem_cons.1 h with rfl | h
  · cases two <;> decide
  · rcases List.mem_append.1 h with h | h
    · exact enc_byte _ b h
    · exact hb l 0 b h
end E
end Go.Proofs.Ytclaejaicjmohaa
