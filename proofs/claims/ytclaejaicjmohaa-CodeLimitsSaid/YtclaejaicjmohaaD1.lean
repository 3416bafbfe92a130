
/- Numbers as bytes, seven bits each: plain facts. -/
import Derived.Test.YtclaejaicjmohaaK10
namespace Go.Proofs.Ytclaejaicjmohaa
set_option maxRecDepth 20000
namespace E
/-- A number's bytes, with fuel. -/
def encF : Nat → Nat → List Nat
  | 0, n => [n]
  | f + 1, n => if n < 128 then [n] else (128 + n % 128) :: encF f (n / 128)
def enc (n : Nat) : List Nat := encF n n
theorem encF_eq : ∀ (f g n : Nat), n ≤ f → n ≤ g → encF f n = encF g n
  | 0, 0, _, _, _ => rfl
  | 0, g + 1, n, h, _ => by
    have : n = 0 := by omega
    subst this
    rfl
  | f + 1, 0, n, _, h => by
    have : n = 0 := by omega
    subst this
    rfl
  | f + 1, g + 1, n, h1, h2 => by
    unfold encF
    by_cases h : n < 128
    · rw [if_pos h, if_pos h]
    · rw [if_neg h, if_neg h, encF_eq f g (n / 128) (by omega) (by omega)]
theorem enc_lt {n : Nat} (h : n < 128) : enc n = [n] := by
  unfold enc
  cases n with
  | zero => rfl
  | succ k => unfold encF; rw [if_pos h]
theorem enc_ge {n : Nat} (h : 128 ≤ n) : enc n = (128 + n % 128) :: enc (n / 128) := by
  unfold enc
  obtain ⟨k, rfl⟩ : ∃ k, n = k + 1 := ⟨n - 1, by omega⟩
  rw [encF, if_neg (by omega), encF_eq k ((k + 1) / 128) _ (by omega) (Nat.le_refl _)]
theorem enc_ne (n : Nat) : enc n ≠ [] := by
  rcases Nat.lt_or_ge n 128 with h | h
  · rw [enc_lt h]; simp
  · rw [enc_ge h]; simp
theorem enc_pos (n : Nat) : 1 ≤ (enc n).length := by
  have := enc_ne n
  cases h : enc n with
  | nil => exact absurd h this
  | cons a t => simp
/-- By the number of bits. -/
def sz (L : Nat) : Nat := max 1 ((L + 6) / 7)
theorem enc_len : ∀ (L n : Nat), n < 2 ^ L → (L = 0 ∨ 2 ^ (L - 1) ≤ n) → (enc n).length = sz L := by
  intro L
  induction L using Nat.strongRecOn with
  | _ L ih =>
    intro n h1 h2
    rcases Nat.lt_or_ge n 128 with h | h
    · rw [enc_lt h]
      have : L ≤ 7 := by
        rcases Nat.lt_or_ge 7 L with h3 | h3
        · rcases h2 with h2 | h2
          · omega
          · have : 2 ^ 7 ≤ 2 ^ (L - 1) := Nat.pow_le_pow_right (by omega) (by omega)
            omega
        · exact h3
      unfold sz
      simp
      omega
    · rw [enc_ge h, List.length_cons]
      have h7 : 8 ≤ L := by
        rcases Nat.lt_or_ge 7 L with h3 | h3
        · exact h3
        · have : 2 ^ L ≤ 2 ^ 7 := Nat.pow_le_pow_right (by omega) h3
          omega
      have e1 : 2 ^ L = 2 ^ (L - 7) * 128 := by
        rw [show (128 : Nat) = 2 ^ 7 from rfl, ← Nat.pow_add]
        congr 1
        omega
      have e2 : 2 ^ (L - 1) = 2 ^ (L - 7 - 1) * 128 := by
        rw [show (128 : Nat) = 2 ^ 7 from rfl, ← Nat.pow_add]
        congr 1
        omega
      rw [ih (L - 7) (by omega) (n / 128) (by rw [e1] at h1; omega) (Or.inr (by rcases h2 with h2 | h2 <;> omega))]
      unfold sz
      omega
/-- A list of such a form: bytes that say that one follows, and a last one, which isn't nought behind others. -/
def Fm : List Nat → Prop
  | [] => False
  | [b] => b < 128
  | b :: c :: t => 128 ≤ b ∧ b < 256 ∧ Fm (c :: t) ∧ ((c :: t) ≠ [0])
def val : List Nat → Nat
  | [] => 0
  | b :: t => b % 128 + 128 * val t
theorem fm_enc : ∀ (N n : Nat), n ≤ N → Fm (enc n) ∧ val (enc n) = n := by
  intro N
  induction N with
  | zero =>
    intro n h
    have : n = 0 := by omega
    subst this
    exact ⟨by show (0 : Nat) < 128; omega, rfl⟩
  | succ N ih =>
    intro n hn
    rcases Nat.lt_or_ge n 128 with h | h
    · rw [enc_lt h]
      exact ⟨h, by unfold val val; omega⟩
    · rw [enc_ge h]
      obtain ⟨h1, h2⟩ := ih (n / 128) (by omega)
      have h3 := enc_ne (n / 128)
      have h4 : enc (n / 128) ≠ [0] := fun e => by
        rw [e] at h2
        have : val [0] = 0 := rfl
        omega
      cases he : enc (n / 128) with
      | nil => exact absurd he h3
      | cons c t =>
        rw [he] at h1 h2 h4
        refine ⟨⟨by omega, by omega, h1, h4⟩, ?_⟩
        unfold val
        rw [h2]
        omega
theorem val_pos : ∀ (l : List Nat), Fm l → l ≠ [0] → 0 < val l
  | [], h, _ => h.elim
  | [b], h, h0 => by
    have hb : b < 128 := h
    have : b ≠ 0 := fun e => h0 (by rw [e])
    unfold val val
    omega
  | b :: c :: t, h, _ => by
    have h2 := val_pos (c :: t) h.2.2.1 h.2.2.2
    unfold val
    omega
theorem enc_of : ∀ (l : List Nat), Fm l → enc (val l) = l
  | [], h => h.elim
  | [b], h => by
    have hb : b < 128 := h
    have e : val [b] = b := by unfold val val; omega
    rw [e, enc_lt hb]
  | b :: c :: t, h => by
    obtain ⟨h1, h2, h3, h4⟩ := h
    have h5 := val_pos (c :: t) h3 h4
    have e : val (b :: c :: t) = b % 128 + 128 * val (c :: t) := rfl
    rw [e, enc_ge (by omega)]
    have e1 : (b % 128 + 128 * val (c :: t)) / 128 = val (c :: t) := by omega
    rw [e1, enc_of (c :: t) h3]
    congr 1
    omega
/-- No number's bytes are a beginning of another one's. -/
theorem fm_pre : ∀ (l m r s : List Nat), Fm l → Fm m → l ++ r = m ++ s → l = m ∧ r = s
  | [], _, _, _, h, _, _ => h.elim
  | _ :: _, [], _, _, _, h, _ => h.elim
  | [b], [c], r, s, _, _, e => by simp at e; exact ⟨by rw [e.1], e.2⟩
  | [b], c :: d :: t, r, s, h1, h2, e => by
    simp at e
    have hb : b < 128 := h1
    have := h2.1
    omega
  | b :: c :: t, [d], r, s, h1, h2, e => by
    simp at e
    have hd : d < 128 := h2
    have := h1.1
    omega
  | b :: c :: t, d :: f :: u, r, s, h1, h2, e => by
    have e' := e
    simp only [List.cons_append] at e'
    injection e' with e1 e2
    obtain ⟨e3, e4⟩ := fm_pre (c :: t) (f :: u) r s h1.2.2.1 h2.2.2.1 (by simpa using e2)
    exact ⟨by rw [e1, e3], e4⟩
theorem enc_pre {m n : Nat} {r s : List Nat} (h : enc m ++ r = enc n ++ s) : m = n ∧ r = s := by
  obtain ⟨h1, h2⟩ := fm_enc m m (Nat.le_refl _)
  obtain ⟨h3, h4⟩ := fm_enc n n (Nat.le_refl _)
  obtain ⟨e1, e2⟩ := fm_pre _ _ _ _ h1 h3 h
  exact ⟨by rw [← h2, ← h4, e1], e2⟩
theorem fm_byte : ∀ (l : List Nat), Fm l → ∀ b ∈ l, b < 256
  | [], h, _, _ => h.elim
  | [b], h, x, hx => by
    rcases List.mem_singleton.1 hx with rfl
    have : x < 128 := h
    omega
  | b :: c :: t, h, x, hx => by
    rcases List.mem_cons.1 hx with rfl | hx
    · exact h.2.1
    · exact fm_byte (c :: t) h.2.2.1 x hx
theorem enc_byte (n : Nat) : ∀ b ∈ enc n, b < 256 := fm_byte _ (fm_enc n n (Nat.le_refl _)).1
/-- What is read in front: the number, and how many bytes it has; no number: noughts. -/
def Rd (p : List Nat) (n k : Nat) : Prop := (0 < k ∧ n < 2 ^ 64 ∧ k ≤ p.length ∧ enc n = p.take k) ∨ (k = 0 ∧ n = 0 ∧ ∀ m, m < 2 ^ 64 → ¬ enc m <+: p)
theorem Rd.one {p : List Nat} {n k n' k' : Nat} (h : Rd p n k) (h' : Rd p n' k') : n = n' ∧ k = k' := by
  rcases h with ⟨h1, h2, h3, h4⟩ | ⟨rfl, rfl, h4⟩
  · rcases h' with ⟨g1, g2, g3, g4⟩ | ⟨rfl, rfl, g4⟩
    · have e : enc n ++ p.drop k = enc n' ++ p.drop k' := by rw [h4, g4, List.take_append_drop, List.take_append_drop]
      obtain ⟨rfl, _⟩ := enc_pre e
      refine ⟨rfl, ?_⟩
      have e1 : (p.take k).length = (p.take k').length := by rw [← h4, ← g4]
      rw [List.length_take, List.length_take] at e1
      omega
    · exact absurd ⟨p.drop k, by rw [h4, List.take_append_drop]⟩ (g4 n h2)
  · rcases h' with ⟨g1, g2, g3, g4⟩ | ⟨rfl, rfl, g4⟩
    · exact absurd ⟨p.drop k', by rw [g4, List.take_append_drop]⟩ (h4 n' g2)
    · exact ⟨rfl, rfl⟩
theorem Rd.enc {n : Nat} (h : n < 2 ^ 64) (r : List Nat) : Rd (enc n ++ r) n (enc n).length :=
  .inl ⟨enc_pos n, h, by simp, by simp⟩
theorem Rd.rest {p : List Nat} {n k : Nat} (h : Rd p n k) (hk : 0 < k) : p = E.enc n ++ p.drop k := by
  rcases h with ⟨_, _, _, h4⟩ | ⟨rfl, _⟩
  · rw [h4, List.take_append_drop]
  · omega
theorem Rd.lt {p : List Nat} {n k : Nat} (h : Rd p n k) : n < 2 ^ 64 := by
  rcases h with ⟨_, h2, _⟩ | ⟨_, rfl, _⟩
  · exact h2
  · decide
theorem Rd.le {p : List Nat} {n k : Nat} (h : Rd p n k) : k ≤ p.length := by
  rcases h with ⟨_, _, h2, _⟩ | ⟨rfl, _⟩
  · exact h2
  · omega
end E
end Go.Proofs.Ytclaejaicjmohaa
