
/- What is read in front, byte by byte; the bytes of keys and of pairs: plain facts. -/
import Derived.Test.YtclaejaicjmohaaD1
namespace Go.Proofs.Ytclaejaicjmohaa
set_option maxRecDepth 20000
namespace E
theorem fm_last : ∀ (l : List Nat), Fm l → ∃ h : l.length - 1 < l.length, l[l.length - 1] < 128
  | [], h => h.elim
  | [b], h => ⟨by simp, h⟩
  | b :: c :: t, h => by
    obtain ⟨h1, h2⟩ := fm_last (c :: t) h.2.2.1
    refine ⟨by simp, ?_⟩
    simpa using h2
theorem fm_more : ∀ (l : List Nat), Fm l → ∀ (j : Nat) (h : j + 1 < l.length), 128 ≤ l[j]
  | [], h, _, _ => h.elim
  | [b], _, j, hj => by simp at hj
  | b :: c :: t, h, 0, _ => h.1
  | b :: c :: t, h, j + 1, hj => by
    have := fm_more (c :: t) h.2.2.1 j (by simpa using hj)
    simpa using this
theorem fm_drop : ∀ (i : Nat) (l : List Nat), Fm l → i < l.length → Fm (l.drop i) ∧ (0 < i → l.drop i ≠ [0])
  | 0, l, h, _ => ⟨h, fun h => absurd h (by omega)⟩
  | i + 1, [], h, _ => h.elim
  | i + 1, [b], _, hi => by simp at hi
  | i + 1, b :: c :: t, h, hi => by
    obtain ⟨h1, h2⟩ := fm_drop i (c :: t) h.2.2.1 (by simpa using hi)
    refine ⟨by simpa using h1, fun _ => ?_⟩
    rcases Nat.eq_zero_or_pos i with rfl | h0
    · simpa using h.2.2.2
    · simpa using h2 h0
theorem val_split : ∀ (i : Nat) (l : List Nat), i ≤ l.length → val l = val (l.take i) + 128 ^ i * val (l.drop i)
  | 0, l, _ => by simp [val]
  | i + 1, [], h => by simp at h
  | i + 1, b :: t, h => by
    have ih := val_split i t (by simpa using h)
    rw [List.take_succ_cons, List.drop_succ_cons]
    show b % 128 + 128 * val t = b % 128 + 128 * val (t.take i) + 128 ^ (i + 1) * val (t.drop i)
    rw [ih, Nat.pow_succ, Nat.mul_add, Nat.mul_comm (128 ^ i) 128, Nat.mul_assoc]
    omega
theorem val_lt : ∀ (l : List Nat), val l < 128 ^ l.length
  | [] => by simp [val]
  | b :: t => by
    have := val_lt t
    show b % 128 + 128 * val t < 128 ^ (t.length + 1)
    rw [Nat.pow_succ]
    omega
theorem val_snoc (l : List Nat) (b : Nat) : val (l ++ [b]) = val l + 128 ^ l.length * (b % 128) := by
  rw [val_split l.length (l ++ [b]) (by simp)]
  simp [val]
/-- Of bytes that all say that one follows, and a last one. -/
theorem fm_of : ∀ (l : List Nat) (b : Nat), (∀ x ∈ l, 128 ≤ x ∧ x < 256) → b < 128 → (b = 0 → l = []) → Fm (l ++ [b])
  | [], b, _, h, _ => h
  | [x], b, h1, h2, h3 => ⟨(h1 x (by simp)).1, (h1 x (by simp)).2, h2, fun e => by
      have : b = 0 := by simpa using e
      have := h3 this
      simp at this⟩
  | x :: y :: t, b, h1, h2, h3 => by
    have ih := fm_of (y :: t) b (fun z hz => h1 z (List.mem_cons_of_mem _ hz)) h2 (fun e => by have := h3 e; simp at this)
    exact ⟨(h1 x (by simp)).1, (h1 x (by simp)).2, ih, by simp⟩
/-- How far a number's bytes go that stand in front. -/
theorem pre_at {m : Nat} {p : List Nat} (h : enc m <+: p) : ∀ (j : Nat) (hj : j < (enc m).length), ∃ hp : j < p.length, p[j] = (enc m)[j] := by
  intro j hj
  have hl := h.length_le
  exact ⟨by omega, (h.getElem hj).symm⟩
theorem pre_take {m : Nat} {p : List Nat} (h : enc m <+: p) : enc m = p.take (enc m).length := (List.prefix_iff_eq_take.1 h)
/-- Behind so many bytes that say that one follows a number goes on. -/
theorem pre_long {m : Nat} {p : List Nat} {i : Nat} (h : enc m <+: p) (hi : ∀ (j : Nat) (hj : j < p.length), j < i → 128 ≤ p[j]) : i < (enc m).length := by
  obtain ⟨hf, _⟩ := fm_enc m m (Nat.le_refl _)
  obtain ⟨h1, h2⟩ := fm_last _ hf
  rcases Nat.lt_or_ge i (enc m).length with h3 | h3
  · exact h3
  · obtain ⟨hp, e⟩ := pre_at h _ h1
    have := hi _ hp (by omega)
    omega
/-- The value from a place on. -/
theorem pre_val {m : Nat} {p : List Nat} {i : Nat} (h : enc m <+: p) (hi : i < (enc m).length) : ∃ hp : i < p.length, 128 ^ i * (p[i] % 128) ≤ m ∧ (0 < i → 128 ^ i ≤ m) := by
  obtain ⟨hf, hv⟩ := fm_enc m m (Nat.le_refl _)
  obtain ⟨hp, e⟩ := pre_at h i hi
  obtain ⟨h1, h2⟩ := fm_drop i _ hf hi
  have h3 := val_split i (enc m) (by omega)
  rw [hv] at h3
  have h4 : (enc m).drop i = (enc m)[i] :: (enc m).drop (i + 1) := List.drop_eq_getElem_cons hi
  refine ⟨hp, ?_, fun h0 => ?_⟩
  · have h5 : (enc m)[i] % 128 ≤ val ((enc m).drop i) := by
      rw [h4]
      show _ ≤ (enc m)[i] % 128 + 128 * val _
      omega
    have h6 := Nat.mul_le_mul_left (128 ^ i) h5
    rw [e]
    omega
  · have h5 := val_pos _ h1 (h2 h0)
    have h6 : 128 ^ i * 1 ≤ 128 ^ i * val ((enc m).drop i) := Nat.mul_le_mul_left _ h5
    omega
theorem p128 (i : Nat) : 128 ^ i = 2 ^ (7 * i) := by rw [show (128 : Nat) = 2 ^ 7 from rfl, ← Nat.pow_mul]
/-- No number: its bits would be too many. -/
theorem rd_big {p : List Nat} {i L : Nat} (hi : ∀ (j : Nat) (hj : j < p.length), j < i → 128 ≤ p[j]) (hp : i < p.length) (hL : L = 0 ∨ 2 ^ (L - 1) ≤ p[i] % 128) (hb : 64 < L + 7 * i) : Rd p 0 0 := by
  refine .inr ⟨rfl, rfl, fun m hm h => ?_⟩
  obtain ⟨_, h1, h2⟩ := pre_val h (pre_long h hi)
  rcases hL with rfl | hL
  · have h3 := h2 (by omega)
    rw [p128] at h3
    have : 2 ^ 64 ≤ 2 ^ (7 * i) := Nat.pow_le_pow_right (by omega) (by omega)
    omega
  · rcases Nat.eq_zero_or_pos L with rfl | h0
    · have h3 := h2 (by omega)
      rw [p128] at h3
      have : 2 ^ 64 ≤ 2 ^ (7 * i) := Nat.pow_le_pow_right (by omega) (by omega)
      omega
    · rw [p128] at h1
      have h3 : 2 ^ (7 * i) * 2 ^ (L - 1) ≤ 2 ^ (7 * i) * (p[i] % 128) := Nat.mul_le_mul_left _ hL
      rw [← Nat.pow_add] at h3
      have : 2 ^ 64 ≤ 2 ^ (7 * i + (L - 1)) := Nat.pow_le_pow_right (by omega) (by omega)
      omega
/-- No number: its last byte would say nothing. -/
theorem rd_nought {p : List Nat} {i : Nat} (hi : ∀ (j : Nat) (hj : j < p.length), j < i → 128 ≤ p[j]) (hp : i < p.length) (h0 : p[i] = 0) (hi0 : 0 < i) : Rd p 0 0 := by
  refine .inr ⟨rfl, rfl, fun m _ h => ?_⟩
  obtain ⟨hf, _⟩ := fm_enc m m (Nat.le_refl _)
  have hl := pre_long h hi
  obtain ⟨_, e⟩ := pre_at h i hl
  rcases Nat.lt_or_ge (i + 1) (enc m).length with h1 | h1
  · have := fm_more _ hf i h1
    omega
  · obtain ⟨h2, h3⟩ := fm_drop i _ hf hl
    have h4 : (enc m).drop i = (enc m)[i] :: (enc m).drop (i + 1) := List.drop_eq_getElem_cons hl
    rw [List.drop_of_length_le h1] at h4
    exact h3 hi0 (by rw [h4, ← e, h0])
/-- No number: it has no last byte. -/
theorem rd_end {p : List Nat} (hi : ∀ (j : Nat) (hj : j < p.length), 128 ≤ p[j]) : Rd p 0 0 := by
  refine .inr ⟨rfl, rfl, fun m _ h => ?_⟩
  have h1 := pre_long (i := p.length) h (fun j hj _ => hi j hj)
  have := h.length_le
  omega
/-- A number. -/
theorem rd_yes {p : List Nat} {i L : Nat} (hi : ∀ (j : Nat) (hj : j < p.length), j < i → 128 ≤ p[j]) (hb : ∀ x ∈ p, x < 256) (hp : i < p.length) (hL : p[i] < 2 ^ L) (h64 : L + 7 * i ≤ 64) (h1 : p[i] < 128) (h0 : p[i] = 0 → i = 0) : Rd p (val (p.take i) + 128 ^ i * p[i]) (i + 1) := by
  have e1 : p.take (i + 1) = p.take i ++ [p[i]] := by rw [List.take_succ_eq_append_getElem hp]
  have e2 : (p.take i).length = i := by rw [List.length_take]; omega
  have hf : Fm (p.take (i + 1)) := by
    rw [e1]
    refine fm_of _ _ (fun x hx => ?_) h1 (fun e => ?_)
    · obtain ⟨j, hj, rfl⟩ := List.getElem_of_mem hx
      rw [List.length_take] at hj
      rw [List.getElem_take]
      exact ⟨hi j (by omega) (by omega), hb _ (List.getElem_mem _)⟩
    · have := h0 e
      subst this
      rfl
  have ev : val (p.take (i + 1)) = val (p.take i) + 128 ^ i * p[i] := by
    rw [e1, val_snoc, e2, Nat.mod_eq_of_lt h1]
  have hv := val_lt (p.take i)
  rw [e2, p128] at hv
  refine .inl ⟨by omega, ?_, by omega, ?_⟩
  · rw [p128]
    have h3 : 2 ^ (7 * i) * p[i] + 2 ^ (7 * i) ≤ 2 ^ (7 * i) * 2 ^ L := by
      rw [← Nat.mul_succ]
      exact Nat.mul_le_mul_left _ hL
    rw [← Nat.pow_add] at h3
    have : 2 ^ (7 * i + L) ≤ 2 ^ 64 := Nat.pow_le_pow_right (by omega) (by omega)
    omega
  · rw [← ev, enc_of _ hf]
/-- The bytes in front that say that one follows. -/
def lead (p : List Nat) : Nat := (p.takeWhile fun x => decide (128 ≤ x)).length
theorem lead_len {m : Nat} {p : List Nat} (h : enc m <+: p) : (enc m).length = lead p + 1 := by
  obtain ⟨hf, _⟩ := fm_enc m m (Nat.le_refl _)
  obtain ⟨r, rfl⟩ := h
  have : ∀ (l r : List Nat), Fm l → l.length = lead (l ++ r) + 1 := by
    intro l
    induction l with
    | nil => intro r h; exact h.elim
    | cons b t ih =>
      intro r h
      cases t with
      | nil =>
        have hb : b < 128 := h
        have : decide (128 ≤ b) = false := decide_eq_false (by omega)
        simp [lead, this]
      | cons c t =>
        have h2 := ih r h.2.2.1
        have : decide (128 ≤ b) = true := decide_eq_true h.1
        unfold lead at h2 ⊢
        rw [List.cons_append, List.takeWhile_cons, this, if_pos rfl, List.length_cons, List.length_cons (a := b), ← h2]
  exact this _ r hf
theorem pre_eq {m : Nat} {p : List Nat} (h : enc m <+: p) : m = val (p.take (lead p + 1)) := by
  have h1 := pre_take h
  rw [lead_len h] at h1
  have := (fm_enc m m (Nat.le_refl _)).2
  rw [h1] at this
  exact this.symm
theorem lead_le (p : List Nat) : lead p ≤ p.length := (List.takeWhile_prefix _).length_le
/-- No number: it is too long, or has no end. -/
theorem rd_no1 {p : List Nat} (h : lead p = p.length ∨ 9 < lead p) : Rd p 0 0 := by
  refine .inr ⟨rfl, rfl, fun m hm h1 => ?_⟩
  have h2 := lead_len h1
  have h3 := h1.length_le
  rcases h with h | h
  · omega
  · obtain ⟨_, _, h4⟩ := pre_val (i := lead p) h1 (by omega)
    have h5 := h4 (by omega)
    rw [p128] at h5
    have : 2 ^ 64 ≤ 2 ^ (7 * lead p) := Nat.pow_le_pow_right (by omega) (by omega)
    omega
/-- No number: it is too great. -/
theorem rd_no2 {p : List Nat} {i : Nat} (hl : lead p < p.length) (hi : i ≤ lead p) (h : 2 ^ 64 ≤ val ((p.take (lead p + 1)).drop i)) : Rd p 0 0 := by
  refine .inr ⟨rfl, rfl, fun m hm h1 => ?_⟩
  have h2 := pre_eq h1
  have h3 := val_split i (p.take (lead p + 1)) (by rw [List.length_take]; omega)
  have h4 : 1 * val ((p.take (lead p + 1)).drop i) ≤ 128 ^ i * val ((p.take (lead p + 1)).drop i) := Nat.mul_le_mul_right _ (Nat.pow_pos (by omega))
  omega
/-- A number, or none, as its own bytes are these. -/
theorem rd_try {p : List Nat} (hl : lead p < p.length) (hv : val (p.take (lead p + 1)) < 2 ^ 64) :
    if enc (val (p.take (lead p + 1))) = p.take (lead p + 1) then Rd p (val (p.take (lead p + 1))) (lead p + 1) else Rd p 0 0 := by
  split
  · rename_i h
    exact .inl ⟨by omega, hv, by omega, h⟩
  · rename_i h
    refine .inr ⟨rfl, rfl, fun m hm h1 => h ?_⟩
    have h2 := pre_eq h1
    have h3 := pre_take h1
    rw [lead_len h1] at h3
    rw [← h2]
    exact h3
theorem val_cons (b : Nat) (t : List Nat) : val (b :: t) = b % 128 + 128 * val t := rfl
/-- Keys that rise from a key on, and values. -/
def Rs : Nat → List (Nat × Nat) → Prop
  | _, [] => True
  | a, x :: t => a ≤ x.1 ∧ x.1 < 2 ^ 64 ∧ x.2 < 2 ^ 64 ∧ Rs (x.1 + 1) t
/-- The bytes of such, behind their count. -/
def body (two : Bool) : Nat → List (Nat × Nat) → List Nat
  | _, [] => []
  | a, x :: t => enc (x.1 - a) ++ ((if two then enc x.2 else []) ++ body two (x.1 + 1) t)
def bts (two : Bool) (l : List (Nat × Nat)) : List Nat := (if two then 1 else 0) :: (enc l.length ++ body two 0 l)
/-- Keys alone have no values. -/
def Vd (two : Bool) (l : List (Nat × Nat)) : Prop := two = false → ∀ x ∈ l, x.2 = 0
theorem body_one (two : Bool) : ∀ (l m : List (Nat × Nat)) (a : Nat) (r s : List Nat), Rs a l → Rs a m → Vd two l → Vd two m → l.length = m.length → body two a l ++ r = body two a m ++ s → l = m ∧ r = s
  | [], [], _, _, _, _, _, _, _, _, h => ⟨rfl, h⟩
  | [], _ :: _, _, _, _, _, _, _, _, h, _ => by simp at h
  | _ :: _, [], _, _, _, _, _, _, _, h, _ => by simp at h
  | x :: t, y :: u, a, r, s, h1, h2, h3, h4, h5, h => by
    obtain ⟨a1, a2, a3, a4⟩ := h1
    obtain ⟨b1, b2, b3, b4⟩ := h2
    have e : enc (x.1 - a) ++ (((if two then enc x.2 else []) ++ body two (x.1 + 1) t) ++ r) = enc (y.1 - a) ++ (((if two then enc y.2 else []) ++ body two (y.1 + 1) u) ++ s) := by
      have := h
      unfold body at this
      rw [List.append_assoc, List.append_assoc (enc (y.1 - a))] at this
      exact this
    obtain ⟨e1, e2⟩ := enc_pre e
    have e3 : x.1 = y.1 := by omega
    rw [List.append_assoc, List.append_assoc, ← e3] at e2
    have e4 : x.2 = y.2 ∧ body two (x.1 + 1) t ++ r = body two (x.1 + 1) u ++ s := by
      cases two with
      | true => exact enc_pre e2
      | false => exact ⟨by rw [h3 rfl x (by simp), h4 rfl y (by simp)], by simpa using e2⟩
    rw [← e3] at b4
    obtain ⟨e5, e6⟩ := body_one two t u (x.1 + 1) r s a4 b4 (fun h z hz => h3 h z (List.mem_cons_of_mem _ hz)) (fun h z hz => h4 h z (List.mem_cons_of_mem _ hz)) (by simpa using h5) e4.2
    exact ⟨by rw [e5, Prod.ext e3 e4.1], e6⟩
/-- What bytes are read as. -/
def Ps (p : List Nat) : Option (List (Nat × Nat) × Bool) → Prop
  | some (l, two) => p = bts two l ∧ Rs 0 l ∧ l.length ≤ 262144 ∧ Vd two l
  | none => ∀ (l : List (Nat × Nat)) (two : Bool), Rs 0 l → l.length ≤ 262144 → Vd two l → p ≠ bts two l
theorem bts_one {two one : Bool} {l m : List (Nat × Nat)} (h1 : Rs 0 l) (h2 : Rs 0 m) (h3 : Vd two l) (h4 : Vd one m) (h : bts two l = bts one m) : l = m ∧ two = one := by
  unfold bts at h
  injection h with e1 e2
  have e3 : two = one := by cases two <;> cases one <;> simp at e1 <;> rfl
  subst e3
  obtain ⟨e4, e5⟩ := enc_pre e2
  exact ⟨(body_one two l m 0 [] [] h1 h2 h3 h4 e4 (by simpa using e5)).1, rfl⟩
theorem Ps.one {p : List Nat} {r s : Option (List (Nat × Nat) × Bool)} (h : Ps p r) (h' : Ps p s) : r = s := by
  match r, s, h, h' with
  | none, none, _, _ => rfl
  | some (l, two), none, ⟨h1, h2, h3, h4⟩, h' => exact absurd h1 (h' l two h2 h3 h4)
  | none, some (l, two), h, ⟨h1, h2, h3, h4⟩ => exact absurd h1 (h l two h2 h3 h4)
  | some (l, two), some (m, one), ⟨h1, h2, h3, h4⟩, ⟨g1, g2, g3, g4⟩ =>
    obtain ⟨rfl, rfl⟩ := bts_one h2 g2 h4 g4 (h1.symm.trans g1)
    rfl
end E
end Go.Proofs.Ytclaejaicjmohaa
