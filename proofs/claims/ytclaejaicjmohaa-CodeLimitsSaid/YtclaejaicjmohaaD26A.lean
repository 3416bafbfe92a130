
/- What the calls of package code, and the document's, answer over rows that stay. -/
import Derived.Test.YtclaejaicjmohaaD25
import Derived.Test.YtclaejaicjmohaaD12
namespace Go.Proofs.Ytclaejaicjmohaa
set_option maxRecDepth 20000
open Go.RowKit
namespace E
theorem gaps_of (l : List (Nat × Nat)) : bts false l = 0 :: (enc l.length ++ ebs (gp 0 (l.map (·.1)))) := bts_gaps l
theorem bts_flat (ps : List (Nat × Nat)) : bts false ps = bts false (ps.map fun x => (x.1, 0)) := by
  rw [bts_gaps, bts_gaps, List.length_map, List.map_map]
  rfl
section
variable {w W : World} {M N : List (Value × List Nat)}
theorem bb_keys_up (h : Bb w W M N) {A : Option Addr} {n c b : Nat} {ks : List Nat} {zs : List (Nat × Nat)} (hk : (Value.slice A n c, ks) ∈ N) (hz : zs.map (·.1) = ks) (hu : K.Up ks) (hn : n ≤ 262144) (hx : ∀ x ∈ ks, x < 18446744073709551616) (hb : (bts false zs).length = b) :
    Calls Try.prog 18 #[.slice A n c] W fun e w' => ∃ A' c', e = .returned (.tuple #[.slice A' b c', .int .i64 0]) ∧ Bb w w' ((.slice A' b c', bts false zs) :: M) N := by
  obtain ⟨hl, hr⟩ := h.rw hk
  have e : bts false zs = 0 :: (enc n ++ ebs (gp 0 ks)) := by rw [bts_gaps, hz, ← hl, ← hz, List.length_map]
  have := Keys_any W A c ks n hl (by omega) hx hr
  rw [← e] at this
  refine this.mono ?_
  rintro e' w' ⟨hbl, ⟨_, _, A', c', rfl, ho⟩ | ⟨_, h2, _⟩ | ⟨h2, _⟩⟩
  · rw [hb] at ho ⊢
    exact ⟨A', c', rfl, h.push hbl (by rw [BX, hb]; exact own_less ho (Nat.zero_le _))⟩
  · omega
  · exact absurd hu h2
theorem bb_keys_no (h : Bb w W M N) {A : Option Addr} {n c : Nat} {ks : List Nat} (hk : (Value.slice A n c, ks) ∈ N) (hu : ¬ K.Up ks) (hn : n ≤ 262144) (hx : ∀ x ∈ ks, x < 18446744073709551616) :
    Calls Try.prog 18 #[.slice A n c] W fun e w' => e = .returned (.tuple #[.slice none 0 0, .int .i64 8]) ∧ Bb w w' M N := by
  obtain ⟨hl, hr⟩ := h.rw hk
  refine (Keys_any W A c ks n hl (by omega) hx hr).mono ?_
  rintro e' w' ⟨hbl, ⟨h2, _⟩ | ⟨h2, _⟩ | ⟨_, rfl⟩⟩
  · exact absurd h2 hu
  · exact absurd h2 hu
  · exact ⟨rfl, h.below hbl⟩
theorem bb_keys_many (h : Bb w W M N) {A : Option Addr} {n c : Nat} {ks : List Nat} (hk : (Value.slice A n c, ks) ∈ N) (hu : K.Up ks) (hn : 262144 < n) (hn2 : n ≤ 1000000) (hx : ∀ x ∈ ks, x < 18446744073709551616) :
    Calls Try.prog 18 #[.slice A n c] W fun e w' => e = .returned (.tuple #[.slice none 0 0, .int .i64 1]) ∧ Bb w w' M N := by
  obtain ⟨hl, hr⟩ := h.rw hk
  refine (Keys_any W A c ks n hl hn2 hx hr).mono ?_
  rintro e' w' ⟨hbl, ⟨_, h2, _⟩ | ⟨_, _, rfl⟩ | ⟨h2, _⟩⟩
  · omega
  · exact ⟨rfl, h.below hbl⟩
  · exact absurd hu h2
theorem bb_pairs_up (h : Bb w W M N) {A : Option Addr} {n c b : Nat} {ps : List (Nat × Nat)} (hq : Pq W W.heap.size A ps) (hl : ps.length = n) (hu : K.Up (ps.map (·.1))) (hn : n ≤ 262144) (hx : ∀ x ∈ ps, x.1 < 18446744073709551616 ∧ x.2 < 18446744073709551616) (hb : (bts true ps).length = b) :
    Calls Try.prog 19 #[.slice A n c] W fun e w' => ∃ A' c', e = .returned (.tuple #[.slice A' b c', .int .i64 0]) ∧ Bb w w' ((.slice A' b c', bts true ps) :: M) N := by
  have e : bts true ps = 1 :: (enc n ++ ebs (nums 0 ps)) := by rw [bts_nums, hl]
  have := Pairs_any W A c ps n hl (by omega) hx hq
  rw [← e] at this
  refine this.mono ?_
  rintro e' w' ⟨hbl, ⟨_, _, A', c', rfl, ho⟩ | ⟨_, h2, _⟩ | ⟨h2, _⟩⟩
  · rw [hb] at ho ⊢
    exact ⟨A', c', rfl, h.push hbl (by rw [BX, hb]; exact own_less ho (Nat.zero_le _))⟩
  · omega
  · exact absurd hu h2
theorem bb_pairs_no (h : Bb w W M N) {A : Option Addr} {n c : Nat} {ps : List (Nat × Nat)} (hq : Pq W W.heap.size A ps) (hl : ps.length = n) (hu : ¬ K.Up (ps.map (·.1))) (hn : n ≤ 262144) (hx : ∀ x ∈ ps, x.1 < 18446744073709551616 ∧ x.2 < 18446744073709551616) :
    Calls Try.prog 19 #[.slice A n c] W fun e w' => e = .returned (.tuple #[.slice none 0 0, .int .i64 8]) ∧ Bb w w' M N := by
  refine (Pairs_any W A c ps n hl (by omega) hx hq).mono ?_
  rintro e' w' ⟨hbl, ⟨h2, _⟩ | ⟨h2, _⟩ | ⟨_, rfl⟩⟩
  · exact absurd h2 hu
  · exact absurd h2 hu
  · exact ⟨rfl, h.below hbl⟩
theorem bb_ref_up (h : Bb w W M N) {A : Option Addr} {n c b : Nat} {ps : List (Nat × Nat)} (two : Bool) (hq : Pq W W.heap.size A ps) (hl : ps.length = n) (hu : K.Up (ps.map (·.1))) (hn : n ≤ 262144) (hx : ∀ x ∈ ps, x.1 < 18446744073709551616 ∧ x.2 < 18446744073709551616) (hb : (bts two ps).length = b) :
    Calls Try.prog 20 #[.slice A n c, .bool two] W fun e w' => ∃ A' c', e = .returned (.tuple #[.slice A' b c', .int .i64 0]) ∧ Bb w w' ((.slice A' b c', bts two ps) :: M) N := by
  refine (refbytes_any W A c ps n two hl (by omega) hx hq).mono ?_
  rintro e' w' ⟨hbl, ⟨_, A', c', rfl, ho⟩ | ⟨h2, _⟩⟩
  · rw [hb] at ho ⊢
    exact ⟨A', c', rfl, h.push hbl (by rw [BX, hb]; exact own_less ho (Nat.zero_le _))⟩
  · exact absurd hu h2
theorem bb_ref_no (h : Bb w W M N) {A : Option Addr} {n c : Nat} {ps : List (Nat × Nat)} (two : Bool) (hq : Pq W W.heap.size A ps) (hl : ps.length = n) (hu : ¬ K.Up (ps.map (·.1))) (hn : n ≤ 262144) (hx : ∀ x ∈ ps, x.1 < 18446744073709551616 ∧ x.2 < 18446744073709551616) :
    Calls Try.prog 20 #[.slice A n c, .bool two] W fun e w' => e = .returned (.tuple #[.slice none 0 0, .int .i64 8]) ∧ Bb w w' M N := by
  refine (refbytes_any W A c ps n two hl (by omega) hx hq).mono ?_
  rintro e' w' ⟨hbl, ⟨h2, _⟩ | ⟨_, rfl⟩⟩
  · exact absurd h2 hu
  · exact ⟨rfl, h.below hbl⟩
theorem bb_parse_yes (h : Bb w W M N) {A : Option Addr} {b c n : Nat} {bs : List Nat} {zs : List (Nat × Nat)} {two : Bool} (hm : (Value.slice A b c, bs) ∈ M) (hl : b ≤ 100000000) (hx : ∀ x ∈ bs, x < 256) (hp : Ps bs (some (zs, two))) (hn : zs.length = n) :
    Calls Try.prog 21 #[.slice A b c] W fun e w' => ∃ A' c', e = .returned (.tuple #[.slice A' n c', .bool two, .int .i64 0]) ∧ Pq w' w'.heap.size A' zs ∧ Bb w w' M N ∧ Below W.heap.size W w' := by
  obtain ⟨e1, e2, r⟩ := h.rb hm
  refine (Parse_any W A b c bs e1 e2 hl hx r).mono ?_
  rintro e' w' ⟨hbl, ⟨items, t2, A', c', hps, rfl, ho⟩ | ⟨hps, _⟩⟩
  · have e := hps.one hp
    simp only [Option.some.injEq, Prod.mk.injEq] at e
    obtain ⟨rfl, rfl⟩ := e
    obtain ⟨_, _, he, hq, _⟩ := Pq.of_own ho
    injection he with q1 q2 q3
    subst q1
    rw [hn]
    exact ⟨A', c', rfl, hq, h.below hbl, hbl⟩
  · have := hps.one hp
    cases this
theorem bb_parse_no (h : Bb w W M N) {A : Option Addr} {b c : Nat} {bs : List Nat} (hm : (Value.slice A b c, bs) ∈ M) (hl : b ≤ 100000000) (hx : ∀ x ∈ bs, x < 256) (hp : Ps bs none) :
    Calls Try.prog 21 #[.slice A b c] W fun e w' => e = .returned (.tuple #[.slice none 0 0, .bool false, .int .i64 2]) ∧ Bb w w' M N := by
  obtain ⟨e1, e2, r⟩ := h.rb hm
  refine (Parse_any W A b c bs e1 e2 hl hx r).mono ?_
  rintro e' w' ⟨hbl, ⟨items, t2, A', c', hps, _⟩ | ⟨_, rfl⟩⟩
  · have := hps.one hp
    cases this
  · exact ⟨rfl, h.below hbl⟩
theorem bb_refsame (h : Bb w W M N) {A A' : Option Addr} {n c c' : Nat} {xs : List (Nat × Nat)} (hr : Pq W W.heap.size A xs) (hr' : Pq W W.heap.size A' xs) (hl : xs.length = n) (hn : n ≤ 1000000) :
    Calls Try.prog 22 #[.slice A n c, .slice A' n c'] W fun e w' => e = .returned (.bool true) ∧ Bb w w' M N ∧ Below W.heap.size W w' := by
  have := refsame_any A A' c c' xs xs n W _ _ hr hr' hl hn (by omega)
  rw [hl, decide_eq_true rfl] at this
  refine this.mono ?_
  rintro e' w' ⟨rfl, q, rfl⟩
  exact ⟨rfl, h.below ⟨rfl, rfl, rfl, Nat.le_refl _, fun _ _ => rfl⟩, ⟨rfl, rfl, rfl, Nat.le_refl _, fun _ _ => rfl⟩⟩
theorem same_nil (w : World) : Calls Try.prog 13 #[.slice none 0 0, .slice none 0 0] w fun e w' => e = .returned (.bool true) ∧ ∃ n, w' = w.drewN n :=
  ref_samebytes none none 0 0 [] [] w 0 0 (fun h => absurd rfl h) (fun h => absurd rfl h) (by simp) (by simp)
end
end E
end Go.Proofs.Ytclaejaicjmohaa
