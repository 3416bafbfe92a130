
/- A step of both: the law's do keeps the pool and the reference's alike. -/
import Derived.Test.YtpgmgldhpagieaaPPlay
namespace Go.Proofs.Ytpgmgldhpagieaa
open Go.RowKit
section
variable {w : World} {B P M R lim k : Nat}
set_option maxHeartbeats 1000000 in
theorem do_law (h : Pl w B P M R lim k) (hk : k ≤ 1000) (d : Nat) (hd : d < 256) (i : Int) (V : Nat) :
    Calls Try.prog 8 #[.pointer (some ⟨P, 0, none⟩), .pointer (some ⟨R, 0, none⟩), actv d i V] w fun e w' => e = .returned (.bool true) ∧ (Pl w' B P M R lim (k + 1) ∧ Below B w w') := by
  obtain ⟨ns, fs, rs, r, p, ⟨An, cn, Af, cf, Av, cv, Al, cl, Ag, cg, a⟩, hl, hf, hr, hn, hT⟩ := h
  have bal := but_alloc w (acto d i V) (fun _ => False)
  have a1 := a.but bal
  have hs : w.heap.size < (w.alloc (acto d i V)).heap.size := by simp
  have hnr : ¬ RB R Av Al Ag w.heap.size := fun h => by have := (a.rf.rb h).2; omega
  have b1 : Below B w (w.alloc (acto d i V)) := bal.below a.base_le (fun _ h => h.elim)
  have hbox : (w.alloc (acto d i V)).heap[w.heap.size]? = some (acto d i V) := alloc_top _ _ rfl
  have hsM : M < w.heap.size := a.ml
  have hdo : ∀ {x : Value} {rs' : List (Nat × Bool)} {gs' : List Nat} {q' : Nat}, (Calls Try.prog 18 #[.pointer (some ⟨R, 0, none⟩), actv d i V] (w.alloc (acto d i V)) fun e w' => e = .returned x ∧ RStep (w.alloc (acto d i V)) B R lim q' Av Al Ag rs' gs' w') →
      Calls Try.prog 18 #[.pointer (some ⟨R, 0, none⟩), actv d i V] (w.alloc (acto d i V)) fun e w' => e = .returned x ∧ (Bs w' B P M R lim ns fs rs' gs' r r p q' ∧ Below B w w') ∧ w'.heap[w.heap.size]? = some (acto d i V) := by
    intro x rs' gs' q' h
    refine h.mono ?_
    rintro e w' ⟨he, st⟩
    have h2 := a1.refrK st hs hnr
    exact ⟨he, ⟨h2.1.1, b1.trans h2.1.2⟩, h2.2.trans hbox⟩
  have hdn : ∀ {x : Value}, (Calls Try.prog 18 #[.pointer (some ⟨R, 0, none⟩), actv d i V] (w.alloc (acto d i V)) fun e w' => e = .returned x ∧ ∃ n, w' = ((w.alloc (acto d i V)).alloc (acto d i V)).drewN n) →
      Calls Try.prog 18 #[.pointer (some ⟨R, 0, none⟩), actv d i V] (w.alloc (acto d i V)) fun e w' => e = .returned x ∧ (Bs w' B P M R lim ns fs rs fs r r p r ∧ Below B w w') ∧ w'.heap[w.heap.size]? = some (acto d i V) := by
    intro x h
    refine hdo (h.mono ?_)
    rintro e w' ⟨he, n, rfl⟩
    exact ⟨he, RStep.refl a1.rf n⟩
  have et := hl.tkn_eq
  have hlen := hf.len
  have hl1 := hl.1
  have hlv := hl.lv i
  rcases (by omega : d % 6 = 0 ∨ d % 6 = 1 ∨ d % 6 = 2 ∨ d % 6 = 3 ∨ d % 6 = 4 ∨ d % 6 = 5) with h6 | h6 | h6 | h6 | h6 | h6
  · by_cases full : lim ≤ tkn ns
    · refine do_0 w P R d hd h6 i V 0 false _ _ (hdn (r_do0_full a1.rf d hd h6 i V (by omega))) ?_
      rintro w2 ⟨⟨An2, cn2, Af2, cf2, Av2, cv2, Al2, cl2, Ag2, cg2, a2⟩, b2⟩
      refine (p_alloc_full w2 B P M lim _ _ _ _ ns fs a2.po V (by omega)).mono ?_
      rintro e w3 ⟨rfl, N, rfl⟩
      exact ⟨rfl, ⟨ns, fs, rs, r, p, (a2.same ((ButS.refl w2 _).drewN N)).1, hl, hf, by omega, by omega, hT⟩, below_drewN b2 N⟩
    · rcases (show fs = [] ∨ ∃ L j, fs = L ++ [j] by rcases List.eq_nil_or_concat fs with h | ⟨L, j, h⟩; exact .inl h; exact .inr ⟨L, j, by rw [h, List.concat_eq_append]⟩) with rfl | ⟨fs', j, rfl⟩
      · simp at hlen
        refine do_0 w P R d hd h6 i V (rs.length : Int) true _ _ (hdo (r_do0_new a1.rf d hd h6 V (by omega) (by omega))) ?_
        rintro w2 ⟨⟨An2, cn2, Af2, cf2, Av2, cv2, Al2, cl2, Ag2, cg2, a2⟩, b2⟩
        refine (alloc_newI a2.po (V : Int) V rfl (rs.length : Int) (by omega) (by omega)).mono ?_
        rintro e w3 ⟨rfl, st⟩
        have h2 := a2.pool st
        exact ⟨rfl, ⟨_, _, _, _, _, h2.1, hl.snoc V, hf.new V, by omega, by simp; omega, by have := (hf.new V).len; simp at this; omega⟩, b2.trans h2.2⟩
      · simp at hlen
        refine do_0 w P R d hd h6 i V (j : Int) true _ _ (hdo (r_do0_pop (ns := rs) (fs := fs') j fs'.length a1.rf rfl d hd h6 V (by omega))) ?_
        rintro w2 ⟨⟨An2, cn2, Af2, cf2, Av2, cv2, Al2, cl2, Ag2, cg2, a2⟩, b2⟩
        refine (alloc_popI a2.po fs' j rfl (V : Int) V rfl (j : Int) rfl (by simp; omega)).mono ?_
        rintro e w3 ⟨rfl, st⟩
        have h2 := a2.pool st
        exact ⟨rfl, ⟨_, _, _, _, _, h2.1, hl.set j (V, true) (V, true) ⟨rfl, fun _ => rfl⟩, hf.pop V, by omega, by rw [List.length_set]; omega, by have := (hf.pop V).len; simp at this; omega⟩, b2.trans h2.2⟩
  · cases hv : lv ns i with
    | false =>
      refine do_1 w P R d hd h6 i V false _ _ (hdn (r_do1_no a1.rf d hd h6 i V (by rw [← hlv]; exact hv))) ?_
      rintro w2 ⟨⟨An2, cn2, Af2, cf2, Av2, cv2, Al2, cl2, Ag2, cg2, a2⟩, b2⟩
      have hp := p_live w2 B P M lim _ _ _ _ ns fs a2.po i
      rw [hv] at hp
      refine (p_free_no w2 i _ hp).mono ?_
      rintro e w3 ⟨rfl, rfl⟩
      exact ⟨rfl, ⟨ns, fs, rs, r, p, ⟨_, _, _, _, _, _, _, _, _, _, a2⟩, hl, hf, by omega, by omega, hT⟩, b2⟩
    | true =>
      obtain ⟨j, hj, rfl, ht⟩ := lv_in hv
      have hjr : j < rs.length := by omega
      have htr : rs[j].2 = true := by rw [← (hl.2 j hj hjr).1]; exact ht
      have hf2 := hf.free hj ht 0
      have hlen2 := hf2.len
      simp at hlen2
      refine do_1 w P R d hd h6 (j : Int) V true _ _ (hdo (r_do1_yes a1.rf d hd h6 (j : Int) j rfl hjr htr V (by omega))) ?_
      rintro w2 ⟨⟨An2, cn2, Af2, cf2, Av2, cv2, Al2, cl2, Ag2, cg2, a2⟩, b2⟩
      refine (free_yesI a2.po (j : Int) j rfl hj ht (by omega)).mono ?_
      rintro e w3 ⟨rfl, st⟩
      have h2 := a2.pool st
      exact ⟨rfl, ⟨_, _, _, _, _, h2.1, hl.set j (0, false) (rs[j].1, false) ⟨rfl, fun h => by simp at h⟩, hf2, by omega, by rw [List.length_set]; omega, by omega⟩, b2.trans h2.2⟩
  · cases hv : lv ns i with
    | false =>
      refine (do_2 w P R d hd h6 i V 0 false (fun w' => Bs w' B P M R lim ns fs rs fs r r p r ∧ Below B w w') (fun w' => Bs w' B P M R lim ns fs rs fs r r p r ∧ Below B w w') (hdn (r_do2_no a1.rf d hd h6 i V (by rw [← hlv]; exact hv))) ?_ ?_).mono ?_
      · rintro w2 ⟨⟨An2, cn2, Af2, cf2, Av2, cv2, Al2, cl2, Ag2, cg2, a2⟩, b2⟩ hb
        have hp := p_live w2 B P M lim _ _ _ _ ns fs a2.po i
        rw [hv] at hp
        refine (p_at_no w2 i _ hp).mono ?_
        rintro e w3 ⟨rfl, rfl⟩
        exact ⟨rfl, ⟨⟨_, _, _, _, _, _, _, _, _, _, a2⟩, b2⟩, hb⟩
      · rintro w2 ⟨⟨An2, cn2, Af2, cf2, Av2, cv2, Al2, cl2, Ag2, cg2, a2⟩, b2⟩
        have hp := p_live w2 B P M lim _ _ _ _ ns fs a2.po i
        rw [hv] at hp
        exact p_peek_no w2 i _ hp
      · rintro e w3 ⟨rfl, hb, b2⟩
        exact ⟨rfl, ⟨ns, fs, rs, r, p, hb, hl, hf, by omega, by omega, hT⟩, b2⟩
    | true =>
      obtain ⟨j, hj, rfl, ht⟩ := lv_in hv
      have hjr : j < rs.length := by omega
      have htr : rs[j].2 = true := by rw [← (hl.2 j hj hjr).1]; exact ht
      have hval := (hl.2 j hj hjr).2 ht
      refine (do_2 w P R d hd h6 (j : Int) V (ns[j].1 : Int) true (fun w' => Bs w' B P M R lim ns fs rs fs r r p (r + 1) ∧ Below B w w') (fun w' => Bs w' B P M R lim ns fs rs fs (r + 1) (r + 1) (max p (r + 1)) (r + 1) ∧ Below B w w') (hdo (r_do2_yes a1.rf d hd h6 (j : Int) j rfl hjr htr V (by omega) (ns[j].1 : Int) (by rw [hval]))) ?_ ?_).mono ?_
      · rintro w2 ⟨⟨An2, cn2, Af2, cf2, Av2, cv2, Al2, cl2, Ag2, cg2, a2⟩, b2⟩ hb
        refine (p_at_yes w2 B P M lim _ _ _ _ ns fs a2.po j hj ht r 0 0 r p a2.mt (by omega) (by omega)).mono ?_
        rintro e w3 ⟨rfl, hm, hg⟩
        have h2 := a2.meter hm hg
        exact ⟨rfl, ⟨h2.1, b2.trans h2.2⟩, (hg.block _ (Array.getElem?_eq_some_iff.1 hb).1 (fun e => by simp at e; omega)).trans hb⟩
      · rintro w2 ⟨⟨An2, cn2, Af2, cf2, Av2, cv2, Al2, cl2, Ag2, cg2, a2⟩, b2⟩
        exact p_peek_yes w2 B P M lim _ _ _ _ ns fs a2.po j hj ht
      · rintro e w3 ⟨rfl, hb, b2⟩
        exact ⟨rfl, ⟨ns, fs, rs, r + 1, _, hb, hl, hf, by omega, by omega, hT⟩, b2⟩
  · cases hv : lv ns i with
    | false =>
      refine do_3 w P R d hd h6 i V false _ _ (hdn (r_do3_no a1.rf d hd h6 i V (by rw [← hlv]; exact hv))) ?_
      rintro w2 ⟨⟨An2, cn2, Af2, cf2, Av2, cv2, Al2, cl2, Ag2, cg2, a2⟩, b2⟩
      have hp := p_live w2 B P M lim _ _ _ _ ns fs a2.po i
      rw [hv] at hp
      refine (p_put_no w2 i V _ hp).mono ?_
      rintro e w3 ⟨rfl, rfl⟩
      exact ⟨rfl, ⟨ns, fs, rs, r, p, ⟨_, _, _, _, _, _, _, _, _, _, a2⟩, hl, hf, by omega, by omega, hT⟩, b2⟩
    | true =>
      obtain ⟨j, hj, rfl, ht⟩ := lv_in hv
      have hjr : j < rs.length := by omega
      have htr : rs[j].2 = true := by rw [← (hl.2 j hj hjr).1]; exact ht
      refine do_3 w P R d hd h6 (j : Int) V true _ _ (hdo (r_do3_yes a1.rf d hd h6 (j : Int) j rfl hjr htr V)) ?_
      rintro w2 ⟨⟨An2, cn2, Af2, cf2, Av2, cv2, Al2, cl2, Ag2, cg2, a2⟩, b2⟩
      refine (p_put_yes w2 B P M lim _ _ _ _ ns fs a2.po j hj ht V).mono ?_
      rintro e w3 ⟨rfl, st⟩
      have h2 := a2.pool st
      exact ⟨rfl, ⟨_, _, _, _, _, h2.1, hl.set j (V, true) (V, rs[j].2) ⟨htr.symm, fun _ => rfl⟩, hf.put hj ht V, by omega, by rw [List.length_set]; omega, by have := (hf.put hj ht V).len; simp at this; omega⟩, b2.trans h2.2⟩
  · cases hv : lv ns i with
    | false =>
      refine do_4 w P R d hd h6 i V false _ _ (hdn (r_do4_no a1.rf d hd h6 i V (by rw [← hlv]; exact hv))) ?_
      rintro w2 ⟨⟨An2, cn2, Af2, cf2, Av2, cv2, Al2, cl2, Ag2, cg2, a2⟩, b2⟩
      have hp := p_live w2 B P M lim _ _ _ _ ns fs a2.po i
      rw [hv] at hp
      refine hp.mono ?_
      rintro e w3 ⟨rfl, rfl⟩
      exact ⟨rfl, ⟨ns, fs, rs, r, p, ⟨_, _, _, _, _, _, _, _, _, _, a2⟩, hl, hf, by omega, by omega, hT⟩, b2⟩
    | true =>
      refine do_4 w P R d hd h6 i V true _ _ (hdn (r_do4_yes a1.rf d hd h6 i V (by rw [← hlv]; exact hv))) ?_
      rintro w2 ⟨⟨An2, cn2, Af2, cf2, Av2, cv2, Al2, cl2, Ag2, cg2, a2⟩, b2⟩
      have hp := p_live w2 B P M lim _ _ _ _ ns fs a2.po i
      rw [hv] at hp
      refine hp.mono ?_
      rintro e w3 ⟨rfl, rfl⟩
      exact ⟨rfl, ⟨ns, fs, rs, r, p, ⟨_, _, _, _, _, _, _, _, _, _, a2⟩, hl, hf, by omega, by omega, hT⟩, b2⟩
  · refine do_5 w P R d hd h6 i V _ _ (hdo (r_do5 a1.rf d hd h6 i V)) ?_
    rintro w2 ⟨⟨An2, cn2, Af2, cf2, Av2, cv2, Al2, cl2, Ag2, cg2, a2⟩, b2⟩
    refine (p_clear a2.po).mono ?_
    rintro e w3 ⟨rfl, st⟩
    have h2 := a2.pool st
    exact ⟨rfl, ⟨_, _, _, _, _, h2.1, Like.nil, FreeOk.nil, by omega, by simp, Nat.zero_le _⟩, b2.trans h2.2⟩
end
end Go.Proofs.Ytpgmgldhpagieaa
