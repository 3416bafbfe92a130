/- The law TrieFull, walked (written by genu41.py). -/
import Derived.Test.YtbiingpdchoppaaDoorMxU38
namespace Go.Proofs.YtbiingpdchoppaaDoor
set_option maxRecDepth 40000
open Go.RowKit
namespace K
theorem eachR_len (us : List Nat → Nat) (lim : Nat) : ∀ (ks xs : List Nat), (eachR us lim xs ks).2.length ≤ xs.length + ks.length
  | [], xs => by simp [eachR]
  | k :: ks, xs => by
    unfold eachR
    rw [List.length_cons]
    split
    · have h1 := eachR_len us lim ks (inL us xs lim k)
      have h2 : (inL us xs lim k).length ≤ xs.length + 1 := by
        unfold inL
        split
        · omega
        · split
          · omega
          · exact add_len xs k
      dsimp only
      omega
    · split
      · dsimp only; omega
      · have h1 := eachR_len us lim ks xs
        omega
end K
section
variable (A : Option Addr) (cp : Nat) (l : List Nat) (L : Nat) (hL : L < 256) (w : World) (hTab : Tab w) (hr : Rw w w.heap.size A l) (hl : l.length ≤ 9223372036854775807) (hx : ∀ x ∈ l, x < 18446744073709551616)
include hL hTab hr hl hx
set_option maxHeartbeats 4000000 in
theorem law_full :
    Calls Tryd.prog 7 #[.slice A l.length cp, .int .u8 (L : Int)] w fun e w' => e = .returned (.bool true) ∧ Below w.heap.size w w' := by
  have haw := Lib.hid (law_awake_t w hTab)
  have hnew := Lib.hid (fun (W : World) (hW : Below w.heap.size w W) => tks_new hW hTab L (by omega))
  have hwd : Hid (∀ (W : World) (P : Nat), TKs w W P L [] [] → Calls Tryd.prog 22 #[.slice A l.length cp, .int .i64 60] W fun e w' => ∃ A' c', e = .returned (.slice A' (l.take 60).length c') ∧ TKs w w' P L [] [(.slice A' (l.take 60).length c', l.take 60)]) := Lib.hid (fun W P h => tks_words h A cp l 60 hr hl (by omega))
  have hkl : (l.take 60).length ≤ 60 := List.length_take_le 60 l
  have hku : ∀ x ∈ l.take 60, x < 18446744073709551616 := fun x h => hx x (List.mem_of_mem_take h)
  have hLen := Lib.hid (rfl : l.length = l.length)
  generalize l.take 60 = ks at *
  have hlen2 := K.eachR_len K.trie L ks []
  obtain ⟨T1, hT1⟩ : ∃ T1, (K.eachR K.trie L [] ks).1 = T1 := ⟨_, rfl⟩
  obtain ⟨T2, hT2⟩ : ∃ T2, (K.eachR K.trie L [] ks).2 = T2 := ⟨_, rfl⟩
  rw [hT2] at hlen2
  have H0 : Hid (0 + (K.eachR K.trie L [] (ks.drop 0)).1 = T1 ∧ (K.eachR K.trie L [] (ks.drop 0)).2 = T2) := Lib.hid ⟨by rw [List.drop_zero, hT1, Nat.zero_add], by rw [List.drop_zero, hT2]⟩
  have hl2 : T2.length ≤ 60 := by simp only [List.length_nil] at hlen2; omega
  have he : Hid (∀ (W : World) (P : Nat) (A1 : Option Addr) (c1 : Nat) (S : List (Value × List Nat)), (Value.slice A1 ks.length c1, ks) ∈ S → TKs w W P L [] S → Calls Tryd.prog 33 #[.pointer (some ⟨P, 0, none⟩), .slice A1 ks.length c1] W fun e w' => e = .returned (.int .i64 (T1 : Int)) ∧ TKs w w' P L T2 S) := Lib.hid (fun W P A1 c1 S hm h => by
    have := tks_each h A1 c1 ks hm hku (by omega)
    rw [hT1, hT2] at this
    exact this)
  have hsm : Hid (∀ (W : World) (P : Nat) (S : List (Value × List Nat)) (v : Value), (v, T2) ∈ S → TKs w W P L T2 S → Calls Tryd.prog 17 #[.pointer (some ⟨P, 0, none⟩), v] W fun e w' => e = .returned (.bool true) ∧ TKs w w' P L T2 S) := Lib.hid (fun W P S v hm h => by
    have := tks_same h v T2 hm (by omega) (by omega)
    rw [decide_eq_true rfl] at this
    exact this)
  have hus := Lib.hid (fun (W : World) (P : Nat) (S : List (Value × List Nat)) (h : TKs w W P L T2 S) => h.ask fun tk O hT => tt_tc2.used W P T2 L tk O hT)
  have htf := Lib.hid (fun (W : World) (v : Value) (h : KX W v T2) => k_trie W v T2 h (by omega))
  obtain ⟨n, hn⟩ : ∃ n, ks.length = n := ⟨_, rfl⟩
  have hn60 : n ≤ 60 := by omega
  have HN := Lib.hid hn
  rw [hn] at hwd he
  have q3 : IntKind.i64.wrap (L : Int) = (L : Int) := IntWalk.i64_in _ (by omega)
  clear hr hx hTab hl hku hLen hn hkl hlen2 hT1 hT2
  go_enter Tryd.func7, Tryd.ntmps7
  go_wp2_with (first
    | (go_at_call 9; (with_reducible refine haw.out.mono ?_); rintro e w1 ⟨rfl, hb1⟩; have HB1 := Lib.hid hb1; clear hb1)
    | (go_at_call 10; (with_reducible refine (hnew.out w1 HB1.out).mono ?_); rintro e w2 ⟨P, rfl, h2⟩; have H2 := Lib.hid h2; clear h2)
    | (go_at_call 22; (with_reducible refine (hwd.out w2 P H2.out).mono ?_); rintro e w3 ⟨A1, c1, rfl, h3⟩; have H3 : Hid (TKs w w3 P L [] [(.slice none 0 0, []), (.slice A1 n c1, ks)]) := Lib.hid (h3.fresh (KX.nil _) (Below.refl _ _) (fun g hg => by simp [Value.ownBlock] at hg)); clear h3))
  go_loopw [7, 8, 24] (fun v acc ix wr => ∃ (j a : Nat) (ys : List Nat), j ≤ n ∧ a ≤ j ∧ ys.length ≤ j ∧ ix = .int .i64 (j : Int) ∧ acc = .int .i64 (a : Int) ∧ Hid (K.Up ys ∧ K.trie ys ≤ L) ∧ Hid (TKs w wr P L [] [(v, ys), (.slice A1 n c1, ks)]) ∧ Hid (a + (K.eachR K.trie L ys (ks.drop j)).1 = T1 ∧ (K.eachR K.trie L ys (ks.drop j)).2 = T2)) (fun _ _ ix _ => n - (intOf ix).toNat)
  case atStart => exact ⟨0, 0, [], by omega, by omega, by simp, rfl, rfl, Lib.hid ⟨List.Pairwise.nil, by rw [show K.trie [] = 0 by decide]; omega⟩, H3, H0⟩
  case round =>
    obtain ⟨j, a, ys, hj, haj, hyl, rfl, rfl, HU, HT, HE⟩ := hrel
    clear H2 H3 H0
    obtain ⟨v, hv⟩ : ∃ v, v = u7 := ⟨_, rfl⟩
    subst hv
    have hkv := HT.out.kx (List.mem_cons_self ..)
    obtain ⟨A0, c0, rfl, _⟩ := kx_rw hkv
    have HKV := Lib.hid hkv
    clear hkv
    rcases Nat.lt_or_ge j n with hjr | hjr
    · have hjk : j < ks.length := by rw [HN.out]; exact hjr
      have hdr : ks.drop j = ks[j] :: ks.drop (j + 1) := List.drop_eq_getElem_cons hjk
      have hkx := HT.out.kx (List.mem_cons_of_mem _ (List.mem_cons_self ..))
      unfold KX at hkx
      rw [HN.out] at hkx
      obtain ⟨g, rfl⟩ := own_some hkx (by omega)
      have hcell := tks_cell HT.out (List.mem_cons_of_mem _ (List.mem_cons_self ..)) (List.getElem?_eq_getElem hjk)
      have hE2 := HE.out
      rw [hdr] at hE2
      have hadd := Lib.hid (k_add wr (.slice A0 ys.length c0) ys HKV.out (by omega) ks[j])
      generalize ks[j] = k at *
      have hlm := T.add_len' HU.out.1 k
      have hfm := K.fo_mem HU.out.1 k
      have hau := K.add_up HU.out.1 k
      have gk : (j : Int) < (n : Int) := by omega
      have wj : IntKind.i64.wrap ((j : Int) + 1) = ((j + 1 : Nat) : Int) := by rw [IntWalk.i64_in _ (by omega)]; omega
      have wa : IntKind.i64.wrap ((a : Int) + 1) = ((a + 1 : Nat) : Int) := by rw [IntWalk.i64_in _ (by omega)]; omega
      clear hdr hjk HE hkx HKV haw hnew hwd
      by_cases hf : K.fo ys k = true
      · have e : K.add ys k = ys := if_pos hf
        have HE : Hid (a + (K.eachR K.trie L ys (ks.drop (j + 1))).1 = T1 ∧ (K.eachR K.trie L ys (ks.drop (j + 1))).2 = T2) := Lib.hid (by
          have h4 : K.inE K.trie ys L k = 4 := if_pos hf
          unfold K.eachR at hE2
          rw [if_neg (by omega), if_neg (by omega)] at hE2
          exact hE2)
        rw [e] at hadd
        have htr := Lib.hid (fun (W : World) (v : Value) (h : KX W v ys) => k_trie W v ys h (by omega))
        have hM := HU.out.2
        have HYL := Lib.hid hyl
        generalize K.trie ys = M at htr hM
        have d1 : decide ((L : Int) < (M : Int)) = false := decide_eq_false (by omega)
        have d1n : decide (L < M) = false := decide_eq_false (by omega)
        have d2 : decide ((ys.length : Int) < (ys.length : Int)) = false := decide_eq_false (by omega)
        clear hE2 e hf hlm hfm hau hM hyl
        go_wp2_with (first
        | (go_at_call 37; (with_reducible refine hadd.out.mono ?_); rintro e w2 ⟨v2, rfl, hk2, hb2, hv2⟩; have HT2 := Lib.hid (HT.out.klp (List.mem_cons_self ..) hk2 hb2 hv2); obtain ⟨A2, c2, rfl, _⟩ := kx_rw hk2; clear hk2 hb2 hv2)
        | (go_at_call 13; (with_reducible refine (htr.out w2 _ (HT2.out.kx (List.mem_cons_self ..))).mono ?_); rintro e w3 ⟨rfl, hb3⟩; have HT3 := Lib.hid (HT2.out.below hb3); clear hb3))
        go_roundw
        case rel => exact ⟨j + 1, a, ys, by omega, by omega, by have := HYL.out; omega, by go_num, rfl, HU, Lib.hid (HT3.out.less fun p hp => by simp at hp ⊢; rcases hp with h | h <;> simp [h]), HE⟩
        case measure => simp [intOf]; omega
      · have hm : k ∉ ys := fun h => hf (hfm.2 h)
        rw [if_neg hm] at hlm
        obtain ⟨m, hmm⟩ : ∃ m, K.add ys k = m := ⟨_, rfl⟩
        rw [hmm] at hlm hau hadd
        have htr := Lib.hid (fun (W : World) (v : Value) (h : KX W v m) => k_trie W v m h (by omega))
        by_cases hM : L < K.trie m
        · have HE : Hid (a = T1 ∧ ys = T2) := Lib.hid (by
            have h5 : K.inE K.trie ys L k = 5 := by unfold K.inE; rw [if_neg hf, hmm, if_pos hM]
            unfold K.eachR at hE2
            rw [if_neg (by omega), if_pos h5] at hE2
            exact hE2)
          obtain ⟨rfl, rfl⟩ := HE.out
          generalize K.trie m = M at htr hM
          have d1 : decide ((L : Int) < (M : Int)) = true := decide_eq_true (by omega)
          have d1n : decide (L < M) = true := decide_eq_true (by omega)
          clear hE2 hf hlm hfm hau hM hm hmm HE
          go_wp2_with (first
        | (go_at_call 37; (with_reducible refine hadd.out.mono ?_); rintro e w2 ⟨v2, rfl, hk2, hb2, hv2⟩; have HT2 := Lib.hid (HT.out.klp (List.mem_cons_self ..) hk2 hb2 hv2); obtain ⟨A2, c2, rfl, _⟩ := kx_rw hk2; clear hk2 hb2 hv2)
        | (go_at_call 13; (with_reducible refine (htr.out w2 _ (HT2.out.kx (List.mem_cons_self ..))).mono ?_); rintro e w3 ⟨rfl, hb3⟩; have HT3 := HT2.out.below hb3; have HT4 := Lib.hid (HT3.less (S' := [(.slice A0 ys.length c0, ys), (.slice (some ⟨g, 0, none⟩) n c1, ks)]) fun p hp => by simp at hp ⊢; rcases hp with h | h <;> simp [h]); clear HT3; clear hb3)
            | (go_at_call 33; (with_reducible refine (he.out w3 P _ c1 _ ?_ HT4.out).mono ?_); (simp); rintro e x1 ⟨rfl, h1⟩; have X1 := Lib.hid h1; clear h1)
            | (go_at_call 17; (with_reducible refine (hsm.out x1 P _ _ (List.mem_cons_self ..) X1.out).mono ?_); rintro e x2 ⟨rfl, h2⟩; have X2 := Lib.hid h2; clear h2)
            | (go_at_call 14; (with_reducible refine (hus.out x2 P _ X2.out).mono ?_); rintro e x3 ⟨rfl, h3⟩; have X3 := Lib.hid h3; clear h3)
            | (go_at_call 13; (with_reducible refine (htf.out x3 _ (X3.out.kx (List.mem_cons_self ..))).mono ?_); rintro e x4 ⟨rfl, h4⟩; have X4 := Lib.hid (X3.out.below h4); clear h4))
          go_ret
          exact ⟨rfl, X4.out.low⟩
        · have HE : Hid (a + 1 + (K.eachR K.trie L m (ks.drop (j + 1))).1 = T1 ∧ (K.eachR K.trie L m (ks.drop (j + 1))).2 = T2) := Lib.hid (by
            have h0 : K.inE K.trie ys L k = 0 := by unfold K.inE; rw [if_neg hf, hmm, if_neg hM]
            have hl0 : K.inL K.trie ys L k = m := by unfold K.inL; rw [if_neg hf, hmm, if_neg hM]
            unfold K.eachR at hE2
            rw [if_pos h0, hl0] at hE2
            exact ⟨by omega, hE2.2⟩)
          have HU2 := Lib.hid (show K.Up m ∧ K.trie m ≤ L from ⟨hau, by omega⟩)
          have HLM := Lib.hid (show m.length ≤ j + 1 by omega)
          generalize K.trie m = M at htr hM
          have d1 : decide ((L : Int) < (M : Int)) = false := decide_eq_false (by omega)
          have d1n : decide (L < M) = false := decide_eq_false (by omega)
          have d2 : decide ((ys.length : Int) < (m.length : Int)) = true := decide_eq_true (by omega)
          have d2n : decide (ys.length < m.length) = true := decide_eq_true (by omega)
          clear hE2 hf hlm hfm hau hM hm hmm
          go_wp2_with (first
        | (go_at_call 37; (with_reducible refine hadd.out.mono ?_); rintro e w2 ⟨v2, rfl, hk2, hb2, hv2⟩; have HT2 := Lib.hid (HT.out.klp (List.mem_cons_self ..) hk2 hb2 hv2); obtain ⟨A2, c2, rfl, _⟩ := kx_rw hk2; clear hk2 hb2 hv2)
        | (go_at_call 13; (with_reducible refine (htr.out w2 _ (HT2.out.kx (List.mem_cons_self ..))).mono ?_); rintro e w3 ⟨rfl, hb3⟩; have HT3 := Lib.hid (HT2.out.below hb3); clear hb3))
          go_roundw
          case rel => exact ⟨j + 1, a + 1, m, by omega, by omega, HLM.out, by go_num, by go_num, HU2, Lib.hid (HT3.out.less fun p hp => by simp at hp ⊢; rcases hp with h | h <;> simp [h]), HE⟩
          case measure => simp [intOf]; omega
    · obtain rfl : j = n := by omega
      have g0 : decide ((j : Int) < (j : Int)) = false := decide_eq_false (by omega)
      have HE2 : Hid (a = T1 ∧ ys = T2) := Lib.hid (by
        have h1 := HE.out
        rw [← HN.out, List.drop_length] at h1
        exact h1)
      obtain ⟨rfl, rfl⟩ := HE2.out
      clear HE HE2 haw hnew hwd
      go_wp2_with (first
        | (go_at_call 33; (with_reducible refine (he.out wr P _ c1 _ ?_ HT.out).mono ?_); (simp); rintro e x1 ⟨rfl, h1⟩; have X1 := Lib.hid h1; clear h1)
        | (go_at_call 17; (with_reducible refine (hsm.out x1 P _ _ (List.mem_cons_self ..) X1.out).mono ?_); rintro e x2 ⟨rfl, h2⟩; have X2 := Lib.hid h2; clear h2)
        | (go_at_call 14; (with_reducible refine (hus.out x2 P _ X2.out).mono ?_); rintro e x3 ⟨rfl, h3⟩; have X3 := Lib.hid h3; clear h3)
        | (go_at_call 13; (with_reducible refine (htf.out x3 _ (X3.out.kx (List.mem_cons_self ..))).mono ?_); rintro e x4 ⟨rfl, h4⟩; have X4 := Lib.hid (X3.out.below h4); clear h4))
      go_ret
      exact ⟨rfl, X4.out.low⟩
end
end Go.Proofs.YtbiingpdchoppaaDoor
