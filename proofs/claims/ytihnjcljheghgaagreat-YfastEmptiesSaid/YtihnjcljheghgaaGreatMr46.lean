/- The law YfastEmpties, walked as far as law.same's contract goes (written out of X23). law.all and law.same of a y-fast trie, told by its buckets; the law YfastEmpties whole. -/
import Derived.Test.YtihnjcljheghgaaGreatMr45
import Derived.Test.YtihnjcljheghgaaGreatMr39
section
namespace Go.Proofs.YtihnjcljheghgaaGreat
open Go.RowKit
section
variable (A : Option Addr) (cp : Nat) (l : List Nat) (Ab : Option Addr) (cb : Nat) (bs : List Nat) (w : World) (sd : Nat) (hr : Rw w w.heap.size A l) (hl : l.length ≤ 9223372036854775807) (hx : ∀ x ∈ l, x < 18446744073709551616) (hrb : Rby w w.heap.size Ab bs) (hlb : bs.length ≤ 9223372036854775807) (hxb : ∀ x ∈ bs, x < 256)
include hr hl hx hrb hlb hxb
set_option maxHeartbeats 1000000 in
set_option maxRecDepth 100000 in
theorem law_emptiesY (hsame : ∀ (W : World) (P : Nat) (zs : List Nat) (S : List (Value × List Nat)) (v : Value), zs.length ≤ 60 → (v, zs) ∈ S → TKs w W P 200000 zs S → Calls Tryz.prog 18 #[.pointer (some ⟨P, 0, none⟩), v] W fun e w' => e = .returned (.bool true) ∧ TKs w w' P 200000 zs S) :
    Calls Tryz.prog 4 #[.int .u64 (sd : Int), .slice A l.length cp, .slice Ab bs.length cb] w fun e w' => e = .returned (.bool true) ∧ Below w.heap.size w w' := by
  have HSAME := Lib.hid hsame
  clear hsame
  have haw := Lib.hid (law_awakeY w)
  have hnew : Hid (∀ W : World, Below w.heap.size w W → Calls Tryz.prog 9 #[.int .u64 (sd : Int), .int .i64 200000] W fun e w' => ∃ P, e = .returned (.tuple #[.pointer (some ⟨P, 0, none⟩), .int .i64 0]) ∧ TKs w w' P 200000 [] []) := Lib.hid (fun W hW => tks_new hW sd 200000 (by omega))
  have hwd : Hid (∀ (W : World) (P : Nat), TKs w W P 200000 [] [] → Calls Tryz.prog 23 #[.slice A l.length cp, .int .i64 60] W fun e w' => ∃ A' c', e = .returned (.slice A' (l.take 60).length c') ∧ TKs w w' P 200000 [] [(.slice A' (l.take 60).length c', l.take 60)]) := Lib.hid (fun W P h => tks_words h A cp l 60 hr hl (by omega))
  have hkl : (l.take 60).length ≤ 60 := List.length_take_le 60 l
  have hku : ∀ x ∈ l.take 60, x < 18446744073709551616 := fun x h => hx x (List.mem_of_mem_take h)
  have hup := T.off_up (l.take 60)
  have hmem2 : ∀ x ∈ K.off (l.take 60), x ∈ l.take 60 := fun x h => (T.off_mem _ x).1 h
  have hxl := K.off_le (l.take 60)
  have hLen := Lib.hid (rfl : l.length = l.length)
  generalize l.take 60 = ks at *
  have hof := Lib.hid (fun (W : World) (P : Nat) (A1 : Option Addr) (c1 : Nat) (h : TKs w W P 200000 [] [(.slice A1 ks.length c1, ks)]) => tks_of h (.slice A1 ks.length c1) ks (by simp) (by omega))
  obtain ⟨xs, hxs⟩ : ∃ xs, K.off ks = xs := ⟨_, rfl⟩
  rw [hxs] at hof hup hmem2 hxl
  have hxu : ∀ x ∈ xs, x < 18446744073709551616 := fun x h => hku x (hmem2 x h)
  obtain ⟨n, hn⟩ : ∃ n, xs.length = n := ⟨_, rfl⟩
  have hn60 : n ≤ 60 := by omega
  have HXU := Lib.hid (show K.Up xs ∧ ∀ x ∈ xs, x < 18446744073709551616 from ⟨hup, hxu⟩)
  have HN := Lib.hid hn
  rw [hn] at hof
  have HRB := Lib.hid hrb
  have HXB := Lib.hid hxb
  clear hr hx hl hku hmem2 hxs hLen hxu hup hn hkl hxl hrb hxb
  go_enter Tryz.func4, Tryz.ntmps4
  go_wp2_with (first
    | (go_at_call 8; (with_reducible refine haw.out.mono ?_); rintro e w1 ⟨rfl, hb1⟩; have HB1 := Lib.hid hb1; clear hb1)
    | (go_at_call 9; (with_reducible refine (hnew.out w1 HB1.out).mono ?_); rintro e w2 ⟨P, rfl, h2⟩; have H2 := Lib.hid h2; clear h2)
    | (go_at_call 23; (with_reducible refine (hwd.out w2 P H2.out).mono ?_); rintro e w3 ⟨A1, c1, rfl, h3⟩; have H3 := Lib.hid h3; clear h3)
    | (go_at_call 22; (with_reducible refine (hof.out w3 P A1 c1 H3.out).mono ?_); rintro e w4 ⟨A2, c2, rfl, h4⟩; have H4 : Hid (TKs w w4 P 200000 (xs.take 0) [(.slice A2 n c2, xs)]) := Lib.hid (h4.less fun p hp => by simp at hp ⊢; simp [hp]); clear h4))
  go_loopw [31] (fun ix wr => ∃ (j : Nat), j ≤ n ∧ ix = .int .i64 (j : Int) ∧ Hid (TKs w wr P 200000 (xs.take j) [(.slice A2 n c2, xs)])) (fun ix _ => n - (intOf ix).toNat)
  case atStart => exact ⟨0, by omega, rfl, H4⟩
  case round =>
    obtain ⟨j, hj, rfl, HT⟩ := hrel
    clear H2 H3 H4
    rcases Nat.lt_or_ge j n with hjr | hjr
    · have hjk : j < xs.length := by rw [HN.out]; exact hjr
      have hkx := HT.out.kx (List.mem_cons_self ..)
      unfold KX at hkx
      rw [HN.out] at hkx
      obtain ⟨g, rfl⟩ := own_some hkx (by omega)
      have hcell := tks_cell HT.out (List.mem_cons_self ..) (List.getElem?_eq_getElem hjk)
      have hkl := HXU.out.2 xs[j] (List.getElem_mem hjk)
      have hlt := Bk.take_lt HXU.out.1 hjk
      have had := Bk.add_take HXU.out.1 hjk
      have hup2 := Bk.up_take HXU.out.1 j
      have htk : (xs.take j).length ≤ j := List.length_take_le _ _
      generalize xs[j] = k at *
      have hfo : K.fo (xs.take j) k = false := by
        rw [Bool.eq_false_iff]
        intro hf
        have := hlt k ((K.fo_mem hup2 k).1 hf)
        omega
      have hins : Hid (∀ (W : World) (S : List (Value × List Nat)), TKs w W P 200000 (xs.take j) S → Calls Tryz.prog 24 #[.pointer (some ⟨P, 0, none⟩), .int .u64 (k : Int)] W fun e w' => e = .returned (.int .i64 0) ∧ TKs w w' P 200000 (xs.take (j + 1)) S) := Lib.hid (fun W S h => tks_insert h k hkl hfo (by omega) had)
      have gk : (j : Int) < (n : Int) := by omega
      have wj : IntKind.i64.wrap ((j : Int) + 1) = ((j + 1 : Nat) : Int) := by rw [IntWalk.i64_in _ (by omega)]; omega
      clear hkx hkl hfo had hlt hup2 htk hjk haw hnew hwd hof
      go_wp2_with (go_at_call 24; (with_reducible refine (hins.out wr _ HT.out).mono ?_); rintro e w5 ⟨rfl, h5⟩; have H5 := Lib.hid h5; clear h5)
      go_roundw
      case rel => exact ⟨j + 1, by omega, by go_num, H5⟩
      case measure => simp [intOf]; omega
    · obtain rfl : j = n := by omega
      have g0 : decide ((j : Int) < (j : Int)) = false := decide_eq_false (by omega)
      have HS : Hid (TKs w wr P 200000 xs [(.slice A2 j c2, xs)]) := Lib.hid (by
        have h1 := HT.out
        rw [List.take_of_length_le (by rw [HN.out]; omega)] at h1
        exact h1)
      clear HT
      go_wp2
      go_loopw [9, 12] (fun v ix wr => ∃ (i : Nat) (ys : List Nat), i + ys.length = j ∧ ix = .int .i64 (i : Int) ∧ Hid (K.Up ys ∧ ∀ x ∈ ys, x < 18446744073709551616) ∧ Hid (TKs w wr P 200000 ys [(v, ys)])) (fun _ ix _ => j - (intOf ix).toNat)
      case atStart => exact ⟨0, xs, by have := HN.out; omega, rfl, HXU, HS⟩
      case round =>
        obtain ⟨i, ys, hi, rfl, HU, HT⟩ := hrel
        clear HS
        obtain ⟨v, hv⟩ : ∃ v, v = u9 := ⟨_, rfl⟩
        subst hv
        have hkv := HT.out.kx (List.mem_cons_self ..)
        obtain ⟨A0, c0, rfl, _⟩ := Kb.kx_rh hkv
        have HKV := Lib.hid hkv
        clear hkv haw hnew hwd hof
        rcases Nat.eq_zero_or_pos ys.length with hm | hm
        · obtain rfl : ys = [] := List.eq_nil_of_length_eq_zero hm
          have hmin := Lib.hid (fun (W : World) (S : List (Value × List Nat)) (h : TKs w W P 200000 [] S) => tks_min0 h)
          have hmax := Lib.hid (fun (W : World) (S : List (Value × List Nat)) (h : TKs w W P 200000 [] S) => tks_max0 h)
          have hus := Lib.hid (fun (W : World) (S : List (Value × List Nat)) (h : TKs w W P 200000 [] S) => tks_used0 h)
          clear hm
          go_wp2_with (first
            | (go_at_call 28; (with_reducible refine (hmin.out wr _ HT.out).mono ?_); rintro e x1 ⟨rfl, h1⟩; have X1 := Lib.hid h1; clear h1)
            | (go_at_call 29; (with_reducible refine (hmax.out x1 _ X1.out).mono ?_); rintro e x2 ⟨rfl, h2⟩; have X2 := Lib.hid h2; clear h2)
            | (go_at_call 12; (with_reducible refine (hus.out x2 _ X2.out).mono ?_); rintro e x3 ⟨rfl, h3⟩; have X3 := Lib.hid h3; clear h3))
          go_ret
          exact ⟨rfl, X3.out.low⟩
        · have hkx := HKV.out
          unfold KX at hkx
          obtain ⟨g, rfl⟩ := own_some hkx hm
          clear hkx
          have b1 : decide ((0 : Int) < (ys.length : Int)) = true := decide_eq_true (by omega)
          have wi : IntKind.i64.wrap ((i : Int) + 1) = ((i + 1 : Nat) : Int) := by rw [IntWalk.i64_in _ (by omega)]; omega
          have hm0 : (ys.length : Int) ≠ 0 := by omega
          rcases Nat.lt_or_ge i bs.length with hib | hib
          · obtain ⟨bb, ob, rfl, hcb⟩ := HRB.out.at HT.out.low hib
            have hob := HXB.out bs[i] (List.getElem_mem hib)
            generalize bs[i] = o at *
            obtain ⟨p, hp⟩ : ∃ p, o % ys.length = p := ⟨_, rfl⟩
            have hpl : p < ys.length := by rw [← hp]; exact Nat.mod_lt _ hm
            have b2 : decide ((i : Int) < (bs.length : Int)) = true := decide_eq_true (by omega)
            have gib : (i : Int) < (bs.length : Int) := by omega
            have q1 : (o : Int) % (ys.length : Int) = (p : Int) := by rw [← hp]; exact (Int.natCast_emod _ _).symm
            have q2 : (o : Int).tmod (ys.length : Int) = (p : Int) := by rw [Int.tmod_eq_emod_of_nonneg (by omega)]; exact q1
            have q3 : IntKind.i64.wrap (p : Int) = (p : Int) := IntWalk.i64_in _ (by omega)
            have q4 : IntKind.i64.wrap (o : Int) = (o : Int) := IntWalk.i64_in _ (by omega)
            have gp : (p : Int) < (ys.length : Int) := by omega
            have hcell := tks_cell HT.out (List.mem_cons_self ..) (List.getElem?_eq_getElem hpl)
            have hkm : ys[p] ∈ ys := List.getElem_mem hpl
            generalize ys[p] = k at *
            clear hp hpl hob
            have hzk : k < 18446744073709551616 := HU.out.2 k hkm
            have hfk : K.fo ys k = true := (K.fo_mem HU.out.1 k).2 hkm
            have hzu := K.drop_up HU.out.1 k
            have hzl := T.drop_len HU.out.1 hkm
            have hzm := K.drop_mem HU.out.1 k
            have hdrop := k_drop wr _ ys HKV.out (by omega) k
            obtain ⟨zs, hzs⟩ : ∃ zs, K.drop ys k = zs := ⟨_, rfl⟩
            rw [hzs] at hzu hzl hzm hdrop
            have hnk : K.fo zs k = false := by rw [Bool.eq_false_iff]; exact fun hf => ((hzm k).1 ((K.fo_mem hzu k).1 hf)).1 rfl
            have hsm : Hid (∀ (W : World) (S : List (Value × List Nat)) (v : Value), (v, zs) ∈ S → TKs w W P 200000 zs S → Calls Tryz.prog 18 #[.pointer (some ⟨P, 0, none⟩), v] W fun e w' => e = .returned (.bool true) ∧ TKs w w' P 200000 zs S) := Lib.hid (fun W S v hm h => HSAME.out W P zs S v (by omega) hm h)
            have HUZ := Lib.hid (show K.Up zs ∧ ∀ x ∈ zs, x < 18446744073709551616 from ⟨hzu, fun x hx => HU.out.2 x ((hzm x).1 hx).2⟩)
            have HZL := Lib.hid hzl
            replace hdrop := Lib.hid hdrop
            have hd1 : Hid (∀ (W : World) (S : List (Value × List Nat)), TKs w W P 200000 ys S → Calls Tryz.prog 26 #[.pointer (some ⟨P, 0, none⟩), .int .u64 (k : Int)] W fun e w' => e = .returned (.int .i64 0) ∧ TKs w w' P 200000 zs S) := Lib.hid (fun W S h => tks_delete h k hzk hfk hzs)
            have hd2 : Hid (∀ (W : World) (S : List (Value × List Nat)), TKs w W P 200000 zs S → Calls Tryz.prog 26 #[.pointer (some ⟨P, 0, none⟩), .int .u64 (k : Int)] W fun e w' => e = .returned (.int .i64 3) ∧ TKs w w' P 200000 zs S) := Lib.hid (fun W S h => tks_delete_no h k hzk hnk)
            have hh := Lib.hid (fun (W : World) (S : List (Value × List Nat)) (h : TKs w W P 200000 zs S) => tks_has h k hzk hnk)
            clear hzk hfk hzu hzl hzm hzs hnk hkm
            go_wp2_with (first
            | (go_at_call 25; (with_reducible refine hdrop.out.mono ?_); rintro e w2 ⟨v2, rfl, hk2, hb2, hv2⟩; have HT2 := Lib.hid (HT.out.klp (List.mem_cons_self ..) hk2 hb2 hv2); clear hk2 hb2 hv2)
            | (go_at_call 26; (with_reducible refine (hd1.out w2 _ HT2.out).mono ?_); rintro e w3 ⟨rfl, h3⟩; have HT3 := Lib.hid h3; clear h3)
            | (go_at_call 26; (with_reducible refine (hd2.out w3 _ HT3.out).mono ?_); rintro e w4 ⟨rfl, h4⟩; have HT4 := Lib.hid h4; clear h4)
            | (go_at_call 27; (with_reducible refine (hh.out w4 _ HT4.out).mono ?_); rintro e w5 ⟨rfl, h5⟩; have HT5 := Lib.hid h5; clear h5)
            | (go_at_call 18; (with_reducible refine (hsm.out w5 _ _ (List.mem_cons_self ..) HT5.out).mono ?_); rintro e w6 ⟨rfl, h6⟩; have HT6 := Lib.hid (h6.less (S' := [(v2, zs)]) fun p hp => by simp at hp ⊢; simp [hp]); clear h6))
            go_roundw
            case rel => exact ⟨i + 1, zs, by have := HZL.out; omega, by go_num, HUZ, HT6⟩
            case measure => simp [intOf]; have := HZL.out; omega
          · have b2 : decide ((i : Int) < (bs.length : Int)) = false := decide_eq_false (by omega)
            have gp : (0 : Int) < (ys.length : Int) := by omega
            have hcell := tks_cell HT.out (List.mem_cons_self ..) (List.getElem?_eq_getElem hm)
            have hkm : ys[0] ∈ ys := List.getElem_mem hm
            generalize ys[0] = k at *
            have hzk : k < 18446744073709551616 := HU.out.2 k hkm
            have hfk : K.fo ys k = true := (K.fo_mem HU.out.1 k).2 hkm
            have hzu := K.drop_up HU.out.1 k
            have hzl := T.drop_len HU.out.1 hkm
            have hzm := K.drop_mem HU.out.1 k
            have hdrop := k_drop wr _ ys HKV.out (by omega) k
            obtain ⟨zs, hzs⟩ : ∃ zs, K.drop ys k = zs := ⟨_, rfl⟩
            rw [hzs] at hzu hzl hzm hdrop
            have hnk : K.fo zs k = false := by rw [Bool.eq_false_iff]; exact fun hf => ((hzm k).1 ((K.fo_mem hzu k).1 hf)).1 rfl
            have hsm : Hid (∀ (W : World) (S : List (Value × List Nat)) (v : Value), (v, zs) ∈ S → TKs w W P 200000 zs S → Calls Tryz.prog 18 #[.pointer (some ⟨P, 0, none⟩), v] W fun e w' => e = .returned (.bool true) ∧ TKs w w' P 200000 zs S) := Lib.hid (fun W S v hm h => HSAME.out W P zs S v (by omega) hm h)
            have HUZ := Lib.hid (show K.Up zs ∧ ∀ x ∈ zs, x < 18446744073709551616 from ⟨hzu, fun x hx => HU.out.2 x ((hzm x).1 hx).2⟩)
            have HZL := Lib.hid hzl
            replace hdrop := Lib.hid hdrop
            have hd1 : Hid (∀ (W : World) (S : List (Value × List Nat)), TKs w W P 200000 ys S → Calls Tryz.prog 26 #[.pointer (some ⟨P, 0, none⟩), .int .u64 (k : Int)] W fun e w' => e = .returned (.int .i64 0) ∧ TKs w w' P 200000 zs S) := Lib.hid (fun W S h => tks_delete h k hzk hfk hzs)
            have hd2 : Hid (∀ (W : World) (S : List (Value × List Nat)), TKs w W P 200000 zs S → Calls Tryz.prog 26 #[.pointer (some ⟨P, 0, none⟩), .int .u64 (k : Int)] W fun e w' => e = .returned (.int .i64 3) ∧ TKs w w' P 200000 zs S) := Lib.hid (fun W S h => tks_delete_no h k hzk hnk)
            have hh := Lib.hid (fun (W : World) (S : List (Value × List Nat)) (h : TKs w W P 200000 zs S) => tks_has h k hzk hnk)
            clear hzk hfk hzu hzl hzm hzs hnk hkm
            go_wp2_with (first
            | (go_at_call 25; (with_reducible refine hdrop.out.mono ?_); rintro e w2 ⟨v2, rfl, hk2, hb2, hv2⟩; have HT2 := Lib.hid (HT.out.klp (List.mem_cons_self ..) hk2 hb2 hv2); clear hk2 hb2 hv2)
            | (go_at_call 26; (with_reducible refine (hd1.out w2 _ HT2.out).mono ?_); rintro e w3 ⟨rfl, h3⟩; have HT3 := Lib.hid h3; clear h3)
            | (go_at_call 26; (with_reducible refine (hd2.out w3 _ HT3.out).mono ?_); rintro e w4 ⟨rfl, h4⟩; have HT4 := Lib.hid h4; clear h4)
            | (go_at_call 27; (with_reducible refine (hh.out w4 _ HT4.out).mono ?_); rintro e w5 ⟨rfl, h5⟩; have HT5 := Lib.hid h5; clear h5)
            | (go_at_call 18; (with_reducible refine (hsm.out w5 _ _ (List.mem_cons_self ..) HT5.out).mono ?_); rintro e w6 ⟨rfl, h6⟩; have HT6 := Lib.hid (h6.less (S' := [(v2, zs)]) fun p hp => by simp at hp ⊢; simp [hp]); clear h6))
            go_roundw
            case rel => exact ⟨i + 1, zs, by have := HZL.out; omega, by go_num, HUZ, HT6⟩
            case measure => simp [intOf]; have := HZL.out; omega
end
end Go.Proofs.YtihnjcljheghgaaGreat
end
section
namespace Go.Proofs.YtihnjcljheghgaaGreat
open Go.RowKit Go.Shelf
theorem kx_rwY {w : World} {v : Value} {xs : List Nat} (h : KX w v xs) : ∃ A c, v = .slice A xs.length c ∧ Rw w w.heap.size A xs := by
  obtain ⟨A, c, h1, h2, _⟩ := Rw.of_own (h : w.ownsRow 0 22 1 v xs.length (wv xs))
  exact ⟨A, c, h1, h2⟩
section
variable {w W W' : World} {P lim : Nat} {l : Bk.BL} {S : List (Value × List Nat)}
theorem TYs.less (h : TYs w W P lim l S) {S' : List (Value × List Nat)} (hs : ∀ p ∈ S', p ∈ S) : TYs w W P lim l S' := by
  obtain ⟨tk, O, hT, hb, hO, hS⟩ := h
  exact ⟨tk, O, hT, hb, hO, fun p hp => hS p (hs p hp)⟩
theorem TYs.below (h : TYs w W P lim l S) (hb : Below W.heap.size W W') : TYs w W' P lim l S := by
  obtain ⟨tk, O, hT, hb0, hO, hS⟩ := h
  exact ⟨tk, O, hT.below hb, hb0.trans (hb.mono hb0.size), hO, fun p hp => ⟨(hS p hp).1.below hb, (hS p hp).2⟩⟩
theorem TYs.drewN (h : TYs w W P lim l S) (n : Nat) : TYs w (W.drewN n) P lim l S := h.below (⟨rfl, rfl, rfl, Nat.le_refl _, fun _ _ => rfl⟩)
theorem tys_all (h : TYs w W P lim l S) (m : Nat) (hm : 0 < m) (hm2 : m ≤ 1000000) (hl : (Bk.keys l).length ≤ 100000000) :
    Calls Tryz.prog 20 #[.pointer (some ⟨P, 0, none⟩), .int .i64 (m : Int)] W fun e w' => ∃ v, e = .returned v ∧ TYs w w' P lim l ((v, (Bk.keys l).take m) :: S) := by
  obtain ⟨tk, O, hT, hb, hO, hS⟩ := h
  obtain ⟨M, X, T, Q, rs, es, ns, fs, G, BL, hYT, hI, hok, hu⟩ := hT
  obtain ⟨OX, r, c, seed, Qt, Mt, n, pr, An, cn, Af, cf, hB, rfl⟩ := hYT
  refine (all_lawY W hB hI hok m hm hm2 hl).mono ?_
  rintro e w' ⟨v, rfl, hk, hvn, hbut, Qt', n', p', hB', hq⟩
  have hTO : ∀ j, Hs.TF T Qt Mt j → YW P M T Q Qt Mt OX An Af j := fun j hj => .inr (.inr (.inr (.inl hj)))
  have hO' := tabs_yk (P := P) (M := M) (T := T) (Q := Q) (Mt := Mt) (OX := OX) (An := An) (Af := Af) (B := W.heap.size) hq (Nat.le_refl _)
  have hYT' : YT w' P M X T Q lim tk ((Bk.keys l).length : Int) rs es ns fs G (YW P M T Q Qt' Mt OX An Af) := ⟨OX, r, c, seed, Qt', Mt, n', p', An, cn, Af, cf, hB', rfl⟩
  have hws := hb.size
  refine ⟨v, rfl, tk, _, ⟨M, X, T, Q, rs, es, ns, fs, G, BL, hYT', hI, hok, hu⟩, hb.trans (hbut.below hws (fun j hj => hO j (hTO j hj))), fun j hj => ?_, fun p hp => ?_⟩
  · rcases hO' j hj with h1 | h1
    · exact hO j h1
    · omega
  · rcases List.mem_cons.1 hp with rfl | hp
    · refine ⟨hk, fun g hg ho => ?_⟩
      obtain ⟨A, c', hv⟩ := K.own_form hk
      dsimp only at hg hk
      rw [hv] at hg hk
      have hf := hYT'.kfree_kx (x := ⟨0, A, _, c', 0, 0⟩) hk
      refine hf.2 g ?_ ho
      cases A with
      | none => simp [Value.ownBlock] at hg
      | some a => simpa [Value.ownBlock] using hg
    · obtain ⟨h1, h2⟩ := hS p hp
      refine ⟨hbut.own h1 (fun g hg hr => h2 g hg (hTO g hr)), fun g hg ho => ?_⟩
      rcases hO' g ho with h3 | h3
      · exact h2 g hg h3
      · have := (own_ltG h1 hg).1
        omega
set_option maxHeartbeats 1000000 in
theorem tys_same (h : TYs w W P lim l S) (v : Value) (ys : List Nat) (hm : (v, ys) ∈ S) (hys : Bk.keys l = ys) (hl : ys.length ≤ 100000) :
    Calls Tryz.prog 18 #[.pointer (some ⟨P, 0, none⟩), v] W fun e w' => e = .returned (.bool true) ∧ TYs w w' P lim l S := by
  have hall := tys_all h 100000 (by omega) (by omega) (by rw [hys]; omega)
  rw [List.take_of_length_le (by rw [hys]; exact hl), hys] at hall
  have HALL : Hid (Calls Tryz.prog 20 #[.pointer (some ⟨P, 0, none⟩), .int .i64 100000] W fun e w' => ∃ v, e = .returned v ∧ TYs w w' P lim l ((v, ys) :: S)) := Lib.hid hall
  obtain ⟨A', c', hv, _⟩ := kx_rwY (h.kx hm)
  subst hv
  have hsk := Lib.hid (fun (W : World) (A : Option Addr) (c : Nat) (h1 : Rw W W.heap.size A ys) (h2 : Rw W W.heap.size A' ys) => ref_samekeys A A' c c' ys ys W _ _ h1 h2 (by omega) (by omega))
  rw [show decide (ys = ys) = true from decide_eq_true rfl] at hsk
  have hlen := Lib.hid (fun (W : World) (S : List (Value × List Nat)) (h : TYs w W P lim l S) => tys_len h)
  rw [hys] at hlen
  have hrw := Lib.hid (fun (W : World) (S : List (Value × List Nat)) (h : TYs w W P lim l S) (hm : (Value.slice A' ys.length c', ys) ∈ S) => show Rw W W.heap.size A' ys from by
    obtain ⟨A2, c2, e, h⟩ := kx_rwY (h.kx hm)
    injection e with e1 _ _
    exact e1 ▸ h)
  have HM := Lib.hid hm
  have hll : ((ys.length : Int) == (ys.length : Int)) = true := by simp
  clear h hall hm
  go_enter Tryz.func18, Tryz.ntmps18
  go_wp2_with (first
    | (go_at_call 20; (with_reducible refine HALL.out.mono ?_); rintro e w1 ⟨v1, rfl, h1⟩; obtain ⟨A1, c1, rfl, hr1⟩ := kx_rwY (h1.kx (List.mem_cons_self ..)); have H1 := Lib.hid h1; have HR1 := Lib.hid hr1; have HR2 := Lib.hid (hrw.out _ _ h1 (List.mem_cons_of_mem _ HM.out)); clear h1 hr1)
    | (go_at_call 19; (with_reducible refine (hsk.out w1 A1 c1 HR1.out HR2.out).mono ?_); rintro e w2 ⟨rfl, n2, rfl⟩; have H2 := Lib.hid (H1.out.drewN n2))
    | (go_at_call 33; (with_reducible refine (hlen.out _ _ H2.out).mono ?_); rintro e w3 ⟨rfl, rfl⟩))
  go_ret
  exact ⟨rfl, H2.out.less (fun p hp => List.mem_cons_of_mem _ hp)⟩
end
/-- law.same's contract, as YfastEmpties wants it. -/
theorem same_tks (w W : World) (P : Nat) (zs : List Nat) (S : List (Value × List Nat)) (v : Value) (hl : zs.length ≤ 60) (hm : (v, zs) ∈ S) (h : TKs w W P 200000 zs S) :
    Calls Tryz.prog 18 #[.pointer (some ⟨P, 0, none⟩), v] W fun e w' => e = .returned (.bool true) ∧ TKs w w' P 200000 zs S := by
  obtain ⟨l, hk, h⟩ := h
  exact (tys_same h v zs hm hk (by omega)).mono fun e w' ⟨he, h1⟩ => ⟨he, l, hk, h1⟩
section
variable (A : Option Addr) (cp : Nat) (l : List Nat) (Ab : Option Addr) (cb : Nat) (bs : List Nat) (w : World) (sd : Nat) (hr : Rw w w.heap.size A l) (hl : l.length ≤ 9223372036854775807) (hx : ∀ x ∈ l, x < 18446744073709551616) (hrb : Rby w w.heap.size Ab bs) (hlb : bs.length ≤ 9223372036854775807) (hxb : ∀ x ∈ bs, x < 256)
include hr hl hx hrb hlb hxb
theorem law_empties : Calls Tryz.prog 4 #[.int .u64 (sd : Int), .slice A l.length cp, .slice Ab bs.length cb] w fun e w' => e = .returned (.bool true) ∧ Below w.heap.size w w' :=
  law_emptiesY A cp l Ab cb bs w sd hr hl hx hrb hlb hxb (fun W P zs S v h1 h2 h3 => same_tks w W P zs S v h1 h2 h3)
end
end Go.Proofs.YtihnjcljheghgaaGreat
end
