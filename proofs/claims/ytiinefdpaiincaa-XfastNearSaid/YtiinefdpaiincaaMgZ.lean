/- The law XfastEmpties, walked (written out of U42). Shared; Each over a rising list that fits; the texts walked. How many bits two keys have alike: the law's own 'shared' of a list of one; the text walked. The key beside one that isn't there has its longest prefix; what XfastNear asks of a trie and its lists. What XfastNear asks of a trie: Shared, told by the keys beside. The law XfastNear, walked. The law XfastNear: a key that isn't there; the text walked. -/
import Derived.Deep.CutRange
import Derived.Test.YtiinefdpaiincaaMxX22
import Derived.Test.YtiinefdpaiincaaMxRbY
section
namespace Go.Proofs.Ytiinefdpaiincaa
open Go.RowKit
namespace K
theorem up_take {xs : List Nat} (h : Up xs) (j : Nat) : Up (xs.take j) := List.Pairwise.sublist (List.take_sublist j xs) h
theorem add_take {xs : List Nat} (h : Up xs) {j : Nat} (hj : j < xs.length) : add (xs.take j) xs[j] = xs.take (j + 1) := by
  refine T.up_ext (add_up (up_take h j) _) (up_take h (j + 1)) fun x => ?_
  rw [add_mem (up_take h j), List.take_succ_eq_append_getElem hj, List.mem_append, List.mem_singleton]
  exact or_comm
theorem in_fit {lim k : Nat} {xs m : List Nat} (hf : fo xs k = false) (hm : add xs k = m) (hn : xfast m ≤ lim) : inE xfast xs lim k = 0 ∧ inL xfast xs lim k = m := by
  have hnl : ¬ lim < xfast m := by omega
  unfold inE inL
  rw [hm, if_neg (by rw [hf]; simp), if_neg hnl, if_neg (by rw [hf]; simp), if_neg hnl]
  exact ⟨rfl, rfl⟩
theorem fo_take {xs : List Nat} (h : Up xs) {j : Nat} (hj : j < xs.length) : fo (xs.take j) xs[j] = false := by
  rw [Bool.eq_false_iff]
  intro hf
  have h1 := (fo_mem (up_take h j) _).1 hf
  obtain ⟨i, hi, e⟩ := List.mem_take_iff_getElem.1 h1
  have := up_lt (i := i) (j := j) h (by omega) hj
  omega
end K
section
variable {w W : World} {P lim : Nat} {xs : List Nat} {S : List (Value × List Nat)}
theorem tks_cell {w W : World} {P lim : Nat} {xs l : List Nat} {S : List (Value × List Nat)} (h : TKs w W P lim xs S) {g n c : Nat} (hm : (Value.slice (some ⟨g, 0, none⟩) n c, l) ∈ S) {j z : Nat} (hj : l[j]? = some z) : W.cell? ⟨g, j, none⟩ = some (.int .u64 (z : Int)) := by
  obtain ⟨hj1, hj2⟩ := List.getElem?_eq_some_iff.1 hj
  rcases (h.kx hm).form with ⟨e, _⟩ | ⟨g', c', e, _, _, hc⟩
  · cases e
  · cases e
    rw [← hj2]
    exact hc j hj1
theorem tks_insert (h : TKs w W P lim xs S) (k : Nat) (hk : k < 18446744073709551616) {a : Nat} {ys : List Nat} (e1 : K.inE K.xfast xs lim k = a) (e2 : K.inL K.xfast xs lim k = ys) :
    Calls Try.prog 21 #[.pointer (some ⟨P, 0, none⟩), .int .u64 (k : Int)] W fun e w' => e = .returned (.int .i64 (a : Int)) ∧ TKs w w' P lim ys S := by
  subst e1 e2
  exact h.op fun tk O hT => xz_tc.insert W P xs lim tk O hT k hk
theorem tks_delete (h : TKs w W P lim xs S) (k : Nat) (hk : k < 18446744073709551616) {a : Nat} {ys : List Nat} (e1 : (if K.fo xs k then 0 else 3 : Nat) = a) (e2 : K.drop xs k = ys) :
    Calls Try.prog 23 #[.pointer (some ⟨P, 0, none⟩), .int .u64 (k : Int)] W fun e w' => e = .returned (.int .i64 (a : Int)) ∧ TKs w w' P lim ys S := by
  subst e1 e2
  exact h.op fun tk O hT => xz_tc.delete W P xs lim tk O hT k hk
theorem tks_has (h : TKs w W P lim xs S) (k : Nat) (hk : k < 18446744073709551616) {b : Bool} (e1 : K.fo xs k = b) :
    Calls Try.prog 24 #[.pointer (some ⟨P, 0, none⟩), .int .u64 (k : Int)] W fun e w' => e = .returned (.bool b) ∧ TKs w w' P lim xs S := by
  subst e1
  exact h.op fun tk O hT => xz_tc.has W P xs lim tk O hT k hk
theorem tks_min0 (h : TKs w W P lim [] S) : Calls Try.prog 25 #[.pointer (some ⟨P, 0, none⟩)] W fun e w' => e = .returned (.tuple #[.int .u64 0, .bool false]) ∧ TKs w w' P lim [] S :=
  h.op fun tk O hT => xz_tc.min W P [] lim tk O hT
theorem tks_max0 (h : TKs w W P lim [] S) : Calls Try.prog 26 #[.pointer (some ⟨P, 0, none⟩)] W fun e w' => e = .returned (.tuple #[.int .u64 0, .bool false]) ∧ TKs w w' P lim [] S := by
  have h1 := h.op (fun tk O hT => xz_tc.max W P [] lim tk O hT)
  rw [show K.pv [] 18446744073709551615 = 0 by simp [K.pv, K.fo, K.fi], show K.pvb [] 18446744073709551615 = false by simp [K.pvb, K.fo, K.fi]] at h1
  exact h1
theorem tks_used0 (h : TKs w W P lim [] S) : Calls Try.prog 12 #[.pointer (some ⟨P, 0, none⟩)] W fun e w' => e = .returned (.int .i64 0) ∧ TKs w w' P lim [] S := by
  have h1 := h.ask (fun tk O hT => xz_tc2.used W P [] lim tk O hT)
  rw [show K.xfast [] = 0 by decide] at h1
  exact h1
end
section
variable (A : Option Addr) (cp : Nat) (l : List Nat) (Ab : Option Addr) (cb : Nat) (bs : List Nat) (w : World) (sd : Nat) (hsd : sd < 18446744073709551616) (hr : Rw w w.heap.size A l) (hl : l.length ≤ 9223372036854775807) (hx : ∀ x ∈ l, x < 18446744073709551616) (hrb : Rby w w.heap.size Ab bs) (hlb : bs.length ≤ 9223372036854775807) (hxb : ∀ x ∈ bs, x < 256)
include hsd hr hl hx hrb hlb hxb
set_option maxHeartbeats 1000000 in
set_option maxRecDepth 100000 in
theorem law_empties :
    Calls Try.prog 4 #[.int .u64 (sd : Int), .slice A l.length cp, .slice Ab bs.length cb] w fun e w' => e = .returned (.bool true) ∧ Below w.heap.size w w' := by
  have haw := Lib.hid (law_awake xz_tc2 (by decide) (by decide) w)
  have hnew : Hid (∀ W : World, Below w.heap.size w W → Calls Try.prog 8 #[.int .u64 (sd : Int), .int .i64 200000] W fun e w' => ∃ P, e = .returned (.tuple #[.pointer (some ⟨P, 0, none⟩), .int .i64 0]) ∧ TKs w w' P 200000 [] []) := Lib.hid (fun W hW => tks_new hW sd hsd 200000 (by omega))
  have hwd : Hid (∀ (W : World) (P : Nat), TKs w W P 200000 [] [] → Calls Try.prog 20 #[.slice A l.length cp, .int .i64 60] W fun e w' => ∃ A' c', e = .returned (.slice A' (l.take 60).length c') ∧ TKs w w' P 200000 [] [(.slice A' (l.take 60).length c', l.take 60)]) := Lib.hid (fun W P h => tks_words h A cp l 60 hr hl (by omega))
  have hkl : (l.take 60).length ≤ 60 := List.length_take_le 60 l
  have hku : ∀ x ∈ l.take 60, x < 18446744073709551616 := fun x h => hx x (List.mem_of_mem_take h)
  have hup := T.off_up (l.take 60)
  have hmem2 : ∀ x ∈ K.off (l.take 60), x ∈ l.take 60 := fun x h => (T.off_mem _ x).1 h
  have hxl := K.off_le (l.take 60)
  have hLen := Lib.hid (rfl : l.length = l.length)
  generalize l.take 60 = ks at *
  have hof := Lib.hid (fun (W : World) (P : Nat) (A1 : Option Addr) (c1 : Nat) (h : TKs w W P 200000 [] [(.slice A1 ks.length c1, ks)]) => tks_of h (.slice A1 ks.length c1) ks (by simp) (by omega))
  obtain ⟨xs, hxs⟩ : ∃ xs, K.off ks = xs := ⟨_, rfl⟩
  rw [hxs] at hof hup hmem2 hxl
  have hxu : ∀ x ∈ xs, x < 18446744073709551616 := fun x h => hku x (hmem2 x h)
  obtain ⟨n, hn⟩ : ∃ n, xs.length = n := ⟨_, rfl⟩
  have hn60 : n ≤ 60 := by omega
  have HXU := Lib.hid (show K.Up xs ∧ ∀ x ∈ xs, x < 18446744073709551616 from ⟨hup, hxu⟩)
  have HN := Lib.hid hn
  rw [hn] at hof
  have HRB := Lib.hid hrb
  have HXB := Lib.hid hxb
  clear hr hx hsd hl hku hmem2 hxs hLen hxu hup hn hkl hxl hrb hxb
  go_enter Try.func4, Try.ntmps4
  go_wp2_with (first
    | (go_at_call 7; (with_reducible refine haw.out.mono ?_); rintro e w1 ⟨rfl, hb1⟩; have HB1 := Lib.hid hb1; clear hb1)
    | (go_at_call 8; (with_reducible refine (hnew.out w1 HB1.out).mono ?_); rintro e w2 ⟨P, rfl, h2⟩; have H2 := Lib.hid h2; clear h2)
    | (go_at_call 20; (with_reducible refine (hwd.out w2 P H2.out).mono ?_); rintro e w3 ⟨A1, c1, rfl, h3⟩; have H3 := Lib.hid h3; clear h3)
    | (go_at_call 19; (with_reducible refine (hof.out w3 P A1 c1 H3.out).mono ?_); rintro e w4 ⟨A2, c2, rfl, h4⟩; have H4 : Hid (TKs w w4 P 200000 (xs.take 0) [(.slice A2 n c2, xs)]) := Lib.hid (h4.less fun p hp => by simp at hp ⊢; simp [hp]); clear h4))
  go_loopw [31] (fun ix wr => ∃ (j : Nat), j ≤ n ∧ ix = .int .i64 (j : Int) ∧ Hid (TKs w wr P 200000 (xs.take j) [(.slice A2 n c2, xs)])) (fun ix _ => n - (intOf ix).toNat)
  case atStart => exact ⟨0, by omega, rfl, H4⟩
  case round =>
    obtain ⟨j, hj, rfl, HT⟩ := hrel
    clear H2 H3 H4
    rcases Nat.lt_or_ge j n with hjr | hjr
    · have hjk : j < xs.length := by rw [HN.out]; exact hjr
      have hkx := HT.out.kx (List.mem_cons_self ..)
      unfold KX at hkx
      rw [HN.out] at hkx
      obtain ⟨g, rfl⟩ := own_some hkx (by omega)
      have hcell := tks_cell HT.out (List.mem_cons_self ..) (List.getElem?_eq_getElem hjk)
      have hkl := HXU.out.2 xs[j] (List.getElem_mem hjk)
      have hfo := K.fo_take HXU.out.1 hjk
      have had := K.add_take HXU.out.1 hjk
      have htl := K.xfast_le (xs.take (j + 1))
      have htk : (xs.take (j + 1)).length ≤ j + 1 := List.length_take_le _ _
      generalize xs[j] = k at *
      obtain ⟨e1, e2⟩ := K.in_fit (lim := 200000) hfo had (by omega)
      have hins : Hid (∀ (W : World) (S : List (Value × List Nat)), TKs w W P 200000 (xs.take j) S → Calls Try.prog 21 #[.pointer (some ⟨P, 0, none⟩), .int .u64 (k : Int)] W fun e w' => e = .returned (.int .i64 0) ∧ TKs w w' P 200000 (xs.take (j + 1)) S) := Lib.hid (fun W S h => tks_insert h k hkl e1 e2)
      have gk : (j : Int) < (n : Int) := by omega
      have wj : IntKind.i64.wrap ((j : Int) + 1) = ((j + 1 : Nat) : Int) := by rw [IntWalk.i64_in _ (by omega)]; omega
      clear hkx hkl hfo had htl htk e1 e2 hjk haw hnew hwd hof
      go_wp2_with (go_at_call 21; (with_reducible refine (hins.out wr _ HT.out).mono ?_); rintro e w5 ⟨rfl, h5⟩; have H5 := Lib.hid h5; clear h5)
      go_roundw
      case rel => exact ⟨j + 1, by omega, by go_num, H5⟩
      case measure => simp [intOf]; omega
    · obtain rfl : j = n := by omega
      have g0 : decide ((j : Int) < (j : Int)) = false := decide_eq_false (by omega)
      have HS : Hid (TKs w wr P 200000 xs [(.slice A2 j c2, xs)]) := Lib.hid (by
        have h1 := HT.out
        rw [List.take_of_length_le (by rw [HN.out]; omega)] at h1
        exact h1)
      clear HT
      go_wp2
      go_loopw [9, 12] (fun v ix wr => ∃ (i : Nat) (ys : List Nat), i + ys.length = j ∧ ix = .int .i64 (i : Int) ∧ Hid (K.Up ys ∧ ∀ x ∈ ys, x < 18446744073709551616) ∧ Hid (TKs w wr P 200000 ys [(v, ys)])) (fun _ ix _ => j - (intOf ix).toNat)
      case atStart => exact ⟨0, xs, by have := HN.out; omega, rfl, HXU, HS⟩
      case round =>
        obtain ⟨i, ys, hi, rfl, HU, HT⟩ := hrel
        clear HS
        obtain ⟨v, hv⟩ : ∃ v, v = u9 := ⟨_, rfl⟩
        subst hv
        have hkv := HT.out.kx (List.mem_cons_self ..)
        obtain ⟨A0, c0, rfl, _⟩ := kx_rw hkv
        have HKV := Lib.hid hkv
        clear hkv haw hnew hwd hof
        rcases Nat.eq_zero_or_pos ys.length with hm | hm
        · obtain rfl : ys = [] := List.eq_nil_of_length_eq_zero hm
          have hmin := Lib.hid (fun (W : World) (S : List (Value × List Nat)) (h : TKs w W P 200000 [] S) => tks_min0 h)
          have hmax := Lib.hid (fun (W : World) (S : List (Value × List Nat)) (h : TKs w W P 200000 [] S) => tks_max0 h)
          have hus := Lib.hid (fun (W : World) (S : List (Value × List Nat)) (h : TKs w W P 200000 [] S) => tks_used0 h)
          clear hm
          go_wp2_with (first
            | (go_at_call 25; (with_reducible refine (hmin.out wr _ HT.out).mono ?_); rintro e x1 ⟨rfl, h1⟩; have X1 := Lib.hid h1; clear h1)
            | (go_at_call 26; (with_reducible refine (hmax.out x1 _ X1.out).mono ?_); rintro e x2 ⟨rfl, h2⟩; have X2 := Lib.hid h2; clear h2)
            | (go_at_call 12; (with_reducible refine (hus.out x2 _ X2.out).mono ?_); rintro e x3 ⟨rfl, h3⟩; have X3 := Lib.hid h3; clear h3))
          go_ret
          exact ⟨rfl, X3.out.low⟩
        · have hkx := HKV.out
          unfold KX at hkx
          obtain ⟨g, rfl⟩ := own_some hkx hm
          clear hkx
          have b1 : decide ((0 : Int) < (ys.length : Int)) = true := decide_eq_true (by omega)
          have wi : IntKind.i64.wrap ((i : Int) + 1) = ((i + 1 : Nat) : Int) := by rw [IntWalk.i64_in _ (by omega)]; omega
          have hm0 : (ys.length : Int) ≠ 0 := by omega
          rcases Nat.lt_or_ge i bs.length with hib | hib
          · obtain ⟨bb, ob, rfl, hcb⟩ := HRB.out.at HT.out.low hib
            have hob := HXB.out bs[i] (List.getElem_mem hib)
            generalize bs[i] = o at *
            obtain ⟨p, hp⟩ : ∃ p, o % ys.length = p := ⟨_, rfl⟩
            have hpl : p < ys.length := by rw [← hp]; exact Nat.mod_lt _ hm
            have b2 : decide ((i : Int) < (bs.length : Int)) = true := decide_eq_true (by omega)
            have gib : (i : Int) < (bs.length : Int) := by omega
            have q1 : (o : Int) % (ys.length : Int) = (p : Int) := by rw [← hp]; exact (Int.natCast_emod _ _).symm
            have q2 : (o : Int).tmod (ys.length : Int) = (p : Int) := by rw [Int.tmod_eq_emod_of_nonneg (by omega)]; exact q1
            have q3 : IntKind.i64.wrap (p : Int) = (p : Int) := IntWalk.i64_in _ (by omega)
            have q4 : IntKind.i64.wrap (o : Int) = (o : Int) := IntWalk.i64_in _ (by omega)
            have gp : (p : Int) < (ys.length : Int) := by omega
            have hcell := tks_cell HT.out (List.mem_cons_self ..) (List.getElem?_eq_getElem hpl)
            have hkm : ys[p] ∈ ys := List.getElem_mem hpl
            generalize ys[p] = k at *
            clear hp hpl hob
            have hzk : k < 18446744073709551616 := HU.out.2 k hkm
            have hfk : K.fo ys k = true := (K.fo_mem HU.out.1 k).2 hkm
            have hzu := K.drop_up HU.out.1 k
            have hzl := T.drop_len HU.out.1 hkm
            have hzm := K.drop_mem HU.out.1 k
            have hdrop := k_drop wr _ ys HKV.out (by omega) k
            obtain ⟨zs, hzs⟩ : ∃ zs, K.drop ys k = zs := ⟨_, rfl⟩
            rw [hzs] at hzu hzl hzm hdrop
            have hnk : K.fo zs k = false := by rw [Bool.eq_false_iff]; exact fun hf => ((hzm k).1 ((K.fo_mem hzu k).1 hf)).1 rfl
            have hnd : K.drop zs k = zs := by unfold K.drop; rw [if_neg (by rw [hnk]; simp)]
            have hsm : Hid (∀ (W : World) (S : List (Value × List Nat)) (v : Value), (v, zs) ∈ S → TKs w W P 200000 zs S → Calls Try.prog 15 #[.pointer (some ⟨P, 0, none⟩), v] W fun e w' => e = .returned (.bool true) ∧ TKs w w' P 200000 zs S) := Lib.hid (fun W S v hm h => by
              have := tks_same h v zs hm (by omega) (by omega)
              rw [decide_eq_true rfl] at this
              exact this)
            have HUZ := Lib.hid (show K.Up zs ∧ ∀ x ∈ zs, x < 18446744073709551616 from ⟨hzu, fun x hx => HU.out.2 x ((hzm x).1 hx).2⟩)
            have HZL := Lib.hid hzl
            replace hdrop := Lib.hid hdrop
            have hd1 : Hid (∀ (W : World) (S : List (Value × List Nat)), TKs w W P 200000 ys S → Calls Try.prog 23 #[.pointer (some ⟨P, 0, none⟩), .int .u64 (k : Int)] W fun e w' => e = .returned (.int .i64 0) ∧ TKs w w' P 200000 zs S) := Lib.hid (fun W S h => tks_delete h k hzk (if_pos hfk) hzs)
            have hd2 : Hid (∀ (W : World) (S : List (Value × List Nat)), TKs w W P 200000 zs S → Calls Try.prog 23 #[.pointer (some ⟨P, 0, none⟩), .int .u64 (k : Int)] W fun e w' => e = .returned (.int .i64 3) ∧ TKs w w' P 200000 zs S) := Lib.hid (fun W S h => tks_delete h k hzk (if_neg (by rw [hnk]; simp)) hnd)
            have hh := Lib.hid (fun (W : World) (S : List (Value × List Nat)) (h : TKs w W P 200000 zs S) => tks_has h k hzk hnk)
            clear hzk hfk hzu hzl hzm hzs hnk hnd hkm
            go_wp2_with (first
            | (go_at_call 22; (with_reducible refine hdrop.out.mono ?_); rintro e w2 ⟨v2, rfl, hk2, hb2, hv2⟩; have HT2 := Lib.hid (HT.out.klp (List.mem_cons_self ..) hk2 hb2 hv2); clear hk2 hb2 hv2)
            | (go_at_call 23; (with_reducible refine (hd1.out w2 _ HT2.out).mono ?_); rintro e w3 ⟨rfl, h3⟩; have HT3 := Lib.hid h3; clear h3)
            | (go_at_call 23; (with_reducible refine (hd2.out w3 _ HT3.out).mono ?_); rintro e w4 ⟨rfl, h4⟩; have HT4 := Lib.hid h4; clear h4)
            | (go_at_call 24; (with_reducible refine (hh.out w4 _ HT4.out).mono ?_); rintro e w5 ⟨rfl, h5⟩; have HT5 := Lib.hid h5; clear h5)
            | (go_at_call 15; (with_reducible refine (hsm.out w5 _ _ (List.mem_cons_self ..) HT5.out).mono ?_); rintro e w6 ⟨rfl, h6⟩; have HT6 := Lib.hid (h6.less (S' := [(v2, zs)]) fun p hp => by simp at hp ⊢; simp [hp]); clear h6))
            go_roundw
            case rel => exact ⟨i + 1, zs, by have := HZL.out; omega, by go_num, HUZ, HT6⟩
            case measure => simp [intOf]; have := HZL.out; omega
          · have b2 : decide ((i : Int) < (bs.length : Int)) = false := decide_eq_false (by omega)
            have gp : (0 : Int) < (ys.length : Int) := by omega
            have hcell := tks_cell HT.out (List.mem_cons_self ..) (List.getElem?_eq_getElem hm)
            have hkm : ys[0] ∈ ys := List.getElem_mem hm
            generalize ys[0] = k at *
            have hzk : k < 18446744073709551616 := HU.out.2 k hkm
            have hfk : K.fo ys k = true := (K.fo_mem HU.out.1 k).2 hkm
            have hzu := K.drop_up HU.out.1 k
            have hzl := T.drop_len HU.out.1 hkm
            have hzm := K.drop_mem HU.out.1 k
            have hdrop := k_drop wr _ ys HKV.out (by omega) k
            obtain ⟨zs, hzs⟩ : ∃ zs, K.drop ys k = zs := ⟨_, rfl⟩
            rw [hzs] at hzu hzl hzm hdrop
            have hnk : K.fo zs k = false := by rw [Bool.eq_false_iff]; exact fun hf => ((hzm k).1 ((K.fo_mem hzu k).1 hf)).1 rfl
            have hnd : K.drop zs k = zs := by unfold K.drop; rw [if_neg (by rw [hnk]; simp)]
            have hsm : Hid (∀ (W : World) (S : List (Value × List Nat)) (v : Value), (v, zs) ∈ S → TKs w W P 200000 zs S → Calls Try.prog 15 #[.pointer (some ⟨P, 0, none⟩), v] W fun e w' => e = .returned (.bool true) ∧ TKs w w' P 200000 zs S) := Lib.hid (fun W S v hm h => by
              have := tks_same h v zs hm (by omega) (by omega)
              rw [decide_eq_true rfl] at this
              exact this)
            have HUZ := Lib.hid (show K.Up zs ∧ ∀ x ∈ zs, x < 18446744073709551616 from ⟨hzu, fun x hx => HU.out.2 x ((hzm x).1 hx).2⟩)
            have HZL := Lib.hid hzl
            replace hdrop := Lib.hid hdrop
            have hd1 : Hid (∀ (W : World) (S : List (Value × List Nat)), TKs w W P 200000 ys S → Calls Try.prog 23 #[.pointer (some ⟨P, 0, none⟩), .int .u64 (k : Int)] W fun e w' => e = .returned (.int .i64 0) ∧ TKs w w' P 200000 zs S) := Lib.hid (fun W S h => tks_delete h k hzk (if_pos hfk) hzs)
            have hd2 : Hid (∀ (W : World) (S : List (Value × List Nat)), TKs w W P 200000 zs S → Calls Try.prog 23 #[.pointer (some ⟨P, 0, none⟩), .int .u64 (k : Int)] W fun e w' => e = .returned (.int .i64 3) ∧ TKs w w' P 200000 zs S) := Lib.hid (fun W S h => tks_delete h k hzk (if_neg (by rw [hnk]; simp)) hnd)
            have hh := Lib.hid (fun (W : World) (S : List (Value × List Nat)) (h : TKs w W P 200000 zs S) => tks_has h k hzk hnk)
            clear hzk hfk hzu hzl hzm hzs hnk hnd hkm
            go_wp2_with (first
            | (go_at_call 22; (with_reducible refine hdrop.out.mono ?_); rintro e w2 ⟨v2, rfl, hk2, hb2, hv2⟩; have HT2 := Lib.hid (HT.out.klp (List.mem_cons_self ..) hk2 hb2 hv2); clear hk2 hb2 hv2)
            | (go_at_call 23; (with_reducible refine (hd1.out w2 _ HT2.out).mono ?_); rintro e w3 ⟨rfl, h3⟩; have HT3 := Lib.hid h3; clear h3)
            | (go_at_call 23; (with_reducible refine (hd2.out w3 _ HT3.out).mono ?_); rintro e w4 ⟨rfl, h4⟩; have HT4 := Lib.hid h4; clear h4)
            | (go_at_call 24; (with_reducible refine (hh.out w4 _ HT4.out).mono ?_); rintro e w5 ⟨rfl, h5⟩; have HT5 := Lib.hid h5; clear h5)
            | (go_at_call 15; (with_reducible refine (hsm.out w5 _ _ (List.mem_cons_self ..) HT5.out).mono ?_); rintro e w6 ⟨rfl, h6⟩; have HT6 := Lib.hid (h6.less (S' := [(v2, zs)]) fun p hp => by simp at hp ⊢; simp [hp]); clear h6))
            go_roundw
            case rel => exact ⟨i + 1, zs, by have := HZL.out; omega, by go_num, HUZ, HT6⟩
            case measure => simp [intOf]; have := HZL.out; omega
end
end Go.Proofs.Ytiinefdpaiincaa
end
section
namespace Go.Proofs.Ytiinefdpaiincaa
open Go.RowKit
theorem run_sh (s : Int) (a b : Nat) (w : World) : (Instr.field 83 (spv s a b) 0).run Try.prog w = .ok (.int .i64 s) w := by kernel_rfl
set_option maxRecDepth 100000 in
set_option maxHeartbeats 2000000 in
theorem x_shared (w : World) (Xb C Q M P lim tk : Nat) (xs : List Nat) (L : LL) (es : Es) (O : Nat → Prop) (h : XS w Xb C Q M P lim tk xs L es O) (k : Nat) : Calls Try.prog 33 #[.pointer (some ⟨Xb, 0, none⟩), .int .u64 (k : Int)] w (TOp XZ w Xb O (.int .i64 ((X.sc L k : Int) - 1)) xs lim 7) := by
  have H := Lib.hid h
  have hst := Lib.hid h.xt.start
  have c0 := h.xt.c0
  have hsr := fun W O' (hW : XT W Xb C Q M P lim 0 L es O') => x_search W Xb C Q M P lim 0 L es O' hW (by omega) h.te h.xt.places k
  obtain ⟨s, hs⟩ : ∃ s : Int, (X.sc L k : Int) - 1 = s := ⟨_, rfl⟩
  rw [hs] at hsr ⊢
  generalize X.fst' (X.spl L k (X.sc L k)) = e1 at *
  generalize X.lst' (X.spl L k (X.sc L k)) = e2 at *
  have hsr := fun W O' hW => Lib.hid (hsr W O' hW)
  have hfl := fun W => run_sh s e1 e2 W
  clear h hs
  go_enter Try.func33, Try.ntmps33
  go_wp2_with (first
    | (go_at_call 44; (with_reducible refine hst.out.mono ?_); rintro e w1 ⟨rfl, O1, hT1, hC1, hI1⟩
       have HSR := Lib.hid ((hsr _ _ hT1).out)
       have HC1 := Lib.hid hC1
       have HI1 := Lib.hid hI1
       clear hT1 hC1 hI1)
    | (go_at_call 45; (with_reducible refine HSR.out.mono ?_); rintro e w2 ⟨rfl, t, ht, hx2⟩
       have HX2 : Hid (XR w O Xb C Q M P lim (0 + t) L es w2) := Lib.hid (XR.seq HC1.out HI1.out hx2)
       clear hx2))
  go_ret
  exact H.out.done HX2.out (by omega) (by omega) rfl
section
variable {w W : World} {P lim : Nat} {xs : List Nat} {S : List (Value × List Nat)}
set_option maxHeartbeats 1000000 in
theorem tks_each_all (h : TKs w W P lim [] S) (A : Option Addr) (c : Nat) (hm : (Value.slice A xs.length c, xs) ∈ S) (hu : K.Up xs) (hx : ∀ x ∈ xs, x < 18446744073709551616) (hl : xs.length ≤ 1000) (hlim : 66 * xs.length ≤ lim) :
    Calls Try.prog 31 #[.pointer (some ⟨P, 0, none⟩), .slice A xs.length c] W fun e w' => e = .returned (.int .i64 (xs.length : Int)) ∧ TKs w w' P lim xs S := by
  have HXU := Lib.hid (And.intro hu hx)
  obtain ⟨n, hn⟩ : ∃ n, xs.length = n := ⟨_, rfl⟩
  rw [hn] at hm hl hlim ⊢
  have HN := Lib.hid hn
  have HM := Lib.hid hm
  have H0 : Hid (TKs w W P lim (xs.take 0) S) := Lib.hid h
  clear h hu hx hm hn
  go_enter Try.func31, Try.ntmps31
  go_wp2
  go_loopw [5, 10] (fun acc ix wr => ∃ (j : Nat), j ≤ n ∧ acc = .int .i64 (j : Int) ∧ ix = .int .i64 (j : Int) ∧ Hid (TKs w wr P lim (xs.take j) S)) (fun _ ix _ => n - (intOf ix).toNat)
  case atStart => exact ⟨0, by omega, rfl, rfl, H0⟩
  case round =>
    obtain ⟨j, hj, rfl, rfl, HT⟩ := hrel
    clear H0
    rcases Nat.lt_or_ge j n with hjr | hjr
    · have hjk : j < xs.length := by rw [HN.out]; exact hjr
      have hkx := HT.out.kx HM.out
      unfold KX at hkx
      rw [HN.out] at hkx
      obtain ⟨g, rfl⟩ := own_some hkx (by omega)
      have hcell := tks_cell HT.out HM.out (List.getElem?_eq_getElem hjk)
      have hkl := HXU.out.2 xs[j] (List.getElem_mem hjk)
      have hfo := K.fo_take HXU.out.1 hjk
      have had := K.add_take HXU.out.1 hjk
      have htl := K.xfast_le (xs.take (j + 1))
      have htk : (xs.take (j + 1)).length ≤ j + 1 := List.length_take_le _ _
      generalize xs[j] = k at *
      obtain ⟨e1, e2⟩ := K.in_fit (lim := lim) hfo had (by omega)
      have hins : Hid (∀ (W : World), TKs w W P lim (xs.take j) S → Calls Try.prog 21 #[.pointer (some ⟨P, 0, none⟩), .int .u64 (k : Int)] W fun e w' => e = .returned (.int .i64 0) ∧ TKs w w' P lim (xs.take (j + 1)) S) := Lib.hid (fun W h => tks_insert h k hkl e1 e2)
      have gk : (j : Int) < (n : Int) := by omega
      have wj : IntKind.i64.wrap ((j : Int) + 1) = ((j + 1 : Nat) : Int) := by rw [IntWalk.i64_in _ (by omega)]; omega
      clear hkx hkl hfo had htl htk e1 e2 hjk
      go_wp2_with (go_at_call 21; (with_reducible refine (hins.out wr HT.out).mono ?_); rintro e w5 ⟨rfl, h5⟩; have H5 := Lib.hid h5; clear h5)
      go_roundw
      case rel => exact ⟨j + 1, by omega, by go_num, by go_num, H5⟩
      case measure => simp [intOf]; omega
    · obtain rfl : j = n := by omega
      have g0 : decide ((j : Int) < (j : Int)) = false := decide_eq_false (by omega)
      have HS : Hid (TKs w wr P lim xs S) := Lib.hid (by
        have h1 := HT.out
        rw [List.take_of_length_le (by rw [HN.out]; omega)] at h1
        exact h1)
      clear HT
      go_wp2
      go_ret
      exact ⟨rfl, HS.out⟩
end
end Go.Proofs.Ytiinefdpaiincaa
end
section
namespace Go.Proofs.Ytiinefdpaiincaa
open Go.RowKit
/-- n is how many bits ahead a and k have alike. -/
def Alike (a k n : Nat) : Prop := n ≤ 64 ∧ X.pf n a = X.pf n k ∧ (n = 64 ∨ X.pf (n + 1) a ≠ X.pf (n + 1) k)
set_option maxHeartbeats 1000000 in
theorem law_shared_one (w : World) (g c a k : Nat) (ha : a < 18446744073709551616) (hk : k < 18446744073709551616) (hcell : w.cell? ⟨g, 0, none⟩ = some (.int .u64 (a : Int))) :
    Calls Try.prog 34 #[.slice (some ⟨g, 0, none⟩) 1 c, .int .u64 (k : Int)] w fun e w' => (∃ n : Nat, e = .returned (.int .i64 (n : Int)) ∧ Alike a k n) ∧ Below w.heap.size w w' := by
  go_enter Try.func34, Try.ntmps34
  go_wp2
  go_loopw [5, 11] (fun best ix wr => (ix = .int .i64 0 ∧ best = .int .i64 (-1) ∨ ix = .int .i64 1 ∧ ∃ n : Nat, best = .int .i64 (n : Int) ∧ Hid (Alike a k n)) ∧ ∃ q, wr = w.drewN q) (fun _ ix _ => 1 - (intOf ix).toNat)
  case atStart => exact ⟨.inl ⟨rfl, rfl⟩, 0, rfl⟩
  case round =>
    obtain ⟨⟨rfl, rfl⟩ | ⟨rfl, n, rfl, hA⟩, q, rfl⟩ := hrel
    · go_wp2
      go_loopw [8] (fun vn wr => ∃ n : Nat, vn = .int .i64 (n : Int) ∧ n ≤ 64 ∧ Hid (X.pf n a = X.pf n k) ∧ ∃ q, wr = w.drewN q) (fun vn _ => 64 - (intOf vn).toNat)
      case atStart => exact ⟨0, rfl, by omega, Lib.hid (by unfold X.pf; rw [Nat.div_eq_of_lt (by simpa using ha), Nat.div_eq_of_lt (by simpa using hk)]), q, rfl⟩
      case round =>
        obtain ⟨n, rfl, hn, hE, q, rfl⟩ := hrel
        rcases Nat.lt_or_ge n 64 with hn64 | hn64
        · have g1 : decide ((n : Int) < 64) = true := decide_eq_true (by omega)
          have g1' : (n : Int) < 64 := by omega
          have ws : IntKind.i64.wrap (63 - (n : Int)) = 63 - (n : Int) := IntWalk.i64_in _ (by omega)
          have wn : IntKind.i64.wrap ((n : Int) + 1) = ((n + 1 : Nat) : Int) := by rw [IntWalk.i64_in _ (by omega)]; rfl
          have e1 : (a : Int) / 2 ^ (63 - n) = ((X.pf (n + 1) a : Nat) : Int) := by unfold X.pf; rw [show 64 - (n + 1) = 63 - n by omega]; push_cast; rfl
          have e2 : (k : Int) / 2 ^ (63 - n) = ((X.pf (n + 1) k : Nat) : Int) := by unfold X.pf; rw [show 64 - (n + 1) = 63 - n by omega]; push_cast; rfl
          obtain ⟨p1, hp1⟩ : ∃ p, X.pf (n + 1) a = p := ⟨_, rfl⟩
          obtain ⟨p2, hp2⟩ : ∃ p, X.pf (n + 1) k = p := ⟨_, rfl⟩
          rw [hp1] at e1
          rw [hp2] at e2
          have HP := Lib.hid (And.intro hp1 hp2)
          clear hp1 hp2
          have hns : ¬ 63 - (n : Int) < 0 := by omega
          by_cases hpp : p1 = p2
          · have g2 : ((p1 : Int) == (p2 : Int)) = true := by rw [beq_iff_eq]; omega
            have HE2 : Hid (X.pf (n + 1) a = X.pf (n + 1) k) := Lib.hid (by rw [HP.out.1, HP.out.2, hpp])
            clear hpp
            go_wp2
            go_region
            all_goals
              go_wp2
              go_roundw
              case rel => exact ⟨n + 1, rfl, by omega, HE2, _, rfl⟩
              case measure => simp only [intOf]; omega
          · have g2 : ((p1 : Int) == (p2 : Int)) = false := by rw [beq_eq_false_iff_ne]; omega
            have HE2 : Hid (X.pf (n + 1) a ≠ X.pf (n + 1) k) := Lib.hid (by rw [HP.out.1, HP.out.2]; exact hpp)
            have HA : Hid (Alike a k n) := Lib.hid ⟨hn, hE.out, .inr HE2.out⟩
            have hm : max (-1 : Int) (n : Int) = (n : Int) := by omega
            clear hpp
            go_wp2
            go_region
            all_goals
              go_wp2
              go_roundw
              case rel => exact ⟨.inr ⟨rfl, n, rfl, HA⟩, _, rfl⟩
              case measure => simp [intOf]
        · have g1 : decide ((n : Int) < 64) = false := decide_eq_false (by omega)
          have g1' : ¬ (n : Int) < 64 := by omega
          have HA : Hid (Alike a k n) := Lib.hid ⟨hn, hE.out, .inl (by omega)⟩
          have hm : max (-1 : Int) (n : Int) = (n : Int) := by omega
          go_wp2
          go_region
          all_goals
            go_wp2
            go_roundw
            case rel => exact ⟨.inr ⟨rfl, n, rfl, HA⟩, _, rfl⟩
            case measure => simp [intOf]
    · go_wp2
      go_ret
      exact ⟨⟨n, rfl, hA.out⟩, below_draws w _⟩
end Go.Proofs.Ytiinefdpaiincaa
end
section
namespace Go.Proofs.Ytiinefdpaiincaa
open Go.RowKit
theorem Alike.one {a k n s : Nat} (h : Alike a k n) (h2 : Alike a k s) : n = s := by
  obtain ⟨a1, a2, a3⟩ := h
  obtain ⟨b1, b2, b3⟩ := h2
  rcases Nat.lt_trichotomy n s with hl | he | hg
  · rcases a3 with a3 | a3
    · omega
    · exact absurd (X.pf_up (l := n + 1) (m := s) (by omega) b1 b2) a3
  · exact he
  · rcases b3 with b3 | b3
    · omega
    · exact absurd (X.pf_up (l := s + 1) (m := n) (by omega) a1 a2) b3
namespace X
theorem same_link {L : LL} (hn : (L.map (·.1)).Nodup) {x y : Nat × Nat} (hx : x ∈ L) (hy : y ∈ L) (e : x.1 = y.1) : x = y := by
  induction L with
  | nil => cases hx
  | cons z L ih =>
    rw [List.map_cons, List.nodup_cons] at hn
    rcases List.mem_cons.1 hx with ex | hx'
    · rcases List.mem_cons.1 hy with ey | hy'
      · rw [ex, ey]
      · exact (hn.1 (List.mem_map.2 ⟨y, hy', by rw [← e, ex]⟩)).elim
    · rcases List.mem_cons.1 hy with ey | hy'
      · exact (hn.1 (List.mem_map.2 ⟨x, hx', by rw [e, ey]⟩)).elim
      · exact ih hn.2 hx' hy'
theorem near_alike {L1 L2 : LL} {k s : Nat} (hr : Rises (L1 ++ L2)) (hn : ((L1 ++ L2).map (·.1)).Nodup) (h1 : ∀ x ∈ L1, x.2 < k) (h2 : ∀ x ∈ L2, k < x.2) (hs : sc (L1 ++ L2) k = s + 1) (hs63 : s ≤ 63) :
    (∃ n q L, L2 = (n, q) :: L ∧ Alike q k s) ∨ ∃ n q L, L1 = L ++ [(n, q)] ∧ Alike q k s := by
  obtain ⟨n0, n1⟩ := near_cases hr h1 h2 hs hs63
  have hsg := sc_yes (L := L1 ++ L2) (k := k) (l := s) (by omega)
  have hno := sc_no (L := L1 ++ L2) (k := k) (l := s + 1) (by omega) (by omega)
  have fin : ∀ (n q : Nat), (n, q) ∈ L1 ++ L2 → (∃ x ∈ sg (L1 ++ L2) s (pf s k), x.1 = n) → Alike q k s := by
    rintro n q hm ⟨x, hx, e⟩
    obtain ⟨m1, m2⟩ := mem_sg.1 hx
    have e2 : x = (n, q) := same_link hn m1 hm e
    subst e2
    refine ⟨by omega, m2, .inr fun h => ?_⟩
    have : (n, q) ∈ sg (L1 ++ L2) (s + 1) (pf (s + 1) k) := mem_sg.2 ⟨hm, h⟩
    rw [hno] at this
    cases this
  by_cases hev : pf (s + 1) k % 2 = 0
  · obtain ⟨hne, hf⟩ := n0 hev
    obtain ⟨n, q, L, rfl, he⟩ := first_of (b := -1) hne
    obtain ⟨x, hx, e⟩ := fst_mem hsg
    exact .inl ⟨n, q, L, rfl, fin n q (by simp) ⟨x, hx, by omega⟩⟩
  · obtain ⟨hne, hf⟩ := n1 hev
    obtain ⟨n, q, L, rfl, he⟩ := last_of (a := -1) hne
    obtain ⟨x, hx, e⟩ := lst_mem' hsg
    exact .inr ⟨n, q, L, rfl, fin n q (by simp) ⟨x, hx, by omega⟩⟩
end X
end Go.Proofs.Ytiinefdpaiincaa
end
section
namespace Go.Proofs.Ytiinefdpaiincaa
open Go.RowKit
section
variable {w W : World} {P lim : Nat} {xs : List Nat} {S : List (Value × List Nat)}
theorem tks_shared (h : TKs w W P lim xs S) (k : Nat) (hk : k < 18446744073709551616) (hf : K.fo xs k = false) (hne : xs ≠ []) :
    Calls Try.prog 33 #[.pointer (some ⟨P, 0, none⟩), .int .u64 (k : Int)] W fun e w' => ∃ s : Nat, e = .returned (.int .i64 (s : Int)) ∧ ((K.nxb xs k = true ∧ Alike (K.nx xs k) k s) ∨ (K.pvb xs k = true ∧ Alike (K.pv xs k) k s)) ∧ TKs w w' P lim xs S := by
  obtain ⟨tk, O, ⟨C, Q, M, Pt, L, es, hx⟩, hb, hO, hS⟩ := h
  obtain ⟨L1, L2, hL, h1, h2, hl, _⟩ := X.part_no hx.ks hx.up hf
  subst hL
  have hsc : X.sc (L1 ++ L2) k ≠ 65 := fun e => by rw [(X.fo_sc hx.ks hx.up k).2 e] at hf; cases hf
  have hle := X.sc_le (L1 ++ L2) k
  have h0 : X.sc (L1 ++ L2) k ≠ 0 := fun e => hne (by
    have := (X.sc_zero hx.xt.keys hk).1 e
    rw [← hx.ks, this]
    rfl)
  obtain ⟨s, hs⟩ : ∃ s, X.sc (L1 ++ L2) k = s + 1 := ⟨X.sc (L1 ++ L2) k - 1, by omega⟩
  have hal : (K.nxb xs k = true ∧ Alike (K.nx xs k) k s) ∨ (K.pvb xs k = true ∧ Alike (K.pv xs k) k s) := by
    rcases X.near_alike hx.rises hx.xt.nod h1 h2 hs (by omega) with ⟨n, q, L, e, ha⟩ | ⟨n, q, L, e, ha⟩
    · rcases X.nx_no hx.ks hl with ⟨e2, _⟩ | ⟨n', q', L', e2, e3, e4⟩
      · rw [e2] at e; cases e
      · rw [e2] at e
        injection e with e5 e6
        injection e5 with e7 e8
        exact .inl ⟨e4, by rw [e3, e8]; exact ha⟩
    · rcases X.pv_no hx.ks hf hl with ⟨e2, _⟩ | ⟨n', q', L', e2, e3, e4⟩
      · rw [e2] at e; exact absurd e.symm (by simp)
      · rw [e2] at e
        have e5 := (List.append_inj' e rfl).2
        injection e5 with e6 _
        injection e6 with e7 e8
        exact .inr ⟨e4, by rw [e3, e8]; exact ha⟩
  refine (x_shared W P C Q M Pt lim tk xs (L1 ++ L2) es O hx k).mono ?_
  rintro e w' ⟨tk', O', rfl, hT', _, hC, hO'⟩
  refine ⟨s, by rw [hs]; congr 2; omega, hal, tk', O', hT', hb.trans (hC.below hb.size hO), fun j hj => ?_, fun p hp => ?_⟩
  · rcases hO' j hj with h1 | h1
    · exact hO j h1
    · exact Nat.le_trans hb.size h1
  · obtain ⟨h1, h2⟩ := hS p hp
    refine ⟨hC.kx h1 h2, fun g hg ho => ?_⟩
    rcases hO' g ho with h3 | h3
    · exact h2 g hg h3
    · rcases h1.form with ⟨e1, _⟩ | ⟨g', c, e1, _, hg', _⟩
      · rw [e1] at hg; simp [Value.ownBlock] at hg
      · rw [e1] at hg
        simp [Value.ownBlock] at hg
        omega
end
end Go.Proofs.Ytiinefdpaiincaa
end
section
namespace Go.Proofs.Ytiinefdpaiincaa
open Go.RowKit
section
variable {w W : World} {P lim : Nat} {xs : List Nat} {S : List (Value × List Nat)}
theorem tks_next (h : TKs w W P lim xs S) (k : Nat) (hk : k < 18446744073709551616) {a : Nat} {b : Bool} (e1 : K.nx xs k = a) (e2 : K.nxb xs k = b) :
    Calls Try.prog 27 #[.pointer (some ⟨P, 0, none⟩), .int .u64 (k : Int)] W fun e w' => e = .returned (.tuple #[.int .u64 (a : Int), .bool b]) ∧ TKs w w' P lim xs S := by
  subst e1 e2
  exact h.op fun tk O hT => xz_tc.next W P xs lim tk O hT k hk
theorem tks_prev (h : TKs w W P lim xs S) (k : Nat) (hk : k < 18446744073709551616) {a : Nat} {b : Bool} (e1 : K.pv xs k = a) (e2 : K.pvb xs k = b) :
    Calls Try.prog 28 #[.pointer (some ⟨P, 0, none⟩), .int .u64 (k : Int)] W fun e w' => e = .returned (.tuple #[.int .u64 (a : Int), .bool b]) ∧ TKs w w' P lim xs S := by
  subst e1 e2
  exact h.op fun tk O hT => xz_tc.prev W P xs lim tk O hT k hk
end
section
variable (A : Option Addr) (cp : Nat) (l : List Nat) (k : Nat) (hk : k < 18446744073709551616) (w : World) (sd : Nat) (hsd : sd < 18446744073709551616) (hr : Rw w w.heap.size A l) (hl : l.length ≤ 9223372036854775807) (hx : ∀ x ∈ l, x < 18446744073709551616)
include hk hsd hr hl hx
set_option maxHeartbeats 1000000 in
set_option maxRecDepth 100000 in
theorem law_near_in (hin : K.fo (K.off (l.take 60)) k = true ∨ K.off (l.take 60) = []) :
    Calls Try.prog 6 #[.int .u64 (sd : Int), .slice A l.length cp, .int .u64 (k : Int)] w fun e w' => e = .returned (.bool true) ∧ Below w.heap.size w w' := by
  have haw := Lib.hid (law_awake xz_tc2 (by decide) (by decide) w)
  have hnew : Hid (∀ W : World, Below w.heap.size w W → Calls Try.prog 8 #[.int .u64 (sd : Int), .int .i64 100000] W fun e w' => ∃ P, e = .returned (.tuple #[.pointer (some ⟨P, 0, none⟩), .int .i64 0]) ∧ TKs w w' P 100000 [] []) := Lib.hid (fun W hW => tks_new hW sd hsd 100000 (by omega))
  have hwd : Hid (∀ (W : World) (P : Nat), TKs w W P 100000 [] [] → Calls Try.prog 20 #[.slice A l.length cp, .int .i64 60] W fun e w' => ∃ A' c', e = .returned (.slice A' (l.take 60).length c') ∧ TKs w w' P 100000 [] [(.slice A' (l.take 60).length c', l.take 60)]) := Lib.hid (fun W P h => tks_words h A cp l 60 hr hl (by omega))
  have hkl : (l.take 60).length ≤ 60 := List.length_take_le 60 l
  have hku : ∀ x ∈ l.take 60, x < 18446744073709551616 := fun x h => hx x (List.mem_of_mem_take h)
  have hup := T.off_up (l.take 60)
  have hmem2 : ∀ x ∈ K.off (l.take 60), x ∈ l.take 60 := fun x h => (T.off_mem _ x).1 h
  have hxl := K.off_le (l.take 60)
  have hLen := Lib.hid (rfl : l.length = l.length)
  generalize l.take 60 = ks at *
  have hof := Lib.hid (fun (W : World) (P : Nat) (A1 : Option Addr) (c1 : Nat) (h : TKs w W P 100000 [] [(.slice A1 ks.length c1, ks)]) => tks_of h (.slice A1 ks.length c1) ks (by simp) (by omega))
  obtain ⟨xs, hxs⟩ : ∃ xs, K.off ks = xs := ⟨_, rfl⟩
  rw [hxs] at hof hup hmem2 hxl hin
  have hxu : ∀ x ∈ xs, x < 18446744073709551616 := fun x h => hku x (hmem2 x h)
  have hea := Lib.hid (fun (W : World) (P : Nat) (A2 : Option Addr) (c2 : Nat) (h : TKs w W P 100000 [] [(.slice A2 xs.length c2, xs)]) => tks_each_all h A2 c2 (by simp) hup hxu (by omega) (by omega))
  obtain ⟨b, hb⟩ : ∃ b, K.fo xs k = b := ⟨_, rfl⟩
  have hha := Lib.hid (fun (W : World) (P : Nat) (S : List (Value × List Nat)) (h : TKs w W P 100000 xs S) => tks_has h k hk hb)
  have hn0 : b = false → xs.length = 0 := fun e => by
    rcases hin with h | h
    · rw [hb, e] at h; cases h
    · rw [h]; rfl
  obtain ⟨n, hn⟩ : ∃ n, xs.length = n := ⟨_, rfl⟩
  rw [hn] at hof hea hn0
  clear hr hx hsd hl hku hmem2 hxs hLen hxu hup hkl hxl hin hb hn
  cases b
  · have e0 := hn0 rfl
    subst e0
    clear hn0
    go_enter Try.func6, Try.ntmps6
    go_wp2_with (first
      | (go_at_call 7; (with_reducible refine haw.out.mono ?_); rintro e w1 ⟨rfl, hb1⟩; have HB1 := Lib.hid hb1; clear hb1)
      | (go_at_call 8; (with_reducible refine (hnew.out w1 HB1.out).mono ?_); rintro e w2 ⟨P, rfl, h2⟩; have H2 := Lib.hid h2; clear h2)
      | (go_at_call 20; (with_reducible refine (hwd.out w2 P H2.out).mono ?_); rintro e w3 ⟨A1, c1, rfl, h3⟩; have H3 := Lib.hid h3; clear h3)
      | (go_at_call 19; (with_reducible refine (hof.out w3 P A1 c1 H3.out).mono ?_); rintro e w4 ⟨A2, c2, rfl, h4⟩; have H4 : Hid (TKs w w4 P 100000 [] [(.slice A2 0 c2, xs)]) := Lib.hid (h4.less fun p hp => by simp at hp ⊢; simp [hp]); clear h4)
      | (go_at_call 31; (with_reducible refine (hea.out w4 P A2 c2 H4.out).mono ?_); rintro e w5 ⟨rfl, h5⟩; have H5 := Lib.hid h5; clear h5)
      | (go_at_call 24; (with_reducible refine (hha.out w5 P _ H5.out).mono ?_); rintro e w6 ⟨rfl, h6⟩; have H6 := Lib.hid h6; clear h6))
    go_ret
    exact ⟨rfl, H6.out.low⟩
  · clear hn0
    go_enter Try.func6, Try.ntmps6
    go_wp2_with (first
      | (go_at_call 7; (with_reducible refine haw.out.mono ?_); rintro e w1 ⟨rfl, hb1⟩; have HB1 := Lib.hid hb1; clear hb1)
      | (go_at_call 8; (with_reducible refine (hnew.out w1 HB1.out).mono ?_); rintro e w2 ⟨P, rfl, h2⟩; have H2 := Lib.hid h2; clear h2)
      | (go_at_call 20; (with_reducible refine (hwd.out w2 P H2.out).mono ?_); rintro e w3 ⟨A1, c1, rfl, h3⟩; have H3 := Lib.hid h3; clear h3)
      | (go_at_call 19; (with_reducible refine (hof.out w3 P A1 c1 H3.out).mono ?_); rintro e w4 ⟨A2, c2, rfl, h4⟩; have H4 : Hid (TKs w w4 P 100000 [] [(.slice A2 n c2, xs)]) := Lib.hid (h4.less fun p hp => by simp at hp ⊢; simp [hp]); clear h4)
      | (go_at_call 31; (with_reducible refine (hea.out w4 P A2 c2 H4.out).mono ?_); rintro e w5 ⟨rfl, h5⟩; have H5 := Lib.hid h5; clear h5)
      | (go_at_call 24; (with_reducible refine (hha.out w5 P _ H5.out).mono ?_); rintro e w6 ⟨rfl, h6⟩; have H6 := Lib.hid h6; clear h6))
    go_ret
    exact ⟨rfl, H6.out.low⟩
end
end Go.Proofs.Ytiinefdpaiincaa
end
section
namespace Go.Proofs.Ytiinefdpaiincaa
open Go.RowKit
section
variable (A : Option Addr) (cp : Nat) (l : List Nat) (k : Nat) (hk : k < 18446744073709551616) (w : World) (sd : Nat) (hsd : sd < 18446744073709551616) (hr : Rw w w.heap.size A l) (hl : l.length ≤ 9223372036854775807) (hx : ∀ x ∈ l, x < 18446744073709551616)
include hk hsd hr hl hx
set_option maxHeartbeats 1000000 in
set_option maxRecDepth 100000 in
theorem law_near_out (hf : K.fo (K.off (l.take 60)) k = false) (hne : K.off (l.take 60) ≠ []) :
    Calls Try.prog 6 #[.int .u64 (sd : Int), .slice A l.length cp, .int .u64 (k : Int)] w fun e w' => e = .returned (.bool true) ∧ Below w.heap.size w w' := by
  have haw := Lib.hid (law_awake xz_tc2 (by decide) (by decide) w)
  have hnew : Hid (∀ W : World, Below w.heap.size w W → Calls Try.prog 8 #[.int .u64 (sd : Int), .int .i64 100000] W fun e w' => ∃ P, e = .returned (.tuple #[.pointer (some ⟨P, 0, none⟩), .int .i64 0]) ∧ TKs w w' P 100000 [] []) := Lib.hid (fun W hW => tks_new hW sd hsd 100000 (by omega))
  have hwd : Hid (∀ (W : World) (P : Nat), TKs w W P 100000 [] [] → Calls Try.prog 20 #[.slice A l.length cp, .int .i64 60] W fun e w' => ∃ A' c', e = .returned (.slice A' (l.take 60).length c') ∧ TKs w w' P 100000 [] [(.slice A' (l.take 60).length c', l.take 60)]) := Lib.hid (fun W P h => tks_words h A cp l 60 hr hl (by omega))
  have hkl : (l.take 60).length ≤ 60 := List.length_take_le 60 l
  have hku : ∀ x ∈ l.take 60, x < 18446744073709551616 := fun x h => hx x (List.mem_of_mem_take h)
  have hup := T.off_up (l.take 60)
  have hmem2 : ∀ x ∈ K.off (l.take 60), x ∈ l.take 60 := fun x h => (T.off_mem _ x).1 h
  have hxl := K.off_le (l.take 60)
  have hLen := Lib.hid (rfl : l.length = l.length)
  generalize l.take 60 = ks at *
  have hof := Lib.hid (fun (W : World) (P : Nat) (A1 : Option Addr) (c1 : Nat) (h : TKs w W P 100000 [] [(.slice A1 ks.length c1, ks)]) => tks_of h (.slice A1 ks.length c1) ks (by simp) (by omega))
  obtain ⟨xs, hxs⟩ : ∃ xs, K.off ks = xs := ⟨_, rfl⟩
  rw [hxs] at hof hup hmem2 hxl hf hne
  have hxu : ∀ x ∈ xs, x < 18446744073709551616 := fun x h => hku x (hmem2 x h)
  have hea := Lib.hid (fun (W : World) (P : Nat) (A2 : Option Addr) (c2 : Nat) (h : TKs w W P 100000 [] [(.slice A2 xs.length c2, xs)]) => tks_each_all h A2 c2 (by simp) hup hxu (by omega) (by omega))
  have hha := Lib.hid (fun (W : World) (P : Nat) (S : List (Value × List Nat)) (h : TKs w W P 100000 xs S) => tks_has h k hk hf)
  have hsh := Lib.hid (fun (W : World) (P : Nat) (S : List (Value × List Nat)) (h : TKs w W P 100000 xs S) => tks_shared h k hk hf hne)
  obtain ⟨a1, ha1⟩ : ∃ a, K.pv xs k = a := ⟨_, rfl⟩
  obtain ⟨ok, hok⟩ : ∃ b, K.pvb xs k = b := ⟨_, rfl⟩
  obtain ⟨b1, hb1⟩ : ∃ a, K.nx xs k = a := ⟨_, rfl⟩
  obtain ⟨is, his⟩ : ∃ b, K.nxb xs k = b := ⟨_, rfl⟩
  obtain ⟨at', hat⟩ : ∃ i, K.fi xs k = i := ⟨_, rfl⟩
  rw [ha1, hok, hb1, his] at hsh
  have hpv := Lib.hid (fun (W : World) (P : Nat) (S : List (Value × List Nat)) (h : TKs w W P 100000 xs S) => tks_prev h k hk ha1 hok)
  have hnx := Lib.hid (fun (W : World) (P : Nat) (S : List (Value × List Nat)) (h : TKs w W P 100000 xs S) => tks_next h k hk hb1 his)
  have hokv : ok = decide (0 < at') := by
    rw [← hok, ← hat]
    unfold K.pvb
    rw [hf, Bool.false_or, Bool.eq_iff_iff]
    simp
    omega
  have hisv : is = decide (at' < xs.length) := by rw [← his, ← hat]; rfl
  have hle := K.fi_le xs k
  rw [hat] at hle
  have hca : 0 < at' → xs[at' - 1]? = some a1 := fun h => by
    have h1 : K.pv xs k = (xs[at' - 1]?).getD 0 := by unfold K.pv; rw [hf, hat, if_neg (by decide), if_neg (by omega)]
    rw [ha1] at h1
    have h2 : at' - 1 < xs.length := by omega
    rw [List.getElem?_eq_getElem h2] at h1 ⊢
    rw [h1]; rfl
  have hcb : at' < xs.length → xs[at']? = some b1 := fun h => by
    have h1 : K.nx xs k = (xs[at']?).getD 0 := by unfold K.nx; rw [hat]
    rw [hb1] at h1
    rw [List.getElem?_eq_getElem h] at h1 ⊢
    rw [h1]; rfl
  have hau : 0 < at' → a1 < 18446744073709551616 := fun h => hxu a1 (List.mem_of_getElem? (hca h))
  have hbu : at' < xs.length → b1 < 18446744073709551616 := fun h => hxu b1 (List.mem_of_getElem? (hcb h))
  have HV := Lib.hid (And.intro ha1 (And.intro hok (And.intro hb1 (And.intro his (And.intro hat (And.intro hf (And.intro hxu hup)))))))
  have hpos : 0 < xs.length := List.length_pos_iff.2 hne
  obtain ⟨n, hn⟩ : ∃ n, xs.length = n := ⟨_, rfl⟩
  rw [hn] at hof hea hpos hxl hisv hcb hbu hle
  have HN := Lib.hid hn
  have gn : ((n : Int) == 0) = false := by rw [beq_eq_false_iff_ne]; omega
  have hn60 : n ≤ 60 := by omega
  clear hr hx hsd hl hku hmem2 hxs hLen hxu hup hkl hxl hf hne ha1 hok hb1 his hat hn
  have HSA : Hid (∀ (W : World) (a : Nat), a < 18446744073709551616 → Calls Try.prog 34 #[.slice (some ⟨W.heap.size, 0, none⟩) 1 1, .int .u64 (k : Int)] (W.alloc (.cells #[.int .u64 (a : Int)] 22)) fun e w' => (∃ n : Nat, e = .returned (.int .i64 (n : Int)) ∧ Alike a k n) ∧ Below W.heap.size W w') := Lib.hid (fun W a ha => (law_shared_one _ W.heap.size 1 a k ha hk (cell_of_row _ _ 0 _ _ (0, 0) (K.alloc_top W _))).mono fun e w' ⟨h1, h2⟩ => ⟨h1, ((Below.refl _ W).alloc (Nat.le_refl _) _).trans (h2.mono (by simp))⟩)
  clear hk
  rcases Nat.eq_zero_or_pos at' with h0 | h0
  · subst h0
    have e1 : ok = false := hokv
    have e2 : is = true := by rw [hisv]; exact decide_eq_true hpos
    subst e1 e2
    have cb := hcb hpos
    have bu := hbu hpos
    have g3 : (0 : Int) < (n : Int) := by omega
    have g4 : decide ((0 : Int) < (n : Int)) = true := decide_eq_true g3
    clear hokv hisv hca hcb hau hbu hle
    go_enter Try.func6, Try.ntmps6
    go_wp2_with (first
      | (go_at_call 7; (with_reducible refine haw.out.mono ?_); rintro e w1 ⟨rfl, hb1⟩; have HB1 := Lib.hid hb1; clear hb1)
      | (go_at_call 8; (with_reducible refine (hnew.out w1 HB1.out).mono ?_); rintro e w2 ⟨P, rfl, h2⟩; have H2 := Lib.hid h2; clear h2)
      | (go_at_call 20; (with_reducible refine (hwd.out w2 P H2.out).mono ?_); rintro e w3 ⟨A1, c1, rfl, h3⟩; have H3 := Lib.hid h3; clear h3)
      | (go_at_call 19; (with_reducible refine (hof.out w3 P A1 c1 H3.out).mono ?_); rintro e w4 ⟨A2, c2, rfl, h4⟩
         have h4' : TKs w w4 P 100000 [] [(.slice A2 n c2, xs)] := h4.less fun p hp => by simp at hp ⊢; simp [hp]
         have hkx := h4'.kx (List.mem_cons_self ..)
         unfold KX at hkx
         rw [HN.out] at hkx
         obtain ⟨g, rfl⟩ := own_some hkx (by omega)
         have H4 := Lib.hid h4'
         clear h4 h4' hkx)
      | (go_at_call 31; (with_reducible refine (hea.out w4 P _ c2 H4.out).mono ?_); rintro e w5 ⟨rfl, h5⟩; have H5 := Lib.hid h5; clear h5)
      | (go_at_call 24; (with_reducible refine (hha.out w5 P _ H5.out).mono ?_); rintro e w6 ⟨rfl, h6⟩; have H6 := Lib.hid h6; clear h6)
      | (go_at_call 28; (with_reducible refine (hpv.out w6 P _ H6.out).mono ?_); rintro e w7 ⟨rfl, h7⟩; have H7 := Lib.hid h7; clear h7)
      | (go_at_call 27; (with_reducible refine (hnx.out w7 P _ H7.out).mono ?_); rintro e w8 ⟨rfl, h8⟩; have H8 := Lib.hid h8; clear h8)
      | (go_at_call 32; (with_reducible refine (k_find w8 _ xs (H8.out.kx (List.mem_cons_self ..)) (by have := HN.out; omega) k).mono ?_); rintro e w9 ⟨rfl, h9⟩; rw [HV.out.2.2.2.2.1, HV.out.2.2.2.2.2.1]; have H9 := Lib.hid (H8.out.below h9); clear h9)
      | (go_at_call 33; (with_reducible refine (hsh.out w9 P _ H9.out).mono ?_); rintro e w10 ⟨s, rfl, hal, h10⟩; have H10 := Lib.hid h10; have HAL := Lib.hid hal; clear h10 hal)
      | (go_at_call 34; (with_reducible refine (HSA.out w10 b1 bu).mono ?_); rintro e x1 ⟨⟨n2, rfl, hA⟩, hbb⟩
         have hh := H10.out.below hbb
         have hc0n2 := tks_cell hh (List.mem_cons_self ..) cb
         have hen2 : ((n2 : Int) == (s : Int)) = true := by
           rw [beq_iff_eq]
           have := hA.one (by rcases HAL.out with h | h; exact h.2; exact absurd h.1 (by decide))
           omega
         have Hx1 := Lib.hid hh
         have HAn2 := Lib.hid hA
         clear hh hbb hA))
    go_ret
    exact ⟨rfl, Hx1.out.low⟩
  · obtain ⟨j, hj⟩ : ∃ j, at' = j + 1 := ⟨at' - 1, by omega⟩
    have e1 : ok = true := by rw [hokv]; exact decide_eq_true h0
    subst e1
    have ca := hca h0
    rw [show at' - 1 = j by omega] at ca
    have au := hau h0
    have wj : IntKind.i64.wrap ((at' : Int) - 1) = (j : Int) := by rw [IntWalk.i64_in _ (by omega)]; omega
    have g5 : (0 : Int) < (at' : Int) := by omega
    have g6 : decide ((0 : Int) < (at' : Int)) = true := decide_eq_true g5
    have gj : (j : Int) < (n : Int) := by omega
    rcases Nat.lt_or_ge at' n with hin | hin
    · have e2 : is = true := by rw [hisv]; exact decide_eq_true hin
      subst e2
      have cb := hcb hin
      have bu := hbu hin
      have g7 : (at' : Int) < (n : Int) := by omega
      have g8 : decide ((at' : Int) < (n : Int)) = true := decide_eq_true g7
      clear hokv hisv hca hcb hau hbu hle hj h0 hin
      go_enter Try.func6, Try.ntmps6
      go_wp2_with (first
        | (go_at_call 7; (with_reducible refine haw.out.mono ?_); rintro e w1 ⟨rfl, hb1⟩; have HB1 := Lib.hid hb1; clear hb1)
        | (go_at_call 8; (with_reducible refine (hnew.out w1 HB1.out).mono ?_); rintro e w2 ⟨P, rfl, h2⟩; have H2 := Lib.hid h2; clear h2)
        | (go_at_call 20; (with_reducible refine (hwd.out w2 P H2.out).mono ?_); rintro e w3 ⟨A1, c1, rfl, h3⟩; have H3 := Lib.hid h3; clear h3)
        | (go_at_call 19; (with_reducible refine (hof.out w3 P A1 c1 H3.out).mono ?_); rintro e w4 ⟨A2, c2, rfl, h4⟩
           have h4' : TKs w w4 P 100000 [] [(.slice A2 n c2, xs)] := h4.less fun p hp => by simp at hp ⊢; simp [hp]
           have hkx := h4'.kx (List.mem_cons_self ..)
           unfold KX at hkx
           rw [HN.out] at hkx
           obtain ⟨g, rfl⟩ := own_some hkx (by omega)
           have H4 := Lib.hid h4'
           clear h4 h4' hkx)
        | (go_at_call 31; (with_reducible refine (hea.out w4 P _ c2 H4.out).mono ?_); rintro e w5 ⟨rfl, h5⟩; have H5 := Lib.hid h5; clear h5)
        | (go_at_call 24; (with_reducible refine (hha.out w5 P _ H5.out).mono ?_); rintro e w6 ⟨rfl, h6⟩; have H6 := Lib.hid h6; clear h6)
        | (go_at_call 28; (with_reducible refine (hpv.out w6 P _ H6.out).mono ?_); rintro e w7 ⟨rfl, h7⟩; have H7 := Lib.hid h7; clear h7)
        | (go_at_call 27; (with_reducible refine (hnx.out w7 P _ H7.out).mono ?_); rintro e w8 ⟨rfl, h8⟩; have H8 := Lib.hid h8; clear h8)
        | (go_at_call 32; (with_reducible refine (k_find w8 _ xs (H8.out.kx (List.mem_cons_self ..)) (by have := HN.out; omega) k).mono ?_); rintro e w9 ⟨rfl, h9⟩; rw [HV.out.2.2.2.2.1, HV.out.2.2.2.2.2.1]; have H9 := Lib.hid (H8.out.below h9); clear h9)
        | (go_at_call 33; (with_reducible refine (hsh.out w9 P _ H9.out).mono ?_); rintro e w10 ⟨s, rfl, hal, h10⟩; have H10 := Lib.hid h10; have HAL := Lib.hid hal; clear h10 hal)
        | (go_at_call 34; (with_reducible refine (HSA.out w10 a1 au).mono ?_); rintro e x1 ⟨⟨n1, rfl, hA⟩, hbb⟩
           have hh := H10.out.below hbb
           have hc0n1 := tks_cell hh (List.mem_cons_self ..) ca
           have hc1n1 := tks_cell hh (List.mem_cons_self ..) cb
           have Hx1 := Lib.hid hh
           have HAn1 := Lib.hid hA
           have hdd : ((n1 : Int) == (s : Int)) = true ∨ ((n1 : Int) == (s : Int)) = false := by cases ((n1 : Int) == (s : Int)) <;> simp
           clear hh hbb hA
           rcases hdd with hen1 | hen1)
        | (go_at_call 34; (with_reducible refine (HSA.out x1 b1 bu).mono ?_); rintro e x2 ⟨⟨n2, rfl, hA⟩, hbb⟩
           have hh := Hx1.out.below hbb
           have hc0n2 := tks_cell hh (List.mem_cons_self ..) ca
           have hc1n2 := tks_cell hh (List.mem_cons_self ..) cb
           have hen2 : ((n2 : Int) == (s : Int)) = true := by
             rw [beq_iff_eq]
             rw [beq_eq_false_iff_ne] at hen1
             rcases HAL.out with h | h
             · have := hA.one h.2
               omega
             · exact absurd (by have := HAn1.out.one h.2; omega) hen1
           have Hx2 := Lib.hid hh
           clear hh hbb hA))
      all_goals
        go_ret
        first
        | exact ⟨rfl, Hx2.out.low⟩
        | exact ⟨rfl, Hx1.out.low⟩
    · have e2 : is = false := by rw [hisv]; exact decide_eq_false (by omega)
      subst e2
      have g7 : ¬ (at' : Int) < (n : Int) := by omega
      have g8 : decide ((at' : Int) < (n : Int)) = false := decide_eq_false g7
      have g9 : decide (at' < n) = false := decide_eq_false (by omega)
      clear hokv hisv hca hcb hau hbu hle hj h0 hin
      go_enter Try.func6, Try.ntmps6
      go_wp2_with (first
        | (go_at_call 7; (with_reducible refine haw.out.mono ?_); rintro e w1 ⟨rfl, hb1⟩; have HB1 := Lib.hid hb1; clear hb1)
        | (go_at_call 8; (with_reducible refine (hnew.out w1 HB1.out).mono ?_); rintro e w2 ⟨P, rfl, h2⟩; have H2 := Lib.hid h2; clear h2)
        | (go_at_call 20; (with_reducible refine (hwd.out w2 P H2.out).mono ?_); rintro e w3 ⟨A1, c1, rfl, h3⟩; have H3 := Lib.hid h3; clear h3)
        | (go_at_call 19; (with_reducible refine (hof.out w3 P A1 c1 H3.out).mono ?_); rintro e w4 ⟨A2, c2, rfl, h4⟩
           have h4' : TKs w w4 P 100000 [] [(.slice A2 n c2, xs)] := h4.less fun p hp => by simp at hp ⊢; simp [hp]
           have hkx := h4'.kx (List.mem_cons_self ..)
           unfold KX at hkx
           rw [HN.out] at hkx
           obtain ⟨g, rfl⟩ := own_some hkx (by omega)
           have H4 := Lib.hid h4'
           clear h4 h4' hkx)
        | (go_at_call 31; (with_reducible refine (hea.out w4 P _ c2 H4.out).mono ?_); rintro e w5 ⟨rfl, h5⟩; have H5 := Lib.hid h5; clear h5)
        | (go_at_call 24; (with_reducible refine (hha.out w5 P _ H5.out).mono ?_); rintro e w6 ⟨rfl, h6⟩; have H6 := Lib.hid h6; clear h6)
        | (go_at_call 28; (with_reducible refine (hpv.out w6 P _ H6.out).mono ?_); rintro e w7 ⟨rfl, h7⟩; have H7 := Lib.hid h7; clear h7)
        | (go_at_call 27; (with_reducible refine (hnx.out w7 P _ H7.out).mono ?_); rintro e w8 ⟨rfl, h8⟩; have H8 := Lib.hid h8; clear h8)
        | (go_at_call 32; (with_reducible refine (k_find w8 _ xs (H8.out.kx (List.mem_cons_self ..)) (by have := HN.out; omega) k).mono ?_); rintro e w9 ⟨rfl, h9⟩; rw [HV.out.2.2.2.2.1, HV.out.2.2.2.2.2.1]; have H9 := Lib.hid (H8.out.below h9); clear h9)
        | (go_at_call 33; (with_reducible refine (hsh.out w9 P _ H9.out).mono ?_); rintro e w10 ⟨s, rfl, hal, h10⟩; have H10 := Lib.hid h10; have HAL := Lib.hid hal; clear h10 hal)
        | (go_at_call 34; (with_reducible refine (HSA.out w10 a1 au).mono ?_); rintro e x1 ⟨⟨n1, rfl, hA⟩, hbb⟩
           have hh := H10.out.below hbb
           have hc0n1 := tks_cell hh (List.mem_cons_self ..) ca
           have hen1 : ((n1 : Int) == (s : Int)) = true := by
             rw [beq_iff_eq]
             have := hA.one (by rcases HAL.out with h | h; exact absurd h.1 (by decide); exact h.2)
             omega
           have Hx1 := Lib.hid hh
           clear hh hbb hA))
      go_ret
      refine ⟨?_, Hx1.out.low⟩
      first
      | rfl
      | (show Ending.returned (.bool (!decide (at' < n))) = _; rw [g9]; rfl)
theorem law_near : Calls Try.prog 6 #[.int .u64 (sd : Int), .slice A l.length cp, .int .u64 (k : Int)] w fun e w' => e = .returned (.bool true) ∧ Below w.heap.size w w' := by
  cases hf : K.fo (K.off (l.take 60)) k
  · rcases Classical.em (K.off (l.take 60) = []) with h | h
    · exact law_near_in A cp l k hk w sd hsd hr hl hx (.inr h)
    · exact law_near_out A cp l k hk w sd hsd hr hl hx hf h
  · exact law_near_in A cp l k hk w sd hsd hr hl hx (.inl hf)
end
end Go.Proofs.Ytiinefdpaiincaa
end
