/- The law XfastEmpties, walked (written out of U42). -/
import Derived.Test.YtiinefdpaiincaaMxX22
import Derived.Test.YtiinefdpaiincaaMxRbY
namespace Go.Proofs.Ytiinefdpaiincaa
open Go.RowKit
namespace K
theorem up_take {xs : List Nat} (h : Up xs) (j : Nat) : Up (xs.take j) := List.Pairwise.sublist (List.take_sublist j xs) h
theorem add_take {xs : List Nat} (h : Up xs) {j : Nat} (hj : j < xs.length) : add (xs.take j) xs[j] = xs.take (j + 1) := by
  refine T.up_ext (add_up (up_take h j) _) (up_take h (j + 1)) fun x => ?_
  rw [add_mem (up_take h j), List.take_succ_eq_append_getElem hj, List.mem_append, List.mem_singleton]
  exact or_comm
theorem in_fit {lim k : Nat} {xs m : List Nat} (hf : fo xs k = false) (hm : add xs k = m) (hn : xfast m ≤ lim) : inE xfast xs lim k = 0 ∧ inL xfast xs lim k = m := by
  have hnl : ¬ lim < xfast m := by omega
  unfold inE inL
  rw [hm, if_neg (by rw [hf]; simp), if_neg hnl, if_neg (by rw [hf]; simp), if_neg hnl]
  exact ⟨rfl, rfl⟩
theorem fo_take {xs : List Nat} (h : Up xs) {j : Nat} (hj : j < xs.length) : fo (xs.take j) xs[j] = false := by
  rw [Bool.eq_false_iff]
  intro hf
  have h1 := (fo_mem (up_take h j) _).1 hf
  obtain ⟨i, hi, e⟩ := List.mem_take_iff_getElem.1 h1
  have := up_lt (i := i) (j := j) h (by omega) hj
  omega
end K
section
variable {w W : World} {P lim : Nat} {xs : List Nat} {S : List (Value × List Nat)}
theorem tks_cell {w W : World} {P lim : Nat} {xs l : List Nat} {S : List (Value × List Nat)} (h : TKs w W P lim xs S) {g n c : Nat} (hm : (Value.slice (some ⟨g, 0, none⟩) n c, l) ∈ S) {j z : Nat} (hj : l[j]? = some z) : W.cell? ⟨g, j, none⟩ = some (.int .u64 (z : Int)) := by
  obtain ⟨hj1, hj2⟩ := List.getElem?_eq_some_iff.1 hj
  rcases (h.kx hm).form with ⟨e, _⟩ | ⟨g', c', e, _, _, hc⟩
  · cases e
  · cases e
    rw [← hj2]
    exact hc j hj1
theorem tks_insert (h : TKs w W P lim xs S) (k : Nat) (hk : k < 18446744073709551616) {a : Nat} {ys : List Nat} (e1 : K.inE K.xfast xs lim k = a) (e2 : K.inL K.xfast xs lim k = ys) :
    Calls Try.prog 21 #[.pointer (some ⟨P, 0, none⟩), .int .u64 (k : Int)] W fun e w' => e = .returned (.int .i64 (a : Int)) ∧ TKs w w' P lim ys S := by
  subst e1 e2
  exact h.op fun tk O hT => xz_tc.insert W P xs lim tk O hT k hk
theorem tks_delete (h : TKs w W P lim xs S) (k : Nat) (hk : k < 18446744073709551616) {a : Nat} {ys : List Nat} (e1 : (if K.fo xs k then 0 else 3 : Nat) = a) (e2 : K.drop xs k = ys) :
    Calls Try.prog 23 #[.pointer (some ⟨P, 0, none⟩), .int .u64 (k : Int)] W fun e w' => e = .returned (.int .i64 (a : Int)) ∧ TKs w w' P lim ys S := by
  subst e1 e2
  exact h.op fun tk O hT => xz_tc.delete W P xs lim tk O hT k hk
theorem tks_has (h : TKs w W P lim xs S) (k : Nat) (hk : k < 18446744073709551616) {b : Bool} (e1 : K.fo xs k = b) :
    Calls Try.prog 24 #[.pointer (some ⟨P, 0, none⟩), .int .u64 (k : Int)] W fun e w' => e = .returned (.bool b) ∧ TKs w w' P lim xs S := by
  subst e1
  exact h.op fun tk O hT => xz_tc.has W P xs lim tk O hT k hk
theorem tks_min0 (h : TKs w W P lim [] S) : Calls Try.prog 25 #[.pointer (some ⟨P, 0, none⟩)] W fun e w' => e = .returned (.tuple #[.int .u64 0, .bool false]) ∧ TKs w w' P lim [] S :=
  h.op fun tk O hT => xz_tc.min W P [] lim tk O hT
theorem tks_max0 (h : TKs w W P lim [] S) : Calls Try.prog 26 #[.pointer (some ⟨P, 0, none⟩)] W fun e w' => e = .returned (.tuple #[.int .u64 0, .bool false]) ∧ TKs w w' P lim [] S := by
  have h1 := h.op (fun tk O hT => xz_tc.max W P [] lim tk O hT)
  rw [show K.pv [] 18446744073709551615 = 0 by simp [K.pv, K.fo, K.fi], show K.pvb [] 18446744073709551615 = false by simp [K.pvb, K.fo, K.fi]] at h1
  exact h1
theorem tks_used0 (h : TKs w W P lim [] S) : Calls Try.prog 12 #[.pointer (some ⟨P, 0, none⟩)] W fun e w' => e = .returned (.int .i64 0) ∧ TKs w w' P lim [] S := by
  have h1 := h.ask (fun tk O hT => xz_tc2.used W P [] lim tk O hT)
  rw [show K.xfast [] = 0 by decide] at h1
  exact h1
end
section
variable (A : Option Addr) (cp : Nat) (l : List Nat) (Ab : Option Addr) (cb : Nat) (bs : List Nat) (w : World) (sd : Nat) (hsd : sd < 18446744073709551616) (hr : Rw w w.heap.size A l) (hl : l.length ≤ 9223372036854775807) (hx : ∀ x ∈ l, x < 18446744073709551616) (hrb : Rby w w.heap.size Ab bs) (hlb : bs.length ≤ 9223372036854775807) (hxb : ∀ x ∈ bs, x < 256)
include hsd hr hl hx hrb hlb hxb
set_option maxHeartbeats 1000000 in
set_option maxRecDepth 100000 in
theorem law_empties :
    Calls Try.prog 4 #[.int .u64 (sd : Int), .slice A l.length cp, .slice Ab bs.length cb] w fun e w' => e = .returned (.bool true) ∧ Below w.heap.size w w' := by
  have haw := Lib.hid (law_awake xz_tc2 (by decide) (by decide) w)
  have hnew : Hid (∀ W : World, Below w.heap.size w W → Calls Try.prog 8 #[.int .u64 (sd : Int), .int .i64 200000] W fun e w' => ∃ P, e = .returned (.tuple #[.pointer (some ⟨P, 0, none⟩), .int .i64 0]) ∧ TKs w w' P 200000 [] []) := Lib.hid (fun W hW => tks_new hW sd hsd 200000 (by omega))
  have hwd : Hid (∀ (W : World) (P : Nat), TKs w W P 200000 [] [] → Calls Try.prog 20 #[.slice A l.length cp, .int .i64 60] W fun e w' => ∃ A' c', e = .returned (.slice A' (l.take 60).length c') ∧ TKs w w' P 200000 [] [(.slice A' (l.take 60).length c', l.take 60)]) := Lib.hid (fun W P h => tks_words h A cp l 60 hr hl (by omega))
  have hkl : (l.take 60).length ≤ 60 := List.length_take_le 60 l
  have hku : ∀ x ∈ l.take 60, x < 18446744073709551616 := fun x h => hx x (List.mem_of_mem_take h)
  have hup := T.off_up (l.take 60)
  have hmem2 : ∀ x ∈ K.off (l.take 60), x ∈ l.take 60 := fun x h => (T.off_mem _ x).1 h
  have hxl := K.off_le (l.take 60)
  have hLen := Lib.hid (rfl : l.length = l.length)
  generalize l.take 60 = ks at *
  have hof := Lib.hid (fun (W : World) (P : Nat) (A1 : Option Addr) (c1 : Nat) (h : TKs w W P 200000 [] [(.slice A1 ks.length c1, ks)]) => tks_of h (.slice A1 ks.length c1) ks (by simp) (by omega))
  obtain ⟨xs, hxs⟩ : ∃ xs, K.off ks = xs := ⟨_, rfl⟩
  rw [hxs] at hof hup hmem2 hxl
  have hxu : ∀ x ∈ xs, x < 18446744073709551616 := fun x h => hku x (hmem2 x h)
  obtain ⟨n, hn⟩ : ∃ n, xs.length = n := ⟨_, rfl⟩
  have hn60 : n ≤ 60 := by omega
  have HXU := Lib.hid (show K.Up xs ∧ ∀ x ∈ xs, x < 18446744073709551616 from ⟨hup, hxu⟩)
  have HN := Lib.hid hn
  rw [hn] at hof
  have HRB := Lib.hid hrb
  have HXB := Lib.hid hxb
  clear hr hx hsd hl hku hmem2 hxs hLen hxu hup hn hkl hxl hrb hxb
  go_enter Try.func4, Try.ntmps4
  go_wp2_with (first
    | (go_at_call 7; (with_reducible refine haw.out.mono ?_); rintro e w1 ⟨rfl, hb1⟩; have HB1 := Lib.hid hb1; clear hb1)
    | (go_at_call 8; (with_reducible refine (hnew.out w1 HB1.out).mono ?_); rintro e w2 ⟨P, rfl, h2⟩; have H2 := Lib.hid h2; clear h2)
    | (go_at_call 20; (with_reducible refine (hwd.out w2 P H2.out).mono ?_); rintro e w3 ⟨A1, c1, rfl, h3⟩; have H3 := Lib.hid h3; clear h3)
    | (go_at_call 19; (with_reducible refine (hof.out w3 P A1 c1 H3.out).mono ?_); rintro e w4 ⟨A2, c2, rfl, h4⟩; have H4 : Hid (TKs w w4 P 200000 (xs.take 0) [(.slice A2 n c2, xs)]) := Lib.hid (h4.less fun p hp => by simp at hp ⊢; simp [hp]); clear h4))
  go_loopw [31] (fun ix wr => ∃ (j : Nat), j ≤ n ∧ ix = .int .i64 (j : Int) ∧ Hid (TKs w wr P 200000 (xs.take j) [(.slice A2 n c2, xs)])) (fun ix _ => n - (intOf ix).toNat)
  case atStart => exact ⟨0, by omega, rfl, H4⟩
  case round =>
    obtain ⟨j, hj, rfl, HT⟩ := hrel
    clear H2 H3 H4
    rcases Nat.lt_or_ge j n with hjr | hjr
    · have hjk : j < xs.length := by rw [HN.out]; exact hjr
      have hkx := HT.out.kx (List.mem_cons_self ..)
      unfold KX at hkx
      rw [HN.out] at hkx
      obtain ⟨g, rfl⟩ := own_some hkx (by omega)
      have hcell := tks_cell HT.out (List.mem_cons_self ..) (List.getElem?_eq_getElem hjk)
      have hkl := HXU.out.2 xs[j] (List.getElem_mem hjk)
      have hfo := K.fo_take HXU.out.1 hjk
      have had := K.add_take HXU.out.1 hjk
      have htl := K.xfast_le (xs.take (j + 1))
      have htk : (xs.take (j + 1)).length ≤ j + 1 := List.length_take_le _ _
      generalize xs[j] = k at *
      obtain ⟨e1, e2⟩ := K.in_fit (lim := 200000) hfo had (by omega)
      have hins : Hid (∀ (W : World) (S : List (Value × List Nat)), TKs w W P 200000 (xs.take j) S → Calls Try.prog 21 #[.pointer (some ⟨P, 0, none⟩), .int .u64 (k : Int)] W fun e w' => e = .returned (.int .i64 0) ∧ TKs w w' P 200000 (xs.take (j + 1)) S) := Lib.hid (fun W S h => tks_insert h k hkl e1 e2)
      have gk : (j : Int) < (n : Int) := by omega
      have wj : IntKind.i64.wrap ((j : Int) + 1) = ((j + 1 : Nat) : Int) := by rw [IntWalk.i64_in _ (by omega)]; omega
      clear hkx hkl hfo had htl htk e1 e2 hjk haw hnew hwd hof
      go_wp2_with (go_at_call 21; (with_reducible refine (hins.out wr _ HT.out).mono ?_); rintro e w5 ⟨rfl, h5⟩; have H5 := Lib.hid h5; clear h5)
      go_roundw
      case rel => exact ⟨j + 1, by omega, by go_num, H5⟩
      case measure => simp [intOf]; omega
    · obtain rfl : j = n := by omega
      have g0 : decide ((j : Int) < (j : Int)) = false := decide_eq_false (by omega)
      have HS : Hid (TKs w wr P 200000 xs [(.slice A2 j c2, xs)]) := Lib.hid (by
        have h1 := HT.out
        rw [List.take_of_length_le (by rw [HN.out]; omega)] at h1
        exact h1)
      clear HT
      go_wp2
      go_loopw [9, 12] (fun v ix wr => ∃ (i : Nat) (ys : List Nat), i + ys.length = j ∧ ix = .int .i64 (i : Int) ∧ Hid (K.Up ys ∧ ∀ x ∈ ys, x < 18446744073709551616) ∧ Hid (TKs w wr P 200000 ys [(v, ys)])) (fun _ ix _ => j - (intOf ix).toNat)
      case atStart => exact ⟨0, xs, by have := HN.out; omega, rfl, HXU, HS⟩
      case round =>
        obtain ⟨i, ys, hi, rfl, HU, HT⟩ := hrel
        clear HS
        obtain ⟨v, hv⟩ : ∃ v, v = u9 := ⟨_, rfl⟩
        subst hv
        have hkv := HT.out.kx (List.mem_cons_self ..)
        obtain ⟨A0, c0, rfl, _⟩ := kx_rw hkv
        have HKV := Lib.hid hkv
        clear hkv haw hnew hwd hof
        rcases Nat.eq_zero_or_pos ys.length with hm | hm
        · obtain rfl : ys = [] := List.eq_nil_of_length_eq_zero hm
          have hmin := Lib.hid (fun (W : World) (S : List (Value × List Nat)) (h : TKs w W P 200000 [] S) => tks_min0 h)
          have hmax := Lib.hid (fun (W : World) (S : List (Value × List Nat)) (h : TKs w W P 200000 [] S) => tks_max0 h)
          have hus := Lib.hid (fun (W : World) (S : List (Value × List Nat)) (h : TKs w W P 200000 [] S) => tks_used0 h)
          clear hm
          go_wp2_with (first
            | (go_at_call 25; (with_reducible refine (hmin.out wr _ HT.out).mono ?_); rintro e x1 ⟨rfl, h1⟩; have X1 := Lib.hid h1; clear h1)
            | (go_at_call 26; (with_reducible refine (hmax.out x1 _ X1.out).mono ?_); rintro e x2 ⟨rfl, h2⟩; have X2 := Lib.hid h2; clear h2)
            | (go_at_call 12; (with_reducible refine (hus.out x2 _ X2.out).mono ?_); rintro e x3 ⟨rfl, h3⟩; have X3 := Lib.hid h3; clear h3))
          go_ret
          exact ⟨rfl, X3.out.low⟩
        · have hkx := HKV.out
          unfold KX at hkx
          obtain ⟨g, rfl⟩ := own_some hkx hm
          clear hkx
          have b1 : decide ((0 : Int) < (ys.length : Int)) = true := decide_eq_true (by omega)
          have wi : IntKind.i64.wrap ((i : Int) + 1) = ((i + 1 : Nat) : Int) := by rw [IntWalk.i64_in _ (by omega)]; omega
          have hm0 : (ys.length : Int) ≠ 0 := by omega
          rcases Nat.lt_or_ge i bs.length with hib | hib
          · obtain ⟨bb, ob, rfl, hcb⟩ := HRB.out.at HT.out.low hib
            have hob := HXB.out bs[i] (List.getElem_mem hib)
            generalize bs[i] = o at *
            obtain ⟨p, hp⟩ : ∃ p, o % ys.length = p := ⟨_, rfl⟩
            have hpl : p < ys.length := by rw [← hp]; exact Nat.mod_lt _ hm
            have b2 : decide ((i : Int) < (bs.length : Int)) = true := decide_eq_true (by omega)
            have gib : (i : Int) < (bs.length : Int) := by omega
            have q1 : (o : Int) % (ys.length : Int) = (p : Int) := by rw [← hp]; exact (Int.natCast_emod _ _).symm
            have q2 : (o : Int).tmod (ys.length : Int) = (p : Int) := by rw [Int.tmod_eq_emod_of_nonneg (by omega)]; exact q1
            have q3 : IntKind.i64.wrap (p : Int) = (p : Int) := IntWalk.i64_in _ (by omega)
            have q4 : IntKind.i64.wrap (o : Int) = (o : Int) := IntWalk.i64_in _ (by omega)
            have gp : (p : Int) < (ys.length : Int) := by omega
            have hcell := tks_cell HT.out (List.mem_cons_self ..) (List.getElem?_eq_getElem hpl)
            have hkm : ys[p] ∈ ys := List.getElem_mem hpl
            generalize ys[p] = k at *
            clear hp hpl hob
            have hzk : k < 18446744073709551616 := HU.out.2 k hkm
            have hfk : K.fo ys k = true := (K.fo_mem HU.out.1 k).2 hkm
            have hzu := K.drop_up HU.out.1 k
            have hzl := T.drop_len HU.out.1 hkm
            have hzm := K.drop_mem HU.out.1 k
            have hdrop := k_drop wr _ ys HKV.out (by omega) k
            obtain ⟨zs, hzs⟩ : ∃ zs, K.drop ys k = zs := ⟨_, rfl⟩
            rw [hzs] at hzu hzl hzm hdrop
            have hnk : K.fo zs k = false := by rw [Bool.eq_false_iff]; exact fun hf => ((hzm k).1 ((K.fo_mem hzu k).1 hf)).1 rfl
            have hnd : K.drop zs k = zs := by unfold K.drop; rw [if_neg (by rw [hnk]; simp)]
            have hsm : Hid (∀ (W : World) (S : List (Value × List Nat)) (v : Value), (v, zs) ∈ S → TKs w W P 200000 zs S → Calls Try.prog 15 #[.pointer (some ⟨P, 0, none⟩), v] W fun e w' => e = .returned (.bool true) ∧ TKs w w' P 200000 zs S) := Lib.hid (fun W S v hm h => by
              have := tks_same h v zs hm (by omega) (by omega)
              rw [decide_eq_true rfl] at this
              exact this)
            have HUZ := Lib.hid (show K.Up zs ∧ ∀ x ∈ zs, x < 18446744073709551616 from ⟨hzu, fun x hx => HU.out.2 x ((hzm x).1 hx).2⟩)
            have HZL := Lib.hid hzl
            replace hdrop := Lib.hid hdrop
            have hd1 : Hid (∀ (W : World) (S : List (Value × List Nat)), TKs w W P 200000 ys S → Calls Try.prog 23 #[.pointer (some ⟨P, 0, none⟩), .int .u64 (k : Int)] W fun e w' => e = .returned (.int .i64 0) ∧ TKs w w' P 200000 zs S) := Lib.hid (fun W S h => tks_delete h k hzk (if_pos hfk) hzs)
            have hd2 : Hid (∀ (W : World) (S : List (Value × List Nat)), TKs w W P 200000 zs S → Calls Try.prog 23 #[.pointer (some ⟨P, 0, none⟩), .int .u64 (k : Int)] W fun e w' => e = .returned (.int .i64 3) ∧ TKs w w' P 200000 zs S) := Lib.hid (fun W S h => tks_delete h k hzk (if_neg (by rw [hnk]; simp)) hnd)
            have hh := Lib.hid (fun (W : World) (S : List (Value × List Nat)) (h : TKs w W P 200000 zs S) => tks_has h k hzk hnk)
            clear hzk hfk hzu hzl hzm hzs hnk hnd hkm
            go_wp2_with (first
            | (go_at_call 22; (with_reducible refine hdrop.out.mono ?_); rintro e w2 ⟨v2, rfl, hk2, hb2, hv2⟩; have HT2 := Lib.hid (HT.out.klp (List.mem_cons_self ..) hk2 hb2 hv2); clear hk2 hb2 hv2)
            | (go_at_call 23; (with_reducible refine (hd1.out w2 _ HT2.out).mono ?_); rintro e w3 ⟨rfl, h3⟩; have HT3 := Lib.hid h3; clear h3)
            | (go_at_call 23; (with_reducible refine (hd2.out w3 _ HT3.out).mono ?_); rintro e w4 ⟨rfl, h4⟩; have HT4 := Lib.hid h4; clear h4)
            | (go_at_call 24; (with_reducible refine (hh.out w4 _ HT4.out).mono ?_); rintro e w5 ⟨rfl, h5⟩; have HT5 := Lib.hid h5; clear h5)
            | (go_at_call 15; (with_reducible refine (hsm.out w5 _ _ (List.mem_cons_self ..) HT5.out).mono ?_); rintro e w6 ⟨rfl, h6⟩; have HT6 := Lib.hid (h6.less (S' := [(v2, zs)]) fun p hp => by simp at hp ⊢; simp [hp]); clear h6))
            go_roundw
            case rel => exact ⟨i + 1, zs, by have := HZL.out; omega, by go_num, HUZ, HT6⟩
            case measure => simp [intOf]; have := HZL.out; omega
          · have b2 : decide ((i : Int) < (bs.length : Int)) = false := decide_eq_false (by omega)
            have gp : (0 : Int) < (ys.length : Int) := by omega
            have hcell := tks_cell HT.out (List.mem_cons_self ..) (List.getElem?_eq_getElem hm)
            have hkm : ys[0] ∈ ys := List.getElem_mem hm
            generalize ys[0] = k at *
            have hzk : k < 18446744073709551616 := HU.out.2 k hkm
            have hfk : K.fo ys k = true := (K.fo_mem HU.out.1 k).2 hkm
            have hzu := K.drop_up HU.out.1 k
            have hzl := T.drop_len HU.out.1 hkm
            have hzm := K.drop_mem HU.out.1 k
            have hdrop := k_drop wr _ ys HKV.out (by omega) k
            obtain ⟨zs, hzs⟩ : ∃ zs, K.drop ys k = zs := ⟨_, rfl⟩
            rw [hzs] at hzu hzl hzm hdrop
            have hnk : K.fo zs k = false := by rw [Bool.eq_false_iff]; exact fun hf => ((hzm k).1 ((K.fo_mem hzu k).1 hf)).1 rfl
            have hnd : K.drop zs k = zs := by unfold K.drop; rw [if_neg (by rw [hnk]; simp)]
            have hsm : Hid (∀ (W : World) (S : List (Value × List Nat)) (v : Value), (v, zs) ∈ S → TKs w W P 200000 zs S → Calls Try.prog 15 #[.pointer (some ⟨P, 0, none⟩), v] W fun e w' => e = .returned (.bool true) ∧ TKs w w' P 200000 zs S) := Lib.hid (fun W S v hm h => by
              have := tks_same h v zs hm (by omega) (by omega)
              rw [decide_eq_true rfl] at this
              exact this)
            have HUZ := Lib.hid (show K.Up zs ∧ ∀ x ∈ zs, x < 18446744073709551616 from ⟨hzu, fun x hx => HU.out.2 x ((hzm x).1 hx).2⟩)
            have HZL := Lib.hid hzl
            replace hdrop := Lib.hid hdrop
            have hd1 : Hid (∀ (W : World) (S : List (Value × List Nat)), TKs w W P 200000 ys S → Calls Try.prog 23 #[.pointer (some ⟨P, 0, none⟩), .int .u64 (k : Int)] W fun e w' => e = .returned (.int .i64 0) ∧ TKs w w' P 200000 zs S) := Lib.hid (fun W S h => tks_delete h k hzk (if_pos hfk) hzs)
            have hd2 : Hid (∀ (W : World) (S : List (Value × List Nat)), TKs w W P 200000 zs S → Calls Try.prog 23 #[.pointer (some ⟨P, 0, none⟩), .int .u64 (k : Int)] W fun e w' => e = .returned (.int .i64 3) ∧ TKs w w' P 200000 zs S) := Lib.hid (fun W S h => tks_delete h k hzk (if_neg (by rw [hnk]; simp)) hnd)
            have hh := Lib.hid (fun (W : World) (S : List (Value × List Nat)) (h : TKs w W P 200000 zs S) => tks_has h k hzk hnk)
            clear hzk hfk hzu hzl hzm hzs hnk hnd hkm
            go_wp2_with (first
            | (go_at_call 22; (with_reducible refine hdrop.out.mono ?_); rintro e w2 ⟨v2, rfl, hk2, hb2, hv2⟩; have HT2 := Lib.hid (HT.out.klp (List.mem_cons_self ..) hk2 hb2 hv2); clear hk2 hb2 hv2)
            | (go_at_call 23; (with_reducible refine (hd1.out w2 _ HT2.out).mono ?_); rintro e w3 ⟨rfl, h3⟩; have HT3 := Lib.hid h3; clear h3)
            | (go_at_call 23; (with_reducible refine (hd2.out w3 _ HT3.out).mono ?_); rintro e w4 ⟨rfl, h4⟩; have HT4 := Lib.hid h4; clear h4)
            | (go_at_call 24; (with_reducible refine (hh.out w4 _ HT4.out).mono ?_); rintro e w5 ⟨rfl, h5⟩; have HT5 := Lib.hid h5; clear h5)
            | (go_at_call 15; (with_reducible refine (hsm.out w5 _ _ (List.mem_cons_self ..) HT5.out).mono ?_); rintro e w6 ⟨rfl, h6⟩; have HT6 := Lib.hid (h6.less (S' := [(v2, zs)]) fun p hp => by simp at hp ⊢; simp [hp]); clear h6))
            go_roundw
            case rel => exact ⟨i + 1, zs, by have := HZL.out; omega, by go_num, HUZ, HT6⟩
            case measure => simp [intOf]; have := HZL.out; omega
end
end Go.Proofs.Ytiinefdpaiincaa
