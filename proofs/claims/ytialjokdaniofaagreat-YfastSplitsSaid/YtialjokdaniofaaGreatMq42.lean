/- The law YfastSplits; the text walked. -/
import Derived.Test.YtialjokdaniofaaGreatMq41
import Derived.Test.YtialjokdaniofaaGreatMq37
namespace Go.Proofs.YtialjokdaniofaaGreat
set_option maxRecDepth 20000
open Go.RowKit
namespace Bk
/-- Keys that rise by the same step. -/
def row (f s n : Nat) : List Nat := (List.range n).map fun i => f + i * s
theorem row_len (f s n : Nat) : (row f s n).length = n := by simp [row]
theorem row_at (f s n : Nat) {j : Nat} (hj : j < (row f s n).length) : (row f s n)[j] = f + j * s := by simp [row]
theorem row_up (f n : Nat) {s : Nat} (hs : 0 < s) : K.Up (row f s n) := by
  refine List.pairwise_iff_getElem.2 fun i j hi hj hij => ?_
  rw [row_at, row_at]
  have := Nat.mul_lt_mul_of_pos_right hij hs
  omega
theorem row_next {xs : List Nat} (h : K.Up xs) {j : Nat} (hj : j + 1 < xs.length) : K.nx xs (xs[j] + 1) = xs[j + 1] ∧ K.nxb xs (xs[j] + 1) = true := by
  have hlt := List.pairwise_iff_getElem.1 h j (j + 1) (by omega) hj (by omega)
  refine nx_is h (List.getElem_mem hj) (by omega) (fun x hx hk => ?_)
  obtain ⟨i, hi, rfl⟩ := List.getElem_of_mem hx
  rcases Nat.lt_or_ge j i with h1 | h1
  · rcases Nat.lt_or_ge (j + 1) i with h2 | h2
    · exact Nat.le_of_lt (List.pairwise_iff_getElem.1 h _ _ hj hi h2)
    · obtain rfl : i = j + 1 := by omega
      exact Nat.le_refl _
  · rcases Nat.lt_or_ge i j with h2 | h2
    · have := List.pairwise_iff_getElem.1 h i j hi (by omega) h2
      omega
    · obtain rfl : i = j := by omega
      omega
theorem row_last {xs : List Nat} (h : K.Up xs) {j : Nat} (hj : j < xs.length) (hn : ¬ j + 1 < xs.length) : K.nx xs (xs[j] + 1) = 0 ∧ K.nxb xs (xs[j] + 1) = false := by
  refine nx_not fun x hx => ?_
  obtain ⟨i, hi, rfl⟩ := List.getElem_of_mem hx
  rcases Nat.lt_or_ge i j with h2 | h2
  · have := List.pairwise_iff_getElem.1 h i j hi hj h2
    omega
  · obtain rfl : i = j := by omega
    omega
end Bk
section
variable {w W : World} {P lim : Nat} {l : Bk.BL} {S : List (Value × List Nat)}
theorem tys_new (hb : Below w.heap.size w W) (sd n : Nat) (hn : n ≤ 500000) :
    Calls Tryz.prog 9 #[.int .u64 (sd : Int), .int .i64 (n : Int)] W fun e w' => ∃ P, e = .returned (.tuple #[.pointer (some ⟨P, 0, none⟩), .int .i64 0]) ∧ TYs w w' P n [] [] := by
  refine (ys_new W sd n hn).mono ?_
  rintro e w' ⟨P, O, rfl, h, hb2, hO⟩
  exact ⟨P, rfl, 0, O, h, hb.trans (hb2.mono hb.size), fun j hj => Nat.le_trans hb.size (hO j hj), fun p hp => by cases hp⟩
theorem tys_next (h : TYs w W P lim l S) (k : Nat) (hk : k < 18446744073709551616) {a : Nat} {b : Bool} (h1 : K.nx (Bk.keys l) k = a) (h2 : K.nxb (Bk.keys l) k = b) :
    Calls Tryz.prog 30 #[.pointer (some ⟨P, 0, none⟩), .int .u64 (k : Int)] W fun e w' => e = .returned (.tuple #[.int .u64 (a : Int), .bool b]) ∧ TYs w w' P lim l S := by
  subst h1 h2
  exact h.op (m := fun _ => 12) fun _ _ hT => ys_next hT k hk
theorem tys_prev (h : TYs w W P lim l S) (k : Nat) (hk : k < 18446744073709551616) {a : Nat} {b : Bool} (h1 : K.pv (Bk.keys l) k = a) (h2 : K.pvb (Bk.keys l) k = b) :
    Calls Tryz.prog 31 #[.pointer (some ⟨P, 0, none⟩), .int .u64 (k : Int)] W fun e w' => e = .returned (.tuple #[.int .u64 (a : Int), .bool b]) ∧ TYs w w' P lim l S := by
  subst h1 h2
  exact h.op (m := fun _ => 12) fun _ _ hT => ys_prev hT k hk
theorem tys_buckets (h : TYs w W P lim l S) : Calls Tryz.prog 16 #[.pointer (some ⟨P, 0, none⟩)] W fun e w' => e = .returned (.int .i64 (l.length : Int)) ∧ TYs w w' P lim l S :=
  h.op (m := fun tk => tk) fun _ _ hT => ys_buckets hT
end
set_option maxHeartbeats 2000000 in
set_option maxRecDepth 100000 in
theorem law_splits (w : World) (sd fr st m : Nat) (hst : st < 4294967296) :
    Calls Tryz.prog 7 #[.int .u64 (sd : Int), .int .u64 (fr : Int), .int .u32 (st : Int), .int .u16 (m : Int)] w fun e w' => e = .returned (.bool true) ∧ Below w.heap.size w w' := by
  have haw := Lib.hid (law_awakeY w)
  have hnew : Hid (∀ W : World, Below w.heap.size w W → Calls Tryz.prog 9 #[.int .u64 (sd : Int), .int .i64 200000] W fun e w' => ∃ P, e = .returned (.tuple #[.pointer (some ⟨P, 0, none⟩), .int .i64 0]) ∧ TYs w w' P 200000 [] []) := Lib.hid (fun W hW => tys_new hW sd 200000 (by omega))
  obtain ⟨i0, hi, hz0, hz1, hz2⟩ := info_parts u64_info
  obtain ⟨r, hr⟩ : ∃ r, m % 500 = r := ⟨_, rfl⟩
  have hrl : r < 500 := by omega
  obtain ⟨n, hn⟩ : ∃ n, 1 + r = n := ⟨_, rfl⟩
  have a1 : (m : Int) % 500 = (r : Int) := by omega
  have a2 : (m : Int).tmod 500 = (r : Int) := by rw [Int.tmod_eq_emod_of_nonneg (by omega)]; exact a1
  have a3 : IntKind.u16.wrap (r : Int) = (r : Int) := by rw [IntKind.wrap_u16]; omega
  have a4 : IntKind.i64.wrap (r : Int) = (r : Int) := IntWalk.i64_in _ (by omega)
  have a5 : IntKind.i64.wrap (1 + (r : Int)) = (n : Int) := by rw [IntWalk.i64_in _ (by omega)]; omega
  have hn500 : n ≤ 500 := by omega
  have hn0 : 0 < n := by omega
  obtain ⟨f, hf⟩ : ∃ f, fr % 1099511627776 = f := ⟨_, rfl⟩
  have hfl : f < 1099511627776 := by omega
  have b1 : (fr : Int) % 1099511627776 = (f : Int) := by omega
  have b2 : (fr : Int).tmod 1099511627776 = (f : Int) := by rw [Int.tmod_eq_emod_of_nonneg (by omega)]; exact b1
  have b3 : IntKind.u64.wrap (f : Int) = (f : Int) := by rw [IntKind.wrap_u64]; omega
  have b4 : IntKind.u64.wrap (st : Int) = (st : Int) := by rw [IntKind.wrap_u64]; omega
  obtain ⟨s, hs⟩ : ∃ s, 1 + st = s := ⟨_, rfl⟩
  have b5 : IntKind.u64.wrap (1 + (st : Int)) = (s : Int) := by rw [IntKind.wrap_u64]; omega
  have hsl : 0 < s ∧ s ≤ 4294967296 := by omega
  clear hr hf hs hn hrl
  go_enter Tryz.func7, Tryz.ntmps7
  go_wp2_with (first
    | (go_at_call 8; (with_reducible refine haw.out.mono ?_); rintro e w1 ⟨rfl, hb1⟩; have HB1 := Lib.hid hb1; clear hb1)
    | (go_at_call 9; (with_reducible refine (hnew.out w1 HB1.out).mono ?_); rintro e w2 ⟨P, rfl, h2⟩; have H2 := Lib.hid h2; clear h2))
  go_loopw [12, 32] (fun vx ix wi => ∃ j : Nat, j ≤ n ∧ ix = .int .i64 (j : Int) ∧ Hid (wi.ownsRow w2.heap.size 22 1 vx ((Bk.row f s n).take j).length (wv ((Bk.row f s n).take j))) ∧ Hid (Below w2.heap.size w2 wi)) (fun _ ix _ => n - (intOf ix).toNat)
  case atStart => exact ⟨0, by omega, rfl, Lib.hid (World.ownsRow_nil _ _ _ _), Lib.hid (Below.refl _ _)⟩
  case round =>
    obtain ⟨j, hj, rfl, HO, HW⟩ := hrel
    obtain ⟨vx, hvx⟩ : ∃ v, v = u12 := ⟨_, rfl⟩
    subst hvx
    rcases Nat.lt_or_ge j n with hjn | hjn
    · have gj : decide ((j : Int) < (n : Int)) = true := decide_eq_true (by omega)
      obtain ⟨p, hp⟩ : ∃ p, j * s = p := ⟨_, rfl⟩
      have hpl : p ≤ 500 * 4294967296 := by rw [← hp]; exact Nat.mul_le_mul (by omega) hsl.2
      obtain ⟨y, hy⟩ : ∃ y, f + p = y := ⟨_, rfl⟩
      have c1 : IntKind.u64.wrap (j : Int) = (j : Int) := by rw [IntKind.wrap_u64]; omega
      have c2 : IntKind.u64.wrap ((j : Int) * (s : Int)) = (p : Int) := by
        rw [show (j : Int) * (s : Int) = (p : Int) by rw [← hp]; exact (Int.natCast_mul j s).symm, IntKind.wrap_u64]
        omega
      have c3 : IntKind.u64.wrap ((f : Int) + (p : Int)) = (y : Int) := by rw [IntKind.wrap_u64]; omega
      have c4 : IntKind.i64.wrap ((j : Int) + 1) = ((j + 1 : Nat) : Int) := by rw [IntWalk.i64_in _ (by omega)]; omega
      have hts : (Bk.row f s n).take (j + 1) = (Bk.row f s n).take j ++ [y] := by
        have hjl : j < (Bk.row f s n).length := by rw [Bk.row_len]; exact hjn
        rw [List.take_succ_eq_append_getElem hjl, Bk.row_at, hp, hy]
      have HTS := Lib.hid hts
      have hlen : ((Bk.row f s n).take j).length ≤ 500 := by rw [List.length_take, Bk.row_len]; omega
      clear hts hp hy
      generalize (Bk.row f s n).take j = ds at *
      go_wp2_with (at_builtin; refine wpList_append_own _ rfl _ _ 47 rfl w2.heap.size 22 i0 (.int .u64 0) 1 8 Tryz.underlying47 hi hz0 hz1 hz2 rfl (by decide) _ _ _ rfl (HO.out.alloc _) ⟨wr.heap.size, 0, none⟩ 1 1 [.int .u64 (y : Int)] rfl rfl ?c1 ?c2 ?c3 ?c4 ?c5 ?_)
      case c1 => exact cell_one _ _ _
      case c2 => first | exact one_int _ _ | rfl
      case c3 => unfold maxLen; omega
      case c4 => omega
      case c5 => have := HW.out.size; simp; omega
      intro v' wn hown' hgrow _
      obtain ⟨hown2, hb2⟩ := own_snocN HW.out HO.out hown' hgrow
      rw [← HTS.out] at hown2
      have HO2 := Lib.hid hown2
      have HW2 := Lib.hid hb2
      clear hown' hgrow hown2 hb2
      go_wp2
      go_roundw
      case rel => exact ⟨j + 1, by omega, by go_num, HO2, HW2⟩
      case measure => simp [intOf]; omega
    · obtain rfl : j = n := by omega
      have g0 : decide ((j : Int) < (j : Int)) = false := decide_eq_false (by omega)
      have hup : K.Up (Bk.row f s j) := Bk.row_up f j hsl.1
      have hlen : (Bk.row f s j).length = j := Bk.row_len f s j
      have hbn : ∀ x ∈ Bk.row f s j, x < 9223372036854775807 := fun x hx => by
        obtain ⟨i, hi, rfl⟩ := List.getElem_of_mem hx
        rw [Bk.row_at]
        have : i * s ≤ 500 * 4294967296 := Nat.mul_le_mul (by omega) hsl.2
        omega
      have hown := HO.out
      rw [List.take_of_length_le (by omega)] at hown
      generalize Bk.row f s j = xs at *
      have hkx : KX wr vx xs := ⟨hown.1, hown.2.imp id fun ⟨g, cap, cur, a, _, c⟩ => ⟨g, cap, cur, a, Nat.zero_le _, c⟩⟩
      have h3 := H2.out.fresh hkx HW.out (fun g hg => (hown.lt g hg).1)
      obtain ⟨A, c, rfl, _, _⟩ := Kb.kx_rh hkx
      have hea := tys_each h3 A c (by simp) hup (fun x hx => by have := hbn x hx; omega) (by omega) (by omega)
      rw [hlen] at hea
      obtain ⟨g, hg⟩ : ∃ g, A = some ⟨g, 0, none⟩ := by
        rcases hkx.form with ⟨_, e⟩ | ⟨g, cc, hv, _, _, -⟩
        · rw [e] at hlen
          simp at hlen
          omega
        · injection hv with hA _ _
          exact ⟨g, hA⟩
      subst hg
      rw [hlen] at h3
      have HEA := Lib.hid hea
      have HX := Lib.hid (And.intro hup (And.intro hlen hbn))
      obtain ⟨a, ha⟩ : ∃ a, j / 64 = a := ⟨_, rfl⟩
      obtain ⟨b, hb⟩ : ∃ b, (j + 127) / 128 = b := ⟨_, rfl⟩
      have d1 : (j : Int) / 64 = (a : Int) := by omega
      have d2 : (j : Int).tdiv 64 = (a : Int) := by rw [Int.tdiv_eq_ediv_of_nonneg (by omega)]; exact d1
      have d3 : IntKind.i64.wrap (a : Int) = (a : Int) := IntWalk.i64_in _ (by omega)
      have d4 : IntKind.i64.wrap (1 + (a : Int)) = 1 + (a : Int) := IntWalk.i64_in _ (by omega)
      have d5 : IntKind.i64.wrap ((j : Int) + 127) = (j : Int) + 127 := IntWalk.i64_in _ (by omega)
      have d6 : ((j : Int) + 127) / 128 = (b : Int) := by omega
      have d7 : ((j : Int) + 127).tdiv 128 = (b : Int) := by rw [Int.tdiv_eq_ediv_of_nonneg (by omega)]; exact d6
      have d8 : IntKind.i64.wrap (b : Int) = (b : Int) := IntWalk.i64_in _ (by omega)
      have HAB := Lib.hid (And.intro ha hb)
      rw [hlen]
      clear HO HW hown hkx h3 hea ha hb hup hlen hbn H2 haw hnew
      go_wp2_with (first
        | (go_at_call 34; (with_reducible refine HEA.out.mono ?_); rintro e w5 ⟨rfl, l5, hk5, hs5, h5⟩
           have hc5 := hs5.count h5.ok (by rw [hk5, HX.out.2.1]; omega)
           rw [hk5, HX.out.2.1, HAB.out.1, HAB.out.2] at hc5
           obtain ⟨L, hL⟩ : ∃ L, l5.length = L := ⟨_, rfl⟩
           have hbk := fun W h => tys_buckets (W := W) (h : TYs w W P 200000 l5 [(.slice (some ⟨g, 0, none⟩) j c, xs)])
           rw [hL] at hbk hc5
           have f1 : decide (1 + (a : Int) < (L : Int)) = false := decide_eq_false (by omega)
           have f2 : decide ((L : Int) < (b : Int)) = false := decide_eq_false (by omega)
           have f3 : decide (L < b) = false := decide_eq_false (by omega)
           have HBK := Lib.hid hbk
           have HB1' := Lib.hid (hbk w5 h5)
           have HK5 := Lib.hid hk5
           clear h5 hk5 hs5 hc5 hL hbk)
        | (go_at_call 16; (with_reducible refine HB2'.out.mono ?_); rintro e w7 ⟨rfl, h7⟩; have H7 := Lib.hid h7; clear h7)
        | (go_at_call 16; (with_reducible refine HB1'.out.mono ?_); rintro e w6 ⟨rfl, h6⟩; have HB2' := Lib.hid (HBK.out w6 h6); clear h6))
      go_loopw [71] (fun ix wi => ∃ i : Nat, i ≤ j ∧ ix = .int .i64 (i : Int) ∧ Hid (TYs w wi P 200000 l5 [(.slice (some ⟨g, 0, none⟩) j c, xs)])) (fun ix _ => j - (intOf ix).toNat)
      case atStart => exact ⟨0, by omega, rfl, H7⟩
      case round =>
        obtain ⟨i, hij, rfl, HT⟩ := hrel
        clear H7
        rcases Nat.lt_or_ge i j with hi1 | hi1
        · obtain ⟨hup, hlen, hbn⟩ := HX.out
          have hix : i < xs.length := by omega
          have hcell := tys_cell HT.out (List.mem_cons_self ..) (List.getElem?_eq_getElem hix)
          have hkb := hbn xs[i] (List.getElem_mem hix)
          have hkm : xs[i] ∈ xs := List.getElem_mem hix
          have gi : decide ((i : Int) < (j : Int)) = true := decide_eq_true (by omega)
          have gi' : (i : Int) < (j : Int) := by omega
          have wi1 : IntKind.i64.wrap ((i : Int) + 1) = (i : Int) + 1 := IntWalk.i64_in _ (by omega)
          have hpv := T.pv_yes hup hkm
          rcases Nat.lt_or_ge (i + 1) j with hi2 | hi2
          · have hnx := Bk.row_next hup (j := i) (by omega)
            have hix2 : i + 1 < xs.length := by omega
            have hce2 := fun W (h : TYs w W P 200000 l5 [(.slice (some ⟨g, 0, none⟩) j c, xs)]) => tys_cell h (List.mem_cons_self ..) (List.getElem?_eq_getElem hix2)
            have g2 : decide ((i : Int) + 1 < (j : Int)) = true := decide_eq_true (by omega)
            have g2' : (i : Int) + 1 < (j : Int) := by omega
            generalize xs[i + 1] = z at *
            generalize xs[i] = k at *
            obtain ⟨q, hq⟩ : ∃ q, k + 1 = q := ⟨_, rfl⟩
            rw [hq] at hnx
            have wk : IntKind.u64.wrap ((k : Int) + 1) = (q : Int) := by rw [IntKind.wrap_u64]; omega
            have HNX := Lib.hid (tys_next HT.out q (by omega) (a := z) (b := true) (by rw [HK5.out]; exact hnx.1) (by rw [HK5.out]; exact hnx.2))
            have HPV := Lib.hid (fun W (h : TYs w W P 200000 l5 [(.slice (some ⟨g, 0, none⟩) j c, xs)]) => tys_prev h k (by omega) (a := k) (b := true) (by rw [HK5.out]; exact hpv.1) (by rw [HK5.out]; exact hpv.2))
            clear hq
            have HCE2 := Lib.hid hce2
            clear hnx hpv hup hlen hbn hix hix2 hkm hkb hce2
            go_wp2_with (first
              | (go_at_call 30; (with_reducible refine HNX.out.mono ?_); rintro e w8 ⟨rfl, h8⟩; have H8 := Lib.hid (HPV.out w8 h8); clear h8)
              | (go_at_call 31; (with_reducible refine H8.out.mono ?_); rintro e w9 ⟨rfl, h9⟩; have hz := HCE2.out w9 h9; have H9 := Lib.hid h9; clear h9))
            go_roundw
            case rel => exact ⟨i + 1, by omega, by go_num, H9⟩
            case measure => simp [intOf]; omega
          · have hnx := Bk.row_last hup hix (by omega)
            have g2 : decide ((i : Int) + 1 < (j : Int)) = false := decide_eq_false (by omega)
            generalize xs[i] = k at *
            obtain ⟨q, hq⟩ : ∃ q, k + 1 = q := ⟨_, rfl⟩
            rw [hq] at hnx
            have wk : IntKind.u64.wrap ((k : Int) + 1) = (q : Int) := by rw [IntKind.wrap_u64]; omega
            have HNX := Lib.hid (tys_next HT.out q (by omega) (a := 0) (b := false) (by rw [HK5.out]; exact hnx.1) (by rw [HK5.out]; exact hnx.2))
            have HPV := Lib.hid (fun W (h : TYs w W P 200000 l5 [(.slice (some ⟨g, 0, none⟩) j c, xs)]) => tys_prev h k (by omega) (a := k) (b := true) (by rw [HK5.out]; exact hpv.1) (by rw [HK5.out]; exact hpv.2))
            clear hq
            clear hnx hpv hup hlen hbn hix hkm hkb
            go_wp2_with (first
              | (go_at_call 30; (with_reducible refine HNX.out.mono ?_); rintro e w8 ⟨rfl, h8⟩; have H8 := Lib.hid (HPV.out w8 h8); clear h8)
              | (go_at_call 31; (with_reducible refine H8.out.mono ?_); rintro e w9 ⟨rfl, h9⟩; have H9 := Lib.hid h9; clear h9))
            go_roundw
            case rel => exact ⟨i + 1, by omega, by go_num, H9⟩
            case measure => simp [intOf]; omega
        · obtain rfl : i = j := by omega
          have g9 : decide ((i : Int) < (i : Int)) = false := decide_eq_false (by omega)
          go_wp2
          go_ret
          exact ⟨rfl, HT.out.low⟩
end Go.Proofs.YtialjokdaniofaaGreat
