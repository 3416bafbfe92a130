/- The law YfastShrinks; the text walked. How a slice of 16-bit numbers that came in reads. -/
import Derived.Test.YtelfacchhclgnaaGreatMu44
import Derived.Test.YtelfacchhclgnaaGreatMu42
import Derived.Test.YtelfacchhclgnaaGreatMu38
section
namespace Go.Proofs.YtelfacchhclgnaaGreat
open Go.RowKit Go.Shelf
theorem nil_Each (w : World) (B : Nat) (A : Option Addr) (n c : Nat) (ks : List Nat) (hn : ks.length = n) (hn2 : n ≤ 1000000) (hR : Reads w B 1 A n (wv ks)) :
    Calls Tryz.prog 34 #[.pointer none, .slice A n c] w fun e w' => e = .returned (.int .i64 0) ∧ w = w' := by
  have HN := Lib.hid hn
  have HRD := Lib.hid hR
  clear hR hn
  go_enter Tryz.func34, Tryz.ntmps34
  go_wp2
  go_loopw [5, 10] (fun acc ix wr => ∃ j : Nat, j ≤ n ∧ acc = .int .i64 0 ∧ ix = .int .i64 (j : Int) ∧ Hid (w = wr)) (fun _ ix _ => n - (intOf ix).toNat)
  case atStart => exact ⟨0, by omega, rfl, rfl, rfl⟩
  case round =>
    obtain ⟨j, hj, rfl, rfl, hW⟩ := hrel
    obtain rfl : w = wr := hW.out
    rcases Nat.lt_or_ge j n with hjr | hjr
    · have hjk : j < ks.length := by rw [HN.out]; exact hjr
      obtain ⟨ad, u, rfl, _, hu, hcell⟩ := HRD.out.at_ hjr
      have hu2 : u = .int .u64 ((ks[j] : Nat) : Int) := by
        have : (wv ks)[j]? = some (.int .u64 ((ks[j] : Nat) : Int)) := by simp [wv, hjk]
        rw [this] at hu
        exact (Option.some.inj hu).symm
      subst hu2
      generalize ks[j] = k at *
      have gk : (j : Int) < (n : Int) := by omega
      have wj : IntKind.i64.wrap ((j : Int) + 1) = ((j + 1 : Nat) : Int) := by rw [IntWalk.i64_in _ (by omega)]; omega
      clear hu hjk
      go_wp2_with (go_at_call 24; (with_reducible refine (nil_Insert w k).mono ?_); rintro e w' ⟨rfl, rfl⟩)
      go_roundw
      case rel => exact ⟨j + 1, by omega, rfl, by go_num, by first | exact Lib.hid rfl | trivial⟩
      case measure => simp [intOf]; omega
    · obtain rfl : j = n := by omega
      have g0 : decide ((j : Int) < (j : Int)) = false := decide_eq_false (by omega)
      go_wp2
      go_ret
      exact ⟨rfl, rfl⟩

/-- A slice of 16-bit numbers that came in. -/
def Rt (w : World) (B : Nat) (A : Option Addr) (xs : List Nat) : Prop :=
  xs ≠ [] → ∃ b off, A = some ⟨b, off, none⟩ ∧ b < B ∧ ∀ (k : Nat) (h : k < xs.length), w.cell? ⟨b, off + k, none⟩ = some (.int .u16 (xs[k] : Nat))
theorem Rt.below {w w' : World} {B : Nat} {A : Option Addr} {xs : List Nat} (h : Rt w B A xs) (hb : Below B w w') : Rt w' B A xs := fun hne => by
  obtain ⟨b, off, rfl, hlt, hc⟩ := h hne
  exact ⟨b, off, rfl, hlt, fun k hk => (hb.cell (p := ⟨b, off + k, none⟩) hlt).trans (hc k hk)⟩
theorem Rt.at {w : World} {B : Nat} {A : Option Addr} {xs : List Nat} (h : Rt w B A xs) {k : Nat} (hk : k < xs.length) : ∃ b off, A = some ⟨b, off, none⟩ ∧ w.cell? ⟨b, off + k, none⟩ = some (.int .u16 (xs[k] : Nat)) := by
  obtain ⟨b, off, rfl, _, hc⟩ := h (by rintro rfl; simp at hk)
  exact ⟨b, off, rfl, hc k hk⟩
theorem one_reads (W : World) (k : Nat) : Reads (W.alloc (.cells #[.int .u64 (k : Int)] 22)) (W.heap.size + 1) 1 (some ⟨W.heap.size, 0, none⟩) 1 (wv [k]) := ⟨rfl, fun _ => ⟨_, rfl, Nat.lt_succ_self _, K.one_cell W _ _⟩⟩
namespace Bk
/-- Keys three apart, wrapping round. -/
def wr3 (f n : Nat) : List Nat := (List.range n).map fun i => (f + 3 * i) % 18446744073709551616
theorem wr3_len (f n : Nat) : (wr3 f n).length = n := by simp [wr3]
theorem wr3_at (f n : Nat) {j : Nat} (hj : j < (wr3 f n).length) : (wr3 f n)[j] = (f + 3 * j) % 18446744073709551616 := by simp [wr3]
theorem add_len {l : List Nat} {k : Nat} (h : k ∉ l) (hu : K.Up l) : (K.add l k).length = l.length + 1 := by
  have hf : K.fo l k = false := by
    cases hh : K.fo l k with
    | false => rfl
    | true => exact absurd ((K.fo_mem hu k).1 hh) h
  have := K.fi_le l k
  unfold K.add
  rw [hf]
  simp
  omega
theorem off_nodup (l : List Nat) (h : l.Nodup) : (K.off l).length = l.length := by
  have : ∀ n, n ≤ l.length → (K.off (l.take n)).length = n := by
    intro n
    induction n with
    | zero => intro _; simp [K.off]
    | succ n ih =>
      intro hn
      have h1 := ih (by omega)
      rw [K.off_snoc l n (by omega), add_len ?_ (T.off_up _), h1]
      rw [T.off_mem]
      intro hm
      obtain ⟨j, hj, e⟩ := List.getElem_of_mem hm
      rw [List.length_take] at hj
      rw [List.getElem_take] at e
      have := (List.nodup_iff_pairwise_ne.1 h)
      have h2 := List.pairwise_iff_getElem.1 this j n (by omega) (by omega) (by omega)
      exact h2 e
  have h2 := this l.length (Nat.le_refl _)
  rwa [List.take_length] at h2
theorem wrap_one {M f x : Nat} (hf : f < M) (hx : x < M) : (f + x) % M = if f + x < M then f + x else f + x - M := by
  by_cases h : f + x < M
  · rw [if_pos h, Nat.mod_eq_of_lt h]
  · rw [if_neg h, Nat.mod_eq_sub_mod (by omega), Nat.mod_eq_of_lt (by omega)]
theorem wrap_ne {M f x y : Nat} (hf : f < M) (hx : x < y) (hy : y < M) : (f + x) % M ≠ (f + y) % M := by
  rw [wrap_one hf (by omega), wrap_one hf hy]
  split <;> split <;> omega
theorem wr3_nodup (f n : Nat) (hf : f < 18446744073709551616) (hn : n ≤ 600) : (wr3 f n).Nodup := by
  refine List.nodup_iff_pairwise_ne.2 (List.pairwise_iff_getElem.2 fun i j hi hj hij => ?_)
  rw [wr3_len] at hi hj
  rw [wr3_at, wr3_at]
  exact wrap_ne hf (by omega) (by omega)
theorem drop_len {l : List Nat} (hu : K.Up l) {k : Nat} (h : k ∈ l) : (K.drop l k).length + 1 = l.length := by
  have hf := (K.fo_mem hu k).2 h
  obtain ⟨h1, _⟩ := K.fo_lt hf
  unfold K.drop
  rw [hf]
  simp
  omega
end Bk
section
variable {w W : World} {P lim : Nat} {l : Bk.BL}
theorem tys_klp {v0 : Value} {xs : List Nat} (h : TYs w W P lim l [(v0, xs)]) {ys : List Nat} {e : Ending} {w' : World} (hk : KLP W v0 ys e w') : ∃ v, e = .returned v ∧ TYs w w' P lim l [(v, ys)] := by
  obtain ⟨v, rfl, h1, h2, h3⟩ := hk
  refine ⟨v, rfl, ?_⟩
  rcases h3 with rfl | h3
  · obtain ⟨tk, O, hT, hb, hO, hS⟩ := h
    exact ⟨tk, O, hT.below h2, hb.trans (h2.mono hb.size), hO, fun p hp => by
      rcases List.mem_singleton.1 hp with rfl
      exact ⟨h1, (hS (v, xs) (by simp)).2⟩⟩
  · exact (h.fresh h1 h2 h3).less (fun p hp => by rcases List.mem_singleton.1 hp with rfl; simp)
end
set_option maxHeartbeats 4000000 in
set_option maxRecDepth 100000 in
theorem law_shrinks (w : World) (sd fr m : Nat) (hm : m < 65536) (hfr : fr < 18446744073709551616) (Ao : Option Addr) (co : Nat) (os : List Nat) (ho : Rt w w.heap.size Ao os) (hol : os.length ≤ 9223372036854775807) (hob : ∀ x ∈ os, x < 65536) :
    Calls Tryz.prog 6 #[.int .u64 (sd : Int), .int .u64 (fr : Int), .int .u16 (m : Int), .slice Ao os.length co] w fun e w' => e = .returned (.bool true) ∧ Below w.heap.size w w' := by
  have haw := Lib.hid (law_awakeY w)
  have hnew : Hid (∀ W : World, Below w.heap.size w W → Calls Tryz.prog 9 #[.int .u64 (sd : Int), .int .i64 100000] W fun e w' => ∃ P, e = .returned (.tuple #[.pointer (some ⟨P, 0, none⟩), .int .i64 0]) ∧ TYs w w' P 100000 [] []) := Lib.hid (fun W hW => tys_new hW sd 100000 (by omega))
  obtain ⟨i0, hi, hz0, hz1, hz2⟩ := info_parts u64_info
  obtain ⟨n, hr⟩ : ∃ r, m % 600 = r := ⟨_, rfl⟩
  have hn600 : n < 600 := by omega
  have a1 : (m : Int) % 600 = (n : Int) := by omega
  have a2 : (m : Int).tmod 600 = (n : Int) := by rw [Int.tmod_eq_emod_of_nonneg (by omega)]; exact a1
  have a3 : IntKind.u16.wrap (n : Int) = (n : Int) := by rw [IntKind.wrap_u16]; omega
  have a4 : IntKind.i64.wrap (n : Int) = (n : Int) := IntWalk.i64_in _ (by omega)
  have HO := Lib.hid ho
  have HOB := Lib.hid hob
  obtain ⟨lo, hlo⟩ : ∃ lo, os.length = lo := ⟨_, rfl⟩
  have HLO := Lib.hid hlo
  rw [hlo] at hol ⊢
  clear hr ho hob hlo
  go_enter Tryz.func6, Tryz.ntmps6
  go_wp2_with (first
    | (go_at_call 8; (with_reducible refine haw.out.mono ?_); rintro e w1 ⟨rfl, hb1⟩; have HB1 := Lib.hid hb1; clear hb1)
    | (go_at_call 9; (with_reducible refine (hnew.out w1 HB1.out).mono ?_); rintro e w2 ⟨P, rfl, h2⟩; have H2 := Lib.hid h2; clear h2))
  go_loopw [12, 29] (fun vx ix wi => ∃ j : Nat, j ≤ n ∧ ix = .int .i64 (j : Int) ∧ Hid (wi.ownsRow w2.heap.size 22 1 vx ((Bk.wr3 fr n).take j).length (wv ((Bk.wr3 fr n).take j))) ∧ Hid (Below w2.heap.size w2 wi)) (fun _ ix _ => n - (intOf ix).toNat)
  case atStart => exact ⟨0, by omega, rfl, Lib.hid (World.ownsRow_nil _ _ _ _), Lib.hid (Below.refl _ _)⟩
  case round =>
    obtain ⟨j, hj, rfl, HOW, HW⟩ := hrel
    obtain ⟨vx, hvx⟩ : ∃ v, v = u12 := ⟨_, rfl⟩
    subst hvx
    rcases Nat.lt_or_ge j n with hjn | hjn
    · have gj : decide ((j : Int) < (n : Int)) = true := decide_eq_true (by omega)
      obtain ⟨p, hp⟩ : ∃ p, j * 3 = p := ⟨_, rfl⟩
      obtain ⟨y, hy⟩ : ∃ y, (fr + p) % 18446744073709551616 = y := ⟨_, rfl⟩
      have c1 : IntKind.u64.wrap (j : Int) = (j : Int) := by rw [IntKind.wrap_u64]; omega
      have c2 : IntKind.u64.wrap ((j : Int) * 3) = (p : Int) := by rw [IntKind.wrap_u64]; omega
      have c3 : IntKind.u64.wrap ((fr : Int) + (p : Int)) = (y : Int) := by rw [IntKind.wrap_u64]; omega
      have c4 : IntKind.i64.wrap ((j : Int) + 1) = ((j + 1 : Nat) : Int) := by rw [IntWalk.i64_in _ (by omega)]; omega
      have hts : (Bk.wr3 fr n).take (j + 1) = (Bk.wr3 fr n).take j ++ [y] := by
        have hjl : j < (Bk.wr3 fr n).length := by rw [Bk.wr3_len]; exact hjn
        rw [List.take_succ_eq_append_getElem hjl, Bk.wr3_at, show 3 * j = p by omega, hy]
      have HTS := Lib.hid hts
      have hlen : ((Bk.wr3 fr n).take j).length ≤ 600 := by rw [List.length_take, Bk.wr3_len]; omega
      clear hts hp hy
      generalize (Bk.wr3 fr n).take j = ds at *
      go_wp2_with (at_builtin; refine wpList_append_own _ rfl _ _ 47 rfl w2.heap.size 22 i0 (.int .u64 0) 1 8 Tryz.underlying47 hi hz0 hz1 hz2 rfl (by decide) _ _ _ rfl (HOW.out.alloc _) ⟨wr.heap.size, 0, none⟩ 1 1 [.int .u64 (y : Int)] rfl rfl ?c1 ?c2 ?c3 ?c4 ?c5 ?_)
      case c1 => exact cell_one _ _ _
      case c2 => first | exact one_int _ _ | rfl
      case c3 => unfold maxLen; omega
      case c4 => omega
      case c5 => have := HW.out.size; simp; omega
      intro v' wn hown' hgrow _
      obtain ⟨hown2, hb2⟩ := own_snocN HW.out HOW.out hown' hgrow
      rw [← HTS.out] at hown2
      have HO2 := Lib.hid hown2
      have HW2 := Lib.hid hb2
      clear hown' hgrow hown2 hb2
      go_wp2
      go_roundw
      case rel => exact ⟨j + 1, by omega, by go_num, HO2, HW2⟩
      case measure => simp [intOf]; omega
    · obtain rfl : j = n := by omega
      have g0 : decide ((j : Int) < (j : Int)) = false := decide_eq_false (by omega)
      have hlen : (Bk.wr3 fr j).length = j := Bk.wr3_len fr j
      have hnd := Bk.wr3_nodup fr j hfr (by omega)
      have hown := HOW.out
      rw [List.take_of_length_le (by omega)] at hown
      have hol2 := Bk.off_nodup _ hnd
      rw [hlen] at hol2
      have hbd : ∀ x ∈ Bk.wr3 fr j, x < 18446744073709551616 := fun x hx => by
        obtain ⟨i, hi, rfl⟩ := List.getElem_of_mem hx
        rw [Bk.wr3_at]
        exact Nat.mod_lt _ (by omega)
      have hbo : ∀ x ∈ K.off (Bk.wr3 fr j), x < 18446744073709551616 := fun x hx => hbd x ((T.off_mem _ _).1 hx)
      have hup : K.Up (K.off (Bk.wr3 fr j)) := T.off_up _
      have hkx : KX wr vx (Bk.wr3 fr j) := ⟨hown.1, hown.2.imp id fun ⟨g, cap, cur, a, _, c⟩ => ⟨g, cap, cur, a, Nat.zero_le _, c⟩⟩
      have h3 := H2.out.fresh hkx HW.out (fun g hg => (hown.lt g hg).1)
      have hof := k_of wr vx (Bk.wr3 fr j) hkx (by omega)
      generalize Bk.wr3 fr j = xs at *
      generalize K.off xs = zs at *
      have HOF := Lib.hid hof
      have H3 := Lib.hid (h3.less (S' := []) (fun p hp => by cases hp))
      have HUP := Lib.hid (And.intro hup hbo)
      have HZL := Lib.hid hol2
      clear hown hkx h3 hof hnd hbd hbo hup hol2 hlen HOW HW H2
      go_wp2_with (fail)
      refine HOF.out.mono ?_
      rintro e w4 ⟨v4, rfl, hk4, hb4, hf4⟩
      obtain ⟨A4, c4, hv4⟩ := K.own_form hk4
      subst hv4
      rw [HZL.out] at hk4 hf4 ⊢
      have H4 := Lib.hid (H3.out.fresh hk4 hb4 (fun g hg => by
        rcases hf4 with h | h
        · injection h with h1 _ _
          subst h1
          simp [Value.ownBlock] at hg
        · exact h g hg))
      clear hk4 hb4 hf4
      have hea := tys_each H4.out A4 c4 (xs := zs) (by rw [HZL.out]; simp) HUP.out.1 HUP.out.2 (by rw [HZL.out]; omega) (by rw [HZL.out]; omega)
      rw [HZL.out] at hea
      have HEA := Lib.hid hea
      have e1 : ((j : Int) == (j : Int)) = true := by simp
      have x1 : IntKind.i64.wrap (4 * (j : Int)) = 4 * (j : Int) := IntWalk.i64_in _ (by omega)
      have x2 : IntKind.i64.wrap (4 * (j : Int) + 68) = 4 * (j : Int) + 68 := IntWalk.i64_in _ (by omega)
      clear hea
      go_wp2_with (fail)
      refine HEA.out.mono ?_
      rintro e w5 ⟨rfl, lb, hkb, hsp, h5⟩
      have hsh := hsp.sh
      have hus := hsh.used h5.ok
      rw [hkb, HZL.out] at hus
      have hU := Lib.hid (tys_used h5)
      obtain ⟨ub, hub⟩ : ∃ u, usedB lb = u := ⟨_, rfl⟩
      rw [hub] at hus hU
      have u1 : decide (4 * (j : Int) + 68 < (ub : Int)) = false := decide_eq_false (by omega)
      have HKB := Lib.hid (And.intro hkb hsh)
      clear hkb hsp hsh hus hub h5
      go_wp2_with (go_at_call 12; (with_reducible refine hU.out.mono ?_); rintro e w6 ⟨rfl, h6⟩; have H6 := Lib.hid h6; clear h6)
      have HI0 : Hid (Bk.keys lb = zs ∧ Bk.Sh lb ∧ TYs w w6 P 100000 lb [(.slice A4 j c4, zs)] ∧ zs.length ≤ 600 ∧ zs.length = j ∧ K.Up zs ∧ ∀ x ∈ zs, x < 18446744073709551616) := Lib.hid ⟨HKB.out.1, HKB.out.2, H6.out.less (fun p hp => by rcases List.mem_singleton.1 hp with rfl; simp), by rw [HZL.out]; omega, HZL.out, HUP.out.1, HUP.out.2⟩
      clear HKB H6 H4 H3 hU HEA HOF u1 x1 x2 e1
      go_loopw [12, 58] (fun vx ix wi => ∃ (i m' c' : Nat) (A' : Option Addr) (lb' : Bk.BL) (ks : List Nat), i ≤ lo ∧ ix = .int .i64 (i : Int) ∧ vx = .slice A' m' c' ∧ Hid (Bk.keys lb' = ks ∧ Bk.Sh lb' ∧ TYs w wi P 100000 lb' [(.slice A' m' c', ks)] ∧ ks.length ≤ 600 ∧ ks.length = m' ∧ K.Up ks ∧ ∀ x ∈ ks, x < 18446744073709551616)) (fun _ ix _ => lo - (intOf ix).toNat)
      case atStart => exact ⟨0, j, c4, A4, lb, zs, by omega, rfl, rfl, HI0⟩
      case round =>
        clear HI0
        obtain ⟨i, m', c', A', lb', ks, hi', rfl, rfl, HI⟩ := hrel
        by_cases hlt : i < lo
        · have hlt' : i < os.length := by rw [HLO.out]; exact hlt
          obtain ⟨b0, off, rfl, hc⟩ := (HO.out.below HI.out.2.2.1.low).at hlt'
          have d0 : decide ((i : Int) < (lo : Int)) = true := decide_eq_true (by omega)
          have hax := HOB.out os[i] (List.getElem_mem hlt')
          generalize os[i] = a at *
          by_cases h200 : 200 ≤ i
          · have d1 : decide ((200 : Int) ≤ (i : Int)) = true := decide_eq_true (by omega)
            have d2 : decide (200 ≤ i) = true := decide_eq_true h200
            have HSM := Lib.hid (tys_same HI.out.2.2.1 (.slice A' m' c') ks (by simp) HI.out.1 (by have := HI.out.2.2.2.1; omega))
            have HNE : Hid (∀ W : World, Calls Tryz.prog 34 #[.pointer none, .slice (some ⟨W.heap.size, 0, none⟩) 1 1] (W.alloc (.cells #[.int .u64 (fr : Int)] 22)) fun e w' => e = .returned (.int .i64 0) ∧ w' = W.alloc (.cells #[.int .u64 (fr : Int)] 22)) := Lib.hid (fun W => (nil_Each _ _ _ 1 1 [fr] rfl (by omega) (one_reads W fr)).mono fun e w' ⟨h1, h2⟩ => ⟨h1, h2.symm⟩)
            go_wp2_with (first
              | (go_at_call 34; (with_reducible refine (HNE.out _).mono ?_); rintro e wz3 ⟨rfl, rfl⟩)
              | (go_at_call 16; (with_reducible refine (nil_Buckets _).mono ?_); rintro e wz2 ⟨rfl, rfl⟩)
              | (go_at_call 18; (with_reducible refine HSM.out.mono ?_); rintro e wz1 ⟨rfl, hz1'⟩; have HZ1 := Lib.hid hz1'; clear hz1'))
            go_ret
            exact ⟨by simp, HZ1.out.low.alloc HZ1.out.low.size _⟩
          · have d1 : decide ((200 : Int) ≤ (i : Int)) = false := decide_eq_false (by omega)
            have d2 : decide (200 ≤ i) = false := decide_eq_false h200
            by_cases hm0 : m' = 0
            · subst hm0
              have HSM := Lib.hid (tys_same HI.out.2.2.1 (.slice A' 0 c') ks (by simp) HI.out.1 (by have := HI.out.2.2.2.1; omega))
              have HNE : Hid (∀ W : World, Calls Tryz.prog 34 #[.pointer none, .slice (some ⟨W.heap.size, 0, none⟩) 1 1] (W.alloc (.cells #[.int .u64 (fr : Int)] 22)) fun e w' => e = .returned (.int .i64 0) ∧ w' = W.alloc (.cells #[.int .u64 (fr : Int)] 22)) := Lib.hid (fun W => (nil_Each _ _ _ 1 1 [fr] rfl (by omega) (one_reads W fr)).mono fun e w' ⟨h1, h2⟩ => ⟨h1, h2.symm⟩)
              go_wp2_with (first
                | (go_at_call 34; (with_reducible refine (HNE.out _).mono ?_); rintro e wz3 ⟨rfl, rfl⟩)
                | (go_at_call 16; (with_reducible refine (nil_Buckets _).mono ?_); rintro e wz2 ⟨rfl, rfl⟩)
                | (go_at_call 18; (with_reducible refine HSM.out.mono ?_); rintro e wz1 ⟨rfl, hz1'⟩; have HZ1 := Lib.hid hz1'; clear hz1'))
              go_ret
              exact ⟨by simp, HZ1.out.low.alloc HZ1.out.low.size _⟩
            · have d3 : ((m' : Int) == 0) = false := beq_eq_false_iff_ne.2 (by omega)
              have wi : IntKind.i64.wrap ((i : Int) + 1) = (i : Int) + 1 := IntWalk.i64_in _ (by omega)
              have x0 : IntKind.i64.wrap (a : Int) = (a : Int) := IntWalk.i64_in _ (by omega)
              obtain ⟨r, hr⟩ : ∃ r, a % m' = r := ⟨_, rfl⟩
              have hrm : r < m' := by rw [← hr]; exact Nat.mod_lt _ (by omega)
              have x1 : (a : Int).tmod (m' : Int) = (r : Int) := by rw [Int.tmod_eq_emod_of_nonneg (by omega), ← hr]; exact (Int.natCast_emod a m').symm
              have x2 : (a : Int) % (m' : Int) = (r : Int) := by rw [← hr]; exact (Int.natCast_emod a m').symm
              have x3 : IntKind.i64.wrap (r : Int) = (r : Int) := IntWalk.i64_in _ (by have := HI.out.2.2.2.1; have := HI.out.2.2.2.2.1; omega)
              have hrk : r < ks.length := by rw [HI.out.2.2.2.2.1]; exact hrm
              have hkx := HI.out.2.2.1.kx (v := .slice A' m' c') (xs := ks) (by simp)
              rcases hkx.form with ⟨_, e⟩ | ⟨g, cc, hv, _, _, -⟩
              · rw [e] at hrk
                cases hrk
              injection hv with hA hn2 hc2
              clear hn2 hc2
              subst hA
              have hcell := tys_cell HI.out.2.2.1 (g := g) (n := m') (c := c') (ks := ks) (by simp) (List.getElem?_eq_getElem hrk)
              have hkl := HI.out.2.2.2.2.2.2 ks[r] (List.getElem_mem hrk)
              have hkm : ks[r] ∈ ks := List.getElem_mem hrk
              have HD := Lib.hid (k_drop wr _ ks hkx (by have := HI.out.2.2.2.1; omega) ks[r])
              generalize ks[r] = k at *
              obtain ⟨ys, hys⟩ : ∃ ys, K.drop ks k = ys := ⟨_, rfl⟩
              have hyl := Bk.drop_len HI.out.2.2.2.2.2.1 hkm
              have hfo := (K.fo_mem HI.out.2.2.2.2.2.1 k).2 hkm
              have hyu : K.Up ys ∧ ∀ x ∈ ys, x < 18446744073709551616 := by rw [← hys]; exact ⟨K.drop_up HI.out.2.2.2.2.2.1 k, fun x hx => HI.out.2.2.2.2.2.2 x ((K.drop_mem HI.out.2.2.2.2.2.1 k x).1 hx).2⟩
              rw [hys] at HD hyl
              obtain ⟨my, hmy⟩ : ∃ my, ys.length = my := ⟨_, rfl⟩
              have hml := HI.out.2.2.2.2.1
              have hmb := HI.out.2.2.2.1
              rw [hmy] at hyl
              have HYU := Lib.hid hyu
              have HMY := Lib.hid hmy
              have HFO := Lib.hid hfo
              have HYS := Lib.hid hys
              have y1 : IntKind.i64.wrap (4 * (my : Int)) = 4 * (my : Int) := IntWalk.i64_in _ (by omega)
              have y2 : IntKind.i64.wrap (4 * (my : Int) + 68) = 4 * (my : Int) + 68 := IntWalk.i64_in _ (by omega)
              obtain ⟨q, hq⟩ : ∃ q, my / 32 = q := ⟨_, rfl⟩
              have y3 : (my : Int).tdiv 32 = (q : Int) := by rw [Int.tdiv_eq_ediv_of_nonneg (by omega)]; omega
              have y4 : (my : Int) / 32 = (q : Int) := by omega
              have y5 : IntKind.i64.wrap (q : Int) = (q : Int) := IntWalk.i64_in _ (by omega)
              have y6 : IntKind.i64.wrap ((q : Int) + 1) = (q : Int) + 1 := IntWalk.i64_in _ (by omega)
              have HQ := Lib.hid hq
              have HYL := Lib.hid (And.intro hyl (And.intro hml hmb))
              clear hkx hkm hys hfo hyu hmy hq hyl hml hmb
              go_wp2_with (fail)
              refine HD.out.mono ?_
              rintro e w7 hklp
              obtain ⟨v7, rfl, h7⟩ := tys_klp HI.out.2.2.1 hklp
              obtain ⟨A7, c7, hv7⟩ := K.own_form (h7.kx (v := v7) (xs := ys) (by simp))
              subst hv7
              rw [HMY.out] at h7 ⊢
              have HDEL := Lib.hid (tys_delete_yes h7 k hkl (by rw [HI.out.1]; exact HFO.out) (ys := ys) (by rw [HI.out.1]; exact HYS.out))
              have HOK := Lib.hid h7.ok
              clear hklp h7
              go_wp2_with (fail)
              refine HDEL.out.mono ?_
              rintro e w8 ⟨rfl, l8, hd8, hk8, h8⟩
              have hs8 := HI.out.2.1.del HOK.out hd8
              have hu8 := hs8.used h8.ok
              have hc8 := hs8.count h8.ok
              rw [hk8, HMY.out] at hu8 hc8
              have hU := Lib.hid (fun (W : World) (h : TYs w W P 100000 l8 [(.slice A7 my c7, ys)]) => tys_used h)
              have hBu := Lib.hid (fun (W : World) (h : TYs w W P 100000 l8 [(.slice A7 my c7, ys)]) => tys_buckets h)
              obtain ⟨ub, hub⟩ : ∃ u, usedB l8 = u := ⟨_, rfl⟩
              obtain ⟨lu, hlu⟩ : ∃ u, l8.length = u := ⟨_, rfl⟩
              rw [hub] at hu8 hU
              rw [hlu] at hc8 hBu
              have hqq := HQ.out
              have u1 : decide (4 * (my : Int) + 68 < (ub : Int)) = false := decide_eq_false (by omega)
              have u2 : decide ((q : Int) + 1 < (lu : Int)) = false := decide_eq_false (by omega)
              have H8 := Lib.hid h8
              have HK8 := Lib.hid (And.intro hk8 hs8)
              clear hd8 hk8 hs8 hu8 hc8 hub hlu h8 hqq
              go_wp2_with (first
                | (go_at_call 16; (with_reducible refine (hBu.out _ H9.out).mono ?_); rintro e w10 ⟨rfl, h10⟩; have H10 := Lib.hid h10; clear h10)
                | (go_at_call 12; (with_reducible refine (hU.out _ H8.out).mono ?_); rintro e w9 ⟨rfl, h9⟩; have H9 := Lib.hid h9; clear h9))
              go_roundw
              case rel => exact ⟨i + 1, my, c7, A7, l8, ys, by omega, by go_num, rfl, Lib.hid ⟨HK8.out.1, HK8.out.2, H10.out, by have h1 := HYL.out; have h2 := HMY.out; omega, HMY.out, HYU.out.1, HYU.out.2⟩⟩
              case measure => simp [intOf]; omega
        · have d0 : decide ((i : Int) < (lo : Int)) = false := decide_eq_false (by omega)
          have HSM := Lib.hid (tys_same HI.out.2.2.1 (.slice A' m' c') ks (by simp) HI.out.1 (by have := HI.out.2.2.2.1; omega))
          have HNE : Hid (∀ W : World, Calls Tryz.prog 34 #[.pointer none, .slice (some ⟨W.heap.size, 0, none⟩) 1 1] (W.alloc (.cells #[.int .u64 (fr : Int)] 22)) fun e w' => e = .returned (.int .i64 0) ∧ w' = W.alloc (.cells #[.int .u64 (fr : Int)] 22)) := Lib.hid (fun W => (nil_Each _ _ _ 1 1 [fr] rfl (by omega) (one_reads W fr)).mono fun e w' ⟨h1, h2⟩ => ⟨h1, h2.symm⟩)
          go_wp2_with (first
            | (go_at_call 34; (with_reducible refine (HNE.out _).mono ?_); rintro e wz3 ⟨rfl, rfl⟩)
            | (go_at_call 16; (with_reducible refine (nil_Buckets _).mono ?_); rintro e wz2 ⟨rfl, rfl⟩)
            | (go_at_call 18; (with_reducible refine HSM.out.mono ?_); rintro e wz1 ⟨rfl, hz1'⟩; have HZ1 := Lib.hid hz1'; clear hz1'))
          go_ret
          exact ⟨by simp, HZ1.out.low.alloc HZ1.out.low.size _⟩
end Go.Proofs.YtelfacchhclgnaaGreat
end
section
namespace Go.Proofs.YtelfacchhclgnaaGreat
open Go.ChangeShapes Go.WideShapes Go.ChangeAt Go.RowKit
theorem cellsHalf : Tryz.prog.cellsOf 23 = 1 := by kernel_rfl
theorem readHalves : Tryz.prog.readableRec 64 = true := by kernel_rfl
theorem rowHalves : 64 < Tryz.prog.types.size := of_decide_eq_true (by kernel_rfl)

theorem nats16_of {zs : List Int} (h : ∀ n ∈ zs, (Lit.int .u16 n).wf = true) : ∃ xs : List Nat, (zs = xs.map fun a : Nat => (a : Int)) ∧ ∀ x ∈ xs, x < 65536 := by
  induction zs with
  | nil => exact ⟨[], rfl, fun x hx => by cases hx⟩
  | cons z zs ih =>
    obtain ⟨xs, rfl, hxs⟩ := ih fun n hn => h n (List.mem_cons_of_mem _ hn)
    obtain ⟨m, rfl, hm⟩ := u16_nat (h z (by simp))
    refine ⟨m :: xs, by simp, fun x hx => ?_⟩
    rcases List.mem_cons.1 hx with rfl | hx
    · exact hm
    · exact hxs x hx

set_option maxRecDepth 100000 in
theorem open_rt {H : Type} {enc : TypeId × Value → H} {W : World} {b0 : Nat} {v : Value} {d : DataW H} {p : List MemPlace}
    (hval : Value.okWide Tryz.prog W .any b0 64 v) (h : DataW.Trod enc Tryz.prog W 0 (fun _ => true) true 64 v d p) (hlt : ∀ x ∈ p, x.block < W.heap.size) :
    ∃ A cp xs, v = .slice A xs.length cp ∧ Rt W W.heap.size A xs ∧ xs.length ≤ 9223372036854775807 ∧ ∀ x ∈ xs, x < 65536 := by
  obtain ⟨a0, len, cap, rfl⟩ := okWide_slice Tryz.underlying64 hval
  obtain ⟨fuel, hf⟩ := h
  rcases open_ints Tryz.underlying64 Tryz.underlying23 cellsHalf hf with ⟨hcs, hx⟩ | ⟨a, len', cap', zs, hcs, _, hl, hm, hz, hx, hcell, hwz⟩
  · simp [Value.cells] at hcs
    obtain ⟨rfl, rfl, rfl⟩ := hcs
    exact ⟨none, 0, [], rfl, fun h => absurd rfl h, by simp, fun x hx => by cases hx⟩
  · simp [Value.cells] at hcs
    obtain ⟨rfl, rfl, rfl⟩ := hcs
    simp only [Prod.mk.injEq] at hx
    obtain ⟨rfl, rfl⟩ := hx
    simp only [if_true] at hz
    obtain ⟨xs, rfl, hxs⟩ := nats16_of hwz
    rw [List.length_map] at hz hcell hlt
    unfold maxLen at hm
    refine ⟨some a, cap, xs.take len, ?_, fun hne => ?_, by rw [List.length_take]; omega, fun x hx => hxs x (List.mem_of_mem_take hx)⟩
    · rw [List.length_take, Nat.min_eq_left (by omega)]
    · have hpos : 0 < xs.length := by
        rcases Nat.eq_zero_or_pos xs.length with h0 | h0
        · have : xs = [] := List.eq_nil_of_length_eq_zero h0
          subst this; simp at hne
        · exact h0
      obtain ⟨b, off, spot⟩ := a
      have hspot : spot = none := by simpa [Addr.add] using World.cell?_spot (hcell 0 hpos)
      subst hspot
      refine ⟨b, off, rfl, hlt (.cell b off) (MemPlace.mem_row.2 ⟨0, hpos, by simp⟩), fun k hk => ?_⟩
      rw [List.length_take] at hk
      have := hcell k (by omega)
      rw [add_plain] at this
      rw [this]
      simp [List.getD, show k < xs.length by omega]
end Go.Proofs.YtelfacchhclgnaaGreat
end
