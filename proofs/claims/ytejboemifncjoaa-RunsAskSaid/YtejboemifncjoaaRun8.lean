
/- runs.joined: runs in any order become as few as can be; the text walked. -/
import Derived.Test.YtejboemifncjoaaRun7
namespace Go.Proofs.Ytejboemifncjoaa
open Go.RowKit
theorem run_info : (Try.prog.info? 46).map (fun i => (i.zero, i.size, i.bytes)) = some (some (.agg #[.int .u16 0, .int .u16 0]), 2, 4) := by kernel_rfl
theorem news2 (W : World) (a b : Value) (T : TypeId) : ∀ j u, [a, b][j]? = some u → (W.alloc (.cells #[a, b] T)).cell? ((⟨W.heap.size, 0, none⟩ : Addr).add j) = some u := by
  intro j u hu
  rw [add_offB]
  have h := cell_of_row (W.alloc (.cells #[a, b] T)) W.heap.size j _ _ (0, 0) (alloc_topI W (.cells #[a, b] T))
  rw [h]
  match j, hu with
  | 0, hu => simpa using hu
  | 1, hu => simpa using hu
theorem own_set {w : World} {base g n cap j : Nat} {xs : List Value} {u : Value} (h : w.ownsRow base 46 2 (.slice (some ⟨g, 0, none⟩) n cap) n xs) : (w.setCell ⟨g, j, none⟩ u).ownsRow base 46 2 (.slice (some ⟨g, 0, none⟩) n cap) n (xs.set j u) := by
  rcases h.2 with ⟨h1, _⟩ | ⟨g', cap', cur, h1, h2, h3, h4, h5, h6, h7⟩
  · cases h1
  · cases h1
    refine ⟨by rw [List.length_set]; exact h.1, .inr ⟨g, cap, cur.setIfInBounds j u, rfl, h2, ?_, h4, h5, by rw [Array.size_setIfInBounds]; exact h6, ?_⟩⟩
    · simp [World.setCell, Array.getElem?_modify, h3]
    · rw [Array.toList_setIfInBounds, List.take_set, h7]
theorem rv_set (rs : List (Int × Int)) (l : Int × Int) (m : Int) : (rv (rs ++ [l])).set (rs.length * 2 + 1) (.int .u16 m) = rv (rs ++ [(l.1, m)]) := by
  rw [rv_append, rv_append]
  have e : rs.length * 2 + 1 = (rv rs).length + 1 := by rw [rv_len]
  rw [e, List.set_append_right _ _ (by omega)]
  simp
theorem V_perm {rs qs : List (Int × Int)} (h : rs.Perm qs) (x : Int) : Rn.V rs x ↔ Rn.V qs x :=
  ⟨fun ⟨r, hr, h1⟩ => ⟨r, h.mem_iff.1 hr, h1⟩, fun ⟨r, hr, h1⟩ => ⟨r, h.mem_iff.2 hr, h1⟩⟩
/-- What is kept: the first k are joined. -/
structure Jd (ds qs : List (Int × Int)) (k : Nat) : Prop where
  ok : Rn.Ok qs
  val : ∀ x, Rn.V qs x ↔ Rn.V (ds.take k) x
  low : ∀ q, q ∈ qs → ∀ r, r ∈ ds.drop k → q.1 ≤ r.1
  len : qs.length ≤ k
theorem Jd.start (ds : List (Int × Int)) : Jd ds [] 0 := ⟨Rn.Ok.nil, fun x => ⟨fun h => absurd h (Rn.V_nil x), fun h => absurd h (Rn.V_nil x)⟩, fun q h => absurd h (by simp), Nat.le_refl _⟩
theorem Jd.touch {ds rs : List (Int × Int)} {l : Int × Int} {k : Nat} (h : Jd ds (rs ++ [l]) k) (hk : k < ds.length) (hg : Rn.Good ds[k]) (ht : ds[k].1 ≤ l.2 + 1) (m : Int) (hm : m = if l.2 < ds[k].2 then ds[k].2 else l.2) : Jd ds (rs ++ [(l.1, m)]) (k + 1) := by
  have hd : ds.drop k = ds[k] :: ds.drop (k + 1) := List.drop_eq_getElem_cons hk
  have hl := h.low l (by simp) ds[k] (by rw [hd]; exact List.mem_cons_self)
  obtain ⟨h1, h2⟩ := Rn.join_touch h.ok hg hl ht m hm
  refine ⟨h1, fun x => ?_, fun q hq r hr => ?_, ?_⟩
  · rw [h2, h.val, List.take_succ_eq_append_getElem hk, Rn.V_append, Rn.V_one]
  · have hr' : r ∈ ds.drop k := by rw [hd]; exact List.mem_cons_of_mem _ hr
    rcases List.mem_append.1 hq with e | e
    · exact h.low q (List.mem_append_left _ e) r hr'
    · rw [List.mem_singleton] at e
      subst e
      exact h.low l (by simp) r hr'
  · have := h.len
    simp at this ⊢
    omega
theorem Jd.apart {ds qs : List (Int × Int)} {k : Nat} (h : Jd ds qs k) (hs : ds.Pairwise fun a b => a.1 ≤ b.1) (hk : k < ds.length) (hg : Rn.Good ds[k]) (hl : ∀ l, qs.getLast? = some l → l.2 + 1 < ds[k].1) : Jd ds (qs ++ [ds[k]]) (k + 1) := by
  have hd : ds.drop k = ds[k] :: ds.drop (k + 1) := List.drop_eq_getElem_cons hk
  obtain ⟨h1, h2⟩ := Rn.join_apart h.ok hg hl
  refine ⟨h1, fun x => ?_, fun q hq r hr => ?_, ?_⟩
  · rw [h2, h.val, List.take_succ_eq_append_getElem hk, Rn.V_append, Rn.V_one]
  · have hr' : r ∈ ds.drop k := by rw [hd]; exact List.mem_cons_of_mem _ hr
    rcases List.mem_append.1 hq with e | e
    · exact h.low q e r hr'
    · rw [List.mem_singleton] at e
      subst e
      have h3 : (ds.drop k).Pairwise fun a b => a.1 ≤ b.1 := hs.sublist (List.drop_sublist _ _)
      rw [hd] at h3
      exact (List.pairwise_cons.1 h3).1 r hr
  · have := h.len
    simp
    omega
def JoinedP (w : World) (base : Nat) (ls : List (Int × Int)) (e : Ending) (w' : World) : Prop := ∃ (val : Value) (qs : List (Int × Int)), e = .returned val ∧ Rn.Ok qs ∧ (∀ x, Rn.V qs x ↔ Rn.V ls x) ∧ qs.length ≤ ls.length ∧ w'.ownsRow base 46 2 val qs.length (rv qs) ∧ Below base w w'
theorem own_formR {w : World} {base n : Nat} {v : Value} {xs : List Value} (h : w.ownsRow base 46 2 v n xs) (hn : 0 < n) : ∃ g c, v = .slice (some ⟨g, 0, none⟩) n c ∧ base ≤ g ∧ g < w.heap.size ∧ n ≤ c ∧ ∀ k, w.frozen? ⟨g, k, none⟩ = false := by
  rcases h.2 with ⟨_, h0⟩ | ⟨g, cap, cur, h1, h2, h3, h4, _⟩
  · omega
  · exact ⟨g, cap, h1, h2, (Array.getElem?_eq_some_iff.1 h3).1, h4, fun k => by simp [World.frozen?, h3]⟩
theorem own_nilR {w : World} {base : Nat} {v : Value} {xs : List Value} (h : w.ownsRow base 46 2 v 0 xs) : ∃ A c, v = .slice A 0 c := by
  rcases h.2 with ⟨h1, _⟩ | ⟨g, cap, cur, h1, _⟩
  · exact ⟨none, 0, h1⟩
  · exact ⟨_, cap, h1⟩
theorem news2' (W : World) (g : Nat) (hg : g = W.heap.size) (a b : Value) (T : TypeId) : ∀ j u, [a, b][j]? = some u → (W.alloc (.cells #[a, b] T)).cell? ((⟨g, 0, none⟩ : Addr).add j) = some u := by
  subst hg
  exact news2 W a b T
theorem int_one {u : Value} {a b : Int} (h : u ∈ [Value.int .u16 a, Value.int .u16 b]) : u.oneCell' = true := by
  simp at h
  rcases h with rfl | rfl <;> rfl
theorem own_box {w : World} {base n : Nat} {e : TypeId} {v : Value} {xs : List Value} (h : w.ownsRow base e 2 v n xs) (o o' : Obj) (q : Nat) : (((w.alloc o).drewN q).alloc o').ownsRow base e 2 v n xs :=
  (show ((w.alloc o).drewN q).ownsRow base e 2 v n xs from h.alloc o).alloc o'
theorem r_meetB (W : World) (f t f' t' : Int) (ht : 0 ≤ t ∧ t ≤ 65535) (hf' : 0 ≤ f' ∧ f' ≤ 65535) (b : Bool) (hb : decide (f' ≤ t + 1) = b) :
    Calls Try.prog 41 #[.agg #[.int .u16 f, .int .u16 t], .agg #[.int .u16 f', .int .u16 t']] W fun e w' => e = .returned (.bool b) ∧ Below W.heap.size W w' := by
  subst hb
  refine (r_meet W f t f' t' ht hf').mono ?_
  rintro e w' ⟨rfl, rfl⟩
  exact ⟨rfl, ((Below.refl _ _).alloc (Nat.le_refl _) _).alloc (by simp) _⟩
set_option maxHeartbeats 16000000 in
set_option maxRecDepth 100000 in
theorem r_joined (w : World) (base g n cap : Nat) (ls : List (Int × Int)) (ho : w.ownsRow base 46 2 (.slice (some ⟨g, 0, none⟩) n cap) n (rv ls)) (hl : ls.length = n) (hg : ∀ r, r ∈ ls → Rn.Good r) (hb : base ≤ w.heap.size) (few : n ≤ 1000000) :
    Calls Try.prog 38 #[.slice (some ⟨g, 0, none⟩) n cap] w (JoinedP w base ls) := by
  obtain ⟨i0, hi, hz0, hz1, hz2⟩ : ∃ ti, Try.prog.info? 46 = some ti ∧ ti.zero = some (.agg #[.int .u16 0, .int .u16 0]) ∧ ti.size = 2 ∧ ti.bytes = 4 := ⟨_, rfl, rfl, rfl, rfl⟩
  have HS := Lib.hid (sort_own w base g n cap ls ho hl few)
  have hgb := (ho.lt g rfl).1
  have HL := Lib.hid hl
  have HG := Lib.hid hg
  clear ho hl hg
  go_enter Try.func38, Try.ntmps38
  go_wp2_with (go_at_call 48; (with_reducible refine HS.out.mono ?_); rintro e w1 ⟨rfl, ds, h1, h2, h3, h4⟩; replace h1 := Lib.hid h1; replace h2 := Lib.hid h2; replace h3 := Lib.hid h3; replace h4 := Lib.hid h4)
  have HLO : Hid (Below base w w1) := Lib.hid (h4.out.below hb (fun j e => by omega))
  have HN : Hid (ds.length = n) := Lib.hid (by rw [h1.out.length_eq, HL.out])
  have HGD : Hid (∀ r, r ∈ ds → Rn.Good r) := Lib.hid (fun r hr => HG.out r (h1.out.mem_iff.1 hr))
  clear HS h4
  go_loopw [3, 11] (fun vr vi wr => ∃ (k : Nat) (qs : List (Int × Int)), k ≤ n ∧ vi = .int .i64 k ∧ Hid (wr.ownsRow w1.heap.size 46 2 vr qs.length (rv qs)) ∧ Hid (Jd ds qs k) ∧ Hid (Below w1.heap.size w1 wr)) (fun _ vi _ => n - (intOf vi).toNat)
  case atStart => exact ⟨0, [], Nat.zero_le _, rfl, Lib.hid ⟨rfl, .inl ⟨rfl, rfl⟩⟩, Lib.hid (Jd.start ds), Lib.hid (Below.refl _ _)⟩
  case round =>
    obtain ⟨k, qs, hk, rfl, HO, HJ, HW⟩ := hrel
    obtain ⟨vr, hvr⟩ : ∃ v, v = u3 := ⟨_, rfl⟩
    subst hvr
    by_cases hlt : k < n
    · have hkd : k < ds.length := by rw [HN.out]; exact hlt
      obtain ⟨b, off, hA, _, c1, c2⟩ := (h3.out.below HW.out (Nat.le_refl _)).at hkd
      cases hA
      rw [Nat.zero_add] at c1 c2
      have hgd := HGD.out _ (List.getElem_mem hkd)
      have HGK := Lib.hid hgd
      unfold Rn.Good at hgd
      have HJT := Lib.hid (fun rs l (e : qs = rs ++ [l]) (ht : ds[k].1 ≤ l.2 + 1) m hm => Jd.touch (e ▸ HJ.out) hkd HGK.out ht m hm)
      have HJA := Lib.hid (HJ.out.apart h2.out hkd HGK.out)
      have HQL : qs.length ≤ 1000000 := Nat.le_trans HJ.out.len (by omega)
      have HOK := Lib.hid HJ.out.ok
      obtain ⟨x, hx⟩ : ∃ x, x = ds[k] := ⟨_, rfl⟩
      rw [← hx] at c1 c2 hgd HJT HJA
      have HX := Lib.hid hx
      clear hx HGK HJ
      obtain ⟨f, t⟩ := x
      simp only at c1 c2 hgd HJT HJA
      rcases List.eq_nil_or_concat qs with e | ⟨rs, l, e⟩
      · subst e
        obtain ⟨A, cA, rfl⟩ := own_nilR HO.out
        clear HJT
        have wm : IntKind.i64.wrap (((0 : Nat) : Int) - 1) = -1 := IntWalk.i64_in _ (by omega)
        go_wp2
        go_quiet (fail)
        have HOW := Lib.hid (own_box HO.out (.cells #[.int .u16 f, .int .u16 t] 46) (.cells #[.int .u16 f, .int .u16 t] 46) nq)
        go_wp2_with (at_builtin; refine wpList_append_own _ rfl _ _ 24 rfl w1.heap.size 46 i0 (.agg #[.int .u16 0, .int .u16 0]) 2 4 Try.underlying24 hi hz0 hz1 hz2 rfl (by decide) _ _ _ rfl HOW.out ⟨_, 0, none⟩ 1 1 [.int .u16 f, .int .u16 t] rfl rfl ?c1 ?c2 ?c3 ?c4 ?c5 ?_)
        case c1 => exact news2' _ _ (by simp) _ _ _
        case c2 => exact fun u hu => int_one hu
        case c3 => unfold maxLen; simp
        case c4 => simp
        case c5 => have := HW.out.size; simp; omega
        intro v' w2 hown' hgrow _
        have HON := Lib.hid (show w2.ownsRow w1.heap.size 46 2 v' ([(f, t)] : List (Int × Int)).length (rv [(f, t)]) from hown')
        have HWN : Hid (Below w1.heap.size w1 w2) := Lib.hid (Below.grown (show Below w1.heap.size w1 _ from (below_drewN (HW.out.alloc HW.out.size _) nq).alloc (by have := HW.out.size; simp; omega) _) hgrow (by have := HW.out.size; simp; omega) (fun g hg => (HOW.out.lt g hg).1))
        have HJN := Lib.hid (HJA (fun l hl => absurd hl (by simp)))
        clear hown' hgrow HJA
        go_wp2
        go_roundw
        case rel => exact ⟨k + 1, [(f, t)], by omega, by go_num, HON, HJN, HWN⟩
        case measure => simp [intOf]; omega
      · rw [List.concat_eq_append] at e
        have HE := Lib.hid e
        have HJA2 := Lib.hid HJA
        obtain ⟨M, hM⟩ : ∃ M, M = rs.length := ⟨_, rfl⟩
        have hqm : qs.length = M + 1 := by rw [e, List.length_append, hM]; rfl
        have HM := Lib.hid hM
        have HO2 : Hid (wr.ownsRow w1.heap.size 46 2 vr (M + 1) (rv qs)) := Lib.hid (by rw [← hqm]; exact HO.out)
        obtain ⟨g', c', rfl, hg1, hg2, hg3, hg4⟩ := own_formR HO2.out (by omega)
        have hat := rv_at qs M (by omega)
        have hel : qs[M]'(by omega) = l := by simp [e, hM]
        rw [hel] at hat
        have f := HO2.out.cells (g := g') rfl
        have m1 := f _ _ hat.1
        have m2 := f _ _ hat.2
        simp only [add_offB] at m1 m2
        have hgl := HOK.out.1 l (by rw [e]; simp)
        unfold Rn.Good at hgl
        have hm6 : M + 1 ≤ 1000000 := by omega
        have HGN : Hid (w1.heap.size ≤ g' ∧ g' < wr.heap.size) := Lib.hid ⟨hg1, hg2⟩
        clear e hM hqm hat hel f HO HJA hg1 hg2 HQL
        have wm : IntKind.i64.wrap (((M + 1 : Nat) : Int) - 1) = (M : Int) := by rw [IntWalk.i64_in _ (by omega)]; omega
        have hd0 : decide (0 ≤ (M : Int)) = true := decide_eq_true (by omega)
        have hmi : (M : Int) < ((M + 1 : Nat) : Int) := by omega
        have hmi2 : (M : Int) < (M : Int) + 1 := by omega
        have hmi3 : M < M + 1 := by omega
        have hmi4 : (0 : Int) ≤ (M : Int) := by omega
        have hmi5 : ¬ ((M : Int) < 0 ∨ (M : Int) + 1 ≤ (M : Int)) := by omega
        obtain ⟨lf, lt⟩ := l
        simp only at m1 m2 hgl HJT
        have HBX := Lib.hid ((Below.refl wr.heap.size wr).alloc (Nat.le_refl _) (.cells #[.int .u16 f, .int .u16 t] 46))
        have hS0 : (wr.alloc (.cells #[.int .u16 f, .int .u16 t] 46)).cell? ⟨g', M * 2, none⟩ = some (.int .u16 lf) ∧ (wr.alloc (.cells #[.int .u16 f, .int .u16 t] 46)).cell? ⟨g', M * 2 + 1, none⟩ = some (.int .u16 lt) ∧ (wr.alloc (.cells #[.int .u16 f, .int .u16 t] 46)).cell? ⟨wr.heap.size, 0, none⟩ = some (.int .u16 f) ∧ (wr.alloc (.cells #[.int .u16 f, .int .u16 t] 46)).cell? ⟨wr.heap.size, 1, none⟩ = some (.int .u16 t) := by
          have ha := alloc_topI wr (.cells #[.int .u16 f, .int .u16 t] 46)
          refine ⟨(HBX.out.cell (p := ⟨g', M * 2, none⟩) HGN.out.2).trans m1, (HBX.out.cell (p := ⟨g', M * 2 + 1, none⟩) HGN.out.2).trans m2, ?_, ?_⟩
          · rw [cell_of_row _ _ 0 _ _ (0, 0) ha]; rfl
          · rw [cell_of_row _ _ 1 _ _ (0, 0) ha]; rfl
        by_cases hbt : f ≤ lt + 1
        · have MT := fun W => Lib.hid (r_meetB W lf lt f t (by omega) (by omega) true (decide_eq_true hbt))
          go_wp2
          go_region_held3 (fun (V : World) => V.cell? ⟨g', M * 2, none⟩ = some (.int .u16 lf) ∧ V.cell? ⟨g', M * 2 + 1, none⟩ = some (.int .u16 lt) ∧ V.cell? ⟨wr.heap.size, 0, none⟩ = some (.int .u16 f) ∧ V.cell? ⟨wr.heap.size, 1, none⟩ = some (.int .u16 t)) (first | exact hS0 | exact hS3) (first
            | (go_at_call 41; (with_reducible refine (MT _).out.mono ?_); rintro e w3 ⟨rfl, hb3⟩
               have hS3 : w3.cell? ⟨g', M * 2, none⟩ = some (.int .u16 lf) ∧ w3.cell? ⟨g', M * 2 + 1, none⟩ = some (.int .u16 lt) ∧ w3.cell? ⟨wr.heap.size, 0, none⟩ = some (.int .u16 f) ∧ w3.cell? ⟨wr.heap.size, 1, none⟩ = some (.int .u16 t) := by
                 have h1 : g' < (wr.alloc (.cells #[.int .u16 f, .int .u16 t] 46)).heap.size := by have := HGN.out.2; simp; omega
                 have h2 : wr.heap.size < (wr.alloc (.cells #[.int .u16 f, .int .u16 t] 46)).heap.size := by simp
                 exact ⟨(hb3.cell (p := ⟨g', M * 2, none⟩) h1).trans hS0.1, (hb3.cell (p := ⟨g', M * 2 + 1, none⟩) h1).trans hS0.2.1, (hb3.cell (p := ⟨wr.heap.size, 0, none⟩) h2).trans hS0.2.2.1, (hb3.cell (p := ⟨wr.heap.size, 1, none⟩) h2).trans hS0.2.2.2⟩
               have HB3 := Lib.hid hb3))
          have HW3 : Hid (Below wr.heap.size wr w3) := Lib.hid (by first | exact HBX.out.trans (HB3.out.mono (by simp)) | exact (below_drewN HBX.out 1).trans (HB3.out.mono (by simp [World.drew])) | exact (below_drewN HBX.out 1).trans (HB3.out.mono (by have := HBX.out.size; exact this)))
          have HO3 := Lib.hid ((ButS.of_below (S := fun _ => False) HW3.out (Nat.le_refl _)).own HO2.out (fun k hk hr => hr))
          obtain ⟨k1, k2, k3, k4⟩ := hS3
          have hfz : w3.frozen? ⟨g', M * 2 + 1, none⟩ = false := HO3.out.frozenAt _
          go_wp2
          go_still_tail 12, (by kernel_rfl)
          change wpList _ _ _ _ _ w3.drew
          have hfz' : w3.drew.frozen? ⟨g', M * 2 + 1, none⟩ = false := hfz
          have k2' : w3.drew.cell? ⟨g', M * 2 + 1, none⟩ = some (.int .u16 lt) := k2
          have HO4 := Lib.hid (own_set (j := M * 2 + 1) (u := .int .u16 (max lt t)) (show w3.drew.ownsRow w1.heap.size 46 2 (.slice (some ⟨g', 0, none⟩) (M + 1) c') (M + 1) (rv qs) from HO3.out))
          have HW4 : Hid (Below w1.heap.size w1 (w3.drew.setCell ⟨g', M * 2 + 1, none⟩ (.int .u16 (max lt t)))) := Lib.hid (((below_drewN (HW.out.trans (HW3.out.mono HW.out.size)) 1).grown (set_grownB w3.drew g' (M * 2 + 1) _) (by have := HW.out.size; have := HW3.out.size; simp; omega) (fun g he => by cases he; exact HGN.out.1)))
          have HJ4 := Lib.hid (HJT.out rs (lf, lt) HE.out hbt (max lt t) (by rw [Int.max_def]; split <;> split <;> omega))
          clear hfz k1 k2 k3 k4 HJT HJA2 HO3
          generalize w3.drew = w4 at *
          go_wp2
          go_roundw
          case rel => exact ⟨k + 1, rs ++ [(lf, max lt t)], by omega, by go_num, Lib.hid (by
              rw [← rv_set rs (lf, lt) (max lt t), ← HE.out, ← HM.out, show (rs ++ [(lf, max lt t)]).length = M + 1 by simp [HM.out]]
              exact HO4.out), HJ4, HW4⟩
          case measure => simp [intOf]; omega
        · have MT := fun W => Lib.hid (r_meetB W lf lt f t (by omega) (by omega) false (decide_eq_false hbt))
          clear HJT
          go_wp2
          go_region_held3 (fun (V : World) => V.cell? ⟨g', M * 2, none⟩ = some (.int .u16 lf) ∧ V.cell? ⟨g', M * 2 + 1, none⟩ = some (.int .u16 lt) ∧ V.cell? ⟨wr.heap.size, 0, none⟩ = some (.int .u16 f) ∧ V.cell? ⟨wr.heap.size, 1, none⟩ = some (.int .u16 t)) (first | exact hS0 | exact hS3) (first
            | (go_at_call 41; (with_reducible refine (MT _).out.mono ?_); rintro e w3 ⟨rfl, hb3⟩
               have hS3 : w3.cell? ⟨g', M * 2, none⟩ = some (.int .u16 lf) ∧ w3.cell? ⟨g', M * 2 + 1, none⟩ = some (.int .u16 lt) ∧ w3.cell? ⟨wr.heap.size, 0, none⟩ = some (.int .u16 f) ∧ w3.cell? ⟨wr.heap.size, 1, none⟩ = some (.int .u16 t) := by
                 have h1 : g' < (wr.alloc (.cells #[.int .u16 f, .int .u16 t] 46)).heap.size := by have := HGN.out.2; simp; omega
                 have h2 : wr.heap.size < (wr.alloc (.cells #[.int .u16 f, .int .u16 t] 46)).heap.size := by simp
                 exact ⟨(hb3.cell (p := ⟨g', M * 2, none⟩) h1).trans hS0.1, (hb3.cell (p := ⟨g', M * 2 + 1, none⟩) h1).trans hS0.2.1, (hb3.cell (p := ⟨wr.heap.size, 0, none⟩) h2).trans hS0.2.2.1, (hb3.cell (p := ⟨wr.heap.size, 1, none⟩) h2).trans hS0.2.2.2⟩
               have HB3 := Lib.hid hb3))
          have HW3 : Hid (Below wr.heap.size wr w3) := Lib.hid (by first | exact HBX.out.trans (HB3.out.mono (by simp)) | exact (below_drewN HBX.out 1).trans (HB3.out.mono (by have := HBX.out.size; exact this)))
          have HO3 := Lib.hid ((ButS.of_below (S := fun _ => False) HW3.out (Nat.le_refl _)).own HO2.out (fun k hk hr => hr))
          have HOW := Lib.hid (HO3.out.alloc (.cells #[.int .u16 f, .int .u16 t] 46))
          obtain ⟨k1, k2, k3, k4⟩ := hS3
          have hzs : w1.heap.size ≤ w3.heap.size := Nat.le_trans HW.out.size HW3.out.size
          go_wp2_with (at_builtin; refine wpList_append_own _ rfl _ _ 24 rfl w1.heap.size 46 i0 (.agg #[.int .u16 0, .int .u16 0]) 2 4 Try.underlying24 hi hz0 hz1 hz2 rfl (by decide) _ _ _ rfl HOW.out ⟨_, 0, none⟩ 1 1 [.int .u16 f, .int .u16 t] rfl rfl ?d1 ?d2 ?d3 ?d4 ?d5 ?_)
          case d1 => exact news2' _ _ (by simp) _ _ _
          case d2 => exact fun u hu => int_one hu
          case d3 => unfold maxLen; omega
          case d4 => omega
          case d5 => simp; omega
          intro v' w2 hown' hgrow _
          have HON : Hid (w2.ownsRow w1.heap.size 46 2 v' (qs ++ [(f, t)]).length (rv (qs ++ [(f, t)]))) := Lib.hid (by
            rw [rv_append, show (qs ++ [(f, t)]).length = M + 1 + 1 by rw [List.length_append, HE.out]; simp [HM.out]]
            exact hown')
          have HWN : Hid (Below w1.heap.size w1 w2) := Lib.hid (Below.grown (show Below w1.heap.size w1 _ from (HW.out.trans (HW3.out.mono HW.out.size)).alloc hzs _) hgrow (by simp; omega) (fun g hg => (HOW.out.lt g hg).1))
          have HJN := Lib.hid (HJA2.out (fun l hl => by rw [HE.out] at hl; simp at hl; subst hl; show lt + 1 < f; omega))
          clear hown' hgrow HJA2
          go_wp2
          go_roundw
          case rel => exact ⟨k + 1, qs ++ [(f, t)], by omega, by go_num, HON, HJN, HWN⟩
          case measure => simp [intOf]; omega
    · have hkn : ds.take k = ds := List.take_of_length_le (by rw [HN.out]; omega)
      have HJV := Lib.hid HJ.out
      obtain ⟨A, cA, hvA, _, _⟩ := Rq.of_own HO.out
      have HVA := Lib.hid hvA
      clear hvA
      go_wp2
      go_ret
      refine ⟨vr, qs, rfl, HJV.out.ok, fun x => ?_, ?_, ?_, ?_⟩
      · rw [HJV.out.val x, hkn]
        exact V_perm h1.out x
      · have := HJV.out.len; have := HL.out; omega
      · have h := HO.out
        rcases h.2 with h0 | ⟨g', cap', cur, e1, e2, e3⟩
        · exact ⟨h.1, .inl h0⟩
        · exact ⟨h.1, .inr ⟨g', cap', cur, e1, Nat.le_trans (Nat.le_trans hb HLO.out.size) e2, e3⟩⟩
      · exact HLO.out.trans (HW.out.mono (Nat.le_trans hb HLO.out.size))
set_option maxHeartbeats 4000000 in
theorem r_joined_nil (w : World) (base c : Nat) : Calls Try.prog 38 #[.slice none 0 c] w (JoinedP w base []) := by
  go_enter Try.func38, Try.ntmps38
  go_wp2_with (go_at_call 48; (with_reducible refine (sort_nil c _ _).mono ?_); rintro e w1 ⟨rfl, rfl⟩)
  go_loop [3, 11] (fun vr vi => vr = .slice none 0 0 ∧ vi = .int .i64 0) (fun _ _ => 0)
  case atStart => exact ⟨rfl, rfl⟩
  case round =>
    obtain ⟨rfl, rfl⟩ := hrel
    go_wp2
    go_ret
    exact ⟨_, [], rfl, Rn.Ok.nil, fun x => Iff.rfl, Nat.le_refl _, ⟨rfl, .inl ⟨rfl, rfl⟩⟩, Below.refl _ _⟩
end Go.Proofs.Ytejboemifncjoaa
