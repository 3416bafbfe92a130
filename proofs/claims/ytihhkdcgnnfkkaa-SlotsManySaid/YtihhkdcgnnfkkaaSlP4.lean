
/- The keys of pairs; the values that the slots have of keys; the texts walked. -/
import Derived.Test.YtihhkdcgnnfkkaaSlP3
import Derived.Test.YtihhkdcgnnfkkaaSlo4
import Derived.Deep.AppendLies
namespace Go.Proofs.Ytihhkdcgnnfkkaa
open Go.RowKit
theorem Pr.snoc {xs : List Nat} {w1 : World} {b : Nat} {y : Nat} {v' : Value} (hown' : w1.ownsRow b 22 1 v' (xs.length + 1) (wv xs ++ [.int .u64 (y : Int)])) : w1.ownsRow b 22 1 v' (xs ++ [y]).length (wv (xs ++ [y])) := by
  have e : wv (xs ++ [y]) = wv xs ++ [.int .u64 (y : Int)] := by simp [wv]
  rw [e, List.length_append]
  exact hown'
theorem PX.cells {w : World} {v : Value} {l : Pr.L} (h : PX w v l) : ∃ A c, v = .slice A l.length c ∧ ∀ (k : Nat) (h : k < l.length), ∃ g, A = some ⟨g, 0, none⟩ ∧ g < w.heap.size ∧ w.cell? ⟨g, k * 2, none⟩ = some (.int .u64 (l[k].1 : Nat)) ∧ w.cell? ⟨g, k * 2 + 1, none⟩ = some (.int .u64 (l[k].2 : Nat)) := by
  rcases h.form with ⟨rfl, rfl⟩ | ⟨g, c, rfl, _, hg, hc⟩
  · exact ⟨none, 0, rfl, fun k hk => by simp at hk⟩
  · exact ⟨_, c, rfl, fun k hk => ⟨g, rfl, hg, (hc k hk).1, (hc k hk).2⟩⟩
set_option maxHeartbeats 1000000 in
theorem pr_keys (w : World) (v : Value) (l : Pr.L) (h : PX w v l) (hl : l.length ≤ 1000000) :
    Calls Try.prog 19 #[v] w fun e w' => ∃ v', e = .returned v' ∧ KX w' v' (l.map (·.1)) ∧ Below w.heap.size w w' ∧ ∀ g, v'.ownBlock = some g → w.heap.size ≤ g := by
  obtain ⟨i0, hi, hz0, hz1, hz2⟩ := info_parts u64_info
  obtain ⟨A, c, rfl, hG⟩ := h.cells
  obtain ⟨ks, hks⟩ : ∃ ks, l.map (·.1) = ks := ⟨_, rfl⟩
  have hkl : ks.length = l.length := by rw [← hks, List.length_map]
  have hG2 : ∀ (k : Nat) (h : k < ks.length), ∃ g b, A = some ⟨g, 0, none⟩ ∧ g < w.heap.size ∧ w.cell? ⟨g, k * 2, none⟩ = some (.int .u64 (ks[k] : Nat)) ∧ w.cell? ⟨g, k * 2 + 1, none⟩ = some (.int .u64 (b : Nat)) := fun k hk => by
    obtain ⟨g, h1, h2, h3, h4⟩ := hG k (by omega)
    refine ⟨g, _, h1, h2, ?_, h4⟩
    have e : ks[k] = l[k].1 := by subst hks; simp
    rw [e]
    exact h3
  rw [hks]
  have HG := Lib.hid hG2
  clear hG hG2 hks h
  have hl2 : ks.length ≤ 1000000 := by omega
  rw [← hkl]
  clear hkl hl
  go_enter Try.func19, Try.ntmps19
  go_wp2
  go_loopw [3, 8] (fun v i wr => ∃ k : Nat, k ≤ ks.length ∧ i = .int .i64 k ∧ Hid (wr.ownsRow w.heap.size 22 1 v (ks.take k).length (wv (ks.take k))) ∧ Hid (Below w.heap.size w wr)) (fun _ i _ => ks.length - (intOf i).toNat)
  case atStart => exact ⟨0, by omega, rfl, Lib.hid (by simp [World.ownsRow_nil]), Lib.hid (Below.refl _ _)⟩
  case round =>
    obtain ⟨k, hk, rfl, HO, HB⟩ := hrel
    by_cases hlt : k < ks.length
    · obtain ⟨g, b, rfl, hg, hc0, hc1⟩ := HG.out k hlt
      rw [← HB.out.cell (p := ⟨g, k * 2, none⟩) hg] at hc0
      rw [← HB.out.cell (p := ⟨g, k * 2 + 1, none⟩) hg] at hc1
      have d0 : (k : Int) < (ks.length : Int) := by omega
      have wk : IntKind.i64.wrap ((k : Int) + 1) = (k : Int) + 1 := IntWalk.i64_in _ (by omega)
      have HS := Lib.hid (take_snocN hlt)
      have hlen : (ks.take k).length ≤ 1000000 := by rw [List.length_take]; omega
      generalize ks.take k = ds at *
      generalize ks[k] = y at *
      have hx0 : (wr.alloc (.cells #[.int .u64 (y : Int), .int .u64 (b : Int)] 39)).cell? ⟨wr.heap.size, 0, none⟩ = some (.int .u64 (y : Int)) := by simp
      have hown := HO.out.alloc (.cells #[.int .u64 (y : Int), .int .u64 (b : Int)] 39)
      have hb := HB.out.alloc HB.out.size (.cells #[.int .u64 (y : Int), .int .u64 (b : Int)] 39)
      have HOW := Lib.hid hown
      have HBW := Lib.hid hb
      have HSZ : Hid (w.heap.size ≤ wr.heap.size) := HB.out.size
      clear hown hb
      go_wp2_with (at_builtin; refine wpList_append_own _ rfl _ _ 45 rfl w.heap.size 22 i0 (.int .u64 0) 1 8 Try.underlying45 hi hz0 hz1 hz2 rfl (by decide) _ _ _ rfl (HOW.out.alloc _) ⟨_, 0, none⟩ 1 1 [.int .u64 (y : Int)] rfl rfl ?c1 ?c2 ?c3 ?c4 ?c5 ?_)
      case c1 =>
        have e := cell_one (wr.alloc (.cells #[.int .u64 (y : Int), .int .u64 (b : Int)] 39)) (.int .u64 (y : Int)) 22
        rw [World.size_alloc] at e
        exact e
      case c2 => first | exact one_int _ _ | rfl
      case c3 => unfold maxLen; omega
      case c4 => omega
      case c5 => have := HSZ.out; simp; omega
      intro v' w1 hown' hgrow _
      obtain ⟨hown2, hb2⟩ := own_snocN HBW.out HOW.out hown' hgrow
      rw [← HS.out] at hown2
      have HO2 := Lib.hid hown2
      have HB2 := Lib.hid hb2
      clear hown' hgrow hown2 hb2
      go_wp2
      go_roundw
      case rel => exact ⟨k + 1, by omega, by go_num, HO2, HB2⟩
      case measure => simp [intOf]; omega
    · obtain rfl : k = ks.length := by omega
      have hO := HO.out
      rw [List.take_length] at hO
      have HO2 := Lib.hid hO
      clear hO
      go_wp2
      go_ret
      exact ⟨_, rfl, K.kx_of HO2.out rfl, HB.out, fun g hg => (K.own_lt HO2.out hg).2⟩
set_option maxHeartbeats 1000000 in
theorem s_gets (w : World) (S lim : Nat) (l : Tr) (O : Nat → Prop) (h : SX w S lim l O) (v : Value) (q : Tr) (hk : KX w v (q.map (·.1))) (hv : ∀ g, v.ownBlock = some g → ¬ O g) (hq : ∀ x ∈ q, x ∈ l) (hql : q.length ≤ 1000000) :
    Calls Try.prog 18 #[.pointer (some ⟨S, 0, none⟩), v] w fun e w' => ∃ v', e = .returned v' ∧ KX w' v' (q.map (·.2)) ∧ SR w O S lim l w' := by
  obtain ⟨i0, hi, hz0, hz1, hz2⟩ := info_parts u64_info
  obtain ⟨ks, hks⟩ : ∃ ks, q.map (·.1) = ks := ⟨_, rfl⟩
  obtain ⟨vs, hvs⟩ : ∃ vs, q.map (·.2) = vs := ⟨_, rfl⟩
  obtain ⟨n, hn⟩ : ∃ n, q.length = n := ⟨_, rfl⟩
  have hkl : ks.length = n := by rw [← hks, List.length_map, hn]
  have hvl : vs.length = n := by rw [← hvs, List.length_map, hn]
  have hin : ∀ k (h1 : k < ks.length) (h2 : k < vs.length), (ks[k], vs[k]) ∈ l := fun k h1 h2 => by
    subst hks hvs
    simp only [List.getElem_map]
    exact hq _ (List.getElem_mem _)
  rw [hks] at hk
  rw [hvs]
  have HG : Hid (∃ A c, v = .slice A n c ∧ ∀ (k : Nat) (h : k < ks.length), ∃ g, A = some ⟨g, 0, none⟩ ∧ g < w.heap.size ∧ ¬ O g ∧ w.cell? ⟨g, k, none⟩ = some (.int .u64 (ks[k] : Nat))) := by
    rcases hk.form with ⟨rfl, he⟩ | ⟨g, c, rfl, _, hg, hc⟩
    · exact ⟨none, 0, by rw [← hkl, he]; rfl, fun k hk => by rw [he] at hk; simp at hk⟩
    · exact ⟨_, c, by rw [hkl], fun k hk => ⟨g, rfl, hg, hv g rfl, hc k hk⟩⟩
  obtain ⟨A, c, rfl, hG⟩ := HG.out
  have HC := Lib.hid hG
  have HI := Lib.hid hin
  have HK := Lib.hid hkl
  have HV := Lib.hid hvl
  have HX := Lib.hid h
  rw [hn] at hql
  clear hG HG hk hv hq hin hks hvs hn hkl hvl h
  go_enter Try.func18, Try.ntmps18
  go_wp2
  go_loopw [5, 12] (fun r i wr => ∃ k : Nat, k ≤ n ∧ i = .int .i64 k ∧ Hid (wr.ownsRow w.heap.size 22 1 r k (wv (vs.take k))) ∧ Hid (∃ O', SX wr S lim l O' ∧ K.Chg w wr O ∧ (∀ j, O' j → O j ∨ w.heap.size ≤ j) ∧ ∀ g, r.ownBlock = some g → ¬ O' g)) (fun _ i _ => n - (intOf i).toNat)
  case atStart => exact ⟨0, by omega, rfl, Lib.hid (by simp [World.ownsRow_nil]), Lib.hid ⟨O, HX.out, chg_refl _ _, fun j h => .inl h, fun g h => by simp [Value.ownBlock] at h⟩⟩
  case round =>
    obtain ⟨k, hk, rfl, HO, HS⟩ := hrel
    obtain ⟨O', hS, hC, hO', hr⟩ := HS.out
    by_cases hlt : k < n
    · have h1 : k < ks.length := by rw [HK.out]; exact hlt
      have h2 : k < vs.length := by rw [HV.out]; exact hlt
      obtain ⟨g, rfl, hg, hgo, hc⟩ := HC.out k h1
      rw [← hC.cell hg hgo] at hc
      have d0 : (k : Int) < (n : Int) := by omega
      have wk : IntKind.i64.wrap ((k : Int) + 1) = (k : Int) + 1 := IntWalk.i64_in _ (by omega)
      have hT : vs.take (k + 1) = vs.take k ++ [vs[k]] := take_snocN h2
      have HGET := Lib.hid (s_get_yes hS ks[k] vs[k] (HI.out k h1 h2))
      have HTL := Lib.hid (show (vs.take k).length = k by rw [List.length_take, HV.out]; omega)
      have HT := Lib.hid hT
      have HC1 := Lib.hid hC
      have HO1 := Lib.hid hO'
      have HR1 := Lib.hid hr
      have HS1 := Lib.hid hS
      clear hT hS hC hO' hr
      generalize ks[k] = a at *
      generalize vs[k] = y at *
      generalize vs.take k = ds at *
      go_wp2_with (first
        | (go_at_call 11; (with_reducible refine HGET.out.mono ?_); rintro e w2 ⟨rfl, h3⟩
           have H3 := Lib.hid h3
           have hown : Hid (w2.ownsRow w.heap.size 22 1 u5 k (wv ds)) := by
             obtain ⟨O2, _, b2, _⟩ := H3.out
             exact b2.own HO.out (fun g hg => HR1.out g hg)
           have hszw : Hid (w.heap.size ≤ w2.heap.size) := by
             obtain ⟨O2, _, b2, _⟩ := H3.out
             exact Nat.le_trans HC1.out.size b2.size
           clear h3)
        | (at_builtin; refine wpList_append_lies _ rfl _ _ 45 rfl w.heap.size 22 i0 (.int .u64 0) 1 8 Try.underlying45 hi hz0 hz1 hz2 rfl (by decide) _ _ _ rfl (hown.out.alloc _) ⟨_, 0, none⟩ 1 1 [.int .u64 (y : Int)] rfl rfl ?c1 ?c2 (by omega) ?c3 ?c4 ?c5 (w2.heap.size + 1) (by simp) ?_))
      case c1 => exact cell_one _ _ _
      case c2 => first | exact one_int _ _ | rfl
      case c3 => unfold maxLen; omega
      case c4 => omega
      case c5 => have := hszw.out; simp; omega
      intro g2 cap w3 hown' hgrow hblk _
      obtain ⟨v', hv'⟩ : ∃ v', v' = Value.slice (some ⟨g2, 0, none⟩) (k + 1) cap := ⟨_, rfl⟩
      have hvo : v'.ownBlock = some g2 := by rw [hv']; rfl
      rw [← hv'] at hown' ⊢
      have HO2 : Hid (w3.ownsRow w.heap.size 22 1 v' (k + 1) (wv (vs.take (k + 1)))) := by
        have e : wv (ds ++ [y]) = wv ds ++ [.int .u64 (y : Int)] := by simp [wv]
        show World.ownsRow _ _ _ _ _ _ _
        rw [HT.out, e]
        exact hown'
      have HS2 : Hid (∃ O', SX w3 S lim l O' ∧ K.Chg w w3 O ∧ (∀ j, O' j → O j ∨ w.heap.size ≤ j) ∧ ∀ g, v'.ownBlock = some g → ¬ O' g) := by
        obtain ⟨O2, s2, b2, i2⟩ := H3.out
        have hbg : K.Chg w2 w3 (fun j => u5.ownBlock = some j) := (chg_alloc w2 _ _).grown hgrow (fun j e => .inl e)
        have hlow : ∀ {j}, u5.ownBlock = some j → j < wr.heap.size ∧ w.heap.size ≤ j := fun e => K.own_lt HO.out e
        have hn2 : ∀ j, u5.ownBlock = some j → ¬ O2 j := fun j e ho => by
          rcases i2 j ho with h | h
          · exact HR1.out j e h
          · have := (hlow e).1; omega
        refine ⟨O2, s2.chg hbg (fun j ho e => hn2 j e ho), (HC1.out.trans b2 (fun j hj => HO1.out j hj)).trans hbg (fun j e => .inr (hlow e).2), fun j hj => ?_, fun g hg ho => ?_⟩
        · rcases i2 j hj with h | h
          · exact HO1.out j h
          · exact .inr (Nat.le_trans HC1.out.size h)
        · obtain rfl : g2 = g := by rw [hvo] at hg; exact Option.some.inj hg
          rcases hblk with e | e
          · exact hn2 _ e ho
          · have h5 := s2.lt _ ho
            omega
      clear hown' hgrow hblk hvo hv'
      go_wp2
      go_roundw
      case rel => exact ⟨k + 1, by omega, by go_num, HO2, HS2⟩
      case measure => simp [intOf]; omega
    · obtain rfl : k = n := by omega
      have hT : vs.take k = vs := by rw [← HV.out, List.take_length]
      have HT := Lib.hid hT
      have HF : Hid (SR w O S lim l wr) := ⟨O', hS, hC, hO'⟩
      clear hT hS hC hO' hr
      go_wp2
      go_ret
      exact ⟨_, rfl, K.kx_of (by have := HO.out; rw [HT.out] at this; exact this) HV.out.symm, HF.out⟩
end Go.Proofs.Ytihhkdcgnnfkkaa
