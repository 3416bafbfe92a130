/- The way down to a key, each node read by a step, or without one; the text walked. -/
import Derived.Test.YtbiingpdchoppaaDoorMgK
namespace Go.Proofs.YtbiingpdchoppaaDoor
set_option maxRecDepth 40000
open Go.RowKit
namespace T
/-- How many levels have a node on the way to a key. -/
def wl (xs : List Nat) (k : Nat) : Nat := ((List.range 11).takeWhile fun l => decide (prs xs l (pre l k))).length
theorem wl_le (xs : List Nat) (k : Nat) : wl xs k ≤ 11 := by
  have := (List.takeWhile_prefix (p := fun l => decide (prs xs l (pre l k))) (l := List.range 11)).length_le
  simpa [wl] using this
theorem wl_yes {xs : List Nat} {k l : Nat} (h : l < wl xs k) : prs xs l (pre l k) := by
  have h1 := List.all_eq_true.1 (List.all_takeWhile (l := List.range 11) (p := fun l => decide (prs xs l (pre l k)))) _ (List.getElem_mem h)
  have e : ((List.range 11).takeWhile fun l => decide (prs xs l (pre l k)))[l]'h = l := by
    rw [(List.takeWhile_prefix _).getElem h]
    simp
  rw [e] at h1
  exact of_decide_eq_true h1
theorem wl_no {xs : List Nat} {k : Nat} (h : wl xs k < 11) : ¬ prs xs (wl xs k) (pre (wl xs k) k) := by
  have : ∀ (ls : List Nat) (P : Nat → Bool) (h : (ls.takeWhile P).length < ls.length), P (ls[(ls.takeWhile P).length]'h) = false := by
    intro ls P
    induction ls with
    | nil => intro h; simp at h
    | cons x ls ih =>
      intro h
      cases hx : P x with
      | true =>
        have e : (List.takeWhile P (x :: ls)).length = (ls.takeWhile P).length + 1 := by rw [List.takeWhile_cons_of_pos (by simpa using hx)]; rfl
        have h2 : (ls.takeWhile P).length < ls.length := by rw [e] at h; simpa using h
        have := ih h2
        simp only [e, List.getElem_cons_succ]
        exact this
      | false =>
        have e : (List.takeWhile P (x :: ls)).length = 0 := by rw [List.takeWhile_cons_of_neg (by simp [hx])]; rfl
        simp only [e, List.getElem_cons_zero]
        exact hx
  have h1 := this (List.range 11) (fun l => decide (prs xs l (pre l k))) (by simpa [wl] using h)
  have h2 : (List.range 11)[((List.range 11).takeWhile fun l => decide (prs xs l (pre l k))).length]'(by simpa [wl] using h) = wl xs k := by simp [wl]
  rw [h2] at h1
  exact of_decide_eq_false h1
theorem wl_eq {xs : List Nat} {k j : Nat} (hj : j ≤ 11) (h1 : ∀ l, l < j → prs xs l (pre l k)) (h2 : j < 11 → ¬ prs xs j (pre j k)) : wl xs k = j := by
  have h3 := wl_le xs k
  rcases Nat.lt_trichotomy (wl xs k) j with h | h | h
  · exact absurd (h1 _ h) (wl_no (by omega))
  · exact h
  · exact absurd (wl_yes h) (h2 (by omega))
theorem prs_zero {xs : List Nat} {k : Nat} (hk : k < 18446744073709551616) (hx : ∀ x ∈ xs, x < 18446744073709551616) : prs xs 0 (pre 0 k) ↔ xs ≠ [] := by
  constructor
  · rintro ⟨x, h, _⟩ e
    rw [e] at h
    cases h
  · intro h
    obtain ⟨x, hm⟩ := List.exists_mem_of_ne_nil _ h
    exact ⟨x, hm, by rw [pre_zero (hx x hm), pre_zero hk]⟩
end T
/-- The stops on the way. -/
def nat (ns : List (Nd × Bool)) (i : Nat) : Nd := (ndm ns i).getD Nd.z
def wst (ns : List (Nd × Bool)) (pl : Nat → Nat → Nat) (k m : Nat) : List (Nd × Nat) := (List.range m).map fun l => (nat ns (pl l (T.pre l k)), pl l (T.pre l k))
theorem wst_len (ns : List (Nd × Bool)) (pl : Nat → Nat → Nat) (k m : Nat) : (wst ns pl k m).length = m := by simp [wst]
theorem wst_succ (ns : List (Nd × Bool)) (pl : Nat → Nat → Nat) (k m : Nat) : wst ns pl k (m + 1) = wst ns pl k m ++ [(nat ns (pl m (T.pre m k)), pl m (T.pre m k))] := by
  unfold wst
  rw [List.range_succ, List.map_append]
  rfl
theorem wst_at (ns : List (Nd × Bool)) (pl : Nat → Nat → Nat) (k m l : Nat) (h : l < (wst ns pl k m).length) : (wst ns pl k m)[l] = (nat ns (pl l (T.pre l k)), pl l (T.pre l k)) := by simp [wst]
/-- What a level's node is, on the way. -/
theorem TW.node {w : World} {P Q M lim tk root cn cf : Nat} {An Af : Option Addr} {ns : List (Nd × Bool)} {fs xs : List Nat} {pl : Nat → Nat → Nat} (h : TW w P Q M lim tk An cn Af cf ns fs root pl xs) {l p : Nat} (hl : l < 11) (hp : T.prs xs l p) :
    ∃ hi : pl l p < ns.length, ns[pl l p] = (nat ns (pl l p), true) ∧ T.NdOK xs pl l p (nat ns (pl l p)).W (nat ns (pl l p)).ks (nat ns (pl l p)).le (nat ns (pl l p)).gr (nat ns (pl l p)).ch := by
  obtain ⟨n, hn, hok⟩ := h.tr.ok l p hl hp
  obtain ⟨hi, e⟩ := ndm_some hn
  have en : nat ns (pl l p) = n := by unfold nat; rw [hn]; rfl
  rw [en]
  exact ⟨hi, e, hok⟩
/-- Nothing is taken where there is no key. -/
theorem TW.none {w : World} {P Q M lim tk root cn cf : Nat} {An Af : Option Addr} {ns : List (Nd × Bool)} {fs xs : List Nat} {pl : Nat → Nat → Nat} (h : TW w P Q M lim tk An cn Af cf ns fs root pl xs) (hx : xs = []) : lvq ns (root : Int) = false := by
  subst hx
  have hu := h.used
  have hz : K.trie [] = 0 := by decide
  rw [hz] at hu
  have hf := h.po.fs_le
  cases hb : lvq ns (root : Int) with
  | false => rfl
  | true =>
    unfold lvq at hb
    simp only [Bool.and_eq_true] at hb
    rw [Int.toNat_natCast] at hb
    rcases Nat.lt_or_ge root ns.length with hr | hr
    · rw [List.getElem?_eq_getElem hr] at hb
      have := (h.po.fs_lt hr (by simpa using hb.2)).2
      omega
    · rw [List.getElem?_eq_none hr] at hb
      simp at hb
theorem stop_info : (Tryd.prog.info? 99).map (fun i => (i.zero, i.size, i.bytes)) = some (some (.agg #[.int .u64 0, .slice none 0 0, .int .i64 0, .int .u64 0, .int .u64 0, .int .i64 0]), 6, 64) := by kernel_rfl
theorem mk_way : ∃ E : Array Value, E.size = 11 * 6 ∧ ∀ w : World, (Instr.makeSlice 83 (.int .i64 0) (.int .i64 11)).run Tryd.prog w = .ok (.slice (some ⟨w.heap.size, 0, none⟩) 0 11) (w.alloc (.cells E 99)) :=
  ⟨#[.int .u64 0, .slice none 0 0, .int .i64 0, .int .u64 0, .int .u64 0, .int .i64 0, .int .u64 0, .slice none 0 0, .int .i64 0, .int .u64 0, .int .u64 0, .int .i64 0, .int .u64 0, .slice none 0 0, .int .i64 0, .int .u64 0, .int .u64 0, .int .i64 0, .int .u64 0, .slice none 0 0, .int .i64 0, .int .u64 0, .int .u64 0, .int .i64 0, .int .u64 0, .slice none 0 0, .int .i64 0, .int .u64 0, .int .u64 0, .int .i64 0, .int .u64 0, .slice none 0 0, .int .i64 0, .int .u64 0, .int .u64 0, .int .i64 0, .int .u64 0, .slice none 0 0, .int .i64 0, .int .u64 0, .int .u64 0, .int .i64 0, .int .u64 0, .slice none 0 0, .int .i64 0, .int .u64 0, .int .u64 0, .int .i64 0, .int .u64 0, .slice none 0 0, .int .i64 0, .int .u64 0, .int .u64 0, .int .i64 0, .int .u64 0, .slice none 0 0, .int .i64 0, .int .u64 0, .int .u64 0, .int .i64 0, .int .u64 0, .slice none 0 0, .int .i64 0, .int .u64 0, .int .u64 0, .int .i64 0], rfl, fun w => by kernel_rfl⟩
theorem T.NdOK.child {xs : List Nat} {pl : Nat → Nat → Nat} {l p W ks le gr d : Nat} {ch : List Nat} (h : T.NdOK xs pl l p W ks le gr ch) (hl : l < 10) (hd : d ∈ M.bl W) : ∃ h : K.fi (M.bl W) d < ch.length, ch[K.fi (M.bl W) d] = pl (l + 1) (p * 64 + d) := by
  have hc := h.ch
  rw [if_pos hl] at hc
  obtain ⟨h1, h2⟩ := K.fo_lt ((K.fo_mem (T.bl_up W) d).2 hd)
  have hb := h.bits
  rw [← hb] at hc
  subst hc
  refine ⟨by rw [List.length_map]; exact h1, ?_⟩
  rw [List.getElem_map, h2]
def WalkP (w : World) (M : Nat) (ns : List (Nd × Bool)) (pl : Nat → Nat → Nat) (xs : List Nat) (k tk st : Nat) (e : Ending) (w' : World) : Prop :=
  ∃ A c, e = .returned (.slice A (T.wl xs k) c) ∧ w'.ownsRow w.heap.size 99 6 (.slice A (T.wl xs k) c) (T.wl xs k) (sv (wst ns pl k (T.wl xs k))) ∧ Mx w' M (tk + st * T.wl xs k) ∧ K.Chg w w' (· = M)
theorem Mx.cast {w : World} {M a b : Nat} (h : Mx w M a) (e : a = b) : Mx w M b := e ▸ h
theorem TW.ne_m {w : World} {P Q M lim tk root cn cf : Nat} {An Af : Option Addr} {ns : List (Nd × Bool)} {fs xs : List Nat} {pl : Nat → Nat → Nat} (h : TW w P Q M lim tk An cn Af cf ns fs root pl xs) : (∀ j, QB Q An Af j → j ≠ M) ∧ P ≠ M ∧ ∀ i (hi : i < ns.length) g, ns[i].1.A.map (·.block) = some g → g ≠ M := by
  obtain ⟨r, c, s, p, hr⟩ := h.mx
  refine ⟨fun j hj => ?_, row_ne h.row hr (by decide), fun i hi g hg => ?_⟩
  · rcases hj with rfl | hj | hj
    · exact row_ne h.po.row hr (by decide)
    · obtain ⟨_, cur, hc⟩ := own_block_lt h.po.nodes hj
      exact row_ne hc hr (by decide)
    · obtain ⟨_, cur, hc⟩ := own_block_lt h.po.freed hj
      exact row_ne hc hr (by decide)
  · obtain ⟨_, cur, hc⟩ := own_block_lt (h.kids.own i hi) hg
    exact row_ne hc hr (by decide)

set_option maxHeartbeats 4000000 in
theorem t_walk_at (w : World) (P Q m0 lim tk root cn cf : Nat) (An Af : Option Addr) (ns : List (Nd × Bool)) (fs xs : List Nat) (pl : Nat → Nat → Nat) (h : TW w P Q m0 lim tk An cn Af cf ns fs root pl xs) (k : Nat) (hk : k < 18446744073709551616) (htk : tk < 100000) :
    Calls Tryd.prog 46 #[.pointer (some ⟨P, 0, none⟩), .int .u64 (k : Int), .func (.func 47) #[.pointer (some ⟨Q, 0, none⟩)] #[]] w (WalkP w m0 ns pl xs k tk 1) := by
  obtain ⟨E, hE, hmk⟩ := mk_way
  obtain ⟨i0, hi, hz0, hz1, hz2⟩ := info_parts stop_info
  have hP := row_lt h.row
  have hc2 := cell_of_row w P 2 _ _ (0, 0) h.row
  simp at hc2
  have hW0 : Hid (Wy (w.alloc (.cells E 99)) w.heap.size (.slice (some ⟨w.heap.size, 0, none⟩) 0 11) []) :=
    ⟨rfl, .inr ⟨w.heap.size, 11, E, rfl, Nat.le_refl _, K.alloc_top _ _, Nat.zero_le _, by decide, hE, rfl⟩⟩
  have hM0 : Hid (Mx (w.alloc (.cells E 99)) m0 (tk + 1 * 0)) := (h.mx.chg (chg_alloc w _ (fun _ => False)) (fun h => h)).cast (by omega)
  have hC0 : Hid (K.Chg w (w.alloc (.cells E 99)) (· = m0)) := chg_alloc w _ _
  have hrl := h.rl
  have H := Lib.hid h
  have hmkH := Lib.hid hmk
  clear h hE
  go_enter Tryd.func46, Tryd.ntmps46
  go_wp2
  go_loopw [7, 8, 18] (fun v pc lv wr => ∃ (j i c : Nat) (A : Option Addr), j ≤ 10 ∧ lv = .int .i64 (j : Int) ∧ v = .slice A j c ∧ pc = .int .i64 (i : Int) ∧ Hid (∀ l, l < j → T.prs xs l (T.pre l k)) ∧ Hid (0 < j → T.prs xs j (T.pre j k)) ∧ Hid ((j = 0 ∧ i = root) ∨ (0 < j ∧ i = pl j (T.pre j k))) ∧ Hid (wr.ownsRow w.heap.size 99 6 (.slice A j c) j (sv (wst ns pl k j))) ∧ Hid (Mx wr m0 (tk + 1 * j)) ∧ Hid (K.Chg w wr (· = m0)))
    (fun _ _ lv _ => 11 - (intOf lv).toNat)
  case atStart => exact ⟨0, root, 11, _, by omega, rfl, rfl, rfl, fun l h => absurd h (by omega), fun h => absurd h (by omega), .inl ⟨rfl, rfl⟩, hW0, hM0, hC0⟩
  case round =>
    obtain ⟨j, i, c, A, hj, rfl, rfl, rfl, hprev, hpos, hpi, hWy, hMx, hCh⟩ := hrel
    have hne := Lib.hid H.out.ne_m
    have hQo := Lib.hid (H.out.po.chg hCh.out hne.out.1)
    have htk2 : tk + 1 * j < 1000000 := by omega
    by_cases hx : T.prs xs j (T.pre j k)
    · have hip : i = pl j (T.pre j k) := by
        rcases hpi.out with ⟨h0, h1⟩ | ⟨_, h1⟩
        · subst h0
          have hne : xs ≠ [] := by
            rintro rfl
            obtain ⟨x, hm, _⟩ := hx
            cases hm
          obtain ⟨y, hy, e⟩ := hx
          rw [h1, H.out.rt hne, ← e, T.pre_zero (H.out.lt y hy)]
        · exact h1
      obtain ⟨hin, hns, hok⟩ := H.out.node (by omega) hx
      have hsu := Lib.hid (wst_succ ns pl k j)
      have hkid := H.out.kids.own _ hin
      have HNM := Lib.hid (fun g => H.out.ne_m.2.2 _ hin g)
      subst hip
      have hrd := Lib.hid (q_at_yes wr Q m0 lim cn cf An Af ns fs hQo.out _ hin (by rw [hns]) (tk + 1 * j) hMx.out htk2)
      rw [hns] at hrd hkid HNM
      have hokH := Lib.hid hok
      have hWl := hok.wlt
      have hkH := Lib.hid hkid
      have HX := Lib.hid hx
      have hlen : (nat ns (pl j (T.pre j k))).ch.length ≤ 64 := by
        rw [hok.ch]
        split
        · rw [List.length_map]
          unfold T.dgs
          exact Nat.le_trans (List.length_filter_le _ _) (by simp)
        · simp
      clear hns hok hkid hx hpi
      generalize nat ns (pl j (T.pre j k)) = nd at *
      obtain ⟨W, A', ch, c', ks, le, gr⟩ := nd
      have hrd : Hid (Calls _ _ _ _ (AtP wr m0 (tk + 1 * j + 1) (ndv W A' ch.length c' ks le gr) true)) := hrd
      have HNM : Hid (∀ g, A'.map (·.block) = some g → g ≠ m0) := HNM
      have hkH : Hid (w.ownsRow 0 3 1 (.slice A' ch.length c') ch.length (iw ch)) := hkH
      have hokH : Hid (T.NdOK xs pl j (T.pre j k) W ks le gr ch) := hokH
      have hWl : W < 18446744073709551616 := hWl
      have hlen : ch.length ≤ 64 := hlen
      have hsu : Hid (wst ns pl k (j + 1) = wst ns pl k j ++ [(⟨W, A', ch, c', ks, le, gr⟩, pl j (T.pre j k))]) := hsu
      have hC2 : ∀ (w2 : World), K.Chg wr w2 (· = m0) → Hid (K.Chg w w2 (· = m0)) := fun w2 h => hCh.out.same h
      have hWY : ∀ (w2 : World), K.Chg wr w2 (· = m0) → Hid (((w2.alloc (ndo W A' ch.length c' ks le gr)).alloc (.cells #[.int .u64 (W : Int), .slice A' ch.length c', .int .i64 (ks : Int), .int .u64 (le : Int), .int .u64 (gr : Int), .int .i64 ((pl j (T.pre j k) : Nat) : Int)] 99)).ownsRow w.heap.size 99 6 (.slice A j c) j (sv (wst ns pl k j))) := fun w2 h => by
        have h1 : w2.ownsRow w.heap.size 99 6 (.slice A j c) j (sv (wst ns pl k j)) := h.own hWy.out (fun b hb e => by
          subst e
          have h2 := (K.own_lt hWy.out hb).2
          have h3 := H.out.mx.lt
          omega)
        exact (h1.alloc _).alloc _
      have hRD : ∀ (w2 : World), Hid (Reads ((w2.alloc (ndo W A' ch.length c' ks le gr)).alloc (.cells #[.int .u64 (W : Int), .slice A' ch.length c', .int .i64 (ks : Int), .int .u64 (le : Int), .int .u64 (gr : Int), .int .i64 ((pl j (T.pre j k) : Nat) : Int)] 99)) (w2.heap.size + 2) 6 (some ⟨w2.heap.size + 1, 0, none⟩) 1 [.int .u64 (W : Int), .slice A' ch.length c', .int .i64 (ks : Int), .int .u64 (le : Int), .int .u64 (gr : Int), .int .i64 ((pl j (T.pre j k) : Nat) : Int)]) := fun w2 => by
        refine ⟨rfl, fun _ => ⟨_, rfl, by show w2.heap.size + 1 < _; omega, ?_⟩⟩
        have hsz : (w2.alloc (ndo W A' ch.length c' ks le gr)).heap.size = w2.heap.size + 1 := by simp
        have := cell_six (w2.alloc (ndo W A' ch.length c' ks le gr)) (.int .u64 (W : Int)) (.slice A' ch.length c') (.int .i64 (ks : Int)) (.int .u64 (le : Int)) (.int .u64 (gr : Int)) (.int .i64 ((pl j (T.pre j k) : Nat) : Int)) 99
        rw [hsz] at this
        exact this
      -- what the append leaves
      have hAP : ∀ (w2 w3 : World) (v' : Value), K.Chg wr w2 (· = m0) → Mx w2 m0 (tk + 1 * j + 1) → w3.ownsRow w.heap.size 99 6 v' (j + 1) (sv (wst ns pl k j) ++ [.int .u64 (W : Int), .slice A' ch.length c', .int .i64 (ks : Int), .int .u64 (le : Int), .int .u64 (gr : Int), .int .i64 ((pl j (T.pre j k) : Nat) : Int)]) →
          ((w2.alloc (ndo W A' ch.length c' ks le gr)).alloc (.cells #[.int .u64 (W : Int), .slice A' ch.length c', .int .i64 (ks : Int), .int .u64 (le : Int), .int .u64 (gr : Int), .int .i64 ((pl j (T.pre j k) : Nat) : Int)] 99)).grownBy w3 (Value.ownBlock (.slice A j c)) →
          ∃ A3 c3, v' = .slice A3 (j + 1) c3 ∧ Hid (w3.ownsRow w.heap.size 99 6 (.slice A3 (j + 1) c3) (j + 1) (sv (wst ns pl k (j + 1)))) ∧ Hid (Mx w3 m0 (tk + 1 * j + 1)) ∧ Hid (K.Chg w w3 (· = m0)) ∧ w3.heap[w2.heap.size]? = some (ndo W A' ch.length c' ks le gr) ∧ Hid (w3.ownsRow 0 3 1 (.slice A' ch.length c') ch.length (iw ch)) := by
        intro w2 w3 v' hc2 hm2 ho hg
        obtain ⟨A3, c3, rfl⟩ := K.own_form ho
        have hs2 := hc2.size
        have hsw := hCh.out.size
        have hobl : ∀ b, Value.ownBlock (.slice A j c) = some b → w.heap.size ≤ b ∧ b < w2.heap.size := fun b hb => by
          have := K.own_lt hWy.out hb
          omega
        have hM := hm2.lt
        have hMw := H.out.mx.lt
        have hs4 : ((w2.alloc (ndo W A' ch.length c' ks le gr)).alloc (.cells #[.int .u64 (W : Int), .slice A' ch.length c', .int .i64 (ks : Int), .int .u64 (le : Int), .int .u64 (gr : Int), .int .i64 ((pl j (T.pre j k) : Nat) : Int)] 99)).heap.size = w2.heap.size + 2 := by simp
        have hal : K.Chg w2 ((w2.alloc (ndo W A' ch.length c' ks le gr)).alloc (.cells #[.int .u64 (W : Int), .slice A' ch.length c', .int .i64 (ks : Int), .int .u64 (le : Int), .int .u64 (gr : Int), .int .i64 ((pl j (T.pre j k) : Nat) : Int)] 99)) (fun _ => False) := (chg_alloc w2 _ _).same (chg_alloc _ _ _)
        have hall : K.Chg w2 w3 (fun b => Value.ownBlock (.slice A j c) = some b) := (hal.mono (fun _ h => h.elim)).grown hg (fun b hb => .inl hb)
        refine ⟨A3, c3, rfl, ?_, hm2.chg hall (fun h => by have := hobl _ h; omega), (hCh.out.same hc2).trans hall (fun b hb => .inr (hobl b hb).1), ?_, ?_⟩
        · show w3.ownsRow _ _ _ _ _ _
          rw [hsu.out, sv_snoc]
          exact ho
        · refine (hg.block _ (by rw [hs4]; omega) (fun e => by have := hobl _ e.symm; omega)).trans ?_
          exact (Below.heap_alloc _ _ _ (by simp)).trans (K.alloc_top _ _)
        · refine ((hCh.out.same hc2).trans hall (O1 := fun b => Value.ownBlock (.slice A j c) = some b) (fun b hb => .inr (hobl b hb).1)).own hkH.out (fun b hb e => ?_)
          exact HNM.out b (own_of_map hb) e
      have n0 : Hid (∀ u ∈ [Value.int .u64 (W : Int), .slice A' ch.length c', .int .i64 (ks : Int), .int .u64 (le : Int), .int .u64 (gr : Int), .int .i64 ((pl j (T.pre j k) : Nat) : Int)], u.oneCell' = true) := Lib.hid (by intro u hu; simp at hu; rcases hu with rfl | rfl | rfl | rfl | rfl | rfl <;> rfl)
      have n1 : Hid (j + 1 ≤ maxLen) := Lib.hid (by unfold maxLen; omega)
      have n2 : Hid ((j + 1) * 64 ≤ 140737488355328) := Lib.hid (by omega)
      by_cases h10 : j = 10
      · have e10 : ((j : Int) == 10) = true := by simp [h10]
        have e11 : decide ((j : Int) < 11) = true := decide_eq_true (by omega)
        have e12 : decide (j < 11) = true := decide_eq_true (by omega)
        have HWL : Hid (T.wl xs k = j + 1) := T.wl_eq (by omega) (fun l hl => by
          rcases Nat.lt_or_ge l j with h | h
          · exact hprev.out l h
          · obtain rfl : l = j := by omega
            exact HX.out) (fun h => by omega)
        have H10 := Lib.hid h10
        clear h10
        go_wp2_with (first
          | (go_at_call 47; (with_reducible refine hrd.out.mono ?_); rintro e w2 ⟨rfl, hm2, hc2⟩; have ho := hWY w2 hc2; have hrr := hRD w2; have hM2 := Lib.hid hm2; have hCC := Lib.hid hc2; have hbs : w.heap.size ≤ ((w2.alloc (ndo W A' ch.length c' ks le gr)).alloc (.cells #[.int .u64 (W : Int), .slice A' ch.length c', .int .i64 (ks : Int), .int .u64 (le : Int), .int .u64 (gr : Int), .int .i64 ((pl j (T.pre j k) : Nat) : Int)] 99)).heap.size := (by have h1 := hc2.size; have h2 := hCh.out.size; simp; omega); clear hm2 hc2)
          | (at_builtin; refine wpList_append_any _ rfl _ _ 83 rfl w.heap.size 99 i0 _ 6 64 Tryd.underlying83 hi hz0 hz1 hz2 rfl (by decide) _ _ _ rfl ho.out (w2.heap.size + 2) _ 1 1 _ rfl hrr.out n0.out n1.out n2.out hbs ?_; intro v' w3 hown' hgrow _; obtain ⟨A3, c3, rfl, HW3, HM3, HC3, hrow3, HK3⟩ := hAP w2 w3 v' hCC.out hM2.out hown' hgrow; obtain ⟨y0, y1, y2, y3, y4⟩ := nd_cells hrow3; clear hown' hgrow hrow3)
          | (go_at_call 64; (with_reducible refine (t_digit _ k j hk (by omega)).mono ?_); rintro e w' ⟨rfl, rfl⟩))
        go_ret
        exact ⟨A3, c3, (by rw [HWL.out]; rfl), by rw [HWL.out]; exact HW3.out, by rw [HWL.out]; exact HM3.out.cast (by omega), HC3.out⟩
      · have hj9 : j < 10 := by omega
        have e10 : ((j : Int) == 10) = false := by simp; omega
        have e11 : decide ((j : Int) < 11) = true := decide_eq_true (by omega)
        have e12 : decide (j < 11) = true := decide_eq_true (by omega)
        have hdl := T.dig_lt j k
        have hget0 := fun V => Lib.hid (bit_get W hWl ((T.dig j k : Nat) : Int) V)
        rw [T.has_bl W _ hdl] at hget0
        by_cases hdm : T.dig j k ∈ M.bl W
        · obtain ⟨hr, hre⟩ := hokH.out.child hj9 hdm
          rw [← T.pre_split (by omega)] at hre
          have hch := fun V (ho : Hid (V.ownsRow 0 3 1 (.slice A' ch.length c') ch.length (iw ch))) => Lib.hid (t_child V W A' ch c' ks le gr (T.dig j k) hWl hdl ho.out hr hlen)
          rw [hre] at hch
          have HX2 : Hid (T.prs xs (j + 1) (T.pre (j + 1) k)) := by
            have h1 := hokH.out.bits
            rw [h1] at hdm
            have := (T.mem_dgs.1 hdm).2
            rw [← T.pre_split (by omega)] at this
            exact this
          rw [decide_eq_true hdm] at hget0
          clear hdm hr hre
          go_wp2_with (first
            | (go_at_call 47; (with_reducible refine hrd.out.mono ?_); rintro e w2 ⟨rfl, hm2, hc2⟩; have ho := hWY w2 hc2; have hrr := hRD w2; have hM2 := Lib.hid hm2; have hCC := Lib.hid hc2; have hbs : w.heap.size ≤ ((w2.alloc (ndo W A' ch.length c' ks le gr)).alloc (.cells #[.int .u64 (W : Int), .slice A' ch.length c', .int .i64 (ks : Int), .int .u64 (le : Int), .int .u64 (gr : Int), .int .i64 ((pl j (T.pre j k) : Nat) : Int)] 99)).heap.size := (by have h1 := hc2.size; have h2 := hCh.out.size; simp; omega); clear hm2 hc2)
            | (at_builtin; refine wpList_append_any _ rfl _ _ 83 rfl w.heap.size 99 i0 _ 6 64 Tryd.underlying83 hi hz0 hz1 hz2 rfl (by decide) _ _ _ rfl ho.out (w2.heap.size + 2) _ 1 1 _ rfl hrr.out n0.out n1.out n2.out hbs ?_; intro v' w3 hown' hgrow _; obtain ⟨A3, c3, rfl, HW3, HM3, HC3, hrow3, HK3⟩ := hAP w2 w3 v' hCC.out hM2.out hown' hgrow; obtain ⟨y0, y1, y2, y3, y4⟩ := nd_cells hrow3; clear hown' hgrow hrow3)
            | (go_at_call 64; (with_reducible refine (t_digit _ k j hk (by omega)).mono ?_); rintro e w' ⟨rfl, rfl⟩)
            | (go_at_call 68; (with_reducible refine (hget0 _).out.mono ?_); rintro e w' ⟨rfl, rfl⟩)
            | (go_at_call 69; (with_reducible refine (hch _ HK3).out.mono ?_); rintro e w4 ⟨rfl, hb4⟩; have HW4 := Lib.hid ((K.Chg.of_below (O := fun _ => False) hb4).own HW3.out (fun _ _ h => h)); have HM4 : Hid (Mx w4 m0 (tk + 1 * (j + 1))) := (HM3.out.chg (K.Chg.of_below (O := fun _ => False) hb4) (fun h => h)).cast (by omega); have HC4 : Hid (K.Chg w w4 (· = m0)) := HC3.out.same (K.Chg.of_below hb4); clear hb4))
          go_roundw
          case rel => exact ⟨j + 1, pl (j + 1) (T.pre (j + 1) k), c3, A3, by omega, by go_num, rfl, rfl, fun l hl => (by
            rcases Nat.lt_or_ge l j with h | h
            · exact hprev.out l h
            · obtain rfl : l = j := by omega
              exact HX.out), fun _ => HX2.out, .inr ⟨by omega, rfl⟩, HW4, HM4, HC4⟩
          case measure => simp [intOf]; omega
        · have HWL : Hid (T.wl xs k = j + 1) := T.wl_eq (by omega) (fun l hl => by
            rcases Nat.lt_or_ge l j with h | h
            · exact hprev.out l h
            · obtain rfl : l = j := by omega
              exact HX.out) (fun _ hp => hdm (by
                rw [hokH.out.bits]
                refine T.mem_dgs.2 ⟨hdl, ?_⟩
                rw [← T.pre_split (by omega)]
                exact hp))
          rw [decide_eq_false hdm] at hget0
          clear hdm
          go_wp2_with (first
            | (go_at_call 47; (with_reducible refine hrd.out.mono ?_); rintro e w2 ⟨rfl, hm2, hc2⟩; have ho := hWY w2 hc2; have hrr := hRD w2; have hM2 := Lib.hid hm2; have hCC := Lib.hid hc2; have hbs : w.heap.size ≤ ((w2.alloc (ndo W A' ch.length c' ks le gr)).alloc (.cells #[.int .u64 (W : Int), .slice A' ch.length c', .int .i64 (ks : Int), .int .u64 (le : Int), .int .u64 (gr : Int), .int .i64 ((pl j (T.pre j k) : Nat) : Int)] 99)).heap.size := (by have h1 := hc2.size; have h2 := hCh.out.size; simp; omega); clear hm2 hc2)
            | (at_builtin; refine wpList_append_any _ rfl _ _ 83 rfl w.heap.size 99 i0 _ 6 64 Tryd.underlying83 hi hz0 hz1 hz2 rfl (by decide) _ _ _ rfl ho.out (w2.heap.size + 2) _ 1 1 _ rfl hrr.out n0.out n1.out n2.out hbs ?_; intro v' w3 hown' hgrow _; obtain ⟨A3, c3, rfl, HW3, HM3, HC3, hrow3, HK3⟩ := hAP w2 w3 v' hCC.out hM2.out hown' hgrow; obtain ⟨y0, y1, y2, y3, y4⟩ := nd_cells hrow3; clear hown' hgrow hrow3)
            | (go_at_call 64; (with_reducible refine (t_digit _ k j hk (by omega)).mono ?_); rintro e w' ⟨rfl, rfl⟩)
            | (go_at_call 68; (with_reducible refine (hget0 _).out.mono ?_); rintro e w' ⟨rfl, rfl⟩))
          go_ret
          exact ⟨A3, c3, (by rw [HWL.out]; rfl), by rw [HWL.out]; exact HW3.out, by rw [HWL.out]; exact HM3.out.cast (by omega), HC3.out⟩
    · have hj0 : j = 0 := by
        rcases Nat.eq_zero_or_pos j with h | h
        · exact h
        · exact absurd (hpos.out h) hx
      subst hj0
      have hxe : xs = [] := by
        rcases Classical.em (xs = []) with h | h
        · exact h
        · exact absurd ((T.prs_zero hk H.out.lt).2 h) hx
      have hir : i = root := by
        rcases hpi.out with ⟨_, h⟩ | ⟨h, _⟩
        · exact h
        · omega
      have hlv := H.out.none hxe
      rw [← hir] at hlv
      have hrd := Lib.hid (q_at_no wr Q m0 lim cn cf An Af ns fs hQo.out (i : Int) hlv)
      have HWL : Hid (T.wl xs k = 0) := T.wl_eq (by omega) (fun l hl => absurd hl (by omega)) (fun _ => hx)
      clear hx hxe hir hlv
      go_wp2_with (go_at_call 47; (with_reducible refine hrd.out.mono ?_); rintro e w2 ⟨rfl, hb2⟩; have HB2 := Lib.hid hb2; clear hb2)
      go_ret
      have hb3 : K.Chg w (w2.alloc ndzo) (· = m0) := (hCh.out.same (K.Chg.of_below (O := (· = m0)) HB2.out)).same (chg_alloc _ _ _)
      refine ⟨A, c, (by rw [HWL.out]; rfl), ?_, ?_, hb3⟩
      · rw [HWL.out]
        exact (((K.Chg.of_below (O := fun _ => False) HB2.out).own hWy.out (fun _ _ h => h)).alloc _)
      · rw [HWL.out]
        exact ((hMx.out.chg (K.Chg.of_below (O := fun _ => False) HB2.out) (fun h => h)).chg (chg_alloc _ _ (fun _ => False)) (fun h => h)).cast rfl
end Go.Proofs.YtbiingpdchoppaaDoor
