
/- The law CodeBack; the text walked. -/
import Derived.Test.YtclaejaicjmohaaD26A
import Derived.Test.YtclaejaicjmohaaD12
import Derived.Deep.RegionHeld3
import Derived.Deep.AppendLies
import Derived.Deep.CutBlock
namespace Go.Proofs.Ytclaejaicjmohaa
set_option maxRecDepth 20000
open Go.RowKit
namespace E
theorem cp_back {w W w3 : World} {rs : List (Nat × Nat)} {l g : Nat} {v3 : Value} (hl : rs.length = l) (hb : Below w.heap.size w W) (hg0 : w.heap.size ≤ g) (hv : w3.ownsRow w.heap.size 39 2 v3 (0 + l) ([] ++ pv rs)) (hg : W.grownBy w3 (Value.slice (some ⟨g, 0, none⟩) 0 0).ownBlock) :
    ∃ A c, v3 = .slice A l c ∧ Pq w3 w3.heap.size A rs ∧ Below w.heap.size w w3 := by
  subst hl
  rw [List.nil_append, Nat.zero_add] at hv
  obtain ⟨A, c, h1, h2, _⟩ := Pq.of_own hv
  exact ⟨A, c, h1, h2, hb.grown hg hb.size (fun j hj => by simp [Value.ownBlock] at hj; omega)⟩
theorem take_snocQ {ps : List (Nat × Nat)} {k : Nat} (h : k < ps.length) : ps.take (k + 1) = ps.take k ++ [ps[k]] := by rw [List.take_succ_eq_append_getElem h]
/-- Two rows of a law's own, apart from each other and from a cell. -/
structure RG (wc : World) (kv : Value) (k : Nat) (xs : List Value) (bw : Value) (n : Nat) (ys : List Value) (X : Nat) (xv : Value) (W : World) : Prop where
  own1 : W.ownsRow wc.heap.size 22 1 kv k xs
  own2 : W.ownsRow wc.heap.size 39 2 bw n ys
  hd : ∀ g, kv.ownBlock = some g → bw.ownBlock ≠ some g
  x : W.cell? ⟨X, 0, none⟩ = some xv
  xn1 : some X ≠ kv.ownBlock
  xn2 : some X ≠ bw.ownBlock
  xl : X < W.heap.size
  low : Below wc.heap.size wc W
section
variable {wc W W' : World} {kv bw xv : Value} {k n X : Nat} {xs ys zs : List Value}
theorem RG.alloc (h : RG wc kv k xs bw n ys X xv W) (o : Obj) : RG wc kv k xs bw n ys X xv (W.alloc o) :=
  ⟨h.own1.alloc o, h.own2.alloc o, h.hd, (((Below.refl _ W).alloc (Nat.le_refl _) o).cell (p := ⟨X, 0, none⟩) h.xl).trans h.x, h.xn1, h.xn2, by rw [World.size_alloc]; have := h.xl; omega, h.low.alloc h.low.size o⟩
theorem RG.drew (h : RG wc kv k xs bw n ys X xv W) : RG wc kv k xs bw n ys X xv W.drew := ⟨h.own1, h.own2, h.hd, h.x, h.xn1, h.xn2, h.xl, below_drewN h.low 1⟩
theorem RG.app1 {g c m : Nat} (h : RG wc kv k xs bw n ys X xv W) (ho : W'.ownsRow wc.heap.size 22 1 (.slice (some ⟨g, 0, none⟩) m c) m zs) (hg : W.grownBy W' kv.ownBlock) (hat : kv.ownBlock = some g ∨ g = W.heap.size) : RG wc (.slice (some ⟨g, 0, none⟩) m c) m zs bw n ys X xv W' := by
  have hbg : bw.ownBlock ≠ some g := by
    rcases hat with e | rfl
    · exact h.hd _ e
    · intro e; have := (h.own2.lt _ e).2; omega
  refine ⟨ho, (ButS.of_grown (S := fun j => kv.ownBlock = some j) hg (fun j e => e)).own h.own2 (fun j hj e => h.hd j e hj), fun j hj => ?_, (hg.cell_far ⟨X, 0, none⟩ h.xl h.xn1).trans h.x, ?_, h.xn2, Nat.lt_of_lt_of_le h.xl hg.size, h.low.grown hg h.low.size (fun j e => (h.own1.lt j e).1)⟩
  · obtain rfl : g = j := by simpa [Value.ownBlock] using hj
    exact hbg
  · intro e
    obtain rfl : X = g := by simpa [Value.ownBlock] using e
    rcases hat with e2 | e2
    · exact h.xn1 e2.symm
    · have := h.xl; omega
theorem RG.app2 {g c m : Nat} (h : RG wc kv k xs bw n ys X xv W) (ho : W'.ownsRow wc.heap.size 39 2 (.slice (some ⟨g, 0, none⟩) m c) m zs) (hg : W.grownBy W' bw.ownBlock) (hat : bw.ownBlock = some g ∨ g = W.heap.size) : RG wc kv k xs (.slice (some ⟨g, 0, none⟩) m c) m zs X xv W' := by
  have hbg : kv.ownBlock ≠ some g := by
    rcases hat with e | rfl
    · exact fun e2 => h.hd _ e2 e
    · intro e; have := (h.own1.lt _ e).2; omega
  refine ⟨(ButS.of_grown (S := fun j => bw.ownBlock = some j) hg (fun j e => e)).own h.own1 (fun j hj e => h.hd j hj e), ho, fun j hj e => ?_, (hg.cell_far ⟨X, 0, none⟩ h.xl h.xn2).trans h.x, h.xn1, ?_, Nat.lt_of_lt_of_le h.xl hg.size, h.low.grown hg h.low.size (fun j e => (h.own2.lt j e).1)⟩
  · obtain rfl : g = j := by simpa [Value.ownBlock] using e
    exact hbg hj
  · intro e
    obtain rfl : X = g := by simpa [Value.ownBlock] using e
    rcases hat with e2 | e2
    · exact h.xn2 e2.symm
    · have := h.xl; omega
end
/-- A block that is known whole. -/
def Bk (W : World) (b : Nat) (cs : List Value) (T : TypeId) : Prop := W.heap[b]? = some (.cells cs.toArray T (0, 0))
theorem Bk.news {W : World} {b : Nat} {cs : List Value} {T : TypeId} (h : Bk W b cs T) : ∀ j u, cs[j]? = some u → W.cell? ((⟨b, 0, none⟩ : Addr).add j) = some u := by
  have := World.news_of_block h
  simpa using this
theorem bk_top (W : World) (cs : List Value) (T : TypeId) {b : Nat} (hb : b = W.heap.size) : Bk (W.alloc (.cells cs.toArray T)) b cs T := by subst hb; exact K.alloc_top W _
theorem Bk.alloc {W : World} {b : Nat} {cs : List Value} {T : TypeId} (h : Bk W b cs T) (o : Obj) : Bk (W.alloc o) b cs T := (Below.heap_alloc W o b (row_lt h)).trans h
theorem Bk.grown {W W' : World} {b : Nat} {cs : List Value} {T : TypeId} {r : Option Nat} (h : Bk W b cs T) (hg : W.grownBy W' r) (hne : some b ≠ r) : Bk W' b cs T := (hg.block b (row_lt h) hne).trans h
theorem alloc_sz (W : World) (o : Obj) : (W.alloc o).heap.size = W.heap.size + 1 := World.size_alloc W o
/-- Keys, added one by one. -/
def ad (l : List Nat) : List Nat := l.foldl K.add []
theorem ad_snoc (l : List Nat) (x : Nat) : ad (l ++ [x]) = K.add (ad l) x := by unfold ad; rw [List.foldl_append]; rfl
theorem fold_up : ∀ (l a : List Nat), K.Up a → K.Up (l.foldl K.add a)
  | [], _, h => h
  | x :: t, a, h => fold_up t (K.add a x) (K.add_up h x)
theorem ad_up (l : List Nat) : K.Up (ad l) := fold_up l [] List.Pairwise.nil
theorem fold_len : ∀ (l a : List Nat), (l.foldl K.add a).length ≤ a.length + l.length
  | [], a => by simp
  | x :: t, a => by
    have h1 := fold_len t (K.add a x)
    have h2 := add_len a x
    rw [List.foldl_cons, List.length_cons]
    omega
theorem ad_len (l : List Nat) : (ad l).length ≤ l.length := by have := fold_len l []; rw [List.length_nil, Nat.zero_add] at this; exact this
theorem fold_mem : ∀ (l a : List Nat), K.Up a → ∀ x ∈ l.foldl K.add a, x ∈ a ∨ x ∈ l
  | [], a, _, x, hx => .inl hx
  | y :: t, a, ha, x, hx => by
    rcases fold_mem t (K.add a y) (K.add_up ha y) x hx with h | h
    · rcases (K.add_mem ha y x).1 h with h2 | h2
      · subst h2; exact .inr (by simp)
      · exact .inl h2
    · exact .inr (by simp [h])
theorem ad_mem (l : List Nat) : ∀ x ∈ ad l, x ∈ l := fun x hx => by
  rcases fold_mem l [] List.Pairwise.nil x hx with h | h
  · cases h
  · exact h
/-- Keys, with the values that stand at their places. -/
def zp (ks : List Nat) (rs : List (Nat × Nat)) : List (Nat × Nat) := ks.zip (rs.map (·.2))
theorem zp_len {ks : List Nat} {rs : List (Nat × Nat)} (h : ks.length ≤ rs.length) : (zp ks rs).length = ks.length := by unfold zp; rw [List.length_zip, List.length_map]; omega
theorem zp_at {ks : List Nat} {rs : List (Nat × Nat)} {k : Nat} (h1 : k < ks.length) (h2 : k < rs.length) {h3 : k < (zp ks rs).length} : (zp ks rs)[k] = (ks[k], rs[k].2) := by
  have h4 : k < (ks.zip (rs.map (·.2))).length := h3
  have e : (ks.zip (rs.map (·.2)))[k] = (ks[k], rs[k].2) := by simp
  exact e
theorem zp_fst {ks : List Nat} {rs : List (Nat × Nat)} (h : ks.length ≤ rs.length) : (zp ks rs).map (·.1) = ks := by unfold zp; exact List.map_fst_zip (by simpa using h)
theorem zp_bd {ks : List Nat} {rs : List (Nat × Nat)} (h1 : ∀ x ∈ ks, x < 18446744073709551616) (h2 : ∀ x ∈ rs, x.1 < 18446744073709551616 ∧ x.2 < 18446744073709551616) : ∀ x ∈ zp ks rs, x.1 < 18446744073709551616 ∧ x.2 < 18446744073709551616 := fun x hx => by
  obtain ⟨h3, h4⟩ := List.of_mem_zip (show (x.1, x.2) ∈ ks.zip (rs.map (·.2)) from hx)
  obtain ⟨y, hy, e⟩ := List.mem_map.1 h4
  exact ⟨h1 _ h3, by rw [← e]; exact (h2 y hy).2⟩
theorem own_more2 {w : World} {base n : Nat} {v : Value} {gs : List (Nat × Nat)} {a b : Nat} (h : w.ownsRow base 39 2 v (gs.length + n) (pv gs ++ [.int .u64 (a : Int), .int .u64 (b : Int)])) (hn : n = 1 := by rfl) : w.ownsRow base 39 2 v (gs ++ [(a, b)]).length (pv (gs ++ [(a, b)])) := by
  subst hn
  rw [pv_append, List.length_append]
  exact h
theorem btsF_le (l : List (Nat × Nat)) (h : ∀ x ∈ l, x.1 < 18446744073709551616) (hl : l.length ≤ 1000) : (bts false l).length ≤ 100000 := by
  rw [gaps_len]
  have h1 := szs_le (xs := l.length :: gp 0 (l.map (·.1))) (fun x hx => by
    rcases List.mem_cons.1 hx with rfl | hx
    · omega
    · exact gp_lt _ 0 (fun y hy => by obtain ⟨z, hz, rfl⟩ := List.mem_map.1 hy; exact h z hz) x hx)
  rw [List.length_cons, gp_len, List.length_map] at h1
  omega
theorem btsT_le (l : List (Nat × Nat)) (h : ∀ x ∈ l, x.1 < 18446744073709551616 ∧ x.2 < 18446744073709551616) (hl : l.length ≤ 1000) : (bts true l).length ≤ 100000 := by
  rw [nums_len2]
  have h1 := szs_le (xs := l.length :: nums 0 l) (fun x hx => by
    rcases List.mem_cons.1 hx with rfl | hx
    · omega
    · exact nums_lt l 0 h x hx)
  rw [List.length_cons, nums_len] at h1
  omega
theorem one_u {a : Int} : ∀ u ∈ [Value.int .u64 a], u.oneCell' = true := fun u hu => by simp at hu; subst hu; rfl
set_option maxRecDepth 100000 in
set_option maxHeartbeats 8000000 in
theorem law_back (A1 : Option Addr) (c1 : Nat) (xs1 : List (Nat × Nat)) (sorted : Bool) (w : World) (hr1 : Pq w w.heap.size A1 xs1) (hl1 : xs1.length ≤ 9223372036854775807) (hc1 : xs1.length ≤ c1) (hb1 : ∀ x ∈ xs1, x.1 < 18446744073709551616 ∧ x.2 < 18446744073709551616) :
    Calls Try.prog 4 #[.slice A1 xs1.length c1, .bool sorted] w fun e w' => e = .returned (.bool true) ∧ Below w.heap.size w w' := by
  obtain ⟨i0, hi, hz0, hz1, hz2⟩ := info_parts3 pair_info
  obtain ⟨j0, hj, hy0, hy1, hy2⟩ := info_parts u64_info
  obtain ⟨rs, hrs⟩ : ∃ l, xs1.take 40 = l := ⟨_, rfl⟩
  obtain ⟨l, hl⟩ : ∃ n, rs.length = n := ⟨_, rfl⟩
  have hlm : min xs1.length 40 = l := by rw [← hl, ← hrs, List.length_take]; omega
  have f1 : l ≤ 40 := by omega
  have hx : ∀ x ∈ rs, x.1 < 18446744073709551616 ∧ x.2 < 18446744073709551616 := fun x hx => hb1 x (List.mem_of_mem_take (by rw [hrs]; exact hx))
  have HX := Lib.hid hx
  have HL := Lib.hid hl
  have hm : min (xs1.length : Int) 40 = (l : Int) := by omega
  obtain ⟨cu1, cu2⟩ := cutp_h A1 xs1.length c1 l (l : Int) rfl (by omega) hc1
  have HPQ : Hid (Pq w w.heap.size A1 rs) := Lib.hid (by rw [← hrs]; exact hr1.take 40)
  have HRD : Hid (∀ W, Below w.heap.size w W → Reads W W.heap.size 2 A1 l (pv rs)) := Lib.hid fun W hW => by
    have := pv_reads ((HPQ.out.below hW (Nat.le_refl _)).more hW.size)
    rw [hl] at this
    exact this
  clear hr1 hb1 hrs hl hx hlm hc1
  generalize xs1.length = len1 at *
  go_enter Try.func4, Try.ntmps4
  go_upto_if 38 with (first
    | (at_builtin; refine wpList_append_any _ rfl (.tmp 31) (.tmp 36) 37 rfl w.heap.size 39 i0 _ 2 16 Try.underlying37 hi hz0 hz1 hz2 rfl (by decide) (.slice (some ⟨W1.heap.size, 0, none⟩) 0 0) 0 [] (by rfl) HO1.out (W1.alloc (.cells #[] 39)).heap.size A1 l c1 (pv rs) (by rfl) HR1.out (pv_one _) (by unfold maxLen; omega) (by omega) HSZ1.out ?_; intro v3 w3 hv3 hg3 _; obtain ⟨A3, c3, rfl, hq3, hb3⟩ := cp_back HL.out HB1.out H1.out.size hv3 hg3; have H3 := Lib.hid hb3; have HQ3 := Lib.hid hq3; clear hv3 hg3 hb3 hq3)
    | (go_at_call 8; (with_reducible refine (awake_any _).mono ?_); rintro e W1 ⟨rfl, h⟩; have H1 := Lib.hid h; have HO1 : Hid ((W1.alloc (.cells #[] 39)).ownsRow w.heap.size 39 2 (.slice (some ⟨W1.heap.size, 0, none⟩) 0 0) 0 []) := Lib.hid (World.ownsRow_made W1 #[] 0 H1.out.size (by unfold maxLen; omega) (by simp)); have HB1 := Lib.hid (H1.out.alloc H1.out.size (.cells #[] 39)); have HR1 := Lib.hid (HRD.out _ HB1.out); have HSZ1 := Lib.hid HB1.out.size; clear h))
  clear HR1 HO1 HB1 HSZ1
  go_cut [0, 5, 6, 7, 8, 9, 10] from 38 (fun s0 s5 s6 s7 s8 s9 s10 wc => ∃ (rs' : List (Nat × Nat)) (A' : Option Addr) (c' : Nat), s0 = .slice A' rs'.length c' ∧ rs'.length ≤ 40 ∧ Hid (Pq wc wc.heap.size A' rs') ∧ Hid (Below w.heap.size w wc) ∧ Hid (∀ x ∈ rs', x.1 < 18446744073709551616 ∧ x.2 < 18446744073709551616) ∧ Hid (sorted = true → K.Up (rs'.map (·.1))))
  case first => 
    cases sorted with
    | false =>
      go_wp2
      go_meet
      exact ⟨rs, A3, c3, by rw [HL.out], by rw [HL.out]; exact f1, HQ3, H3, HX, Lib.hid (fun h => by cases h)⟩
    | true =>
      go_wp2
      go_loopw [5, 41] (fun v i wr => ∃ k : Nat, k ≤ l ∧ i = .int .i64 k ∧ Hid (KX wr v (ad ((rs.take k).map (·.1)))) ∧ Hid (Below w3.heap.size w3 wr)) (fun _ i _ => l - (intOf i).toNat)
      case atStart => exact ⟨0, by omega, rfl, Lib.hid (KX.nil _), Lib.hid (Below.refl _ _)⟩
      case round =>
        obtain ⟨k, hk, rfl, HK, HBL⟩ := hrel
        by_cases hlt : k < l
        · have hlt' : k < rs.length := by rw [HL.out]; exact hlt
          obtain ⟨b, off, rfl, hb3, hc0, hc1⟩ := (HQ3.out.below HBL.out (Nat.le_refl _)).at hlt'
          have d0 : decide ((k : Int) < (l : Int)) = true := decide_eq_true (by omega)
          have wk : IntKind.i64.wrap ((k : Int) + 1) = (k : Int) + 1 := IntWalk.i64_in _ (by omega)
          have HT : Hid (ad ((rs.take (k + 1)).map (·.1)) = K.add (ad ((rs.take k).map (·.1))) rs[k].1) := Lib.hid (by rw [take_snocQ hlt', List.map_append]; exact ad_snoc _ _)
          have hal : (ad ((rs.take k).map (·.1))).length ≤ 1000000 := by have := ad_len ((rs.take k).map (·.1)); rw [List.length_map, List.length_take] at this; omega
          have hsz := HBL.out.size
          generalize rs[k] = x at *
          obtain ⟨xa, xb⟩ := x
          dsimp only at hc0 hc1 HT
          generalize ad ((rs.take k).map (·.1)) = ds at *
          have hx0 : (wr.alloc (.cells #[.int .u64 (xa : Int), .int .u64 (xb : Int)] 39)).cell? ⟨wr.heap.size, 0, none⟩ = some (.int .u64 (xa : Int)) := by simp
          have HA := Lib.hid (k_add (wr.alloc (.cells #[.int .u64 (xa : Int), .int .u64 (xb : Int)] 39)) _ ds (HK.out.below ((Below.refl _ wr).alloc (Nat.le_refl _) (.cells #[.int .u64 (xa : Int), .int .u64 (xb : Int)] 39))) hal xa)
          have HBA := Lib.hid (HBL.out.alloc hsz (.cells #[.int .u64 (xa : Int), .int .u64 (xb : Int)] 39))
          clear hal hsz
          go_wp2_with (go_at_call 17; (with_reducible refine HA.out.mono ?_); rintro e w5 ⟨v5, rfl, hk5, hb5, _⟩; have HK5 := Lib.hid hk5; have HB5 := Lib.hid hb5; clear hk5 hb5)
          go_roundw
          case rel => exact ⟨k + 1, by omega, by go_num, Lib.hid (by rw [HT.out]; exact HK5.out), Lib.hid (HBA.out.trans (HB5.out.mono HBA.out.size))⟩
          case measure => simp [intOf]; omega
        · have hkn : l = k := by omega
          subst hkn
          have hT : rs.take l = rs := by rw [← HL.out, List.take_length]
          have hK := HK.out
          rw [hT] at hK
          obtain ⟨ks, hks⟩ : ∃ ks, ad (rs.map (·.1)) = ks := ⟨_, rfl⟩
          rw [hks] at hK
          obtain ⟨m, hm⟩ : ∃ m, ks.length = m := ⟨_, rfl⟩
          have hml : m ≤ l := by have := ad_len (rs.map (·.1)); rw [hks, List.length_map, HL.out, hm] at this; exact this
          have HUK : Hid (K.Up ks) := Lib.hid (by rw [← hks]; exact ad_up _)
          have HXK : Hid (∀ x ∈ ks, x < 18446744073709551616) := Lib.hid (fun x hx => by
            rw [← hks] at hx
            obtain ⟨y, hy, rfl⟩ := List.mem_map.1 (ad_mem _ x hx)
            exact (HX.out y hy).1)
          obtain ⟨wo, hwo⟩ : ∃ W, W = wr := ⟨_, rfl⟩
          subst hwo
          obtain ⟨Ak, ck, rfl⟩ := K.own_form hK
          rw [hm]
          have HKW : Hid (KX wo (.slice Ak m ck) ks) := Lib.hid (by rw [hm] at hK; exact hK)
          have HM := Lib.hid hm
          have HQW : Hid (Pq wo wo.heap.size A3 rs) := Lib.hid ((HQ3.out.below HBL.out (Nat.le_refl _)).more HBL.out.size)
          have HLO : Hid (Below w.heap.size w wo) := Lib.hid (H3.out.trans (HBL.out.mono H3.out.size))
          clear hK hks hm hT HK HBL HQ3 H3
          go_wp2
          go_loopw [8, 52] (fun v i WQ => ∃ k : Nat, k ≤ m ∧ i = .int .i64 k ∧ Hid (WQ.ownsRow wo.heap.size 39 2 v ((zp ks rs).take k).length (pv ((zp ks rs).take k))) ∧ Hid (Below wo.heap.size wo WQ)) (fun _ i _ => m - (intOf i).toNat)
          case atStart => exact ⟨0, by omega, rfl, Lib.hid (World.ownsRow_nil _ _ _ _), Lib.hid (Below.refl _ _)⟩
          case round =>
            obtain ⟨k, hk, rfl, HO, HBW⟩ := hrel
            have hzl : (zp ks rs).length = m := by rw [zp_len (by rw [HM.out, HL.out]; exact hml), HM.out]
            by_cases hlt : k < m
            · have hk1 : k < ks.length := by rw [HM.out]; exact hlt
              have hk2 : k < rs.length := by rw [HL.out]; omega
              have hk3 : k < (zp ks rs).length := by omega
              obtain ⟨bk, offk, rfl, _, hck⟩ := ((KX.rwE HKW.out).2.below HBW.out (Nat.le_refl _)).at hk1
              obtain ⟨b, off, rfl, hb3, hc0, hc1⟩ := (HQW.out.below HBW.out (Nat.le_refl _)).at hk2
              have d0 : (k : Int) < (m : Int) := by omega
              have d1 : (k : Int) < (l : Int) := by omega
              have wk : IntKind.i64.wrap ((k : Int) + 1) = (k : Int) + 1 := IntWalk.i64_in _ (by omega)
              have HT : Hid ((zp ks rs).take (k + 1) = (zp ks rs).take k ++ [(ks[k], rs[k].2)]) := Lib.hid (by rw [take_snocQ hk3, zp_at hk1 hk2])
              have hlen : ((zp ks rs).take k).length ≤ 1000 := by rw [List.length_take]; omega
              have hsz := HBW.out.size
              generalize (zp ks rs).take k = ds at *
              generalize rs[k].2 = xb at *
              generalize ks[k] = xa at *
              go_wp2_with (at_builtin; refine wpList_append_own _ rfl _ _ 37 rfl wo.heap.size 39 i0 _ 2 16 Try.underlying37 hi hz0 hz1 hz2 rfl (by decide) _ _ _ rfl (HO.out.alloc _) ⟨_, 0, none⟩ 1 1 [.int .u64 (xa : Int), .int .u64 (xb : Int)] rfl rfl ?c1 ?c2 ?c3 ?c4 ?c5 ?_)
              case c1 => exact newsP _ _ rfl _ _ _
              case c2 => exact fun u hu => int_oneP hu
              case c3 => unfold maxLen; omega
              case c4 => omega
              case c5 => simp; omega
              intro v' w9 hown' hgrow _
              have HO2 := Lib.hid (own_more2 hown')
              have HB2 : Hid (Below wo.heap.size wo w9) := Lib.hid ((HBW.out.alloc hsz _).grown hgrow (by simp; omega) (fun g hg => (HO.out.lt g hg).1))
              clear hown' hgrow hsz
              go_wp2
              go_roundw
              case rel => exact ⟨k + 1, by omega, by go_num, Lib.hid (by rw [HT.out]; exact HO2.out), HB2⟩
              case measure => simp [intOf]; omega
            · have hkm : m = k := by omega
              subst hkm
              have hT : (zp ks rs).take m = zp ks rs := by rw [← hzl, List.take_length]
              have hO := HO.out
              rw [hT] at hO
              obtain ⟨A8, c8, rfl, hq8, _⟩ := Pq.of_own hO
              have HQ8 := Lib.hid hq8
              have HO8 : Hid (Below w.heap.size w wr) := Lib.hid (HLO.out.trans (HBW.out.mono HLO.out.size))
              go_wp2
              go_meet
              exact ⟨zp ks rs, A8, c8, rfl, by omega, HQ8, HO8, Lib.hid (zp_bd HXK.out HX.out), Lib.hid (fun _ => by rw [zp_fst (by rw [HM.out, HL.out]; exact hml)]; exact HUK.out)⟩
  case rest =>
    obtain ⟨ps, A, c, rfl, hps, HQ, HLW, HBD, HUP⟩ := hcut
    obtain ⟨n, hn⟩ : ∃ n, ps.length = n := ⟨_, rfl⟩
    have HN := Lib.hid hn
    rw [hn] at hps
    rw [hn]
    clear hn HQ3 H3 H1 HX HPQ HRD HL hm cu1 cu2
    go_wp2
    go_loopw [11, 12, 71] (fun kv bw i wr => ∃ k : Nat, k ≤ n ∧ i = .int .i64 k ∧ Hid (wr.ownsRow wc.heap.size 22 1 kv k (wv ((ps.take k).map (·.1)))) ∧ Hid (wr.ownsRow wc.heap.size 39 2 bw k (pv ((ps.take k).map fun x => (x.1, 0)))) ∧ Hid (∀ g, kv.ownBlock = some g → bw.ownBlock ≠ some g) ∧ Hid (Below wc.heap.size wc wr)) (fun _ _ i _ => n - (intOf i).toNat)
    case atStart => exact ⟨0, by omega, rfl, Lib.hid (World.ownsRow_nil _ _ _ _), Lib.hid (World.ownsRow_nil _ _ _ _), Lib.hid (fun g h => by simp [Value.ownBlock] at h), Lib.hid (Below.refl _ _)⟩
    case round =>
      obtain ⟨k, hk, rfl, HK, HB, HD, HBL⟩ := hrel
      obtain ⟨kv, hkv⟩ : ∃ v, v = u11 := ⟨_, rfl⟩
      obtain ⟨bw, hbw⟩ : ∃ v, v = u12 := ⟨_, rfl⟩
      subst hkv hbw
      by_cases hlt : k < n
      · have hlt' : k < ps.length := by rw [HN.out]; exact hlt
        obtain ⟨b, off, rfl, hb3, hc0, hc1⟩ := (HQ.out.below HBL.out (Nat.le_refl _)).at hlt'
        have d0 : decide ((k : Int) < (n : Int)) = true := decide_eq_true (by omega)
        have wk : IntKind.i64.wrap ((k : Int) + 1) = (k : Int) + 1 := IntWalk.i64_in _ (by omega)
        have HT := Lib.hid (take_snocQ hlt')
        have hsz := HBL.out.size
        generalize ps[k] = x at *
        obtain ⟨xa, xb⟩ := x
        dsimp only at hc0 hc1 HT
        generalize ps.take k = ds at *
        have hx0 : (wr.alloc (.cells #[.int .u64 (xa : Int), .int .u64 (xb : Int)] 39)).drew.cell? ⟨wr.heap.size, 0, none⟩ = some (.int .u64 (xa : Int)) := by show (wr.alloc (.cells #[.int .u64 (xa : Int), .int .u64 (xb : Int)] 39)).cell? ⟨wr.heap.size, 0, none⟩ = some (.int .u64 (xa : Int)); simp
        have G0 : Hid (RG wc kv k (wv (ds.map (·.1))) bw k (pv (ds.map fun x => (x.1, 0))) wr.heap.size (.int .u64 (xa : Int)) (wr.alloc (.cells #[.int .u64 (xa : Int), .int .u64 (xb : Int)] 39))) := Lib.hid ⟨HK.out.alloc _, HB.out.alloc _, HD.out, by simp, fun e => by have := (HK.out.lt _ e.symm).2; omega, fun e => by have := (HB.out.lt _ e.symm).2; omega, by simp, HBL.out.alloc hsz _⟩
        have hKn : ∀ b, wr.heap.size ≤ b → some b ≠ kv.ownBlock := fun b hb e => by have := (HK.out.lt _ e.symm).2; omega
        have hBn : ∀ b, wr.heap.size ≤ b → some b ≠ bw.ownBlock := fun b hb e => by have := (HB.out.lt _ e.symm).2; omega
        have HKN := Lib.hid hKn
        have HBN := Lib.hid hBn
        have hm1 : k + 1 ≤ maxLen := by unfold maxLen; omega
        have hm2 : (k + 1) * 8 ≤ 140737488355328 := by omega
        have hm3 : (k + 1) * 16 ≤ 140737488355328 := by omega
        have N1 : Hid (Bk ((wr.alloc (.cells #[.int .u64 (xa : Int), .int .u64 (xb : Int)] 39)).alloc (.cells #[.int .u64 (xa : Int)] 22)) (wr.heap.size + 1) [.int .u64 (xa : Int)] 22) := Lib.hid (bk_top (wr.alloc (.cells #[.int .u64 (xa : Int), .int .u64 (xb : Int)] 39)) [.int .u64 (xa : Int)] 22 (alloc_sz wr _).symm)
        have N2 : Hid (Bk ((wr.alloc (.cells #[.int .u64 (xa : Int), .int .u64 (xb : Int)] 39)).alloc (.cells #[.int .u64 (xa : Int), .int .u64 0] 39)) (wr.heap.size + 1) [.int .u64 (xa : Int), .int .u64 0] 39) := Lib.hid (bk_top (wr.alloc (.cells #[.int .u64 (xa : Int), .int .u64 (xb : Int)] 39)) [.int .u64 (xa : Int), .int .u64 0] 39 (alloc_sz wr _).symm)
        have N12 : Hid (Bk (((wr.alloc (.cells #[.int .u64 (xa : Int), .int .u64 (xb : Int)] 39)).alloc (.cells #[.int .u64 (xa : Int)] 22)).alloc (.cells #[.int .u64 (xa : Int), .int .u64 0] 39)) (wr.heap.size + 2) [.int .u64 (xa : Int), .int .u64 0] 39) := Lib.hid (bk_top ((wr.alloc (.cells #[.int .u64 (xa : Int), .int .u64 (xb : Int)] 39)).alloc (.cells #[.int .u64 (xa : Int)] 22)) [.int .u64 (xa : Int), .int .u64 0] 39 (by rw [alloc_sz, alloc_sz]))
        have N21 : Hid (Bk (((wr.alloc (.cells #[.int .u64 (xa : Int), .int .u64 (xb : Int)] 39)).alloc (.cells #[.int .u64 (xa : Int), .int .u64 0] 39)).alloc (.cells #[.int .u64 (xa : Int)] 22)) (wr.heap.size + 2) [.int .u64 (xa : Int)] 22) := Lib.hid (bk_top ((wr.alloc (.cells #[.int .u64 (xa : Int), .int .u64 (xb : Int)] 39)).alloc (.cells #[.int .u64 (xa : Int), .int .u64 0] 39)) [.int .u64 (xa : Int)] 22 (by rw [alloc_sz, alloc_sz]))
        have N1o : Hid (Bk (((wr.alloc (.cells #[.int .u64 (xa : Int), .int .u64 (xb : Int)] 39)).alloc (.cells #[.int .u64 (xa : Int)] 22)).alloc (.cells #[.int .u64 (xa : Int), .int .u64 0] 39)) (wr.heap.size + 1) [.int .u64 (xa : Int)] 22) := Lib.hid (N1.out.alloc _)
        have N2o : Hid (Bk (((wr.alloc (.cells #[.int .u64 (xa : Int), .int .u64 (xb : Int)] 39)).alloc (.cells #[.int .u64 (xa : Int), .int .u64 0] 39)).alloc (.cells #[.int .u64 (xa : Int)] 22)) (wr.heap.size + 1) [.int .u64 (xa : Int), .int .u64 0] 39) := Lib.hid (N2.out.alloc _)
        clear hKn hBn hsz
        go_wp2
        go_region_held3 (fun W => W.cell? ⟨wr.heap.size, 0, none⟩ = some (.int .u64 (xa : Int)))
          (first | (with_reducible exact hx0) | (with_reducible exact hx5) | (with_reducible exact hx6) | (with_reducible exact hx7) | go_keep)
          (first
            | (refine step_append_lies _ rfl (.tmp 75) (.tmp 78) 24 rfl wc.heap.size 22 j0 _ 1 8 Try.underlying24 hj hy0 hy1 hy2 rfl (by decide) kv k (wv (ds.map (·.1))) (by rfl) ((RG.drew (RG.alloc G0.out (.cells #[.int .u64 (xa : Int)] 22)))).own1 ⟨wr.heap.size + 1, 0, none⟩ 1 1 [.int .u64 (xa : Int)] (by rfl) (by rfl) (Bk.news (W := ((wr.alloc (.cells #[.int .u64 (xa : Int), .int .u64 (xb : Int)] 39)).alloc (.cells #[.int .u64 (xa : Int)] 22)).drew) N1.out) one_u Nat.one_pos hm1 hm2 ((RG.drew (RG.alloc G0.out (.cells #[.int .u64 (xa : Int)] 22)))).low.size _ rfl ?_
               intro g5 c5 w5 hown hgrow hat _
               have H5 := Lib.hid (RG.app1 (RG.drew (RG.alloc G0.out (.cells #[.int .u64 (xa : Int)] 22))) hown hgrow hat)
               have hx5 := H5.out.x
               clear hown hgrow hat)
            | (refine step_append_lies _ rfl (.tmp 75) (.tmp 78) 24 rfl wc.heap.size 22 j0 _ 1 8 Try.underlying24 hj hy0 hy1 hy2 rfl (by decide) kv k (wv (ds.map (·.1))) (by rfl) ((RG.drew (RG.alloc (RG.alloc G0.out (.cells #[.int .u64 (xa : Int)] 22)) (.cells #[.int .u64 (xa : Int), .int .u64 0] 39)))).own1 ⟨wr.heap.size + 1, 0, none⟩ 1 1 [.int .u64 (xa : Int)] (by rfl) (by rfl) (Bk.news (W := (((wr.alloc (.cells #[.int .u64 (xa : Int), .int .u64 (xb : Int)] 39)).alloc (.cells #[.int .u64 (xa : Int)] 22)).alloc (.cells #[.int .u64 (xa : Int), .int .u64 0] 39)).drew) N1o.out) one_u Nat.one_pos hm1 hm2 ((RG.drew (RG.alloc (RG.alloc G0.out (.cells #[.int .u64 (xa : Int)] 22)) (.cells #[.int .u64 (xa : Int), .int .u64 0] 39)))).low.size _ rfl ?_
               intro g5 c5 w5 hown hgrow hat _
               have H5 := Lib.hid (RG.app1 (RG.drew (RG.alloc (RG.alloc G0.out (.cells #[.int .u64 (xa : Int)] 22)) (.cells #[.int .u64 (xa : Int), .int .u64 0] 39))) hown hgrow hat)
               have hx5 := H5.out.x
               have B2 := Lib.hid (Bk.grown (W := (((wr.alloc (.cells #[.int .u64 (xa : Int), .int .u64 (xb : Int)] 39)).alloc (.cells #[.int .u64 (xa : Int)] 22)).alloc (.cells #[.int .u64 (xa : Int), .int .u64 0] 39)).drew) N12.out hgrow (HKN.out _ (by omega)))
               clear hown hgrow hat)
            | (refine step_append_lies _ rfl (.tmp 75) (.tmp 78) 24 rfl wc.heap.size 22 j0 _ 1 8 Try.underlying24 hj hy0 hy1 hy2 rfl (by decide) kv k (wv (ds.map (·.1))) (by rfl) ((RG.drew (RG.alloc (RG.alloc G0.out (.cells #[.int .u64 (xa : Int), .int .u64 0] 39)) (.cells #[.int .u64 (xa : Int)] 22)))).own1 ⟨wr.heap.size + 2, 0, none⟩ 1 1 [.int .u64 (xa : Int)] (by rfl) (by rfl) (Bk.news (W := (((wr.alloc (.cells #[.int .u64 (xa : Int), .int .u64 (xb : Int)] 39)).alloc (.cells #[.int .u64 (xa : Int), .int .u64 0] 39)).alloc (.cells #[.int .u64 (xa : Int)] 22)).drew) N21.out) one_u Nat.one_pos hm1 hm2 ((RG.drew (RG.alloc (RG.alloc G0.out (.cells #[.int .u64 (xa : Int), .int .u64 0] 39)) (.cells #[.int .u64 (xa : Int)] 22)))).low.size _ rfl ?_
               intro g5 c5 w5 hown hgrow hat _
               have H5 := Lib.hid (RG.app1 (RG.drew (RG.alloc (RG.alloc G0.out (.cells #[.int .u64 (xa : Int), .int .u64 0] 39)) (.cells #[.int .u64 (xa : Int)] 22))) hown hgrow hat)
               have hx5 := H5.out.x
               have B2 := Lib.hid (Bk.grown (W := (((wr.alloc (.cells #[.int .u64 (xa : Int), .int .u64 (xb : Int)] 39)).alloc (.cells #[.int .u64 (xa : Int), .int .u64 0] 39)).alloc (.cells #[.int .u64 (xa : Int)] 22)).drew) N2o.out hgrow (HKN.out _ (by omega)))
               clear hown hgrow hat)
            | (refine step_append_lies _ rfl (.tmp 80) (.tmp 84) 37 rfl wc.heap.size 39 i0 _ 2 16 Try.underlying37 hi hz0 hz1 hz2 rfl (by decide) bw k (pv (ds.map fun x => (x.1, 0))) (by rfl) ((RG.drew (RG.alloc G0.out (.cells #[.int .u64 (xa : Int), .int .u64 0] 39)))).own2 ⟨wr.heap.size + 1, 0, none⟩ 1 1 [.int .u64 (xa : Int), .int .u64 0] (by rfl) (by rfl) (Bk.news (W := ((wr.alloc (.cells #[.int .u64 (xa : Int), .int .u64 (xb : Int)] 39)).alloc (.cells #[.int .u64 (xa : Int), .int .u64 0] 39)).drew) N2.out) (fun u hu => int_oneP hu) Nat.one_pos hm1 hm3 ((RG.drew (RG.alloc G0.out (.cells #[.int .u64 (xa : Int), .int .u64 0] 39)))).low.size _ rfl ?_
               intro g6 c6 w6 hown hgrow hat _
               have H6 := Lib.hid (RG.app2 (RG.drew (RG.alloc G0.out (.cells #[.int .u64 (xa : Int), .int .u64 0] 39))) hown hgrow hat)
               have hx6 := H6.out.x
               clear hown hgrow hat)
            | (refine step_append_lies _ rfl (.tmp 80) (.tmp 84) 37 rfl wc.heap.size 39 i0 _ 2 16 Try.underlying37 hi hz0 hz1 hz2 rfl (by decide) bw k (pv (ds.map fun x => (x.1, 0))) (by rfl) ((RG.drew (RG.alloc (RG.alloc G0.out (.cells #[.int .u64 (xa : Int), .int .u64 0] 39)) (.cells #[.int .u64 (xa : Int)] 22)))).own2 ⟨wr.heap.size + 1, 0, none⟩ 1 1 [.int .u64 (xa : Int), .int .u64 0] (by rfl) (by rfl) (Bk.news (W := (((wr.alloc (.cells #[.int .u64 (xa : Int), .int .u64 (xb : Int)] 39)).alloc (.cells #[.int .u64 (xa : Int), .int .u64 0] 39)).alloc (.cells #[.int .u64 (xa : Int)] 22)).drew) N2o.out) (fun u hu => int_oneP hu) Nat.one_pos hm1 hm3 ((RG.drew (RG.alloc (RG.alloc G0.out (.cells #[.int .u64 (xa : Int), .int .u64 0] 39)) (.cells #[.int .u64 (xa : Int)] 22)))).low.size _ rfl ?_
               intro g6 c6 w6 hown hgrow hat _
               have H6 := Lib.hid (RG.app2 (RG.drew (RG.alloc (RG.alloc G0.out (.cells #[.int .u64 (xa : Int), .int .u64 0] 39)) (.cells #[.int .u64 (xa : Int)] 22))) hown hgrow hat)
               have hx6 := H6.out.x
               have B1 := Lib.hid (Bk.grown (W := (((wr.alloc (.cells #[.int .u64 (xa : Int), .int .u64 (xb : Int)] 39)).alloc (.cells #[.int .u64 (xa : Int), .int .u64 0] 39)).alloc (.cells #[.int .u64 (xa : Int)] 22)).drew) N21.out hgrow (HBN.out _ (by omega)))
               clear hown hgrow hat)
            | (refine step_append_lies _ rfl (.tmp 80) (.tmp 84) 37 rfl wc.heap.size 39 i0 _ 2 16 Try.underlying37 hi hz0 hz1 hz2 rfl (by decide) bw k (pv (ds.map fun x => (x.1, 0))) (by rfl) ((RG.drew (RG.alloc (RG.alloc G0.out (.cells #[.int .u64 (xa : Int)] 22)) (.cells #[.int .u64 (xa : Int), .int .u64 0] 39)))).own2 ⟨wr.heap.size + 2, 0, none⟩ 1 1 [.int .u64 (xa : Int), .int .u64 0] (by rfl) (by rfl) (Bk.news (W := (((wr.alloc (.cells #[.int .u64 (xa : Int), .int .u64 (xb : Int)] 39)).alloc (.cells #[.int .u64 (xa : Int)] 22)).alloc (.cells #[.int .u64 (xa : Int), .int .u64 0] 39)).drew) N12.out) (fun u hu => int_oneP hu) Nat.one_pos hm1 hm3 ((RG.drew (RG.alloc (RG.alloc G0.out (.cells #[.int .u64 (xa : Int)] 22)) (.cells #[.int .u64 (xa : Int), .int .u64 0] 39)))).low.size _ rfl ?_
               intro g6 c6 w6 hown hgrow hat _
               have H6 := Lib.hid (RG.app2 (RG.drew (RG.alloc (RG.alloc G0.out (.cells #[.int .u64 (xa : Int)] 22)) (.cells #[.int .u64 (xa : Int), .int .u64 0] 39))) hown hgrow hat)
               have hx6 := H6.out.x
               have B1 := Lib.hid (Bk.grown (W := (((wr.alloc (.cells #[.int .u64 (xa : Int), .int .u64 (xb : Int)] 39)).alloc (.cells #[.int .u64 (xa : Int)] 22)).alloc (.cells #[.int .u64 (xa : Int), .int .u64 0] 39)).drew) N1o.out hgrow (HBN.out _ (by omega)))
               clear hown hgrow hat)
            | (refine step_append_lies _ rfl (.tmp 80) (.tmp 84) 37 rfl wc.heap.size 39 i0 _ 2 16 Try.underlying37 hi hz0 hz1 hz2 rfl (by decide) bw k (pv (ds.map fun x => (x.1, 0))) (by rfl) ((H5.out.alloc (.cells #[.int .u64 (xa : Int), .int .u64 0] 39))).own2 ⟨w5.heap.size, 0, none⟩ 1 1 [.int .u64 (xa : Int), .int .u64 0] (by rfl) (by rfl) ((bk_top w5 [.int .u64 (xa : Int), .int .u64 0] 39 rfl).news) (fun u hu => int_oneP hu) Nat.one_pos hm1 hm3 ((H5.out.alloc (.cells #[.int .u64 (xa : Int), .int .u64 0] 39))).low.size _ rfl ?_
               intro g6 c6 w7 hown hgrow hat _
               have HF := Lib.hid (RG.app2 (H5.out.alloc (.cells #[.int .u64 (xa : Int), .int .u64 0] 39)) hown hgrow hat)
               have hx7 := HF.out.x
               clear hown hgrow hat)
            | (refine step_append_lies _ rfl (.tmp 80) (.tmp 84) 37 rfl wc.heap.size 39 i0 _ 2 16 Try.underlying37 hi hz0 hz1 hz2 rfl (by decide) bw k (pv (ds.map fun x => (x.1, 0))) (by rfl) (H5.out).own2 ⟨wr.heap.size + 2, 0, none⟩ 1 1 [.int .u64 (xa : Int), .int .u64 0] (by rfl) (by rfl) (B2.out.news) (fun u hu => int_oneP hu) Nat.one_pos hm1 hm3 (H5.out).low.size _ rfl ?_
               intro g6 c6 w7 hown hgrow hat _
               have HF := Lib.hid (RG.app2 H5.out hown hgrow hat)
               have hx7 := HF.out.x
               clear hown hgrow hat)
            | (refine step_append_lies _ rfl (.tmp 80) (.tmp 84) 37 rfl wc.heap.size 39 i0 _ 2 16 Try.underlying37 hi hz0 hz1 hz2 rfl (by decide) bw k (pv (ds.map fun x => (x.1, 0))) (by rfl) (H5.out).own2 ⟨wr.heap.size + 1, 0, none⟩ 1 1 [.int .u64 (xa : Int), .int .u64 0] (by rfl) (by rfl) (B2.out.news) (fun u hu => int_oneP hu) Nat.one_pos hm1 hm3 (H5.out).low.size _ rfl ?_
               intro g6 c6 w7 hown hgrow hat _
               have HF := Lib.hid (RG.app2 H5.out hown hgrow hat)
               have hx7 := HF.out.x
               clear hown hgrow hat)
            | (refine step_append_lies _ rfl (.tmp 75) (.tmp 78) 24 rfl wc.heap.size 22 j0 _ 1 8 Try.underlying24 hj hy0 hy1 hy2 rfl (by decide) kv k (wv (ds.map (·.1))) (by rfl) ((H6.out.alloc (.cells #[.int .u64 (xa : Int)] 22))).own1 ⟨w6.heap.size, 0, none⟩ 1 1 [.int .u64 (xa : Int)] (by rfl) (by rfl) ((bk_top w6 [.int .u64 (xa : Int)] 22 rfl).news) one_u Nat.one_pos hm1 hm2 ((H6.out.alloc (.cells #[.int .u64 (xa : Int)] 22))).low.size _ rfl ?_
               intro g5 c5 w7 hown hgrow hat _
               have HF := Lib.hid (RG.app1 (H6.out.alloc (.cells #[.int .u64 (xa : Int)] 22)) hown hgrow hat)
               have hx7 := HF.out.x
               clear hown hgrow hat)
            | (refine step_append_lies _ rfl (.tmp 75) (.tmp 78) 24 rfl wc.heap.size 22 j0 _ 1 8 Try.underlying24 hj hy0 hy1 hy2 rfl (by decide) kv k (wv (ds.map (·.1))) (by rfl) (H6.out).own1 ⟨wr.heap.size + 2, 0, none⟩ 1 1 [.int .u64 (xa : Int)] (by rfl) (by rfl) (B1.out.news) one_u Nat.one_pos hm1 hm2 (H6.out).low.size _ rfl ?_
               intro g5 c5 w7 hown hgrow hat _
               have HF := Lib.hid (RG.app1 H6.out hown hgrow hat)
               have hx7 := HF.out.x
               clear hown hgrow hat)
            | (refine step_append_lies _ rfl (.tmp 75) (.tmp 78) 24 rfl wc.heap.size 22 j0 _ 1 8 Try.underlying24 hj hy0 hy1 hy2 rfl (by decide) kv k (wv (ds.map (·.1))) (by rfl) (H6.out).own1 ⟨wr.heap.size + 1, 0, none⟩ 1 1 [.int .u64 (xa : Int)] (by rfl) (by rfl) (B1.out.news) one_u Nat.one_pos hm1 hm2 (H6.out).low.size _ rfl ?_
               intro g5 c5 w7 hown hgrow hat _
               have HF := Lib.hid (RG.app1 H6.out hown hgrow hat)
               have hx7 := HF.out.x
               clear hown hgrow hat))
        all_goals
          go_wp2
          go_roundw
          case rel => exact ⟨k + 1, by omega, by go_num, Lib.hid (by rw [HT.out, List.map_append]; have := HF.out.own1; simpa [wv] using this), Lib.hid (by rw [HT.out, List.map_append, pv_append]; exact HF.out.own2), Lib.hid HF.out.hd, Lib.hid HF.out.low⟩
          case measure => simp [intOf]; omega
      · have hkn : n = k := by omega
        subst hkn
        have hT : ps.take n = ps := by rw [← HN.out, List.take_length]
        have hK := HK.out
        have hB := HB.out
        rw [hT] at hK hB
        obtain ⟨ks, hks⟩ : ∃ ks, ps.map (·.1) = ks := ⟨_, rfl⟩
        obtain ⟨zs, hzs⟩ : ∃ zs, (ps.map fun x => (x.1, 0)) = zs := ⟨_, rfl⟩
        have hkl : ks.length = n := by rw [← hks, List.length_map, HN.out]
        have hzl : zs.length = n := by rw [← hzs, List.length_map, HN.out]
        have hzk : zs.map (·.1) = ks := by rw [← hzs, ← hks, List.map_map]; rfl
        rw [hks] at hK
        rw [hzs] at hB
        obtain ⟨Ak, ck, rfl⟩ := K.own_form hK
        obtain ⟨Ab, cb, rfl⟩ := own_formP hB
        have HS : Hid (Bb wr wr [] [(.slice Ak n ck, ks)]) := Lib.hid ⟨Below.refl _ _, (fun p hp => by cases hp), fun p hp => by
          obtain rfl : p = (.slice Ak n ck, ks) := by simpa using hp
          exact K.kx_of hK hkl.symm⟩
        have HZQ : Hid (Pq wr wr.heap.size Ab zs) := Lib.hid (by
          obtain ⟨_, _, e, hq, _⟩ := Pq.of_own (rs := zs) (by rw [hzl]; exact hB)
          injection e with q1 _ _
          subst q1
          exact hq)
        have HPQ2 : Hid (Pq wr wr.heap.size A ps) := Lib.hid ((HQ.out.below HBL.out (Nat.le_refl _)).more HBL.out.size)
        have HZW : Hid (∀ W M N, Bb wr W M N → Pq W W.heap.size Ab zs) := Lib.hid fun W M N h => (HZQ.out.below h.low (Nat.le_refl _)).more h.low.size
        have HPW : Hid (∀ W M N, Bb wr W M N → Pq W W.heap.size A ps) := Lib.hid fun W M N h => (HPQ2.out.below h.low (Nat.le_refl _)).more h.low.size
        have HLO : Hid (Below w.heap.size w wr) := Lib.hid (HLW.out.trans (HBL.out.mono HLW.out.size))
        have hxk : ∀ x ∈ ks, x < 18446744073709551616 := fun x hx => by
          rw [← hks] at hx
          obtain ⟨y, hy, rfl⟩ := List.mem_map.1 hx
          exact (HBD.out y hy).1
        have hxz : ∀ x ∈ zs, x.1 < 18446744073709551616 ∧ x.2 < 18446744073709551616 := fun x hx => by
          rw [← hzs] at hx
          obtain ⟨y, hy, rfl⟩ := List.mem_map.1 hx
          exact ⟨(HBD.out y hy).1, by show 0 < _; decide⟩
        have hn6 : n ≤ 262144 := by omega
        by_cases hu : K.Up ks
        · have hup : K.Up (ps.map (·.1)) := by rw [hks]; exact hu
          have huz : K.Up (zs.map (·.1)) := by rw [hzk]; exact hu
          obtain ⟨B1, hB1⟩ : ∃ B, bts false zs = B := ⟨_, rfl⟩
          obtain ⟨B2, hB2⟩ : ∃ B, bts true ps = B := ⟨_, rfl⟩
          obtain ⟨b1, hb1⟩ : ∃ b, B1.length = b := ⟨_, rfl⟩
          obtain ⟨b2, hb2⟩ : ∃ b, B2.length = b := ⟨_, rfl⟩
          have hB0 : bts false ps = B1 := by rw [bts_flat, hzs, hB1]
          have l1 : b1 ≤ 100000 := by rw [← hb1, ← hB1]; exact btsF_le zs (fun x hx => (hxz x hx).1) (by omega)
          have l2 : b2 ≤ 100000 := by rw [← hb2, ← hB2]; exact btsT_le ps HBD.out (by rw [HN.out]; omega)
          have p1 : Ps B1 (some (zs, false)) := by rw [← hB1]; exact ps_yes (rs_of zs 0 huz (fun x hx => ⟨Nat.zero_le _, hxz x hx⟩)) (by omega) (fun _ x hx => by rw [← hzs] at hx; obtain ⟨y, _, rfl⟩ := List.mem_map.1 hx; rfl)
          have p2 : Ps B2 (some (ps, true)) := by rw [← hB2]; exact ps_yes (rs_of ps 0 hup (fun x hx => ⟨Nat.zero_le _, HBD.out x hx⟩)) (by rw [HN.out]; omega) (fun h => by cases h)
          have y1 : ∀ x ∈ B1, x < 256 := by rw [← hB1]; exact bts_byte _ _
          have y2 : ∀ x ∈ B2, x < 256 := by rw [← hB2]; exact bts_byte _ _
          have CK : Hid (∀ W M, Bb wr W M [(.slice Ak n ck, ks)] → Calls Try.prog 18 #[.slice Ak n ck] W fun e w' => ∃ A' c', e = .returned (.tuple #[.slice A' b1 c', .int .i64 0]) ∧ Bb wr w' ((.slice A' b1 c', B1) :: M) [(.slice Ak n ck, ks)]) := Lib.hid fun W M h => by have := bb_keys_up h (A := Ak) (n := n) (c := ck) (b := b1) (zs := zs) (by simp) hzk hu hn6 hxk (by rw [hB1, hb1]); rw [hB1] at this; exact this
          have CP : Hid (∀ W M N, Bb wr W M N → Calls Try.prog 19 #[.slice A n c] W fun e w' => ∃ A' c', e = .returned (.tuple #[.slice A' b2 c', .int .i64 0]) ∧ Bb wr w' ((.slice A' b2 c', B2) :: M) N) := Lib.hid fun W M N h => by have := bb_pairs_up h (b := b2) (c := c) (HPW.out W M N h) HN.out hup hn6 HBD.out (by rw [hB2, hb2]); rw [hB2] at this; exact this
          have C0 : Hid (∀ W M N, Bb wr W M N → Calls Try.prog 20 #[.slice A n c, .bool false] W fun e w' => ∃ A' c', e = .returned (.tuple #[.slice A' b1 c', .int .i64 0]) ∧ Bb wr w' ((.slice A' b1 c', B1) :: M) N) := Lib.hid fun W M N h => by have := bb_ref_up h (b := b1) (c := c) false (HPW.out W M N h) HN.out hup hn6 HBD.out (by rw [hB0, hb1]); rw [hB0] at this; exact this
          have C1 : Hid (∀ W M N, Bb wr W M N → Calls Try.prog 20 #[.slice A n c, .bool true] W fun e w' => ∃ A' c', e = .returned (.tuple #[.slice A' b2 c', .int .i64 0]) ∧ Bb wr w' ((.slice A' b2 c', B2) :: M) N) := Lib.hid fun W M N h => by have := bb_ref_up h (b := b2) (c := c) true (HPW.out W M N h) HN.out hup hn6 HBD.out (by rw [hB2, hb2]); rw [hB2] at this; exact this
          have D1 : Hid (∀ W M N A B c d, Bb wr W M N → (Value.slice A b1 c, B1) ∈ M → (Value.slice B b1 d, B1) ∈ M → Calls Try.prog 13 #[.slice A b1 c, .slice B b1 d] W fun e w' => e = .returned (.bool true) ∧ Bb wr w' M N) := Lib.hid fun W M N A B c d h m1 m2 => bb_same h m1 m2 (by omega) (by omega) (decide_eq_true rfl)
          have D2 : Hid (∀ W M N A B c d, Bb wr W M N → (Value.slice A b2 c, B2) ∈ M → (Value.slice B b2 d, B2) ∈ M → Calls Try.prog 13 #[.slice A b2 c, .slice B b2 d] W fun e w' => e = .returned (.bool true) ∧ Bb wr w' M N) := Lib.hid fun W M N A B c d h m1 m2 => bb_same h m1 m2 (by omega) (by omega) (decide_eq_true rfl)
          have E1 : Hid (∀ W M N A c, Bb wr W M N → (Value.slice A b1 c, B1) ∈ M → Calls Try.prog 21 #[.slice A b1 c] W fun e w' => ∃ A' c', e = .returned (.tuple #[.slice A' n c', .bool false, .int .i64 0]) ∧ Pq w' w'.heap.size A' zs ∧ Bb wr w' M N ∧ Below W.heap.size W w') := Lib.hid fun W M N A c h m => bb_parse_yes h m (by omega) y1 p1 hzl
          have E2 : Hid (∀ W M N A c, Bb wr W M N → (Value.slice A b2 c, B2) ∈ M → Calls Try.prog 21 #[.slice A b2 c] W fun e w' => ∃ A' c', e = .returned (.tuple #[.slice A' n c', .bool true, .int .i64 0]) ∧ Pq w' w'.heap.size A' ps ∧ Bb wr w' M N ∧ Below W.heap.size W w') := Lib.hid fun W M N A c h m => bb_parse_yes h m (by omega) y2 p2 HN.out
          have F1 : Hid (∀ W M N A c, Bb wr W M N → Pq W W.heap.size A zs → Calls Try.prog 22 #[.slice A n c, .slice Ab n cb] W fun e w' => e = .returned (.bool true) ∧ Bb wr w' M N ∧ Below W.heap.size W w') := Lib.hid fun W M N A c h hq => bb_refsame h hq (HZW.out W M N h) hzl (by omega)
          have F2 : Hid (∀ W M N A' c', Bb wr W M N → Pq W W.heap.size A' ps → Calls Try.prog 22 #[.slice A' n c', .slice A n c] W fun e w' => e = .returned (.bool true) ∧ Bb wr w' M N ∧ Below W.heap.size W w') := Lib.hid fun W M N A c h hq => bb_refsame h hq (HPW.out W M N h) HN.out (by omega)
          clear hup huz hB1 hB2 hb1 hb2 hB0 l1 l2 p1 p2 y1 y2 hu hxz hxk hn6 hkl hzl hzk hks hzs hK hB hT HZQ HPQ2 HZW HPW HK HB HD HBL HUP
          go_wp2_with (first
            | (go_at_call 18; (with_reducible refine (CK.out _ _ HS.out).mono ?_); rintro e w4 ⟨A4, c4, rfl, h⟩; have H4 := Lib.hid h; clear h)
            | (go_at_call 19; (with_reducible refine (CP.out _ _ _ H4.out).mono ?_); rintro e w5 ⟨A5, c5, rfl, h⟩; have H5 := Lib.hid h; clear h)
            | (go_at_call 20; (with_reducible refine (C0.out _ _ _ H5.out).mono ?_); rintro e w6 ⟨A6, c6, rfl, h⟩; have H6 := Lib.hid h; clear h)
            | (go_at_call 20; (with_reducible refine (C1.out _ _ _ H6.out).mono ?_); rintro e w7 ⟨A7, c7, rfl, h⟩; have H7 := Lib.hid h; clear h)
            | (go_at_call 13; (with_reducible refine (D2.out _ _ _ _ _ _ _ H8.out (by simp) (by simp)).mono ?_); rintro e w9 ⟨rfl, h⟩; have H9 := Lib.hid h; clear h)
            | (go_at_call 13; (with_reducible refine (D1.out _ _ _ _ _ _ _ H7.out (by simp) (by simp)).mono ?_); rintro e w8 ⟨rfl, h⟩; have H8 := Lib.hid h; clear h)
            | (go_at_call 21; (with_reducible refine (E2.out _ _ _ _ _ HA.out (by simp)).mono ?_); rintro e wb ⟨AB, cB, rfl, hq, h, hbe⟩; have HBB := Lib.hid h; have HQB := Lib.hid hq; have HQA2 := Lib.hid ((HQA.out.below hbe (Nat.le_refl _)).more hbe.size); clear h hq hbe)
            | (go_at_call 21; (with_reducible refine (E1.out _ _ _ _ _ H9.out (by simp)).mono ?_); rintro e wa ⟨AA, cA, rfl, hq, h, _⟩; have HA := Lib.hid h; have HQA := Lib.hid hq; clear h hq)
            | (go_at_call 22; (with_reducible refine (F2.out _ _ _ _ _ HC.out HQC.out).mono ?_); rintro e wd ⟨rfl, h, _⟩; have HDD := Lib.hid h; clear h)
            | (go_at_call 22; (with_reducible refine (F1.out _ _ _ _ _ HBB.out HQA2.out).mono ?_); rintro e wc2 ⟨rfl, h, hbe⟩; have HC := Lib.hid h; have HQC := Lib.hid ((HQB.out.below hbe (Nat.le_refl _)).more hbe.size); clear h hbe))
          go_ret
          exact ⟨rfl, HLO.out.trans (HDD.out.low.mono HLO.out.size)⟩
        · have hup : ¬ K.Up (ps.map (·.1)) := by rw [hks]; exact hu
          have hsf : sorted = false := by
            cases sorted with
            | false => rfl
            | true => exact absurd (HUP.out rfl) hup
          subst hsf
          have CK : Hid (∀ W M, Bb wr W M [(.slice Ak n ck, ks)] → Calls Try.prog 18 #[.slice Ak n ck] W fun e w' => e = .returned (.tuple #[.slice none 0 0, .int .i64 8]) ∧ Bb wr w' M [(.slice Ak n ck, ks)]) := Lib.hid fun W M h => bb_keys_no h (by simp) hu hn6 hxk
          have CP : Hid (∀ W M N, Bb wr W M N → Calls Try.prog 19 #[.slice A n c] W fun e w' => e = .returned (.tuple #[.slice none 0 0, .int .i64 8]) ∧ Bb wr w' M N) := Lib.hid fun W M N h => bb_pairs_no h (HPW.out W M N h) HN.out hup hn6 HBD.out
          have C0 : Hid (∀ W M N, Bb wr W M N → Calls Try.prog 20 #[.slice A n c, .bool false] W fun e w' => e = .returned (.tuple #[.slice none 0 0, .int .i64 8]) ∧ Bb wr w' M N) := Lib.hid fun W M N h => bb_ref_no h false (HPW.out W M N h) HN.out hup hn6 HBD.out
          have C1 : Hid (∀ W M N, Bb wr W M N → Calls Try.prog 20 #[.slice A n c, .bool true] W fun e w' => e = .returned (.tuple #[.slice none 0 0, .int .i64 8]) ∧ Bb wr w' M N) := Lib.hid fun W M N h => bb_ref_no h true (HPW.out W M N h) HN.out hup hn6 HBD.out
          have D1 : Hid (∀ W M N, Bb wr W M N → Calls Try.prog 13 #[.slice none 0 0, .slice none 0 0] W fun e w' => e = .returned (.bool true) ∧ Bb wr w' M N) := Lib.hid fun W M N h => (same_nil W).mono (by rintro e w' ⟨rfl, q, rfl⟩; exact ⟨rfl, h.below ⟨rfl, rfl, rfl, Nat.le_refl _, fun _ _ => rfl⟩⟩)
          clear hup hu hxz hxk hn6 hkl hzl hzk hks hzs hK hB hT HZQ HPQ2 HZW HPW HK HB HD HBL HUP
          go_wp2_with (first
            | (go_at_call 18; (with_reducible refine (CK.out _ _ HS.out).mono ?_); rintro e w4 ⟨rfl, h⟩; have H4 := Lib.hid h; clear h)
            | (go_at_call 19; (with_reducible refine (CP.out _ _ _ H4.out).mono ?_); rintro e w5 ⟨rfl, h⟩; have H5 := Lib.hid h; clear h)
            | (go_at_call 20; (with_reducible refine (C0.out _ _ _ H5.out).mono ?_); rintro e w6 ⟨rfl, h⟩; have H6 := Lib.hid h; clear h)
            | (go_at_call 20; (with_reducible refine (C1.out _ _ _ H6.out).mono ?_); rintro e w7 ⟨rfl, h⟩; have H7 := Lib.hid h; clear h)
            | (go_at_call 13; (with_reducible refine (D1.out _ _ _ H8.out).mono ?_); rintro e w9 ⟨rfl, h⟩; have H9 := Lib.hid h; clear h)
            | (go_at_call 13; (with_reducible refine (D1.out _ _ _ H7.out).mono ?_); rintro e w8 ⟨rfl, h⟩; have H8 := Lib.hid h; clear h))
          go_ret
          exact ⟨rfl, HLO.out.trans (H9.out.low.mono HLO.out.size)⟩
end E
end Go.Proofs.Ytclaejaicjmohaa
