/- The keys of a trie, one by one, over any body; the text walked. A meter whose numbers may be any; the texts walked. The nodes of yfast.node in memory; asking a pool of nodes; the texts walked. -/
import Derived.Test.YtelfacchhclgnaaGreatMu18
import Derived.Test.YtelfacchhclgnaaGreatMu08
import Derived.Test.YtelfacchhclgnaaGreatMu03
section
namespace Go.Proofs.YtelfacchhclgnaaGreat
set_option maxRecDepth 20000
set_option linter.unusedSectionVars false
variable [Gh]
open Go.RowKit Go.Shelf
attribute [local go_sem] Oper.semAt_some
attribute [local simp] wide_fn
theorem ButS.back' {W W' : World} {S : Nat → Prop} (h : ButS W W' S) {j : Nat} (hj : j < W.heap.size) (hS : ¬ S j) : W'.heap[j]? = W.heap[j]? := h.block j hj hS
/-- What the inner loop keeps: its own blocks lie as they lay, all else but them is the outer body's. -/
def IKW {α β : Type} (Z S : Nat → Prop) (Wq : World) (J : List β → (Nat → Prop) → World → Prop) (f : List α → List β) (pre : List α) (O : Nat → Prop) (W : World) : Prop :=
  (∀ j, O j → ¬ Z j ∧ ¬ S j ∧ j < W.heap.size) ∧ ButS Wq W (fun j => ¬ (Z j ∨ S j)) ∧ J (f pre) (fun j => j < W.heap.size ∧ ¬ Z j ∧ ¬ O j) W
theorem IKW.abides {α β : Type} {Z S : Nat → Prop} {Wq : World} {J : List β → (Nat → Prop) → World → Prop} (f : List α → List β) (hJ : Steps J) (hZ : ∀ j, Z j → j < Wq.heap.size) : Abides Wq.heap.size (IKW Z S Wq J f) := by
  intro s O W W' R ⟨h1, h2, h3⟩ hw hR
  refine ⟨fun j hj => ⟨(h1 j hj).1, (h1 j hj).2.1, Nat.lt_of_lt_of_le (h1 j hj).2.2 hw.size⟩, h2.then hw (fun j hj => .inr (hR j hj).2), ?_⟩
  refine hJ _ _ _ _ _ h3 (hw.mono fun j hlt hj => ⟨hlt, fun hz => by have := hZ j hz; have := (hR j hj).2; omega, (hR j hj).1⟩) (fun j hj => ⟨?_, hj.1⟩)
  by_cases hlt : j < W.heap.size
  · exact .inl ⟨hlt, hj.2.1, hj.2.2⟩
  · exact .inr (by omega)
/-- The outer round is over: what it has turned is the body's. -/
theorem IKW.next {α β : Type} {Z S : Nat → Prop} {Wq W1 W' : World} {J J' : List β → (Nat → Prop) → World → Prop} {f : List α → List β} {pre pre' : List α} {O : Nat → Prop} (hJ : Steps J') (hSl : ∀ j, S j → j < Wq.heap.size ∧ ¬ Z j) (h : IKW Z S Wq J f pre O W1)
    (hj : J' (f pre') (fun j => j < W1.heap.size ∧ ¬ Z j ∧ ¬ O j) W') (hb : ButS W1 W' (fun j => ¬ (Z j ∨ (j < W1.heap.size ∧ ¬ Z j ∧ ¬ O j)))) : ∃ O', OwnStep O O' W1 W' ∧ IKW Z S Wq J' f pre' O' W' := by
  obtain ⟨h1, h2, h3⟩ := h
  have hs := hb.size
  refine ⟨fun j => j < W'.heap.size ∧ ¬ Z j ∧ ¬ (j < W1.heap.size ∧ ¬ Z j ∧ ¬ O j), ⟨hb.mono (fun j hlt hj => ?_), fun j hj => ⟨?_, hj.1⟩⟩, fun j hj => ⟨hj.2.1, fun hS => ?_, hj.1⟩, ?_, ?_⟩
  · exact Classical.byContradiction fun ho => hj (Classical.byContradiction fun hn => hn (.inr ⟨hlt, fun hz => hn (.inl hz), ho⟩))
  · by_cases hlt : j < W1.heap.size
    · exact .inl (Classical.byContradiction fun ho => hj.2.2 ⟨hlt, hj.2.1, ho⟩)
    · exact .inr (by omega)
  · have := h2.size
    exact hj.2.2 ⟨by have := (hSl j hS).1; omega, hj.2.1, fun ho => (h1 j ho).2.1 hS⟩
  · refine h2.then hb (fun j hj => ?_)
    by_cases hlt : j < Wq.heap.size
    · refine .inl (fun h => hj ?_)
      rcases h with h | h
      · exact .inl h
      · exact .inr ⟨by have := h2.size; omega, (hSl j h).2, fun ho => (h1 j ho).2.1 h⟩
    · exact .inr (by omega)
  · refine hJ _ _ _ _ _ hj (ButS.refl _ _) (fun j hj => ⟨.inl ?_, hj.1⟩)
    exact Classical.byContradiction fun h => hj.2.2 ⟨hj.1, hj.2.1, h⟩
theorem roundIn_wide' {m m' : Nat} {P : Program} {l : Nat} {f : FuncId} {tmps : Array Value} {assign body : Code} {w : World} {R : Ending → World → Prop}
    (h : RoundIn Fence.wide m P l f tmps assign body w R) : RoundIn Fence.wide m' P l f tmps assign body w R :=
  ⟨h.1, fun c cs _ => h.2 c cs (fun d hd => by cases hd)⟩
theorem c_all_any (w : World) (p : Option Addr) : Calls Tryz.prog 109 #[.pointer p] w fun e w' => e = .returned (.func (.func 140) #[] #[.pointer (some ⟨w.heap.size, 0, none⟩)]) ∧ w' = w.alloc (.cells #[.pointer p] 107) := by
  go_enter Tryz.func109, Tryz.ntmps109
  go_wp2
  go_ret
  exact ⟨rfl, rfl⟩
set_option maxRecDepth 100000 in
set_option maxHeartbeats 4000000 in
theorem xf_all (W0 : World) (Xb C Q M P lim tk : Nat) (L : LL) (es : Es) (OX Z : Nat → Prop) (h : XT W0 Xb C Q M P lim tk L es OX) (hZT : ∀ j, OX j → Z j) (hZl : ∀ j, Z j → j < W0.heap.size) (n Bn : Nat) (hBn : Bn < W0.heap.size) (hc : W0.cell? ⟨Bn, 0, none⟩ = some (.pointer (some ⟨Xb, 0, none⟩))) :
    SeqW Fence.wide n Tryz.prog 108 #[.pointer (some ⟨Bn, 0, none⟩)] (fun x : Nat => #[Value.int .u64 ((x : Nat) : Int)]) Z (fun ys => ys = L.map (·.2)) (fun pre => pre <+: L.map (·.2)) (fun pre => pre <+: L.map (·.2)) W0 := by
  intro l J Jx W hW hJ hJx hY h0
  have hT := h.chg (K.Chg.of_below (O := fun _ => False) hW) (fun _ _ h => h)
  have c1 := hT.c1
  have hBl : Bn < W.heap.size := Nat.lt_of_lt_of_le hBn hW.size
  have hBc := (hW.cell (p := ⟨Bn, 0, none⟩) hBn).trans hc
  have hWs := hW.size
  refine callsIn_wide.2 ((callsIn_wide (n := 9)).1 ?_)
  have HT := Lib.hid hT
  have H0 := Lib.hid h0
  have HY := Lib.hid hY
  have HJ := Lib.hid hJ
  have HJX := Lib.hid hJx
  have HZT := Lib.hid hZT
  have HZL := Lib.hid hZl
  have HWS := Lib.hid hWs
  have hyb : Below W.heap.size W (W.alloc (.cells #[.func (.yield l) #[] #[]] 58)) := (Below.refl _ W).alloc (Nat.le_refl _) _
  have hyr : (W.alloc (.cells #[.func (.yield l) #[] #[]] 58)).heap[W.heap.size]? = some (.cells #[.func (.yield l) #[] #[]] 58 (0, 0)) := K.alloc_top _ _
  have x0 := (hyb.cell (p := ⟨Bn, 0, none⟩) hBl).trans hBc
  have x1 := (hT.chg (K.Chg.of_below (O := fun _ => False) hyb) (fun _ _ h => h)).c1
  have HYB := Lib.hid hyb
  have HYR := Lib.hid hyr
  clear h hT c1 h0 hY hJ hJx hZT hZl hWs hW hBc hBl hc hBn hyb hyr
  refine callsIn_of_wp_marks Tryz.func108 rfl trivial ?_ rfl
  simp only [Tryz.ntmps108, List.size_toArray, List.length_cons, List.length_nil, Nat.reduceAdd, Nat.reduceSub, Array.replicate_succ, Array.replicate_zero, List.push_toArray, List.append_toArray, List.nil_append, List.cons_append]
  gi_wp2_with (gi_at_call 109; refine (callsIn_wide.2 (c_all_any _ _)).mono ?_; rintro e w1 ⟨rfl, rfl⟩)
  obtain ⟨Wq, hWq⟩ : ∃ Wq, (W.alloc (.cells #[.func (.yield l) #[] #[]] 58)).alloc (.cells #[.pointer (some ⟨C, 0, none⟩)] 107) = Wq := ⟨_, rfl⟩
  have hz2 : Wq.heap.size = W.heap.size + 2 := by rw [← hWq]; simp
  have hB0 : Below W.heap.size W Wq := by rw [← hWq]; exact HYB.out.alloc (by simp) _
  have hA0 : Wq.heap[W.heap.size]? = some (.cells #[.func (.yield l) #[] #[]] 58 (0, 0)) := by rw [← hWq]; exact (Below.heap_alloc _ _ _ (by simp)).trans HYR.out
  have hA1 : Wq.heap[W.heap.size + 1]? = some (.cells #[.pointer (some ⟨C, 0, none⟩)] 107 (0, 0)) := by
    rw [← hWq]
    have := K.alloc_top (W.alloc (.cells #[.func (.yield l) #[] #[]] 58)) (.cells #[.pointer (some ⟨C, 0, none⟩)] 107)
    rw [World.size_alloc] at this
    exact this
  try simp only [World.size_alloc]
  rw [hWq]
  clear hWq x0 x1 HYB HYR
  have hTq := HT.out.chg (K.Chg.of_below (O := fun _ => False) hB0) (fun _ _ h => h)
  obtain ⟨seed, An, cn, Af, cf, ns, fs, Qt, Mt, nn, pr, hb, hO⟩ := hTq
  have hCZ : ∀ j, CB C Q An Af j → Z j := fun j hj => HZT.out j (by rw [hO]; exact .inr (.inr (.inl hj)))
  obtain ⟨S, hS⟩ : ∃ S : Nat → Prop, S = fun j => j = W.heap.size ∨ j = W.heap.size + 1 := ⟨_, rfl⟩
  have hZW : ∀ j, Z j → j < W.heap.size := fun j hj => by have := HZL.out j hj; have := HWS.out; omega
  have hSl : ∀ j, S j → j < Wq.heap.size ∧ ¬ Z j := fun j hj => by
    rw [hS] at hj
    exact ⟨by omega, fun hz => by have := hZW j hz; omega⟩
  have hZq : ∀ j, Z j → j < Wq.heap.size := fun j hj => by have := hZW j hj; omega
  have hJq : IKW Z S Wq J (List.map (fun x : Nat × Nat => x.2)) ([] : LL) (fun j => j < Wq.heap.size ∧ ¬ Z j ∧ ¬ S j) Wq := by
    refine ⟨fun j hj => ⟨hj.2.1, hj.2.2, hj.1⟩, ButS.refl _ _, ?_⟩
    simp only [List.map_nil]
    refine HJ.out _ _ _ _ _ H0.out (ButS.of_below hB0 (Nat.le_refl _)) (fun j hj => ⟨?_, hj.1⟩)
    have hSj : S j := Classical.byContradiction fun h => hj.2.2 ⟨hj.1, hj.2.1, h⟩
    rw [hS] at hSj
    exact .inr (by omega)
  have hqc : Wq.cell? ⟨W.heap.size + 1, 0, none⟩ = some (.pointer (some ⟨C, 0, none⟩)) := cell_of_row Wq _ 0 _ _ (0, 0) hA1
  have hS0 : S W.heap.size := by rw [hS]; exact .inl rfl
  have hS1 : S (W.heap.size + 1) := by rw [hS]; exact .inr rfl
  refine wpIn_rangeW (Q := _) rfl (by decide) (gf := 140) (lb := #[.pointer (some ⟨W.heap.size + 1, 0, none⟩)]) rfl trivial (enters_of Tryz.func140 (by kernel_rfl) rfl)
    (chain_all 8 (by decide) (W.heap.size + 1) C Q M lim cn cf An Af ns fs L (fun j => Z j ∨ j = W.heap.size + 1) (.inr rfl) (fun j hj => .inl (hCZ j hj)) Wq hb.ch hqc (by omega)) (fun j hj => by
      have hj : Z j ∨ j = W.heap.size + 1 := hj
      rcases hj with hj | hj
      · exact hZq j hj
      · omega) (Below.refl _ _) (fun _ => rfl)
    (fun pre O W' => IKW Z S Wq J (List.map (fun x : Nat × Nat => x.2)) pre O W')
    (fun c pre O W' => c = .ret ∧ IKW Z S Wq Jx (List.map (fun x : Nat × Nat => x.2)) pre O W')
    (fun pp a1 O W' => a1 = { tmps := #[.func (.yield l) #[] #[], .pointer (some ⟨Bn, 0, none⟩), .pointer (some ⟨W.heap.size, 0, none⟩), undef, .int .u64 (pp.2.2 : Int), .pointer (some ⟨Xb, 0, none⟩), .bool false, .pointer (some ⟨Xb, 0, none⟩), .pointer (some ⟨Xb, 0, none⟩), .pointer (some ⟨Xb, 1, none⟩), .pointer (some ⟨C, 0, none⟩), .func (.func 140) #[] #[.pointer (some ⟨W.heap.size + 1, 0, none⟩)], .int .i64 (pp.2.1 : Int), .int .u64 (pp.2.2 : Int), undef, undef, undef, undef], defers := [] } ∧ pp.1 ++ [pp.2] <+: L ∧ IKW Z S Wq J (List.map (fun x : Nat × Nat => x.2)) pp.1 O W')
    (IKW.abides _ HJ.out hZq) (fun c => fun s O W' W'' R hi hw hR => ⟨hi.1, IKW.abides _ HJX.out hZq s O W' W'' R hi.2 hw hR⟩)
    (fun a' pp O W' W'' R hi hw hR => ⟨hi.1, hi.2.1, IKW.abides _ HJ.out hZq pp.1 O W' W'' R hi.2.2 hw hR⟩)
    (fun pre O W' hi j hj hz => by
      have hz : Z j ∨ j = W.heap.size + 1 := hz
      rcases hz with hz | hz
      · exact (hi.1 j hj).1 hz
      · exact (hi.1 j hj).2.1 (hz ▸ hS1)) (fun j => j < Wq.heap.size ∧ ¬ Z j ∧ ¬ S j) (fun j hj => hj.1) hJq ?assign ?body ?done ?stop
  case assign =>
    intro l2 pre y O1 W' hi hT1
    gi_wp2
    exact ⟨O1, ⟨ButS.refl _ _, fun j hj => ⟨.inl hj, (hi.1 j hj).2.2⟩⟩, by first | trivial | rfl, hT1, hi⟩
  case body =>
    rintro l2 pre y O1 a1 Wc ⟨rfl, hT1, hi⟩
    have k0 := (hi.2.1.back' (j := W.heap.size) (hSl _ hS0).1 (fun h => h (.inr hS0))).trans hA0
    have c0 := cell_of_row Wc _ 0 _ _ (0, 0) k0
    simp at c0
    have hpx : pre.map (·.2) ++ [y.2] <+: L.map (·.2) := by
      have h1 := List.IsPrefix.map (fun x : Nat × Nat => x.2) hT1
      rw [List.map_append] at h1
      exact h1
    obtain ⟨fn, tm, asg, bd, hy, hR⟩ := HY.out _ y.2 _ _ hi.2.2 hpx
    have HI := Lib.hid hi
    have HRR := Lib.hid hR
    have hmapd : (pre ++ [y]).map (fun x : Nat × Nat => x.2) = pre.map (·.2) ++ [y.2] := by simp
    have HMD := Lib.hid hmapd
    clear k0 hpx hi hT1 hR hmapd
    gi_wp2
    refine (roundIn_wide' HRR.out).mono ?_
    rintro e W2 ⟨⟨rfl, hj2⟩ | ⟨rfl, hj2⟩, hb2⟩
    · rw [← HMD.out] at hj2
      obtain ⟨O2, ho2, hI2⟩ := HI.out.next (pre' := pre ++ [y]) HJ.out hSl hj2 hb2
      have HO2 := Lib.hid ho2
      have HI2 := Lib.hid hI2
      clear hj2 hb2 ho2 hI2
      gi_wp2
      exact ⟨O2, HO2.out, HI2.out⟩
    · rw [← HMD.out] at hj2
      obtain ⟨O2, ho2, hI2⟩ := HI.out.next (pre' := pre ++ [y]) HJX.out hSl hj2 hb2
      have HO2 := Lib.hid ho2
      have HI2 := Lib.hid hI2
      clear hj2 hb2 ho2 hI2
      gi_wp2
      exact ⟨O2, HO2.out, rfl, HI2.out⟩
  case done =>
    rintro D ys O W' hD hOD rfl hI hK
    have hDl := row_lt hK
    have hfin := HJ.out _ _ (fun _ => False) _ _ hI.2.2 ((but_put W' D (.deferred none)).mono (fun j hlt hj => by
      have hj : j = D := hj
      subst hj
      exact ⟨hlt, fun hz => by have := hZq _ hz; omega, hOD⟩)) (fun j hj => hj.elim)
    have HF := Lib.hid hfin
    have HK := Lib.hid hK
    clear hI hK hfin
    gi_wp2
    refine ⟨by simp, .inl ⟨_, _, rfl, run_takeDeferred HK.out, ?_⟩⟩
    exact ⟨_, results_none rfl _ _ _, ⟨_, rfl⟩, .inl ⟨_, _, rfl, HF.out⟩⟩
  case stop =>
    rintro D c pre O W' hD hOD hpre ⟨rfl, hI⟩ hK
    have hDl := row_lt hK
    have hfin := HJX.out _ _ (fun _ => False) _ _ hI.2.2 ((but_put W' D (.deferred none)).mono (fun j hlt hj => by
      have hj : j = D := hj
      subst hj
      exact ⟨hlt, fun hz => by have := hZq _ hz; omega, hOD⟩)) (fun j hj => hj.elim)
    have HF := Lib.hid hfin
    have HK := Lib.hid hK
    clear hI hK hfin
    gi_wp2
    refine ⟨by simp, .inl ⟨_, _, rfl, run_takeDeferred HK.out, ?_⟩⟩
    exact ⟨_, results_none rfl _ _ _, ⟨_, rfl⟩, .inr ⟨_, _, List.IsPrefix.map _ hpre, HF.out⟩⟩
end Go.Proofs.YtelfacchhclgnaaGreat
end
section
namespace Go.Proofs.YtelfacchhclgnaaGreat.Yp
set_option maxRecDepth 20000
open Go.RowKit
/-- A meter that took tk steps in this operation. -/
def Mx (w : World) (g tk : Nat) : Prop := ∃ r c s p : Int, w.heap[g]? = some (.cells #[.int .i64 r, .int .i64 c, .int .i64 s, .int .i64 (tk : Int), .int .i64 p] 87 (0, 0))
theorem x_start (w : World) (g tk : Nat) (h : Mx w g tk) :
    Calls Tryz.prog 46 #[.pointer (some ⟨g, 0, none⟩)] w fun e w' => e = .returned (.tuple #[]) ∧ Mx w' g 0 ∧ K.Chg w w' (· = g) := by
  obtain ⟨r, c, s, p, hr⟩ := h
  have hc := cell_of_row w g 2 _ _ (0, 0) hr
  have hc3 := cell_of_row w g 3 _ _ (0, 0) hr
  have hf : ∀ i, w.frozen? ⟨g, i, none⟩ = false := fun i => frozen_of_row w g i _ _ hr
  have hf2 := hf 2
  have hf3 := hf 3
  simp at hc hc3
  have H := Lib.hid hr
  clear hr hf
  go_enter Tryz.func46, Tryz.ntmps46
  go_wp2
  go_end0
  refine ⟨rfl, ⟨r, c, wrap64 (s + 1), p, ?_⟩, (chg_set w g 2 _ (· = g) rfl).same (chg_set _ g 3 _ (· = g) rfl)⟩
  have := row_set (row_set H.out 2 (.int .i64 (wrap64 (s + 1)))) 3 (.int .i64 ((0 : Nat) : Int))
  simpa using this
theorem x_read (w : World) (g tk : Nat) (h : Mx w g tk) (ht : tk < 1000000) :
    Calls Tryz.prog 114 #[.pointer (some ⟨g, 0, none⟩)] w fun e w' => e = .returned (.tuple #[]) ∧ Mx w' g (tk + 1) ∧ K.Chg w w' (· = g) := by
  have hs : ∀ (w : World), Mx w g tk → Calls Tryz.prog 117 #[.pointer (some ⟨g, 0, none⟩)] w fun e w' => e = .returned (.tuple #[]) ∧ Mx w' g (tk + 1) ∧ K.Chg w w' (· = g) := by
    intro w h
    obtain ⟨r, c, s, p, hr⟩ := h
    have hc := cell_of_row w g 3 _ _ (0, 0) hr
    have hf3 := frozen_of_row w g 3 _ _ hr
    simp at hc
    have h2 := row_set hr 3 (.int .i64 ((tk : Int) + 1))
    simp at h2
    have k3 := cell_of_row _ g 3 _ _ (0, 0) h2
    have k4 := cell_of_row _ g 4 _ _ (0, 0) h2
    have f4 := frozen_of_row _ g 4 _ _ h2
    simp at k3 k4
    have ws : IntKind.i64.wrap ((tk : Int) + 1) = (tk : Int) + 1 := IntWalk.i64_in _ (by omega)
    have H := Lib.hid h2
    clear hr h2
    go_enter Tryz.func117, Tryz.ntmps117
    go_wp2
    go_region
    go_end0
    refine ⟨rfl, ⟨r, c, s, max p ((tk : Int) + 1), ?_⟩, ((chg_set w g 3 _ (· = g) rfl).same (chg_set _ g 4 _ (· = g) rfl)).drewN 1⟩
    have := row_set H.out 4 (.int .i64 (max p ((tk : Int) + 1)))
    simp at this
    exact this
  obtain ⟨r, c, s, p, hr⟩ := h
  have hc := cell_of_row w g 0 _ _ (0, 0) hr
  have hf0 := frozen_of_row w g 0 _ _ hr
  simp at hc
  have h1 : Hid (Mx (w.setCell ⟨g, 0, none⟩ (.int .i64 (wrap64 (r + 1)))) g tk) := by
    refine ⟨wrap64 (r + 1), c, s, p, ?_⟩
    have := row_set hr 0 (.int .i64 (wrap64 (r + 1)))
    simpa using this
  clear hr
  have hsH := Lib.hid (hs _ h1.out)
  clear hs
  go_enter Tryz.func114, Tryz.ntmps114
  go_wp2_with (go_at_call 117; (with_reducible refine hsH.out.mono ?_); rintro e w2 ⟨rfl, hm2, hg2⟩; have hm2H := Lib.hid hm2; have hg2H := Lib.hid hg2; clear hm2 hg2)
  go_end0
  exact ⟨rfl, hm2H.out, (chg_set w g 0 _ (· = g) rfl).same hg2H.out⟩
theorem x_new (w : World) : Calls Tryz.prog 67 #[] w fun e w' => e = .returned (.pointer (some ⟨w.heap.size, 0, none⟩)) ∧ Mx w' w.heap.size 0 ∧ Below w.heap.size w w' := by
  go_enter Tryz.func67, Tryz.ntmps67
  go_wp2
  go_ret
  exact ⟨rfl, ⟨0, 0, 0, 0, K.alloc_top _ _⟩, (Below.refl _ w).alloc (Nat.le_refl _) _⟩
theorem Mx.lt {w : World} {g tk : Nat} (h : Mx w g tk) : g < w.heap.size := by
  obtain ⟨r, c, s, p, hr⟩ := h
  exact row_lt hr
theorem Mx.chg {w w' : World} {g tk : Nat} {O : Nat → Prop} (h : Mx w g tk) (hc : K.Chg w w' O) (hn : ¬ O g) : Mx w' g tk := by
  have hl := h.lt
  obtain ⟨r, c, s, p, hr⟩ := h
  exact ⟨r, c, s, p, (hc.block g hl hn).trans hr⟩
theorem x_call (w : World) (g tk : Nat) (h : Mx w g tk) (ht : tk < 1000000) :
    Calls Tryz.prog 83 #[.pointer (some ⟨g, 0, none⟩)] w fun e w' => e = .returned (.tuple #[]) ∧ Mx w' g (tk + 1) ∧ K.Chg w w' (· = g) := by
  have hs : ∀ (w : World), Mx w g tk → Calls Tryz.prog 117 #[.pointer (some ⟨g, 0, none⟩)] w fun e w' => e = .returned (.tuple #[]) ∧ Mx w' g (tk + 1) ∧ K.Chg w w' (· = g) := by
    intro w h
    obtain ⟨r, c, s, p, hr⟩ := h
    have hc := cell_of_row w g 3 _ _ (0, 0) hr
    have hf3 := frozen_of_row w g 3 _ _ hr
    simp at hc
    have h2 := row_set hr 3 (.int .i64 ((tk : Int) + 1))
    simp at h2
    have k3 := cell_of_row _ g 3 _ _ (0, 0) h2
    have k4 := cell_of_row _ g 4 _ _ (0, 0) h2
    have f4 := frozen_of_row _ g 4 _ _ h2
    simp at k3 k4
    have ws : IntKind.i64.wrap ((tk : Int) + 1) = (tk : Int) + 1 := IntWalk.i64_in _ (by omega)
    have H := Lib.hid h2
    clear hr h2
    go_enter Tryz.func117, Tryz.ntmps117
    go_wp2
    go_region
    go_end0
    refine ⟨rfl, ⟨r, c, s, max p ((tk : Int) + 1), ?_⟩, ((chg_set w g 3 _ (· = g) rfl).same (chg_set _ g 4 _ (· = g) rfl)).drewN 1⟩
    have := row_set H.out 4 (.int .i64 (max p ((tk : Int) + 1)))
    simp at this
    exact this
  obtain ⟨r, c, s, p, hr⟩ := h
  have hc := cell_of_row w g 1 _ _ (0, 0) hr
  have hf0 := frozen_of_row w g 1 _ _ hr
  simp at hc
  have h1 : Hid (Mx (w.setCell ⟨g, 1, none⟩ (.int .i64 (wrap64 (c + 1)))) g tk) := by
    refine ⟨r, wrap64 (c + 1), s, p, ?_⟩
    have := row_set hr 1 (.int .i64 (wrap64 (c + 1)))
    simpa using this
  clear hr
  have hsH := Lib.hid (hs _ h1.out)
  clear hs
  go_enter Tryz.func83, Tryz.ntmps83
  go_wp2_with (go_at_call 117; (with_reducible refine hsH.out.mono ?_); rintro e w2 ⟨rfl, hm2, hg2⟩; have hm2H := Lib.hid hm2; have hg2H := Lib.hid hg2; clear hm2 hg2)
  go_end0
  exact ⟨rfl, hm2H.out, (chg_set w g 1 _ (· = g) rfl).same hg2H.out⟩
end Go.Proofs.YtelfacchhclgnaaGreat.Yp
end
section
namespace Go.Proofs.YtelfacchhclgnaaGreat.Yp
set_option maxRecDepth 20000
open Go.RowKit
/-- A node as it lies. -/
structure Nd where
  rep : Nat
  ksA : Option Addr
  ksn : Nat
  ksc : Nat
  ahead : Int
  behind : Int
abbrev ndv (rep : Nat) (ksA : Option Addr) (ksn ksc : Nat) (ahead : Int) (behind : Int) : Value := .agg #[.int .u64 (rep : Int), .slice ksA ksn ksc, .int .i64 ahead, .int .i64 behind]
abbrev ndo (rep : Nat) (ksA : Option Addr) (ksn ksc : Nat) (ahead : Int) (behind : Int) : Obj := .cells #[.int .u64 (rep : Int), .slice ksA ksn ksc, .int .i64 ahead, .int .i64 behind] 74
abbrev Nd.v (x : Nd) : Value := ndv x.rep x.ksA x.ksn x.ksc x.ahead x.behind
abbrev Nd.o (x : Nd) : Obj := ndo x.rep x.ksA x.ksn x.ksc x.ahead x.behind
def Nd.z : Nd := ⟨0, none, 0, 0, 0, 0⟩
/-- The cells of places: a node, and is it taken? -/
def ncl (x : Nd × Bool) : List Value := [.int .u64 (x.1.rep : Int), .slice x.1.ksA x.1.ksn x.1.ksc, .int .i64 x.1.ahead, .int .i64 x.1.behind, .bool x.2]
def nv (ns : List (Nd × Bool)) : List Value := ns.flatMap ncl
theorem nv_cons (x : Nd × Bool) (ns : List (Nd × Bool)) : nv (x :: ns) = Value.int .u64 (x.1.rep : Int) :: Value.slice x.1.ksA x.1.ksn x.1.ksc :: Value.int .i64 x.1.ahead :: Value.int .i64 x.1.behind :: Value.bool x.2 :: nv ns := rfl
theorem nv_snoc (ns : List (Nd × Bool)) (x : Nd × Bool) : nv (ns ++ [x]) = nv ns ++ ncl x := by simp [nv]
theorem nv_at : ∀ (ns : List (Nd × Bool)) (k : Nat) (h : k < ns.length) (j : Nat), j < 5 → (nv ns)[k * 5 + j]? = (ncl ns[k])[j]?
  | x :: ns, 0, _, j, hj => by
    rw [nv_cons]
    match j, hj with
    | 0, _ => rfl
    | 1, _ => rfl
    | 2, _ => rfl
    | 3, _ => rfl
    | 4, _ => rfl
  | x :: ns, k + 1, h, j, hj => by
    have ih := nv_at ns k (by simpa using h) j hj
    have e1 : (k + 1) * 5 + j = (k * 5 + j) + 1 + 1 + 1 + 1 + 1 := by omega
    rw [e1, nv_cons]
    simp only [List.getElem?_cons_succ, List.getElem_cons_succ]
    exact ih
theorem nv_put : ∀ (ns : List (Nd × Bool)) (k : Nat) (y : Nd) (h : k < ns.length), ((((nv ns).set (k * 5) (.int .u64 (y.rep : Int))).set (k * 5 + 1) (.slice y.ksA y.ksn y.ksc)).set (k * 5 + 2) (.int .i64 y.ahead)).set (k * 5 + 3) (.int .i64 y.behind) = nv (ns.set k (y, ns[k].2))
  | x :: ns, 0, y, _ => rfl
  | x :: ns, k + 1, y, h => by
    have ih := nv_put ns k y (by simpa using h)
    have e0 : (k + 1) * 5 = (k * 5) + 1 + 1 + 1 + 1 + 1 := by omega
    have e : ∀ j, (k + 1) * 5 + j = (k * 5 + j) + 1 + 1 + 1 + 1 + 1 := fun j => by omega
    rw [e 1, e 2, e 3, e0, nv_cons]
    simp only [List.set_cons_succ, List.getElem_cons_succ]
    rw [nv_cons, ih]
theorem nv_flag : ∀ (ns : List (Nd × Bool)) (k : Nat) (b : Bool) (h : k < ns.length), (nv ns).set (k * 5 + 4) (.bool b) = nv (ns.set k (ns[k].1, b))
  | x :: ns, 0, b, _ => rfl
  | x :: ns, k + 1, b, h => by
    have ih := nv_flag ns k b (by simpa using h)
    have e : (k + 1) * 5 + 4 = (k * 5 + 4) + 1 + 1 + 1 + 1 + 1 := by omega
    rw [e, nv_cons]
    simp only [List.set_cons_succ, List.getElem_cons_succ]
    rw [nv_cons, ih]
theorem nv_set (ns : List (Nd × Bool)) (k : Nat) (y : Nd) (b : Bool) (h : k < ns.length) : (((((nv ns).set (k * 5) (.int .u64 (y.rep : Int))).set (k * 5 + 1) (.slice y.ksA y.ksn y.ksc)).set (k * 5 + 2) (.int .i64 y.ahead)).set (k * 5 + 3) (.int .i64 y.behind)).set (k * 5 + 4) (.bool b) = nv (ns.set k (y, b)) := by
  rw [nv_put ns k y h, nv_flag _ k b (by simpa using h)]
  simp
abbrev iw (fs : List Nat) : List Value := fs.map fun i : Nat => Value.int .i64 (i : Int)
/-- Block Q is a pool's struct: its meter, its limit, its places, the freed ones. -/
structure Qo (w : World) (Q M lim : Nat) (An : Option Addr) (cn : Nat) (Af : Option Addr) (cf : Nat) (ns : List (Nd × Bool)) (fs : List Nat) : Prop where
  row : w.heap[Q]? = some (.cells #[.pointer (some ⟨M, 0, none⟩), .int .i64 (lim : Int), .slice An ns.length cn, .slice Af fs.length cf] 78 (0, 0))
  nodes : w.ownsRow 0 153 5 (.slice An ns.length cn) ns.length (nv ns)
  freed : w.ownsRow 0 3 1 (.slice Af fs.length cf) fs.length (iw fs)
  inr : ∀ i ∈ fs, ∃ h : i < ns.length, ns[i].2 = false
  nod : fs.Nodup
  lim_le : lim ≤ 1048576
  ns_le : ns.length ≤ lim
  fs_le : fs.length ≤ ns.length
/-- The blocks of a pool. -/
def QB (Q : Nat) (An Af : Option Addr) (j : Nat) : Prop := j = Q ∨ An.map (·.block) = some j ∨ Af.map (·.block) = some j
section
variable {w w' : World} {Q M lim cn cf : Nat} {An Af : Option Addr} {ns : List (Nd × Bool)} {fs : List Nat}
theorem Qo.c0 (h : Qo w Q M lim An cn Af cf ns fs) : w.cell? ⟨Q, 0, none⟩ = some (.pointer (some ⟨M, 0, none⟩)) := cell_of_row w Q 0 _ _ (0, 0) h.row
theorem Qo.c1 (h : Qo w Q M lim An cn Af cf ns fs) : w.cell? ⟨Q, 1, none⟩ = some (.int .i64 (lim : Int)) := cell_of_row w Q 1 _ _ (0, 0) h.row
theorem Qo.c2 (h : Qo w Q M lim An cn Af cf ns fs) : w.cell? ⟨Q, 2, none⟩ = some (.slice An ns.length cn) := cell_of_row w Q 2 _ _ (0, 0) h.row
theorem Qo.c3 (h : Qo w Q M lim An cn Af cf ns fs) : w.cell? ⟨Q, 3, none⟩ = some (.slice Af fs.length cf) := cell_of_row w Q 3 _ _ (0, 0) h.row
theorem Qo.fr (h : Qo w Q M lim An cn Af cf ns fs) (k : Nat) : w.frozen? ⟨Q, k, none⟩ = false := frozen_of_row w Q k _ _ h.row
theorem Qo.lt (h : Qo w Q M lim An cn Af cf ns fs) : Q < w.heap.size := row_lt h.row
theorem own_block_lt {w : World} {base : Nat} {e : TypeId} {size n c : Nat} {A : Option Addr} {xs : List Value} (h : w.ownsRow base e size (.slice A n c) n xs) {j : Nat} (hj : A.map (·.block) = some j) : j < w.heap.size ∧ ∃ cur, w.heap[j]? = some (.cells cur e (0, 0)) := by
  rcases own_addr h with ⟨rfl, _⟩ | ⟨g, rfl, hg, _, cur, hc⟩
  · cases hj
  · cases hj; exact ⟨hg, cur, hc⟩
theorem Qo.qb (h : Qo w Q M lim An cn Af cf ns fs) {j : Nat} (hj : QB Q An Af j) : j < w.heap.size := by
  rcases hj with rfl | hj | hj
  · exact h.lt
  · exact (own_block_lt h.nodes hj).1
  · exact (own_block_lt h.freed hj).1
theorem own_of_map {A : Option Addr} {n c k : Nat} (h : (Value.slice A n c).ownBlock = some k) : A.map (·.block) = some k := by
  cases A with
  | none => simp [Value.ownBlock] at h
  | some a => simpa [Value.ownBlock] using h
theorem Qo.chg {O : Nat → Prop} (h : Qo w Q M lim An cn Af cf ns fs) (b : K.Chg w w' O) (hO : ∀ j, QB Q An Af j → ¬ O j) : Qo w' Q M lim An cn Af cf ns fs :=
  ⟨(b.block Q h.lt (hO Q (.inl rfl))).trans h.row, b.own h.nodes (fun k hk => hO k (.inr (.inl (own_of_map hk)))), b.own h.freed (fun k hk => hO k (.inr (.inr (own_of_map hk)))), h.inr, h.nod, h.lim_le, h.ns_le, h.fs_le⟩
theorem Qo.drew (h : Qo w Q M lim An cn Af cf ns fs) (n : Nat) : Qo (w.drewN n) Q M lim An cn Af cf ns fs := ⟨h.row, h.nodes, h.freed, h.inr, h.nod, h.lim_le, h.ns_le, h.fs_le⟩
/-- The blocks lie apart: their types are unlike. -/
theorem Qo.ne_nodes (h : Qo w Q M lim An cn Af cf ns fs) {g : Nat} (hg : An.map (·.block) = some g) : g ≠ Q := by
  obtain ⟨_, cur, hc⟩ := own_block_lt h.nodes hg
  exact row_ne hc h.row (by decide)
theorem Qo.ne_freed (h : Qo w Q M lim An cn Af cf ns fs) {g : Nat} (hg : Af.map (·.block) = some g) : g ≠ Q := by
  obtain ⟨_, cur, hc⟩ := own_block_lt h.freed hg
  exact row_ne hc h.row (by decide)
theorem Qo.ne_both (h : Qo w Q M lim An cn Af cf ns fs) {g f : Nat} (hg : An.map (·.block) = some g) (hf : Af.map (·.block) = some f) : g ≠ f := by
  obtain ⟨_, cur, hc⟩ := own_block_lt h.nodes hg
  obtain ⟨_, cur', hc'⟩ := own_block_lt h.freed hf
  exact row_ne hc hc' (by decide)
/-- Place i, where it lies. -/
theorem Qo.at (h : Qo w Q M lim An cn Af cf ns fs) {i : Nat} (hi : i < ns.length) : ∃ g, An = some ⟨g, 0, none⟩ ∧ w.cell? ⟨g, i * 5, none⟩ = some (.int .u64 (ns[i].1.rep : Int)) ∧ w.cell? ⟨g, i * 5 + 1, none⟩ = some (.slice ns[i].1.ksA ns[i].1.ksn ns[i].1.ksc) ∧ w.cell? ⟨g, i * 5 + 2, none⟩ = some (.int .i64 ns[i].1.ahead) ∧ w.cell? ⟨g, i * 5 + 3, none⟩ = some (.int .i64 ns[i].1.behind) ∧ w.cell? ⟨g, i * 5 + 4, none⟩ = some (.bool ns[i].2) ∧ ∀ k, w.frozen? ⟨g, k, none⟩ = false := by
  obtain ⟨g, rfl⟩ := own_some h.nodes (by omega)
  have e : ∀ j, j < 5 → w.cell? ⟨g, i * 5 + j, none⟩ = (ncl ns[i])[j]? := fun j hj => (h.nodes.cellAt (i * 5 + j) (by omega)).trans (nv_at ns i hi j hj)
  exact ⟨g, rfl, e 0 (by decide), e 1 (by decide), e 2 (by decide), e 3 (by decide), e 4 (by decide), fun k => h.nodes.frozenAt k⟩
end
section
variable (w : World) (Q M lim cn cf : Nat) (An Af : Option Addr) (ns : List (Nd × Bool)) (fs : List Nat)
theorem q_len (a : Qo w Q M lim An cn Af cf ns fs) :
    Calls Tryz.prog 42 #[.pointer (some ⟨Q, 0, none⟩)] w fun e w' => e = .returned (.int .i64 ((ns.length - fs.length : Nat) : Int)) ∧ ∃ n, w' = w.drewN n := by
  have hc2 := a.c2
  have hc3 := a.c3
  have h1 := a.ns_le
  have h3 := a.lim_le
  have h2 := a.fs_le
  clear a
  generalize ns.length = n at *
  generalize fs.length = m at *
  have ws : IntKind.i64.wrap ((n : Int) - (m : Int)) = (n : Int) - (m : Int) := IntWalk.i64_in _ (by omega)
  go_enter Tryz.func42, Tryz.ntmps42
  go_wp2
  go_quiet (fail)
  go_wp2
  refine bodyPost_ret (results_tmp (t := 2) rfl _ _ _) rfl ?_
  exact ⟨ret_int (by omega), _, rfl⟩
theorem q_room (a : Qo w Q M lim An cn Af cf ns fs) (k : Int) :
    Calls Tryz.prog 125 #[.pointer (some ⟨Q, 0, none⟩), .int .i64 k] w fun e w' => e = .returned (.bool (decide (k ≤ (lim : Int) - ((ns.length - fs.length : Nat) : Int)))) ∧ ∃ n, w' = w.drewN n := by
  have hc1 := a.c1
  have hl := fun N => Lib.hid (q_len (w.drewN N) Q M lim cn cf An Af ns fs (a.drew N))
  have h1 := a.ns_le
  have h3 := a.lim_le
  clear a
  have h2 : ns.length - fs.length ≤ 1048576 := by omega
  generalize ns.length - fs.length = n at *
  have ws : IntKind.i64.wrap ((lim : Int) - (n : Int)) = (lim : Int) - (n : Int) := IntWalk.i64_in _ (by omega)
  go_enter Tryz.func125, Tryz.ntmps125
  go_wp2
  go_quiet ((go_at_call 42; exact Calls.quiet_of (hl _).out))
  go_wp2
  go_ret
  exact ⟨rfl, _, rfl⟩
/-- Is place i taken? -/
def lvq (ns : List (Nd × Bool)) (i : Int) : Bool := decide (0 ≤ i) && ((ns[i.toNat]?).map (·.2)).getD false
theorem q_live (a : Qo w Q M lim An cn Af cf ns fs) (i : Int) :
    Calls Tryz.prog 110 #[.pointer (some ⟨Q, 0, none⟩), .int .i64 i] w fun e w' => e = .returned (.bool (lvq ns i)) ∧ w = w' := by
  have hc2 := a.c2
  have hle := a.ns_le
  have hle2 := a.lim_le
  by_cases h0 : 0 ≤ i
  · obtain ⟨k, rfl⟩ : ∃ k : Nat, i = (k : Int) := ⟨i.toNat, by omega⟩
    have g0 : decide (0 ≤ (k : Int)) = true := decide_eq_true h0
    by_cases hk : k < ns.length
    · obtain ⟨g, rfl, _, _, _, _, ha, _⟩ := a.at hk
      have hr : Hid (lvq ns (k : Int) = ns[k].2) := by
        show lvq ns (k : Int) = _
        unfold lvq
        simp [hk]
      have g1 : decide ((k : Int) < (ns.length : Int)) = true := decide_eq_true (by omega)
      have k1 : (k : Int) < (ns.length : Int) := by omega
      have k2 : (k : Int).toNat = k := by omega
      clear a
      generalize ns[k].2 = b at *
      go_enter Tryz.func110, Tryz.ntmps110
      go_wp2
      go_ret
      exact ⟨ret_bool hr.out.symm, rfl⟩
    · have hr : Hid (lvq ns (k : Int) = false) := by
        show lvq ns (k : Int) = _
        unfold lvq
        rw [Int.toNat_natCast, List.getElem?_eq_none (by omega)]
        simp
      have g1 : decide ((k : Int) < (ns.length : Int)) = false := decide_eq_false (by omega)
      clear a
      generalize ns.length = n at *
      go_enter Tryz.func110, Tryz.ntmps110
      go_wp2
      go_ret
      exact ⟨ret_bool hr.out.symm, rfl⟩
  · have g0 : decide (0 ≤ i) = false := decide_eq_false h0
    have hr : Hid (lvq ns i = false) := by
      show lvq ns i = _
      unfold lvq
      rw [g0]; rfl
    clear a
    go_enter Tryz.func110, Tryz.ntmps110
    go_wp2
    go_ret
    exact ⟨ret_bool hr.out.symm, rfl⟩
theorem lvq_yes {ns : List (Nd × Bool)} {k : Nat} (hk : k < ns.length) (ht : ns[k].2 = true) : lvq ns (k : Int) = true := by
  unfold lvq
  simp [hk, ht]
end
end Go.Proofs.YtelfacchhclgnaaGreat.Yp
end
