/- The keys of a trie, one by one, over any body; the text walked. -/
import Derived.Test.YtiinefdpaiincaaMxX16
import Derived.Test.YtiinefdpaiincaaMxC11
namespace Go.Proofs.Ytiinefdpaiincaa
open Go.RowKit Go.Shelf
attribute [local go_sem] Oper.semAt_some
attribute [local simp] wide_fn
theorem ButS.back' {W W' : World} {S : Nat → Prop} (h : ButS W W' S) {j : Nat} (hj : j < W.heap.size) (hS : ¬ S j) : W'.heap[j]? = W.heap[j]? := h.block j hj hS
/-- What the inner loop keeps: its own blocks lie as they lay, all else but them is the outer body's. -/
def IKW {α β : Type} (Z S : Nat → Prop) (Wq : World) (J : List β → (Nat → Prop) → World → Prop) (f : List α → List β) (pre : List α) (O : Nat → Prop) (W : World) : Prop :=
  (∀ j, O j → ¬ Z j ∧ ¬ S j ∧ j < W.heap.size) ∧ ButS Wq W (fun j => ¬ (Z j ∨ S j)) ∧ J (f pre) (fun j => j < W.heap.size ∧ ¬ Z j ∧ ¬ O j) W
theorem IKW.abides {α β : Type} {Z S : Nat → Prop} {Wq : World} {J : List β → (Nat → Prop) → World → Prop} (f : List α → List β) (hJ : Steps J) (hZ : ∀ j, Z j → j < Wq.heap.size) : Abides Wq.heap.size (IKW Z S Wq J f) := by
  intro s O W W' R ⟨h1, h2, h3⟩ hw hR
  refine ⟨fun j hj => ⟨(h1 j hj).1, (h1 j hj).2.1, Nat.lt_of_lt_of_le (h1 j hj).2.2 hw.size⟩, h2.then hw (fun j hj => .inr (hR j hj).2), ?_⟩
  refine hJ _ _ _ _ _ h3 (hw.mono fun j hlt hj => ⟨hlt, fun hz => by have := hZ j hz; have := (hR j hj).2; omega, (hR j hj).1⟩) (fun j hj => ⟨?_, hj.1⟩)
  by_cases hlt : j < W.heap.size
  · exact .inl ⟨hlt, hj.2.1, hj.2.2⟩
  · exact .inr (by omega)
/-- The outer round is over: what it has turned is the body's. -/
theorem IKW.next {α β : Type} {Z S : Nat → Prop} {Wq W1 W' : World} {J J' : List β → (Nat → Prop) → World → Prop} {f : List α → List β} {pre pre' : List α} {O : Nat → Prop} (hJ : Steps J') (hSl : ∀ j, S j → j < Wq.heap.size ∧ ¬ Z j) (h : IKW Z S Wq J f pre O W1)
    (hj : J' (f pre') (fun j => j < W1.heap.size ∧ ¬ Z j ∧ ¬ O j) W') (hb : ButS W1 W' (fun j => ¬ (Z j ∨ (j < W1.heap.size ∧ ¬ Z j ∧ ¬ O j)))) : ∃ O', OwnStep O O' W1 W' ∧ IKW Z S Wq J' f pre' O' W' := by
  obtain ⟨h1, h2, h3⟩ := h
  have hs := hb.size
  refine ⟨fun j => j < W'.heap.size ∧ ¬ Z j ∧ ¬ (j < W1.heap.size ∧ ¬ Z j ∧ ¬ O j), ⟨hb.mono (fun j hlt hj => ?_), fun j hj => ⟨?_, hj.1⟩⟩, fun j hj => ⟨hj.2.1, fun hS => ?_, hj.1⟩, ?_, ?_⟩
  · exact Classical.byContradiction fun ho => hj (Classical.byContradiction fun hn => hn (.inr ⟨hlt, fun hz => hn (.inl hz), ho⟩))
  · by_cases hlt : j < W1.heap.size
    · exact .inl (Classical.byContradiction fun ho => hj.2.2 ⟨hlt, hj.2.1, ho⟩)
    · exact .inr (by omega)
  · have := h2.size
    exact hj.2.2 ⟨by have := (hSl j hS).1; omega, hj.2.1, fun ho => (h1 j ho).2.1 hS⟩
  · refine h2.then hb (fun j hj => ?_)
    by_cases hlt : j < Wq.heap.size
    · refine .inl (fun h => hj ?_)
      rcases h with h | h
      · exact .inl h
      · exact .inr ⟨by have := h2.size; omega, (hSl j h).2, fun ho => (h1 j ho).2.1 h⟩
    · exact .inr (by omega)
  · refine hJ _ _ _ _ _ hj (ButS.refl _ _) (fun j hj => ⟨.inl ?_, hj.1⟩)
    exact Classical.byContradiction fun h => hj.2.2 ⟨hj.1, hj.2.1, h⟩
theorem roundIn_wide' {m m' : Nat} {P : Program} {l : Nat} {f : FuncId} {tmps : Array Value} {assign body : Code} {w : World} {R : Ending → World → Prop}
    (h : RoundIn Fence.wide m P l f tmps assign body w R) : RoundIn Fence.wide m' P l f tmps assign body w R :=
  ⟨h.1, fun c cs _ => h.2 c cs (fun d hd => by cases hd)⟩
theorem c_all_any (w : World) (p : Option Addr) : Calls Try.prog 63 #[.pointer p] w fun e w' => e = .returned (.func (.func 75) #[] #[.pointer (some ⟨w.heap.size, 0, none⟩)]) ∧ w' = w.alloc (.cells #[.pointer p] 41) := by
  go_enter Try.func63, Try.ntmps63
  go_wp2
  go_ret
  exact ⟨rfl, rfl⟩
set_option maxRecDepth 100000 in
set_option maxHeartbeats 4000000 in
theorem xf_all (W0 : World) (Xb C Q M P lim tk : Nat) (L : LL) (es : Es) (OX Z : Nat → Prop) (h : XT W0 Xb C Q M P lim tk L es OX) (hZT : ∀ j, OX j → Z j) (hZl : ∀ j, Z j → j < W0.heap.size) (n Bn : Nat) (hBn : Bn < W0.heap.size) (hc : W0.cell? ⟨Bn, 0, none⟩ = some (.pointer (some ⟨Xb, 0, none⟩))) :
    SeqW Fence.wide n Try.prog 62 #[.pointer (some ⟨Bn, 0, none⟩)] (fun x : Nat => #[Value.int .u64 ((x : Nat) : Int)]) Z (fun ys => ys = L.map (·.2)) (fun pre => pre <+: L.map (·.2)) (fun pre => pre <+: L.map (·.2)) W0 := by
  intro l J Jx W hW hJ hJx hY h0
  have hT := h.chg (K.Chg.of_below (O := fun _ => False) hW) (fun _ _ h => h)
  have c1 := hT.c1
  have hBl : Bn < W.heap.size := Nat.lt_of_lt_of_le hBn hW.size
  have hBc := (hW.cell (p := ⟨Bn, 0, none⟩) hBn).trans hc
  have hWs := hW.size
  refine callsIn_wide.2 ((callsIn_wide (n := 9)).1 ?_)
  have HT := Lib.hid hT
  have H0 := Lib.hid h0
  have HY := Lib.hid hY
  have HJ := Lib.hid hJ
  have HJX := Lib.hid hJx
  have HZT := Lib.hid hZT
  have HZL := Lib.hid hZl
  have HWS := Lib.hid hWs
  have hyb : Below W.heap.size W (W.alloc (.cells #[.func (.yield l) #[] #[]] 55)) := (Below.refl _ W).alloc (Nat.le_refl _) _
  have hyr : (W.alloc (.cells #[.func (.yield l) #[] #[]] 55)).heap[W.heap.size]? = some (.cells #[.func (.yield l) #[] #[]] 55 (0, 0)) := K.alloc_top _ _
  have x0 := (hyb.cell (p := ⟨Bn, 0, none⟩) hBl).trans hBc
  have x1 := (hT.chg (K.Chg.of_below (O := fun _ => False) hyb) (fun _ _ h => h)).c1
  have HYB := Lib.hid hyb
  have HYR := Lib.hid hyr
  clear h hT c1 h0 hY hJ hJx hZT hZl hWs hW hBc hBl hc hBn hyb hyr
  refine callsIn_of_wp_marks Try.func62 rfl trivial ?_ rfl
  simp only [Try.ntmps62, List.size_toArray, List.length_cons, List.length_nil, Nat.reduceAdd, Nat.reduceSub, Array.replicate_succ, Array.replicate_zero, List.push_toArray, List.append_toArray, List.nil_append, List.cons_append]
  gi_wp2_with (gi_at_call 63; refine (callsIn_wide.2 (c_all_any _ _)).mono ?_; rintro e w1 ⟨rfl, rfl⟩)
  obtain ⟨Wq, hWq⟩ : ∃ Wq, (W.alloc (.cells #[.func (.yield l) #[] #[]] 55)).alloc (.cells #[.pointer (some ⟨C, 0, none⟩)] 41) = Wq := ⟨_, rfl⟩
  have hz2 : Wq.heap.size = W.heap.size + 2 := by rw [← hWq]; simp
  have hB0 : Below W.heap.size W Wq := by rw [← hWq]; exact HYB.out.alloc (by simp) _
  have hA0 : Wq.heap[W.heap.size]? = some (.cells #[.func (.yield l) #[] #[]] 55 (0, 0)) := by rw [← hWq]; exact (Below.heap_alloc _ _ _ (by simp)).trans HYR.out
  have hA1 : Wq.heap[W.heap.size + 1]? = some (.cells #[.pointer (some ⟨C, 0, none⟩)] 41 (0, 0)) := by
    rw [← hWq]
    have := K.alloc_top (W.alloc (.cells #[.func (.yield l) #[] #[]] 55)) (.cells #[.pointer (some ⟨C, 0, none⟩)] 41)
    rw [World.size_alloc] at this
    exact this
  try simp only [World.size_alloc]
  rw [hWq]
  clear hWq x0 x1 HYB HYR
  have hTq := HT.out.chg (K.Chg.of_below (O := fun _ => False) hB0) (fun _ _ h => h)
  obtain ⟨seed, An, cn, Af, cf, ns, fs, Qt, Mt, nn, pr, hb, hO⟩ := hTq
  have hCZ : ∀ j, CB C Q An Af j → Z j := fun j hj => HZT.out j (by rw [hO]; exact .inr (.inr (.inl hj)))
  obtain ⟨S, hS⟩ : ∃ S : Nat → Prop, S = fun j => j = W.heap.size ∨ j = W.heap.size + 1 := ⟨_, rfl⟩
  have hZW : ∀ j, Z j → j < W.heap.size := fun j hj => by have := HZL.out j hj; have := HWS.out; omega
  have hSl : ∀ j, S j → j < Wq.heap.size ∧ ¬ Z j := fun j hj => by
    rw [hS] at hj
    exact ⟨by omega, fun hz => by have := hZW j hz; omega⟩
  have hZq : ∀ j, Z j → j < Wq.heap.size := fun j hj => by have := hZW j hj; omega
  have hJq : IKW Z S Wq J (List.map (fun x : Nat × Nat => x.2)) ([] : LL) (fun j => j < Wq.heap.size ∧ ¬ Z j ∧ ¬ S j) Wq := by
    refine ⟨fun j hj => ⟨hj.2.1, hj.2.2, hj.1⟩, ButS.refl _ _, ?_⟩
    simp only [List.map_nil]
    refine HJ.out _ _ _ _ _ H0.out (ButS.of_below hB0 (Nat.le_refl _)) (fun j hj => ⟨?_, hj.1⟩)
    have hSj : S j := Classical.byContradiction fun h => hj.2.2 ⟨hj.1, hj.2.1, h⟩
    rw [hS] at hSj
    exact .inr (by omega)
  have hqc : Wq.cell? ⟨W.heap.size + 1, 0, none⟩ = some (.pointer (some ⟨C, 0, none⟩)) := cell_of_row Wq _ 0 _ _ (0, 0) hA1
  have hS0 : S W.heap.size := by rw [hS]; exact .inl rfl
  have hS1 : S (W.heap.size + 1) := by rw [hS]; exact .inr rfl
  refine wpIn_rangeW (Q := _) rfl (by decide) (gf := 75) (lb := #[.pointer (some ⟨W.heap.size + 1, 0, none⟩)]) rfl trivial (enters_of Try.func75 (by kernel_rfl) rfl)
    (chain_all 8 (by decide) (W.heap.size + 1) C Q M lim cn cf An Af ns fs L (fun j => Z j ∨ j = W.heap.size + 1) (.inr rfl) (fun j hj => .inl (hCZ j hj)) Wq hb.ch hqc (by omega)) (fun j hj => by
      have hj : Z j ∨ j = W.heap.size + 1 := hj
      rcases hj with hj | hj
      · exact hZq j hj
      · omega) (Below.refl _ _) (fun _ => rfl)
    (fun pre O W' => IKW Z S Wq J (List.map (fun x : Nat × Nat => x.2)) pre O W')
    (fun c pre O W' => c = .ret ∧ IKW Z S Wq Jx (List.map (fun x : Nat × Nat => x.2)) pre O W')
    (fun pp a1 O W' => a1 = { tmps := #[.func (.yield l) #[] #[], .pointer (some ⟨Bn, 0, none⟩), .pointer (some ⟨W.heap.size, 0, none⟩), undef, .int .u64 (pp.2.2 : Int), .pointer (some ⟨Xb, 0, none⟩), .bool false, .pointer (some ⟨Xb, 0, none⟩), .pointer (some ⟨Xb, 0, none⟩), .pointer (some ⟨Xb, 1, none⟩), .pointer (some ⟨C, 0, none⟩), .func (.func 75) #[] #[.pointer (some ⟨W.heap.size + 1, 0, none⟩)], .int .i64 (pp.2.1 : Int), .int .u64 (pp.2.2 : Int), undef, undef, undef, undef], defers := [] } ∧ pp.1 ++ [pp.2] <+: L ∧ IKW Z S Wq J (List.map (fun x : Nat × Nat => x.2)) pp.1 O W')
    (IKW.abides _ HJ.out hZq) (fun c => fun s O W' W'' R hi hw hR => ⟨hi.1, IKW.abides _ HJX.out hZq s O W' W'' R hi.2 hw hR⟩)
    (fun a' pp O W' W'' R hi hw hR => ⟨hi.1, hi.2.1, IKW.abides _ HJ.out hZq pp.1 O W' W'' R hi.2.2 hw hR⟩)
    (fun pre O W' hi j hj hz => by
      have hz : Z j ∨ j = W.heap.size + 1 := hz
      rcases hz with hz | hz
      · exact (hi.1 j hj).1 hz
      · exact (hi.1 j hj).2.1 (hz ▸ hS1)) (fun j => j < Wq.heap.size ∧ ¬ Z j ∧ ¬ S j) (fun j hj => hj.1) hJq ?assign ?body ?done ?stop
  case assign =>
    intro l2 pre y O1 W' hi hT1
    gi_wp2
    exact ⟨O1, ⟨ButS.refl _ _, fun j hj => ⟨.inl hj, (hi.1 j hj).2.2⟩⟩, by first | trivial | rfl, hT1, hi⟩
  case body =>
    rintro l2 pre y O1 a1 Wc ⟨rfl, hT1, hi⟩
    have k0 := (hi.2.1.back' (j := W.heap.size) (hSl _ hS0).1 (fun h => h (.inr hS0))).trans hA0
    have c0 := cell_of_row Wc _ 0 _ _ (0, 0) k0
    simp at c0
    have hpx : pre.map (·.2) ++ [y.2] <+: L.map (·.2) := by
      have h1 := List.IsPrefix.map (fun x : Nat × Nat => x.2) hT1
      rw [List.map_append] at h1
      exact h1
    obtain ⟨fn, tm, asg, bd, hy, hR⟩ := HY.out _ y.2 _ _ hi.2.2 hpx
    have HI := Lib.hid hi
    have HRR := Lib.hid hR
    have hmapd : (pre ++ [y]).map (fun x : Nat × Nat => x.2) = pre.map (·.2) ++ [y.2] := by simp
    have HMD := Lib.hid hmapd
    clear k0 hpx hi hT1 hR hmapd
    gi_wp2
    refine (roundIn_wide' HRR.out).mono ?_
    rintro e W2 ⟨⟨rfl, hj2⟩ | ⟨rfl, hj2⟩, hb2⟩
    · rw [← HMD.out] at hj2
      obtain ⟨O2, ho2, hI2⟩ := HI.out.next (pre' := pre ++ [y]) HJ.out hSl hj2 hb2
      have HO2 := Lib.hid ho2
      have HI2 := Lib.hid hI2
      clear hj2 hb2 ho2 hI2
      gi_wp2
      exact ⟨O2, HO2.out, HI2.out⟩
    · rw [← HMD.out] at hj2
      obtain ⟨O2, ho2, hI2⟩ := HI.out.next (pre' := pre ++ [y]) HJX.out hSl hj2 hb2
      have HO2 := Lib.hid ho2
      have HI2 := Lib.hid hI2
      clear hj2 hb2 ho2 hI2
      gi_wp2
      exact ⟨O2, HO2.out, rfl, HI2.out⟩
  case done =>
    rintro D ys O W' hD hOD rfl hI hK
    have hDl := row_lt hK
    have hfin := HJ.out _ _ (fun _ => False) _ _ hI.2.2 ((but_put W' D (.deferred none)).mono (fun j hlt hj => by
      have hj : j = D := hj
      subst hj
      exact ⟨hlt, fun hz => by have := hZq _ hz; omega, hOD⟩)) (fun j hj => hj.elim)
    have HF := Lib.hid hfin
    have HK := Lib.hid hK
    clear hI hK hfin
    gi_wp2
    refine ⟨by simp, .inl ⟨_, _, rfl, run_takeDeferred HK.out, ?_⟩⟩
    exact ⟨_, results_none rfl _ _ _, ⟨_, rfl⟩, .inl ⟨_, _, rfl, HF.out⟩⟩
  case stop =>
    rintro D c pre O W' hD hOD hpre ⟨rfl, hI⟩ hK
    have hDl := row_lt hK
    have hfin := HJX.out _ _ (fun _ => False) _ _ hI.2.2 ((but_put W' D (.deferred none)).mono (fun j hlt hj => by
      have hj : j = D := hj
      subst hj
      exact ⟨hlt, fun hz => by have := hZq _ hz; omega, hOD⟩)) (fun j hj => hj.elim)
    have HF := Lib.hid hfin
    have HK := Lib.hid hK
    clear hI hK hfin
    gi_wp2
    refine ⟨by simp, .inl ⟨_, _, rfl, run_takeDeferred HK.out, ?_⟩⟩
    exact ⟨_, results_none rfl _ _ _, ⟨_, rfl⟩, .inr ⟨_, _, List.IsPrefix.map _ hpre, HF.out⟩⟩
end Go.Proofs.Ytiinefdpaiincaa
