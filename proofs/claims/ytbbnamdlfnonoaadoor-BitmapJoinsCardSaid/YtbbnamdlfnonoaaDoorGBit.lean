
/- All of a bitmap: an iterator that goes over the strip's; the text walked. -/
import Derived.Test.YtbbnamdlfnonoaaDoorGStrip
import Derived.Test.YtbbnamdlfnonoaaDoorBLay
namespace Go.Proofs.YtbbnamdlfnonoaaDoor
open Go.RowKit Go.Shelf
attribute [local go_sem] Oper.semAt_some
theorem strip_all_any (p : Option Addr) (w : World) :
    Calls Tryd.prog 66 #[.pointer p] w fun e w' => e = .returned (.func (.func 83) #[] #[.pointer (some ⟨w.heap.size, 0, none⟩)]) ∧ w' = w.alloc (.cells #[.pointer p] 63) := by
  go_enter Tryd.func66, Tryd.ntmps66
  go_wp2
  go_ret
  exact ⟨rfl, rfl⟩
theorem bit_all_any (p : Option Addr) (w : World) :
    Calls Tryd.prog 42 #[.pointer p] w fun e w' => e = .returned (.func (.func 65) #[] #[.pointer (some ⟨w.heap.size, 0, none⟩)]) ∧ w' = w.alloc (.cells #[.pointer p] 24) := by
  go_enter Tryd.func42, Tryd.ntmps42
  go_wp2
  go_ret
  exact ⟨rfl, rfl⟩
set_option maxRecDepth 100000 in
set_option maxHeartbeats 1000000 in
/-- A nil strip tells nothing. -/
theorem strip_seq_nil (n Bn n₀ : Nat) (w : World) (hBn : Bn < w.heap.size) (hc : w.cell? ⟨Bn, 0, none⟩ = some (.pointer none)) :
    SeqY Fence.wide n Tryd.prog 83 #[.pointer (some ⟨Bn, 0, none⟩)] (fun y : Int => #[Value.int .i64 y]) n₀ (fun ys => ys = []) (fun pre => pre <+: []) (fun pre => pre <+: []) w := by
  intro l J Jx W hW hJ hJx hY h0
  have hltB : Bn < W.heap.size := Nat.lt_of_lt_of_le hBn hW.size
  have hf1 : ∀ o, (W.alloc o).cell? ⟨Bn, 0, none⟩ = some (.pointer none) := fun o => (World.cell?_alloc_lt W o ⟨Bn, 0, none⟩ hltB).trans ((hW.cell (p := ⟨Bn, 0, none⟩) hBn).trans hc)
  have hJ0 : Hid (∀ o, J [] (fun _ => False) (W.alloc o)) := fun o => hJ _ _ _ _ _ h0 (but_alloc' _ _ _) (fun _ h => h.elim)
  refine callsIn_of_wp Tryd.func83 rfl trivial ?_ rfl
  simp only [Tryd.ntmps83, List.size_toArray, List.length_cons, List.length_nil, Nat.reduceAdd, Nat.reduceSub, Array.replicate_succ, Array.replicate_zero, List.push_toArray, List.append_toArray, List.nil_append, List.cons_append]
  gi_wp2
  refine bodyPost_ret (results_none rfl _ _ _) rfl ?_
  first
    | exact ⟨⟨_, rfl⟩, .inl ⟨_, _, rfl, hJ0.out _⟩⟩
    | exact ⟨⟨_, rfl⟩, .inl ⟨_, hJ0.out _⟩⟩
set_option maxRecDepth 100000 in
set_option maxHeartbeats 4000000 in
theorem bit_seq (n Bn n₀ : Nat) (w : World) (bp sp : Option Addr) (xs : List Int) (hx : ∀ y ∈ xs, 0 ≤ y ∧ y ≤ 65535) (hnw : n₀ ≤ w.heap.size) (hBn : Bn < w.heap.size)
    (hc : w.cell? ⟨Bn, 0, none⟩ = some (.pointer bp)) (hn : 6 ≤ n)
    (hkept : ∀ W, Below w.heap.size w W → Calls Tryd.prog 43 #[.pointer bp] W fun e w' => e = .returned (.pointer sp) ∧ W = w')
    (hstrip : ∀ m Bs W, 3 ≤ m → Below w.heap.size w W → Bs < W.heap.size → W.cell? ⟨Bs, 0, none⟩ = some (.pointer sp) →
      SeqY Fence.wide m Tryd.prog 83 #[.pointer (some ⟨Bs, 0, none⟩)] (fun y : Int => #[Value.int .i64 y]) n₀ (fun ys => ys = xs) (fun pre => pre <+: xs) (fun pre => pre <+: xs) W) :
    SeqY Fence.wide n Tryd.prog 65 #[.pointer (some ⟨Bn, 0, none⟩)] (fun y : Int => #[Value.int .u16 y]) n₀ (fun ys => ys = xs) (fun pre => pre <+: xs) (fun pre => pre <+: xs) w := by
  intro l J Jx W hW hJ hJx hY h0
  have hn1 : 1 ≤ n := by omega
  have hltB : Bn < W.heap.size := Nat.lt_of_lt_of_le hBn hW.size
  have hnW : n₀ ≤ W.heap.size := Nat.le_trans hnw hW.size
  have hf1 : ∀ o, (W.alloc o).cell? ⟨Bn, 0, none⟩ = some (.pointer bp) := fun o => (World.cell?_alloc_lt W o ⟨Bn, 0, none⟩ hltB).trans ((hW.cell (p := ⟨Bn, 0, none⟩) hBn).trans hc)
  have hk0 : ∀ o, Hid (Calls Tryd.prog 43 #[.pointer bp] (W.alloc o) fun e w' => e = .returned (.pointer sp) ∧ W.alloc o = w') := fun o => hkept _ (hW.alloc hW.size o)
  refine callsIn_of_wp_marks Tryd.func65 rfl trivial ?_ rfl
  simp only [Tryd.ntmps65, List.size_toArray, List.length_cons, List.length_nil, Nat.reduceAdd, Nat.reduceSub, Array.replicate_succ, Array.replicate_zero, List.push_toArray, List.append_toArray, List.nil_append, List.cons_append]
  gi_wp2_with (first
    | (refine ⟨trivial, ?_⟩; gi_at_call 43; refine (callsIn_wide.2 (hk0 _).out).mono ?_; rintro e w' ⟨rfl, rfl⟩)
    | (refine ⟨trivial, ?_⟩; gi_at_call 66; refine (callsIn_wide.2 (strip_all_any sp _)).mono ?_; rintro e w' ⟨rfl, rfl⟩))
  obtain ⟨By, hBy⟩ : ∃ By, W.heap.size = By := ⟨_, rfl⟩
  obtain ⟨Wq, hWq⟩ : ∃ Wq, (W.alloc (.cells #[.func (.yield l) #[] #[]] 38)).alloc (.cells #[.pointer sp] 63) = Wq := ⟨_, rfl⟩
  have hzq : Wq.heap.size = By + 2 := by rw [← hWq, ← hBy]; simp
  have hbut : ButS W Wq (fun _ => False) := by rw [← hWq]; exact (but_alloc' _ _ _).trans (but_alloc' _ _ _)
  have hq3 : Wq.heap[By]? = some (.cells #[.func (.yield l) #[] #[]] 38 (0, 0)) := by rw [← hWq, Below.heap_alloc _ _ _ (by simp; omega)]; exact alloc_top _ _ hBy.symm
  have hq2 : Wq.cell? ⟨By + 1, 0, none⟩ = some (.pointer sp) := by
    have h1 : Wq.heap[By + 1]? = some (.cells #[.pointer sp] 63 (0, 0)) := by rw [← hWq]; exact alloc_top _ _ (by simp; omega)
    exact cell_of_row Wq (By + 1) 0 _ _ (0, 0) h1
  have hbl : Below w.heap.size w Wq := hW.trans (hbut.below hW.size (fun _ h => h.elim))
  have hseq := hstrip (n - 1) (By + 1) Wq (by omega) hbl (by omega) hq2
  have hJq : IJ n₀ Wq J id [] (fun j => n₀ ≤ j ∧ j < By) Wq := by
    refine ⟨fun j hj => ⟨hj.1, by omega⟩, Below.refl _ _, ?_⟩
    exact hJ _ _ _ _ _ h0 (hbut.mono fun _ _ h => h.elim) (fun j hj => ⟨.inr (by omega), hj.2.1⟩)
  have hnq : n₀ ≤ Wq.heap.size := by omega
  have hSlt : ∀ j, j = By → j < Wq.heap.size := fun j hj => by omega
  have hSt : Stays (· = By) Wq (fun j => n₀ ≤ j ∧ j < By) Wq := fun j hj => ⟨by omega, rfl⟩
  rw [hBy, hWq]
  clear hWq hf1 hk0 hstrip hkept h0 hbut
  refine wpIn_rangeY (Q := _) rfl (by omega) (gf := 83) (lb := #[.pointer (some ⟨By + 1, 0, none⟩)]) rfl trivial (enters_of Tryd.func83 (by kernel_rfl) rfl)
    (encs := fun y : Int => #[Value.int .i64 y]) (n₀ := n₀) (S := fun ys => ys = xs) (Sp := fun pre => pre <+: xs) (T := fun pre => pre <+: xs) (w0 := Wq)
    hseq hnq (Below.refl _ _) (fun _ => rfl)
    (fun pre O W1 => IJ n₀ Wq J id pre O W1 ∧ Stays (· = By) Wq O W1) (fun c pre O W1 => c = .ret ∧ IJ n₀ Wq Jx id pre O W1 ∧ Stays (· = By) Wq O W1)
    (fun pp a1 O W1 => a1 = { tmps := #[.func (.yield l) #[] #[], .pointer (some ⟨Bn, 0, none⟩), .pointer (some ⟨By, 0, none⟩), .int .i64 pp.2, .pointer bp, .pointer sp, .func (.func 83) #[] #[.pointer (some ⟨By + 1, 0, none⟩)], .int .i64 pp.2, undef, undef, undef, undef, undef], defers := [] } ∧
      (pp.1 ++ [pp.2] <+: xs ∧ IJ n₀ Wq J id pp.1 O W1 ∧ Stays (· = By) Wq O W1))
    ((IJ.abides _ hJ hnq hnq).and (Stays.abides hSlt)) (fun c => Abides.pure (fun _ => c = .ret) ((IJ.abides _ hJx hnq hnq).and (Stays.abides hSlt)))
    (fun a' pp O W1 W' R hi hw hR => ⟨hi.1, hi.2.1, ((IJ.abides id hJ hnq hnq).and (Stays.abides hSlt)) pp.1 O W1 W' R hi.2.2 hw hR⟩)
    (fun pre O W1 hi j hj => (hi.1.1 j hj).1) (fun j => n₀ ≤ j ∧ j < By) (fun j hj => by omega) ⟨hJq, hSt⟩ ?assign ?body ?done ?stop
  case assign =>
    intro l2 pre y O1 W1 hi hT1
    gi_wp2
    exact ⟨O1, ⟨ButS.refl _ _, fun j hj => ⟨.inl hj, (hi.1.1 j hj).2⟩⟩, by first | trivial | rfl, hT1, hi⟩
  case body =>
    rintro l2 pre y O1 a1 W1 ⟨rfl, hT1, hi, hst1⟩
    have hT1 : pre ++ [y] <+: xs := hT1
    have hyb := hx y (prefix_snoc hT1)
    have hw16 : IntKind.u16.wrap y = y := wrap16 hyb.1 hyb.2
    have hg1 : W1.cell? ⟨By, 0, none⟩ = some (.func (.yield l) #[] #[]) := cell_of_row W1 By 0 _ _ (0, 0) ((hst1 By rfl).2.trans hq3)
    obtain ⟨fn, tm, asg, bd, hy, hR⟩ := hY pre y _ W1 hi.2.2 hT1
    have HI := Lib.hid hi
    have HST := Lib.hid hst1
    clear hi hst1 hT1 hyb
    gi_wp2
    refine ⟨fun h => (by cases h), (roundIn_any hR).mono ?_⟩
    rintro e W2 (⟨rfl, hj2, hb2, hs2⟩ | ⟨rfl, hj2, hb2, hs2⟩)
    · obtain ⟨O2, ho2, hlo2, hj3⟩ := yield_own hJ hj2 hb2 hs2
      have HF : Hid (IJ n₀ Wq J id (pre ++ [y]) O2 W2 ∧ Stays (· = By) Wq O2 W2) := ⟨⟨hlo2, HI.out.2.1.trans hb2, hj3⟩, HST.out.own hSlt ho2⟩
      have HO := Lib.hid ho2
      clear hj2 hb2 hs2 ho2 hlo2 hj3
      gi_wp2
      exact ⟨O2, HO.out, HF.out⟩
    · obtain ⟨O2, ho2, hlo2, hj3⟩ := yield_own hJx hj2 hb2 hs2
      have HF : Hid (IJ n₀ Wq Jx id (pre ++ [y]) O2 W2 ∧ Stays (· = By) Wq O2 W2) := ⟨⟨hlo2, HI.out.2.1.trans hb2, hj3⟩, HST.out.own hSlt ho2⟩
      have HO := Lib.hid ho2
      clear hj2 hb2 hs2 ho2 hlo2 hj3
      gi_wp2
      exact ⟨O2, HO.out, rfl, HF.out⟩
  case done =>
    rintro D ys O1 W1 hDw hOD rfl ⟨hi, hst1⟩ hK
    have HL : Hid (∀ W2, ButS W1 W2 (· ∈ [D]) → J ys (fun j => n₀ ≤ j ∧ j < W1.heap.size ∧ ¬ O1 j) W2) := fun W2 hb => hJ _ _ _ _ _ hi.2.2 (hb.mono fun j hlt hj => by
      have e : j = D := by simpa using hj
      subst e
      exact ⟨by omega, hlt, hOD⟩) (fun j hj => ⟨.inl hj, Nat.lt_of_lt_of_le hj.2.1 hb.size⟩)
    have HK := Lib.hid hK
    clear hi hst1 hK
    gi_wp2
    exact leaves_marks [D] W1 (by simp) (fun E hE => by have e : E = D := (by simpa using hE); subst e; exact HK.out) (fun W2 hb => ⟨_, results_none rfl _ _ _, ⟨_, rfl⟩, .inl ⟨_, _, rfl, HL.out W2 hb⟩⟩)
  case stop =>
    rintro D c pre O1 W1 hDw hOD hpre ⟨rfl, hi, hst1⟩ hK
    have HL : Hid (∀ W2, ButS W1 W2 (· ∈ [D]) → Jx pre (fun j => n₀ ≤ j ∧ j < W1.heap.size ∧ ¬ O1 j) W2) := fun W2 hb => hJx _ _ _ _ _ hi.2.2 (hb.mono fun j hlt hj => by
      have e : j = D := by simpa using hj
      subst e
      exact ⟨by omega, hlt, hOD⟩) (fun j hj => ⟨.inl hj, Nat.lt_of_lt_of_le hj.2.1 hb.size⟩)
    have HK := Lib.hid hK
    have HP := Lib.hid hpre
    clear hi hst1 hK hpre
    gi_wp2
    exact leaves_marks [D] W1 (by simp) (fun E hE => by have e : E = D := (by simpa using hE); subst e; exact HK.out) (fun W2 hb => ⟨_, results_none rfl _ _ _, ⟨_, rfl⟩, .inr ⟨_, _, HP.out, HL.out W2 hb⟩⟩)
end Go.Proofs.YtbbnamdlfnonoaaDoor
