
/- All of a strip: an iterator that goes over the bits of each word; the text walked. -/
import Derived.Test.YtbbnamdlfnonoaaDoorGIter
import Derived.Outline
namespace Go.Proofs.YtbbnamdlfnonoaaDoor
open Go.RowKit Go.Shelf
attribute [local go_sem] Oper.semAt_some
abbrev mark (D : Nat) : Deferred := { target := .collected D, args := #[] }
/-- A function leaves with marks of blocks that hold no calls. -/
theorem leaves_marks {F : Fence} {n : Nat} {P : Program} {fn : Func} {tmps : Array Value} {R : Ending → World → Prop} : ∀ (Ds : List Nat) (W : World), Ds.Nodup → (∀ D ∈ Ds, W.heap[D]? = some (.deferred (some []))) →
    (∀ W', ButS W W' (· ∈ Ds) → LeavesIn F n P fn tmps R [] .returning W') → LeavesInM F n P fn tmps R (Ds.map mark) .returning W
  | [], W, _, _, h => h W (ButS.refl _ _)
  | D :: Ds, W, hn, hd, h => by
    rw [List.nodup_cons] at hn
    refine ⟨by simp, .inl ⟨D, _, rfl, run_takeDeferred (hd D (List.mem_cons_self ..)), ?_⟩⟩
    refine leaves_marks Ds _ hn.2 (fun E hE => ?_) (fun W' hW => h W' ?_)
    · rw [World.putObj_heap_other (by intro e; subst e; exact hn.1 hE)]
      exact hd E (List.mem_cons_of_mem _ hE)
    · exact ((but_put W D _).mono (fun j _ e => by rw [e]; exact List.mem_cons_self ..)).trans (hW.mono (fun j _ e => List.mem_cons_of_mem _ e))
theorem sl_word_app {ws : List Nat} {k : Nat} (hk : k < ws.length) : sl (ws.take (k + 1)) = sl (ws.take k) ++ (M.bz ws[k]).map fun y => (k : Int) * 64 + y := by
  rw [List.take_succ_eq_append_getElem hk, sl_snoc, List.length_take, Nat.min_eq_left (Nat.le_of_lt hk)]
  congr 1
  apply List.map_congr_left
  intro y _
  omega
/-- What has come when pre of word k's bits have. -/
def upTo (ws : List Nat) (k : Nat) (pre : List Int) : List Int := sl (ws.take k) ++ pre.map fun y => (k : Int) * 64 + y
theorem upTo_snoc (ws : List Nat) (k : Nat) (pre : List Int) (y : Int) : upTo ws k pre ++ [(k : Int) * 64 + y] = upTo ws k (pre ++ [y]) := by simp [upTo]
theorem upTo_nil (ws : List Nat) (k : Nat) : upTo ws k [] = sl (ws.take k) := by simp [upTo]
theorem upTo_prefix {ws : List Nat} {k x : Nat} {pre : List Int} (happ : sl (ws.take (k + 1)) = upTo ws k (M.bz x)) (h : pre <+: M.bz x) : upTo ws k pre <+: sl ws := by
  obtain ⟨r, hr⟩ := h
  refine List.IsPrefix.trans ⟨r.map fun y => (k : Int) * 64 + y, ?_⟩ (sl_prefix ws (k + 1))
  rw [happ, ← hr]; simp [upTo]
/-- A round's word holds at any depth, and within another loop's round, where no depth is asked. -/
theorem roundIn_any {m m' l0 : Nat} {P : Program} {l : Nat} {f : FuncId} {tmps : Array Value} {assign body : Code} {w : World} {R : Ending → World → Prop}
    (h : RoundIn Fence.wide m P l f tmps assign body w R) : RoundIn (Fence.wide.inRound l0) m' P l f tmps assign body w R :=
  ⟨h.1, fun c cs _ => h.2 c cs (fun d hd => by cases hd)⟩
/-- What lay before a loop began, and is none of the body's, lies as it lay. -/
def Stays (S : Nat → Prop) (w0 : World) (O : Nat → Prop) (W : World) : Prop := ∀ j, S j → ¬ O j ∧ W.heap[j]? = w0.heap[j]?
theorem Stays.abides {β : Type} {S : Nat → Prop} {w0 : World} (hS : ∀ j, S j → j < w0.heap.size) : Abides w0.heap.size (fun (_ : β) O W => Stays S w0 O W) := by
  intro s O W W' R h hw hR j hj
  have hlt : j < W.heap.size := by
    have h1 := (h j hj).2
    rw [Array.getElem?_eq_getElem (hS j hj)] at h1
    exact (Array.getElem?_eq_some_iff.1 h1).1
  exact ⟨(h j hj).1, (hw.block j hlt (fun hr => by have := (hR j hr).2; have := hS j hj; omega)).trans (h j hj).2⟩
theorem Abides.and {β : Type} {B : Nat} {I K : β → (Nat → Prop) → World → Prop} (h : Abides B I) (k : Abides B K) : Abides B (fun s O W => I s O W ∧ K s O W) :=
  fun s O W W' R hi hw hR => ⟨h s O W W' R hi.1 hw hR, k s O W W' R hi.2 hw hR⟩
theorem Abides.pure {β : Type} {B : Nat} {I : β → (Nat → Prop) → World → Prop} (p : β → Prop) (h : Abides B I) : Abides B (fun s O W => p s ∧ I s O W) :=
  fun s O W W' R hi hw hR => ⟨hi.1, h s O W W' R hi.2 hw hR⟩
theorem Stays.own {S : Nat → Prop} {w0 W W' : World} {O O' : Nat → Prop} (h : Stays S w0 O W) (hS : ∀ j, S j → j < w0.heap.size) (ho : OwnStep O O' W W') : Stays S w0 O' W' := fun j hj => by
  have hlt : j < W.heap.size := by
    have h1 := (h j hj).2
    rw [Array.getElem?_eq_getElem (hS j hj)] at h1
    exact (Array.getElem?_eq_some_iff.1 h1).1
  refine ⟨fun h1 => ?_, (ho.1.block j hlt (h j hj).1).trans (h j hj).2⟩
  rcases (ho.2 j h1).1 with h2 | h2
  · exact (h j hj).1 h2
  · omega
set_option maxRecDepth 100000 in
set_option maxHeartbeats 4000000 in
theorem strip_seq (n Bn n₀ s h : Nat) (ws : List Nat) (hl : ws.length ≤ 4096) (hn0 : 0 < n₀) (w : World) (hst : St w s h ws) (hT : Tab w) (hs : s < n₀) (hh : h < n₀) (hnw : n₀ ≤ w.heap.size) (hBn : Bn < w.heap.size)
    (hc : w.cell? ⟨Bn, 0, none⟩ = some (.pointer (some ⟨s, 0, none⟩))) (hn : 3 ≤ n) :
    SeqY Fence.wide n Tryd.prog 83 #[.pointer (some ⟨Bn, 0, none⟩)] (fun y : Int => #[Value.int .i64 y]) n₀ (fun ys => ys = sl ws) (fun pre => pre <+: sl ws) (fun pre => pre <+: sl ws) w := by
  intro l J Jx W hW hJ hJx hY h0
  have hn1 : 1 ≤ n := by omega
  have hBc := Lib.hid ((hW.cell (p := ⟨Bn, 0, none⟩) hBn).trans hc)
  have hlt := hst.lt
  have hS := Lib.hid (hst.below hW hlt.1 hlt.2)
  have hTW := Lib.hid (hT.below hW hT.pos)
  obtain ⟨Wa, hWa⟩ : ∃ Wa, W.alloc (.cells #[.func (.yield l) #[] #[]] 70) = Wa := ⟨_, rfl⟩
  have hza : Wa.heap.size = W.heap.size + 1 := by rw [← hWa]; simp
  have hbW : Below W.heap.size W Wa := by rw [← hWa]; exact (Below.refl _ _).alloc (Nat.le_refl _) _
  have hnW : n₀ ≤ W.heap.size := Nat.le_trans hnw hW.size
  have hltB : Bn < W.heap.size := Nat.lt_of_lt_of_le hBn hW.size
  have hyc : Hid (Wa.heap[W.heap.size]? = some (.cells #[.func (.yield l) #[] #[]] 70 (0, 0))) := by rw [← hWa]; exact alloc_top _ _ rfl
  have hf1 : ∀ o, (W.alloc o).cell? ⟨Bn, 0, none⟩ = some (.pointer (some ⟨s, 0, none⟩)) := fun o => (World.cell?_alloc_lt W o ⟨Bn, 0, none⟩ hltB).trans hBc.out
  have hf2 : ∀ o, (W.alloc o).cell? ⟨s, 0, none⟩ = some (.slice (some ⟨h, 0, none⟩) ws.length ws.length) := fun o => (World.cell?_alloc_lt W o ⟨s, 0, none⟩ hS.out.lt.1).trans hS.out.head
  have hSa := Lib.hid (hS.out.below hbW hS.out.lt.1 hS.out.lt.2)
  have hTa := Lib.hid (hTW.out.below hbW hTW.out.pos)
  have hBWa := Lib.hid hbW
  have hJa : Hid (J [] (fun j => n₀ ≤ j ∧ j < Wa.heap.size ∧ ¬ (n₀ ≤ j ∧ j < W.heap.size)) Wa) := hJ _ _ _ _ _ h0 (by rw [← hWa]; exact but_alloc' _ _ _) (fun j hj => ⟨.inr (by omega), hj.2.1⟩)
  have hWaH := Lib.hid hWa
  clear hbW hWa hBc hS hTW hst hT hc h0
  refine callsIn_of_wp_marks Tryd.func83 rfl trivial ?_ rfl
  simp only [Tryd.ntmps83, List.size_toArray, List.length_cons, List.length_nil, Nat.reduceAdd, Nat.reduceSub, Array.replicate_succ, Array.replicate_zero, List.push_toArray, List.append_toArray, List.nil_append, List.cons_append]
  gi_wp2
  rw [hWaH.out]
  clear hf1 hf2
  obtain ⟨By, hBy⟩ : ∃ By, W.heap.size = By := ⟨_, rfl⟩
  rw [hBy] at hza hJa hyc hBWa hnW hltB ⊢
  have hIJ0 : IJ n₀ Wa J id (sl (ws.take 0)) (fun j => n₀ ≤ j ∧ j < By) Wa := ⟨fun j hj => ⟨hj.1, by omega⟩, Below.refl _ _, by
    have e : sl (ws.take 0) = [] := by simp [sl]
    rw [e]; exact hJa.out⟩
  have hIJ := Lib.hid hIJ0
  have hfin : Hid (∀ (Ds : List Nat) (xs : List Int) (Jz : List Int → (Nat → Prop) → World → Prop) (O : Nat → Prop) (W1 : World), Steps Jz → Ds.Nodup → (∀ D ∈ Ds, ¬ O D ∧ n₀ ≤ D ∧ W1.heap[D]? = some (.deferred (some []))) → Jz xs (fun j => n₀ ≤ j ∧ j < W1.heap.size ∧ ¬ O j) W1 →
      ∀ W', ButS W1 W' (· ∈ Ds) → Jz xs (fun j => n₀ ≤ j ∧ j < W1.heap.size ∧ ¬ O j) W') := fun Ds xs Jz O W1 hs _ hd hj W' hb => hs _ _ _ _ _ hj (hb.mono fun j hlt hj => ⟨(hd j hj).2.1, hlt, (hd j hj).1⟩) (fun j hj => ⟨.inl hj, Nat.lt_of_lt_of_le hj.2.1 hb.size⟩)
  clear hJa hIJ0 hBy hWaH
  refine wpIn_loop (fun a' Wr => ∃ (k : Nat) (i : Int) (u3 u4 u5 u14 u15 u16 u17 u18 u19 u20 u21 u22 u23 u24 u25 u26 u27 u28 : Value) (Ds : List Nat) (O : Nat → Prop), k ≤ ws.length ∧ i = (k : Int) ∧
      a' = { tmps := #[.func (.yield l) #[] #[], .pointer (some ⟨Bn, 0, none⟩), .pointer (some ⟨By, 0, none⟩), u3, u4, u5, .pointer (some ⟨s, 0, none⟩), .bool false, .pointer (some ⟨s, 0, none⟩), .pointer (some ⟨s, 0, none⟩), .pointer (some ⟨s, 0, none⟩),
        .slice (some ⟨h, 0, none⟩) ws.length ws.length, .int .i64 (ws.length : Int), .int .i64 i, u14, u15, u16, u17, u18, u19, u20, u21, u22, u23, u24, u25, u26, u27, u28], defers := Ds.map mark } ∧
      Hid (IJ n₀ Wa J id (sl (ws.take k)) O Wr) ∧ Hid (¬ O By ∧ Wr.heap[By]? = some (.cells #[.func (.yield l) #[] #[]] 70 (0, 0))) ∧ Hid (Ds.Nodup ∧ ∀ D ∈ Ds, ¬ O D ∧ n₀ ≤ D ∧ Wr.heap[D]? = some (.deferred (some []))))
    (fun a' _ => ws.length - (intOf (a'.tmps.getD 13 undef)).toNat) ?_ ?_
  · exact ⟨0, 0, undef, undef, undef, undef, undef, undef, undef, undef, undef, undef, undef, undef, undef, undef, undef, undef, undef, undef, [], _, by omega, rfl, rfl, hIJ, ⟨by omega, hyc.out⟩, ⟨List.nodup_nil, fun D hD => by cases hD⟩⟩
  · rintro a' Wr ⟨k, _, u3, u4, u5, u14, u15, u16, u17, u18, u19, u20, u21, u22, u23, u24, u25, u26, u27, u28, Ds, O, hk, rfl, rfl, hI, hYc, hD⟩
    clear hIJ hyc
    have hSr := Lib.hid (hSa.out.below hI.out.2.1 hs hh)
    have hTr := Lib.hid (hTa.out.below hI.out.2.1 hn0)
    have hzr : By < Wr.heap.size := (Array.getElem?_eq_some_iff.1 hYc.out.2).1
    have hnr : n₀ ≤ Wr.heap.size := by omega
    by_cases hlt : k < ws.length
    · have hT2 : decide (k < ws.length) = true := decide_eq_true hlt
      have hT3 : decide ((k : Int) < (ws.length : Int)) = true := decide_eq_true (by omega)
      have hcw := hSr.out.cell k hlt
      have hx := hSr.out.word k hlt
      have happ : Hid (sl (ws.take (k + 1)) = upTo ws k (M.bz ws[k])) := sl_word_app hlt
      generalize ws[k] = x at *
      gi_wp2_with (refine ⟨trivial, ?_⟩; gi_at_call 84; refine (callsIn_wide.2 (rising_any x _)).mono ?_; rintro e w' ⟨rfl, rfl⟩)
      obtain ⟨At, hAt⟩ : ∃ At, Wr.heap.size = At := ⟨_, rfl⟩
      obtain ⟨Wq, hWq⟩ : ∃ Wq, (Wr.alloc (.cells #[.int .i64 (k : Int)] 3)).alloc (.cells #[.int .u64 (x : Int)] 65) = Wq := ⟨_, rfl⟩
      have hzq : Wq.heap.size = At + 2 := by rw [← hWq, ← hAt]; simp
      have hbut : ButS Wr Wq (fun _ => False) := by rw [← hWq]; exact (but_alloc' _ _ _).trans (but_alloc' _ _ _)
      have hq1 : Wq.heap[At]? = some (.cells #[.int .i64 (k : Int)] 3 (0, 0)) := by rw [← hWq, Below.heap_alloc _ _ _ (by simp; omega)]; exact alloc_top _ _ hAt.symm
      have hq2 : Wq.cell? ⟨At + 1, 0, none⟩ = some (.int .u64 (x : Int)) := by
        have h1 : Wq.heap[At + 1]? = some (.cells #[.int .u64 (x : Int)] 65 (0, 0)) := by rw [← hWq]; exact alloc_top _ _ (by simp; omega)
        exact cell_of_row Wq (At + 1) 0 _ _ (0, 0) h1
      have hq3 : Wq.heap[By]? = some (.cells #[.func (.yield l) #[] #[]] 70 (0, 0)) := (hbut.block By (by omega) (fun h => h)).trans hYc.out.2
      have hqD : ∀ D ∈ Ds, D < Wr.heap.size ∧ Wq.heap[D]? = some (.deferred (some [])) := fun D hDs => by
        have h1 := (hD.out.2 D hDs).2.2
        have h2 := (Array.getElem?_eq_some_iff.1 h1).1
        exact ⟨h2, (hbut.block D h2 (fun h => h)).trans h1⟩
      have hJq : IJ n₀ Wq J (upTo ws k) [] O Wq := by
        refine ⟨fun j hj => ⟨(hI.out.1 j hj).1, by have := (hI.out.1 j hj).2; omega⟩, Below.refl _ _, ?_⟩
        rw [upTo_nil]
        exact hJ _ _ _ _ _ hI.out.2.2 (hbut.mono fun _ _ h => h.elim) (fun j hj => ⟨by
          by_cases h1 : j < Wr.heap.size
          · exact .inl ⟨hj.1, h1, hj.2.2⟩
          · right; omega, hj.2.1⟩)
      have hBq : Below n₀ Wa Wq := hI.out.2.1.trans (hbut.below hnr (fun _ h => h.elim))
      have hO0 : ∀ j, O j → j < Wq.heap.size := fun j hj => by have := (hI.out.1 j hj).2; omega
      obtain ⟨S, hS⟩ : ∃ S : Nat → Prop, S = fun j => j = By ∨ j = At ∨ j ∈ Ds := ⟨_, rfl⟩
      have hSlt : ∀ j, S j → j < Wq.heap.size := fun j hj => by
        rw [hS] at hj
        rcases hj with e | e | e
        · omega
        · omega
        · have := (hqD j e).1; omega
      have hSt : Stays S Wq O Wq := fun j hj => by
        rw [hS] at hj
        refine ⟨?_, rfl⟩
        rcases hj with e | e | e
        · rw [e]; exact hYc.out.1
        · intro h1; have := (hI.out.1 j h1).2; omega
        · exact (hD.out.2 j e).1
      have hTq : Tab Wq := hTa.out.below hBq hn0
      rw [hAt, hWq]
      have hSB : S By := by rw [hS]; exact .inl rfl
      have hSA : S At := by rw [hS]; exact .inr (.inl rfl)
      have hSD : ∀ D ∈ Ds, S D := fun D h => by rw [hS]; exact .inr (.inr h)
      have hnq : n₀ ≤ Wq.heap.size := by omega
      have hatn : n₀ ≤ At := by omega
      have hk9 : (k : Int) ≤ 4095 := by omega
      clear hWq hS hcw
      refine wpIn_rangeY (Q := _) rfl (by omega) (gf := 90) (lb := #[.pointer (some ⟨At + 1, 0, none⟩)]) rfl trivial (enters_of Tryd.func90 (by kernel_rfl) rfl)
        (encs := fun y : Int => #[Value.int .i64 y]) (n₀ := n₀) (S := fun ys => ys = M.bz x) (Sp := fun pre => pre <+: M.bz x) (T := fun pre => pre <+: M.bz x) (w0 := Wq)
        (rising_seq (n - 1) (by omega) (At + 1) n₀ hn0 x hx Wq (by omega) hTq hq2) hnq (Below.refl _ _) (fun _ => rfl)
        (fun pre O W => IJ n₀ Wq J (upTo ws k) pre O W ∧ Stays S Wq O W) (fun c pre O W => c = .ret ∧ IJ n₀ Wq Jx (upTo ws k) pre O W ∧ Stays S Wq O W)
        (fun pp a1 O W => a1 = { tmps := #[.func (.yield l) #[] #[], .pointer (some ⟨Bn, 0, none⟩), .pointer (some ⟨By, 0, none⟩), .pointer (some ⟨At, 0, none⟩), .int .u64 (x : Int), .int .i64 pp.2, .pointer (some ⟨s, 0, none⟩), .bool false, .pointer (some ⟨s, 0, none⟩), .pointer (some ⟨s, 0, none⟩), .pointer (some ⟨s, 0, none⟩),
          .slice (some ⟨h, 0, none⟩) ws.length ws.length, .int .i64 (ws.length : Int), .int .i64 (k : Int), .bool true, .int .i64 (k : Int), .pointer (some ⟨h, k, none⟩), .int .u64 (x : Int), .int .u64 (x : Int), .func (.func 90) #[] #[.pointer (some ⟨At + 1, 0, none⟩)], .int .i64 pp.2, u21, u22, u23, u24, u25, u26, u27, u28], defers := [] } ∧
          (pp.1 ++ [pp.2] <+: M.bz x ∧ IJ n₀ Wq J (upTo ws k) pp.1 O W ∧ Stays S Wq O W))
        ((IJ.abides _ hJ hnq hnq).and (Stays.abides hSlt)) (fun c => Abides.pure (fun _ => c = .ret) ((IJ.abides _ hJx hnq hnq).and (Stays.abides hSlt)))
        (fun a' pp O W W' R hi hw hR => ⟨hi.1, hi.2.1, ((IJ.abides (upTo ws k) hJ hnq hnq).and (Stays.abides hSlt)) pp.1 O W W' R hi.2.2 hw hR⟩)
        (fun pre O W hi j hj => (hi.1.1 j hj).1) O hO0 ⟨hJq, hSt⟩ ?assign ?body ?done ?stop
      case assign =>
        intro l2 pre y O1 W1 hi hT1
        gi_wp2
        exact ⟨O1, ⟨ButS.refl _ _, fun j hj => ⟨.inl hj, (hi.1.1 j hj).2⟩⟩, by first | trivial | rfl, hT1, hi⟩
      case body =>
        rintro l2 pre y O1 a1 W1 ⟨rfl, hT1, hi, hst1⟩
        have hT1 : pre ++ [y] <+: M.bz x := hT1
        have hyb := M.mem_bz.1 (prefix_snoc hT1)
        have hy0 : 0 ≤ y := hyb.1
        have hy1 : y < 64 := hyb.2.1
        have hg1 : W1.cell? ⟨By, 0, none⟩ = some (.func (.yield l) #[] #[]) := cell_of_row W1 By 0 _ _ (0, 0) ((hst1 By hSB).2.trans hq3)
        have hg2 : W1.cell? ⟨At, 0, none⟩ = some (.int .i64 (k : Int)) := cell_of_row W1 At 0 _ _ (0, 0) ((hst1 At hSA).2.trans hq1)
        have hpr : upTo ws k pre ++ [(k : Int) * 64 + y] <+: sl ws := by rw [upTo_snoc]; exact upTo_prefix happ.out hT1
        obtain ⟨fn, tm, asg, bd, hy, hR⟩ := hY (upTo ws k pre) ((k : Int) * 64 + y) _ W1 hi.2.2 hpr
        have HI := Lib.hid hi
        have HST := Lib.hid hst1
        clear hi hst1 hpr hT1 hyb
        gi_wp2
        refine ⟨fun h => (by cases h), (roundIn_any hR).mono ?_⟩
        rintro e W2 (⟨rfl, hj2, hb2, hs2⟩ | ⟨rfl, hj2, hb2, hs2⟩)
        · obtain ⟨O2, ho2, hlo2, hj3⟩ := yield_own hJ hj2 hb2 hs2
          rw [upTo_snoc] at hj3
          have HF : Hid (IJ n₀ Wq J (upTo ws k) (pre ++ [y]) O2 W2 ∧ Stays S Wq O2 W2) := ⟨⟨hlo2, HI.out.2.1.trans hb2, hj3⟩, HST.out.own hSlt ho2⟩
          have HO := Lib.hid ho2
          clear hj2 hb2 hs2 ho2 hlo2 hj3
          gi_wp2
          exact ⟨O2, HO.out, HF.out⟩
        · obtain ⟨O2, ho2, hlo2, hj3⟩ := yield_own hJx hj2 hb2 hs2
          rw [upTo_snoc] at hj3
          have HF : Hid (IJ n₀ Wq Jx (upTo ws k) (pre ++ [y]) O2 W2 ∧ Stays S Wq O2 W2) := ⟨⟨hlo2, HI.out.2.1.trans hb2, hj3⟩, HST.out.own hSlt ho2⟩
          have HO := Lib.hid ho2
          clear hj2 hb2 hs2 ho2 hlo2 hj3
          gi_wp2
          exact ⟨O2, HO.out, rfl, HF.out⟩
      case done =>
        rintro D xs O1 W1 hDw hOD rfl ⟨hi, hst1⟩ hK
        have hnd : (D :: Ds).Nodup := List.nodup_cons.2 ⟨fun h => by have := (hqD D h).1; omega, hD.out.1⟩
        have hall : ∀ E ∈ D :: Ds, ¬ O1 E ∧ n₀ ≤ E ∧ W1.heap[E]? = some (.deferred (some [])) := fun E hE => by
          rcases List.mem_cons.1 hE with e | e
          · subst e; exact ⟨hOD, by omega, hK⟩
          · exact ⟨(hst1 E (hSD E e)).1, (hD.out.2 E e).2.1, (hst1 E (hSD E e)).2.trans (hqD E e).2⟩
        have HI : Hid (IJ n₀ Wa J id (sl (ws.take (k + 1))) O1 W1) := ⟨hi.1, hBq.trans hi.2.1, by have h3 := hi.2.2; rw [← happ.out] at h3; exact h3⟩
        have HY2 : Hid (¬ O1 By ∧ W1.heap[By]? = some (.cells #[.func (.yield l) #[] #[]] 70 (0, 0))) := ⟨(hst1 By hSB).1, (hst1 By hSB).2.trans hq3⟩
        have HD2 : Hid ((D :: Ds).Nodup ∧ ∀ E ∈ D :: Ds, ¬ O1 E ∧ n₀ ≤ E ∧ W1.heap[E]? = some (.deferred (some []))) := ⟨hnd, hall⟩
        clear hi hst1 hK hnd hall
        gi_wp2
        exact ⟨⟨k + 1, (k : Int) + 1, _, _, _, _, _, _, _, _, _, _, _, _, _, _, _, _, _, _, D :: Ds, O1, by omega, by omega, rfl, HI, HY2, HD2⟩, by simp [intOf]; omega⟩
      case stop =>
        rintro D c pre O1 W1 hDw hOD hpre ⟨rfl, hi, hst1⟩ hK
        have hnd : (D :: Ds).Nodup := List.nodup_cons.2 ⟨fun h => by have := (hqD D h).1; omega, hD.out.1⟩
        have hall : ∀ E ∈ D :: Ds, ¬ O1 E ∧ n₀ ≤ E ∧ W1.heap[E]? = some (.deferred (some [])) := fun E hE => by
          rcases List.mem_cons.1 hE with e | e
          · subst e; exact ⟨hOD, by omega, hK⟩
          · exact ⟨(hst1 E (hSD E e)).1, (hD.out.2 E e).2.1, (hst1 E (hSD E e)).2.trans (hqD E e).2⟩
        have HP := Lib.hid (upTo_prefix happ.out hpre)
        have HL := Lib.hid (fun W2 hb => hfin.out (D :: Ds) _ Jx O1 W1 hJx hnd hall hi.2.2 W2 hb)
        have HN := Lib.hid hnd
        have HA := Lib.hid hall
        clear hi hst1 hK hnd hall
        gi_wp2
        exact leaves_marks (D :: Ds) W1 HN.out (fun E hE => (HA.out E hE).2.2) (fun W2 hb => ⟨_, results_none rfl _ _ _, ⟨_, rfl⟩, .inr ⟨_, _, HP.out, HL.out W2 hb⟩⟩)
    · obtain rfl : k = ws.length := by omega
      have hT2 : decide (ws.length < ws.length) = false := decide_eq_false hlt
      have hT3 : decide ((ws.length : Int) < (ws.length : Int)) = false := decide_eq_false (by omega)
      have hj := hI.out.2.2
      have et : sl (ws.take ws.length) = sl ws := by rw [List.take_length]
      rw [show id (sl (ws.take ws.length)) = sl ws from et] at hj
      have HL := Lib.hid (fun W2 hb => hfin.out Ds _ J O Wr hJ hD.out.1 hD.out.2 hj W2 hb)
      clear hj et
      gi_wp2
      exact leaves_marks Ds Wr hD.out.1 (fun E hE => (hD.out.2 E hE).2.2) (fun W2 hb => ⟨_, results_none rfl _ _ _, ⟨_, rfl⟩, .inl ⟨_, _, rfl, HL.out W2 hb⟩⟩)
end Go.Proofs.YtbbnamdlfnonoaaDoor
