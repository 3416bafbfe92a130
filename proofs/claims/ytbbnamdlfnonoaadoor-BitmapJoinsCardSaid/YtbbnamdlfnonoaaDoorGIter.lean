
/- An iterator that goes over another one: what is kept from round to round; the bits of a word, one by one. -/
import Derived.Test.YtbbnamdlfnonoaaDoorRangeY
import Derived.Test.YtbbnamdlfnonoaaDoorIter
namespace Go.Proofs.YtbbnamdlfnonoaaDoor
open Go.RowKit Go.Shelf
attribute [local go_sem] Oper.semAt_some
/-- What an inner loop keeps of the outer one's word J: f of what the inner one has told has come. -/
def IJ {α β : Type} (n₀ : Nat) (w0 : World) (J : List β → (Nat → Prop) → World → Prop) (f : List α → List β) (pre : List α) (O : Nat → Prop) (W : World) : Prop :=
  (∀ j, O j → n₀ ≤ j ∧ j < W.heap.size) ∧ Below n₀ w0 W ∧ J (f pre) (fun j => n₀ ≤ j ∧ j < W.heap.size ∧ ¬ O j) W
theorem IJ.abides {α β : Type} {n₀ B : Nat} {w0 : World} {J : List β → (Nat → Prop) → World → Prop} (f : List α → List β) (hJ : Steps J) (hn : n₀ ≤ B) (h0 : n₀ ≤ w0.heap.size) : Abides B (IJ n₀ w0 J f) := by
  intro s O W W' R ⟨h1, h2, h3⟩ hw hR
  refine ⟨fun j hj => ⟨(h1 j hj).1, Nat.lt_of_lt_of_le (h1 j hj).2 hw.size⟩, h2.trans (hw.below (Nat.le_trans h0 h2.size) (fun j hj => Nat.le_trans hn (hR j hj).2)), ?_⟩
  refine hJ _ _ _ _ _ h3 (hw.mono fun j hlt hj => ⟨Nat.le_trans hn (hR j hj).2, hlt, (hR j hj).1⟩) (fun j hj => ⟨?_, hj.2.1⟩)
  by_cases hlt : j < W.heap.size
  · exact .inl ⟨hj.1, hlt, hj.2.2⟩
  · exact .inr (by omega)
/-- The outer round is over: what it has turned is the body's. -/
theorem yield_own {β : Type} {n₀ : Nat} {J : List β → (Nat → Prop) → World → Prop} {xs : List β} {O : Nat → Prop} {W1 W' : World} (hJ : Steps J)
    (hj : J xs (fun j => n₀ ≤ j ∧ j < W1.heap.size ∧ ¬ O j) W') (hb : Below n₀ W1 W') (hs : ∀ j, (n₀ ≤ j ∧ j < W1.heap.size ∧ ¬ O j) → W'.heap[j]? = W1.heap[j]?) :
    ∃ O', OwnStep O O' W1 W' ∧ (∀ j, O' j → n₀ ≤ j ∧ j < W'.heap.size) ∧ J xs (fun j => n₀ ≤ j ∧ j < W'.heap.size ∧ ¬ O' j) W' := by
  refine ⟨fun j => n₀ ≤ j ∧ j < W'.heap.size ∧ ¬ (n₀ ≤ j ∧ j < W1.heap.size ∧ ¬ O j), ⟨⟨hb.os, hb.tape, hb.output, hb.size, fun j hlt ho => ?_⟩, fun j hj => ⟨?_, hj.2.1⟩⟩, fun j hj => ⟨hj.1, hj.2.1⟩, ?_⟩
  · rcases Nat.lt_or_ge j n₀ with h | h
    · exact hb.block j h
    · exact hs j ⟨h, hlt, ho⟩
  · by_cases hlt : j < W1.heap.size
    · left
      exact Classical.byContradiction fun ho => hj.2.2 ⟨hj.1, hlt, ho⟩
    · right; omega
  · refine hJ _ _ _ _ _ hj (ButS.refl _ _) (fun j hj => ⟨.inl ?_, hj.2.1⟩)
    exact Classical.byContradiction fun h => hj.2.2 ⟨hj.1, hj.2.1, h⟩
theorem prefix_snoc {α : Type} {pre l : List α} {x : α} (h : pre ++ [x] <+: l) : x ∈ l := by
  obtain ⟨r, rfl⟩ := h
  simp
theorem SeqY.inRound {α : Type} {F : Fence} {n : Nat} {P : Program} {g : Nat} {lb : Array Value} {encs : α → Array Value} {n₀ : Nat} {S Sp T : List α → Prop} {w : World} (l : Nat)
    (h : SeqY F n P g lb encs n₀ S Sp T w) : SeqY (F.inRound l) n P g lb encs n₀ S Sp T w := h
set_option maxRecDepth 100000 in
set_option maxHeartbeats 1000000 in
theorem risingY (n : Nat) (hn : 1 ≤ n) (l Bn n₀ : Nat) (h0n : 0 < n₀) (x : Nat) (hx : x < 18446744073709551616) (J Jx : List Int → World → Prop)
    (hY : ∀ pre y W, J pre W → (pre ++ [y]) <+: M.bz x → YieldAt Fence.wide (n - 1) Tryd.prog l #[.int .i64 y] W fun e W' =>
      (e = .returned (.bool true) ∧ J (pre ++ [y]) W' ∧ Below n₀ W W') ∨ (e = .returned (.bool false) ∧ Jx (pre ++ [y]) W'))
    (W : World) (hT : Tab W) (hBn : W.cell? ⟨Bn, 0, none⟩ = some (.int .u64 (x : Int))) (h0 : J [] W) :
    CallsIn Fence.wide n Tryd.prog 90 #[.func (.yield l) #[] #[], .pointer (some ⟨Bn, 0, none⟩)] W fun e W' => (∃ v, e = .returned v) ∧
      ((∃ ys, ys = M.bz x ∧ J ys W') ∨ (∃ pre, pre <+: M.bz x ∧ Jx pre W')) := by
  refine callsIn_of_wp Tryd.func90 rfl trivial ?_ rfl
  simp only [Tryd.ntmps90, List.size_toArray, List.length_cons, List.length_nil, Nat.reduceAdd, Nat.reduceSub, Array.replicate_succ, Array.replicate_zero, List.push_toArray, List.append_toArray, List.nil_append, List.cons_append]
  gi_wp2
  gi_loopw [3] (fun q wr => ∃ j : Nat, j ≤ (M.bz x).length ∧ q = .int .u64 (M.less j x : Nat) ∧ Hid (J ((M.bz x).take j) wr) ∧ Tab wr) (fun q _ => (intOf q).toNat)
  case atStart => exact ⟨0, by omega, rfl, h0, hT⟩
  case round =>
    obtain ⟨j, hj, rfl, hJ, hTr⟩ := hrel
    have hlt := M.less_lt j x hx
    by_cases hjl : j < (M.bz x).length
    · have hlow := low_at hx hjl
      have hne := less_ne hx hjl
      have hs := Lib.hid (M.less_succ j x)
      have hpl := pred_lt hne
      have htk := Lib.hid (show (M.bz x).take (j + 1) = (M.bz x).take j ++ [(M.bz x)[j]] by rw [List.take_succ_eq_append_getElem hjl])
      obtain ⟨fn, tmps, assign, body, hy, hR⟩ := hY _ (M.bz x)[j] wr hJ.out (by rw [← htk.out]; exact List.take_prefix _ _)
      generalize (M.bz x)[j] = y at *
      generalize M.less j x = r at *
      have hr0 : ((r : Int) == 0) = false := by simp; omega
      have hr1 : ((r : Int) != 0) = true := by simp; omega
      gi_wp2_with (refine ⟨trivial, ?_⟩; gi_at_call 86; refine (callsIn_wide.2 (bit_low r hlt _ hTr)).mono ?_; rintro e w' ⟨rfl, rfl⟩)
      refine hR.mono ?_
      rintro e W3 (⟨rfl, hJ3, hk3⟩ | ⟨rfl, hJx3⟩)
      · have hT3 := hTr.below hk3 h0n
        have hJ4 : Hid (J ((M.bz x).take (j + 1)) W3) := by rw [htk.out]; exact hJ3
        gi_wp2_with (refine ⟨trivial, ?_⟩; gi_at_call 89; refine (callsIn_wide.2 (bit_less r hlt _)).mono ?_; rintro e w' ⟨rfl, rfl⟩)
        go_roundw
        case rel => exact ⟨j + 1, by omega, by rw [hs.out], hJ4, hT3⟩
        case measure => simp [intOf]; omega
      · have hJ4 : Hid (Jx ((M.bz x).take (j + 1)) W3) := by rw [htk.out]; exact hJx3
        gi_wp2
        refine bodyPost_ret (results_none rfl _ _ _) rfl ?_
        exact ⟨⟨_, rfl⟩, .inr ⟨_, List.take_prefix _ _, hJ4.out⟩⟩
    · have he := less_end hx hjl
      rw [he] at hlt
      rw [he]
      have hJ4 : Hid (J (M.bz x) wr) := by
        have := hJ.out
        rw [List.take_of_length_le (by omega)] at this
        exact this
      gi_wp2
      go_end0
      exact ⟨⟨_, rfl⟩, .inl ⟨_, rfl, hJ4.out⟩⟩

theorem rising_seq (n : Nat) (hn : 1 ≤ n) (Bn n₀ : Nat) (h0n : 0 < n₀) (x : Nat) (hx : x < 18446744073709551616) (w : World) (hBn : Bn < w.heap.size) (hT : Tab w)
    (hc : w.cell? ⟨Bn, 0, none⟩ = some (.int .u64 (x : Int))) :
    SeqY Fence.wide n Tryd.prog 90 #[.pointer (some ⟨Bn, 0, none⟩)] (fun y : Int => #[Value.int .i64 y]) n₀ (fun ys => ys = M.bz x) (fun pre => pre <+: M.bz x) (fun pre => pre <+: M.bz x) w := by
  intro l J Jx W hW hJ hJx hY h0
  refine (risingY n hn l Bn n₀ h0n x hx (fun pre W => J pre (fun _ => False) W) (fun pre W => Jx pre (fun _ => False) W) (fun pre y W1 hj hp => ?_) W (hT.below hW hT.pos) ((hW.cell (p := ⟨Bn, 0, none⟩) hBn).trans hc) h0).mono ?_
  · refine (hY pre y (fun _ => False) W1 hj hp).mono ?_
    rintro e W' (⟨h1, h2, h3, _⟩ | ⟨h1, h2, _⟩)
    · exact .inl ⟨h1, h2, h3⟩
    · exact .inr ⟨h1, h2⟩
  · rintro e W' ⟨h1, ⟨ys, h2, h3⟩ | ⟨pre, h2, h3⟩⟩
    · exact ⟨h1, .inl ⟨ys, _, h2, h3⟩⟩
    · exact ⟨h1, .inr ⟨pre, _, h2, h3⟩⟩
end Go.Proofs.YtbbnamdlfnonoaaDoor
