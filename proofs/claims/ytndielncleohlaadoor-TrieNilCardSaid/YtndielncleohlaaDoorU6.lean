
/- A node with a key more, whatever it has already; the text walked. -/
import Derived.Test.YtndielncleohlaaDoorU5
namespace Go.Proofs.YtndielncleohlaaDoor
set_option maxRecDepth 40000
open Go.RowKit
theorem top_two (w : World) (o o' : Obj) : ((w.alloc o).alloc o').heap[w.heap.size + 1]? = some o' := by
  have := K.alloc_top (w.alloc o) o'
  rw [show (w.alloc o).heap.size = w.heap.size + 1 by simp] at this
  exact this
set_option maxHeartbeats 4000000 in
theorem nd_with_keep (w : World) (W : Nat) (A : Option Addr) (ch : List Nat) (c ks le gr k l pc : Nat) (hW : W < 18446744073709551616) (hk : k < 18446744073709551616) (hl : l ≤ 10) (hd : ¬ (l < 10 ∧ T.dig l k ∉ M.bl W)) (hown : w.ownsRow 0 3 1 (.slice A ch.length c) ch.length (iw ch)) (hks : ks < 1000000000) :
    Calls Tryd.prog 72 #[ndv W A ch.length c ks le gr, .int .u64 (k : Int), .int .i64 (l : Int), .int .i64 (pc : Int)] w (NdP w A (W ||| M.one (T.dig l k)) (ks + 1) (min le k) (max gr k) ch) := by
  have hdl := T.dig_lt l k
  have hdg := fun V => Lib.hid (t_digit V k l hk hl)
  have hset := fun V => Lib.hid (bit_set W hW ((T.dig l k : Nat) : Int) V)
  have q1 : IntKind.i64.wrap ((ks : Int) + 1) = (ks : Int) + 1 := IntWalk.i64_in _ (by omega)
  have e1 : ((min le k : Nat) : Int) = min (le : Int) (k : Int) := by omega
  have e2 : ((max gr k : Nat) : Int) = max (gr : Int) (k : Int) := by omega
  have HOWN := Lib.hid hown
  have hfin : ∀ (e : Ending) (X : World), e = .returned (ndv (W ||| M.one (T.dig l k)) A ch.length c (ks + 1) (min le k) (max gr k)) → Below w.heap.size w X → NdP w A (W ||| M.one (T.dig l k)) (ks + 1) (min le k) (max gr k) ch e X := fun e X he hb =>
    ⟨A, c, he, (K.Chg.of_below (O := fun _ => False) hb).own HOWN.out (fun _ _ h => h), K.Chg.of_below hb, fun j hj => .inl hj⟩
  have HF := Lib.hid hfin
  clear hown hfin
  by_cases h10 : l < 10
  · have hdm : T.dig l k ∈ M.bl W := Classical.not_not.1 (fun h => hd ⟨h10, h⟩)
    have hget := fun V => Lib.hid (bit_get W hW ((T.dig l k : Nat) : Int) V)
    rw [T.has_bl W _ hdl, decide_eq_true hdm] at hget
    have d1 : decide ((l : Int) < 10) = true := decide_eq_true (by omega)
    have d2 : decide (l < 10) = true := decide_eq_true h10
    clear hd hdm
    generalize W ||| M.one (T.dig l k) = W2 at *
    generalize T.dig l k = d at *
    go_enter Tryd.func72, Tryd.ntmps72
    go_wp2_with (first
      | (go_at_call 64; (with_reducible refine (hdg _).out.mono ?_); rintro e w' ⟨rfl, rfl⟩)
      | (go_at_call 68; (with_reducible refine (hget _).out.mono ?_); rintro e w' ⟨rfl, rfl⟩)
      | (go_at_call 90; (with_reducible refine (hset _).out.mono ?_); rintro e w' ⟨rfl, rfl⟩))
    refine bodyPost_ret (results_cell_row rfl _ _ (w.heap.size + 1) _ _ _ _ rfl (top_two w _ _) Tryd.underlying72 (by kernel_rfl) (by kernel_rfl)) rfl ?_
    exact HF.out _ _ (by show _ = Ending.returned (Value.agg #[_, _, _, .int .u64 ((min le k : Nat) : Int), .int .u64 ((max gr k : Nat) : Int)]); rw [e1, e2]; rfl) (((Below.refl _ w).alloc (Nat.le_refl _) _).alloc (by simp) _)
  · have h10' : l = 10 := by omega
    subst h10'
    clear hd
    generalize W ||| M.one (T.dig 10 k) = W2 at *
    generalize T.dig 10 k = d at *
    have hdg : ∀ V, Hid (Calls Tryd.prog 64 #[.int .u64 (k : Int), .int .i64 10] V fun e w' => e = .returned (.int .i64 (d : Int)) ∧ V = w') := hdg
    show Calls _ _ #[_, _, .int .i64 10, _] _ _
    go_enter Tryd.func72, Tryd.ntmps72
    go_wp2_with (first
      | (go_at_call 64; (with_reducible refine (hdg _).out.mono ?_); rintro e w' ⟨rfl, rfl⟩)
      | (go_at_call 90; (with_reducible refine (hset _).out.mono ?_); rintro e w' ⟨rfl, rfl⟩))
    refine bodyPost_ret (results_cell_row rfl _ _ (w.heap.size + 1) _ _ _ _ rfl (top_two w _ _) Tryd.underlying72 (by kernel_rfl) (by kernel_rfl)) rfl ?_
    exact HF.out _ _ (by show _ = Ending.returned (Value.agg #[_, _, _, .int .u64 ((min le k : Nat) : Int), .int .u64 ((max gr k : Nat) : Int)]); rw [e1, e2]; rfl) (((Below.refl _ w).alloc (Nat.le_refl _) _).alloc (by simp) _)
theorem nd_with (w : World) (W : Nat) (A : Option Addr) (ch : List Nat) (c ks le gr k l pc : Nat) (hW : W < 18446744073709551616) (hk : k < 18446744073709551616) (hl : l ≤ 10) (hown : w.ownsRow 0 3 1 (.slice A ch.length c) ch.length (iw ch)) (hr : l < 10 → T.dig l k ∉ M.bl W → K.fi (M.bl W) (T.dig l k) ≤ ch.length) (hcl : ch.length ≤ 64) (hks : ks < 1000000000) :
    Calls Tryd.prog 72 #[ndv W A ch.length c ks le gr, .int .u64 (k : Int), .int .i64 (l : Int), .int .i64 (pc : Int)] w (NdP w A (W ||| M.one (T.dig l k)) (ks + 1) (min le k) (max gr k) (if l < 10 ∧ T.dig l k ∉ M.bl W then ch.take (K.fi (M.bl W) (T.dig l k)) ++ pc :: ch.drop (K.fi (M.bl W) (T.dig l k)) else ch)) := by
  by_cases h : l < 10 ∧ T.dig l k ∉ M.bl W
  · rw [if_pos h]
    exact nd_with_ins w W A ch c ks le gr k l pc hW hk h.1 h.2 hown (hr h.1 h.2) hcl hks
  · rw [if_neg h]
    exact nd_with_keep w W A ch c ks le gr k l pc hW hk hl h hown hks
/-- A new node, of one key. -/
theorem nd_fresh (w : World) (k l pc : Nat) (hk : k < 18446744073709551616) (hl : l ≤ 10) :
    Calls Tryd.prog 72 #[.agg #[.int .u64 0, .slice none 0 0, .int .i64 0, .int .u64 (k : Int), .int .u64 (k : Int)], .int .u64 (k : Int), .int .i64 (l : Int), .int .i64 (pc : Int)] w (NdP w none (0 ||| M.one (T.dig l k)) (0 + 1) (min k k) (max k k) (if l < 10 then [pc] else [])) := by
  have h := nd_with w 0 none [] 0 0 k k k l pc (by decide) hk hl (World.ownsRow_nil _ _ _ _) (fun _ _ => by simp [K.fi, M.bl_zero]) (by simp) (by omega)
  have e : (if l < 10 ∧ T.dig l k ∉ M.bl 0 then ([] : List Nat).take (K.fi (M.bl 0) (T.dig l k)) ++ pc :: ([] : List Nat).drop (K.fi (M.bl 0) (T.dig l k)) else []) = if l < 10 then [pc] else [] := by
    rw [M.bl_zero]
    by_cases h : l < 10 <;> simp [h]
  rw [e] at h
  exact h
end Go.Proofs.YtndielncleohlaaDoor
