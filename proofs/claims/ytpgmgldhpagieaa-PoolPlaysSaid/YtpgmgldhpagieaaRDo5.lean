
/- The reference takes a new place; the text walked. -/
import Derived.Test.YtpgmgldhpagieaaRDo4
import Derived.Deep.RegionHeld3
import Derived.Test.YtpgmgldhpagieaaLate
namespace Go.Proofs.Ytpgmgldhpagieaa
open Go.RowKit
theorem but_drew {w w' : World} {S : Nat → Prop} (h : ButS w w' S) : ButS w w'.drew S := h.drewN 1
theorem reads_one {X : World} {b : Nat} {v : Value} {T : TypeId} (h : X.heap[b]? = some (.cells #[v] T (0, 0))) : Reads X (b + 1) 1 (some ⟨b, 0, none⟩) 1 [v] := by
  refine ⟨rfl, fun _ => ⟨_, rfl, Nat.lt_succ_self b, fun j u hu => ?_⟩⟩
  match j, hu with
  | 0, hu =>
    simp at hu; subst hu
    exact cell_of_row X b 0 _ _ (0, 0) h
theorem u64_info : (Try.prog.info? 31).map (fun i => (i.zero, i.size, i.bytes)) = some (some (.int .u64 0), 1, 8) := by kernel_rfl
theorem bool_info : (Try.prog.info? 4).map (fun i => (i.zero, i.size, i.bytes)) = some (some (.bool false), 1, 1) := by kernel_rfl
section
variable {w W : World} {B R lim r cv cl cf g : Nat} {Av Al Af : Option Addr} {ns : List (Nat × Bool)} {fs : List Nat}
/-- One place more, in whatever blocks. -/
theorem rf_two {w6 : World} {A1 A2 : Option Addr} {c1 c2 V : Nat} (a : Rf W B R lim r Av cv Al cl Af cf ns fs) (b : ButS W w6 (fun j => Av.map (·.block) = some j ∨ Al.map (·.block) = some j))
    (h1 : w6.ownsRow B 31 1 (.slice A1 (ns.length + 1) c1) (ns.length + 1) (vv ns ++ [.int .u64 (V : Int)])) (h2 : w6.ownsRow B 4 1 (.slice A2 (ns.length + 1) c2) (ns.length + 1) (lbv ns ++ [.bool true]))
    (k1 : ∀ j, A1.map (·.block) = some j → Av.map (·.block) = some j ∨ W.heap.size ≤ j) (k2 : ∀ j, A2.map (·.block) = some j → Al.map (·.block) = some j ∨ W.heap.size ≤ j) (k12 : Apart A1 A2) (hn : ns.length + 1 ≤ 2097152) :
    RStep W B R lim r Av Al Af (ns ++ [(V, true)]) fs ((w6.setCell ⟨R, 0, none⟩ (.slice A1 (ns.length + 1) c1)).setCell ⟨R, 1, none⟩ (.slice A2 (ns.length + 1) c2)) ∧
    RStep W B R lim r Av Al Af (ns ++ [(V, true)]) fs ((w6.setCell ⟨R, 1, none⟩ (.slice A2 (ns.length + 1) c2)).setCell ⟨R, 0, none⟩ (.slice A1 (ns.length + 1) c1)) := by
  have mapB : ∀ {A : Option Addr} {x : Addr}, A = some x → A.map (·.block) = some x.block := fun e => by rw [e]; rfl
  have nR : ¬ (Av.map (·.block) = some R ∨ Al.map (·.block) = some R) := by
    rintro (h | h)
    · cases Av with
      | none => simp at h
      | some x => simp at h; exact a.ov x rfl h
    · cases Al with
      | none => simp at h
      | some x => simp at h; exact a.ol x rfl h
  have hrow := (b.block R a.lt nR).trans a.row
  have hlt := a.lt
  have o1 : Off A1 R := fun x e hx => by
    rcases k1 _ (mapB e) with h | h
    · exact nR (.inl (hx ▸ h))
    · omega
  have o2 : Off A2 R := fun x e hx => by
    rcases k2 _ (mapB e) with h | h
    · exact nR (.inr (hx ▸ h))
    · omega
  have hF : w6.ownsRow B 3 1 (.slice Af fs.length cf) fs.length (iv fs) := b.own a.freed (fun k hk e => by
    have hk' := own_block hk
    cases Af with
    | none => simp at hk'
    | some y =>
      simp at hk'
      rcases e with e | e
      · cases Av with
        | none => simp at e
        | some x => simp at e; exact a.vf x y rfl rfl (by omega)
      · cases Al with
        | none => simp at e
        | some x => simp at e; exact a.lf x y rfl rfl (by omega))
  have hFl : ∀ y, Af = some y → y.block < W.heap.size := fun y e => a.freed.lt _ (block_own (mapB e)) |>.2
  have f1 : Apart A1 Af := fun x y e e' hh => by
    rcases k1 _ (mapB e) with h | h
    · cases Av with
      | none => simp at h
      | some z => simp at h; exact a.vf z y rfl e' (h.trans hh)
    · have := hFl y e'; omega
  have f2 : Apart A2 Af := fun x y e e' hh => by
    rcases k2 _ (mapB e) with h | h
    · cases Al with
      | none => simp at h
      | some z => simp at h; exact a.lf z y rfl e' (h.trans hh)
    · have := hFl y e'; omega
  have el : (ns ++ [(V, true)]).length = ns.length + 1 := by simp
  have ev : vv (ns ++ [(V, true)]) = vv ns ++ [.int .u64 (V : Int)] := by simp [vv]
  have eb : lbv (ns ++ [(V, true)]) = lbv ns ++ [.bool true] := by simp [lbv]
  have bo : ∀ {A : Option Addr} {n c : Nat}, Off A R → ∀ k, (Value.slice A n c).ownBlock = some k → ¬ (k = R) := fun h k hk e => by
    have := own_block hk
    subst e
    rename_i A n c
    cases A with
    | none => simp at this
    | some x => simp at this; exact h x rfl this
  have mk : ∀ w7, ButS w6 w7 (· = R) → w7.heap[R]? = some (.cells #[.slice A1 (ns.length + 1) c1, .slice A2 (ns.length + 1) c2, .slice Af fs.length cf, .int .i64 (lim : Int), .int .i64 (r : Int)] 37 (0, 0)) → RStep W B R lim r Av Al Af (ns ++ [(V, true)]) fs w7 := by
    intro w7 hb hr
    refine ⟨A1, c1, A2, c2, Af, cf, ⟨by rw [el]; exact hr, by rw [el, ev]; exact hb.own h1 (bo o1), by rw [el, eb]; exact hb.own h2 (bo o2), hb.own hF (bo a.oF), a.base, o1, o2, a.oF, k12, f1, f2, fun i hi => by rw [el]; have := a.inr i hi; omega, by rw [el]; exact hn, by rw [el]; have := a.fs_le; omega⟩, ?_, ?_⟩
    · exact (b.mono (fun j _ h => by rcases h with h | h; exact .inr (.inl h); exact .inr (.inr (.inl h)))).trans (hb.mono (fun j _ h => .inl h))
    · rintro j (h | h | h | h)
      · exact .inl (.inl h)
      · rcases k1 j h with h | h
        · exact .inl (.inr (.inl h))
        · exact .inr h
      · rcases k2 j h with h | h
        · exact .inl (.inr (.inr (.inl h)))
        · exact .inr h
      · exact .inl (.inr (.inr (.inr h)))
  refine ⟨mk _ ((but_set w6 R 0 _ (· = R) rfl).trans (but_set _ R 1 _ (· = R) rfl)) ?_, mk _ ((but_set w6 R 1 _ (· = R) rfl).trans (but_set _ R 0 _ (· = R) rfl)) ?_⟩
  · have := set_heap (set_heap hrow 0 (.slice A1 (ns.length + 1) c1)) 1 (.slice A2 (ns.length + 1) c2)
    simpa using this
  · have := set_heap (set_heap hrow 1 (.slice A2 (ns.length + 1) c2)) 0 (.slice A1 (ns.length + 1) c1)
    simpa using this
theorem rstep_then {w' : World} {ns' : List (Nat × Bool)} {fs' : List Nat} {r' : Nat} (b : ButS w W (RB R Av Al Af)) (h : RStep W B R lim r' Av Al Af ns' fs' w') (N : Nat) : RStep w B R lim r' Av Al Af ns' fs' (w'.drewN N) := by
  obtain ⟨Av', cv', Al', cl', Af', cf', hr, hb, hin⟩ := h
  exact ⟨Av', cv', Al', cl', Af', cf', hr.drew N, (b.trans hb).drewN N, fun j hj => by
    rcases hin j hj with h | h
    · exact .inl h
    · right; have := b.size; omega⟩
theorem rstep_then0 {w' : World} {ns' : List (Nat × Bool)} {fs' : List Nat} {r' : Nat} (b : ButS w W (RB R Av Al Af)) (h : RStep W B R lim r' Av Al Af ns' fs' w') : RStep w B R lim r' Av Al Af ns' fs' w' := by
  obtain ⟨Av', cv', Al', cl', Af', cf', hr, hb, hin⟩ := h
  exact ⟨Av', cv', Al', cl', Af', cf', hr, b.trans hb, fun j hj => by
    rcases hin j hj with h | h
    · exact .inl h
    · right; have := b.size; omega⟩
theorem fin_two {X wV Y wL : World} {A1 A2 : Option Addr} {c1 c2 V n : Nat} (a : Rf W B R lim r Av cv Al cl Af cf ns fs) (hl : ns.length = n) (bX : ButS W X (fun _ => False)) (gV : X.grownBy wV (Value.slice Av n cv).ownBlock)
    (h1 : wV.ownsRow B 31 1 (.slice A1 (n + 1) c1) (n + 1) (vv ns ++ [.int .u64 (V : Int)])) (h3 : (Value.slice A1 (n + 1) c1).ownBlock = (Value.slice Av n cv).ownBlock ∨ (Value.slice A1 (n + 1) c1).ownBlock = some X.heap.size)
    (bY : ButS wV Y (fun _ => False)) (gL : Y.grownBy wL (Value.slice Al n cl).ownBlock) (h2 : wL.ownsRow B 4 1 (.slice A2 (n + 1) c2) (n + 1) (lbv ns ++ [.bool true]))
    (h4 : (Value.slice A2 (n + 1) c2).ownBlock = (Value.slice Al n cl).ownBlock ∨ (Value.slice A2 (n + 1) c2).ownBlock = some Y.heap.size) (hn : n + 1 ≤ 2097152) :
    RStep W B R lim r Av Al Af (ns ++ [(V, true)]) fs ((wL.setCell ⟨R, 0, none⟩ (.slice A1 (n + 1) c1)).setCell ⟨R, 1, none⟩ (.slice A2 (n + 1) c2)) ∧
    RStep W B R lim r Av Al Af (ns ++ [(V, true)]) fs ((wL.setCell ⟨R, 1, none⟩ (.slice A2 (n + 1) c2)).setCell ⟨R, 0, none⟩ (.slice A1 (n + 1) c1)) := by
  subst hl
  have hAl : ∀ j, Al.map (·.block) = some j → j < W.heap.size := fun j h => (a.rb (.inr (.inr (.inl h)))).2
  have b1 : ButS W wV (fun j => Av.map (·.block) = some j) := (bX.mono (fun _ _ h => h.elim)).trans (ButS.of_grown gV (fun j e => own_block e))
  have b2 : ButS wV wL (fun j => Al.map (·.block) = some j) := (bY.mono (fun _ _ h => h.elim)).trans (ButS.of_grown gL (fun j e => own_block e))
  have hX := bX.size
  have hY := bY.size
  have hV := b1.size
  have k1 : ∀ j, A1.map (·.block) = some j → Av.map (·.block) = some j ∨ W.heap.size ≤ j := fun j h => by
    rcases h3 with e | e
    · left; rw [block_own h] at e; exact own_block e.symm
    · right; rw [block_own h] at e; simp at e; omega
  have k2 : ∀ j, A2.map (·.block) = some j → Al.map (·.block) = some j ∨ W.heap.size ≤ j := fun j h => by
    rcases h4 with e | e
    · left; rw [block_own h] at e; exact own_block e.symm
    · right; rw [block_own h] at e; simp at e; omega
  have ne1 : ∀ j, A1.map (·.block) = some j → ¬ Al.map (·.block) = some j := fun j h h' => by
    rcases k1 j h with e | e
    · cases Av with
      | none => simp at e
      | some x => cases Al with
        | none => simp at h'
        | some y => simp at e h'; exact a.vl x y rfl rfl (by omega)
    · have := hAl j h'; omega
  have k12 : Apart A1 A2 := fun x y e e' hh => by
    subst e e'
    rcases h4 with h | h
    · simp [Value.ownBlock] at h
      have := own_block (n := ns.length) (c := cl) (A := Al) (k := y.block) (by simp [Value.ownBlock, ← h])
      exact ne1 x.block rfl (by rw [hh]; exact this)
    · simp [Value.ownBlock] at h
      have := (h1.lt x.block rfl).2
      omega
  exact rf_two a ((b1.mono (fun _ _ h => .inl h)).trans (b2.mono (fun _ _ h => .inr h))) (b2.own h1 (fun k hk => ne1 k (own_block hk))) h2 k1 k2 k12 hn
set_option maxRecDepth 20000 in
set_option maxHeartbeats 40000000 in
theorem r_do0_new {i0 : Int} (a : Rf w B R lim r Av cv Al cl Af cf ns []) (d : Nat) (hd : d < 256) (hr : d % 6 = 0) (V : Nat) (hf : tkn ns < lim) (hn9 : ns.length + 1 ≤ 2097152) :
    Calls Try.prog 18 #[.pointer (some ⟨R, 0, none⟩), actv d i0 V] w fun e w' => e = .returned (.tuple #[.int .i64 (ns.length : Int), .int .u64 0, .bool true]) ∧ RStep w B R lim r Av Al Af (ns ++ [(V, true)]) [] w' := by
  have a1 := a.alloc (acto d i0 V)
  have hB0 : ButS w (w.alloc (acto d i0 V)) (RB R Av Al Af) := but_alloc _ _ _
  have ht := Lib.hid (r_taken a1 i0)
  have hn := fun N => Lib.hid (r_len (a1.drew N) (tkn ns : Int) rfl)
  have e1 : ((d : Int).tmod 6) = 0 := by rw [Int.tmod_eq_emod_of_nonneg (by omega)]; omega
  have e3 : (d : Int) % 6 = 0 := by omega
  have g1 : decide ((lim : Int) ≤ (tkn ns : Int)) = false := decide_eq_false (by omega)
  have g2 : decide (lim ≤ tkn ns) = false := decide_eq_false (by omega)
  obtain ⟨w1, hw1⟩ : ∃ w1, w.alloc (acto d i0 V) = w1 := ⟨_, rfl⟩
  have hD0 : w1.heap[w.heap.size]? = some (.cells #[.int .u8 (d : Int), .int .i64 i0, .int .u64 (V : Int)] 39 (0, 0)) := by rw [← hw1]; exact alloc_top _ _ rfl
  have hlt := a.lt
  have hrb : ∀ j, RB R Av Al Af j → j < w.heap.size := fun j hj => (a.rb hj).2
  rw [hw1] at a1 hB0
  have hw1H := Lib.hid hw1
  clear hw1
  have hd2 : w1.cell? ⟨w.heap.size, 2, none⟩ = some (.int .u64 (V : Int)) := cell_of_row w1 _ 2 _ _ (0, 0) hD0
  have hBH := Lib.hid hB0
  have hc0 := a1.c0
  have hc1 := a1.c1
  have hc2 := a1.c2
  have hc3 := a1.c3
  rw [List.length_nil] at hc2
  have a1H := Lib.hid a1
  have hDH := Lib.hid hD0
  have hsz : w.heap.size < w1.heap.size := by rw [← hw1H.out]; simp
  have hRBH := Lib.hid hrb
  clear a a1 hr hB0 hD0 hf hrb
  generalize tkn ns = q at *
  obtain ⟨n, hnl⟩ : ∃ n, ns.length = n := ⟨_, rfl⟩
  rw [hnl] at hc0 hc1 hn9
  have hnlH := Lib.hid hnl
  rw [hnl]
  clear hnl
  go_enter Try.func18, Try.ntmps18
  go_wp2_with (go_at_call 26; (with_reducible refine ht.out.mono ?_); rintro e w9 ⟨rfl, rfl⟩)
  rw [hw1H.out]
  rw [hw1H.out] at hn
  generalize w.heap.size = s at *
  go_quiet ((go_at_call 10; exact Calls.quiet_of_same ((hn _).out.mono (by rintro e w' ⟨rfl, rfl⟩; exact ⟨rfl, rfl⟩))))
  go_wp2
  obtain ⟨W, hW⟩ : ∃ W, w1.drewN nq = W := ⟨_, rfl⟩
  have aW : Rf W B R lim r Av cv Al cl Af cf ns [] := by rw [← hW]; exact a1H.out.drew nq
  have bW : Hid (ButS w W (RB R Av Al Af)) := by rw [← hW]; exact hBH.out.drewN nq
  have dW : W.heap[s]? = some (.cells #[.int .u8 (d : Int), .int .i64 i0, .int .u64 (V : Int)] 39 (0, 0)) := by rw [← hW]; exact hDH.out
  have zW : s < W.heap.size := (Array.getElem?_eq_some_iff.1 dW).1
  rw [hW]
  have x0 := aW.c0
  have x1 := aW.c1
  rw [hnlH.out] at x0 x1
  have x2 : W.cell? ⟨s, 2, none⟩ = some (.int .u64 (V : Int)) := cell_of_row W _ 2 _ _ (0, 0) dW
  have hltH : Hid (∀ j, Av.map (·.block) = some j ∨ Al.map (·.block) = some j → j < W.heap.size) := fun j h => by
    rcases h with h | h
    · exact (aW.rb (.inr (.inl h))).2
    · exact (aW.rb (.inr (.inr (.inl h)))).2
  have hVo : Hid (W.ownsRow B 31 1 (.slice Av n cv) n (vv ns)) := by have := aW.vals; rw [hnlH.out] at this; exact this
  have hLo : Hid (W.ownsRow B 4 1 (.slice Al n cl) n (lbv ns)) := by have := aW.live; rw [hnlH.out] at this; exact this
  have hvl : Hid (∀ k, Av.map (·.block) = some k → ¬ Al.map (·.block) = some k) := fun k e e' => by
    cases Av with
    | none => simp at e
    | some x => cases Al with
      | none => simp at e'
      | some y => simp at e e'; exact aW.vl x y rfl rfl (by omega)
  have hlv : Hid (∀ k, Al.map (·.block) = some k → ¬ Av.map (·.block) = some k) := fun k e e' => hvl.out k e' e
  have nR : ¬ (Av.map (·.block) = some R ∨ Al.map (·.block) = some R) := by
    rintro (h | h)
    · cases Av with
      | none => simp at h
      | some x => simp at h; exact aW.ov x rfl h
    · cases Al with
      | none => simp at h
      | some x => simp at h; exact aW.ol x rfl h
  have nS : ¬ (Av.map (·.block) = some s ∨ Al.map (·.block) = some s) := by
    rintro (h | h)
    · have := hRBH.out s (.inr (.inl h)); omega
    · have := hRBH.out s (.inr (.inr (.inl h))); omega
  have hRW : Hid (∀ X, ButS W X (fun j => Av.map (·.block) = some j ∨ Al.map (·.block) = some j) → X.cell? ⟨R, 0, none⟩ = some (.slice Av n cv) ∧ X.cell? ⟨R, 1, none⟩ = some (.slice Al n cl) ∧ (∀ k, X.frozen? ⟨R, k, none⟩ = false) ∧ X.cell? ⟨s, 2, none⟩ = some (.int .u64 (V : Int))) := fun X b => by
    have h1 := (b.block R aW.lt nR).trans aW.row
    rw [hnlH.out] at h1
    exact ⟨cell_of_row X R 0 _ _ (0, 0) h1, cell_of_row X R 1 _ _ (0, 0) h1, fun k => by simp [World.frozen?, h1], cell_of_row X s 2 _ _ (0, 0) ((b.block s zW nS).trans dW)⟩
  have hRWz : Hid (∀ X, ButS W X (fun j => Av.map (·.block) = some j ∨ Al.map (·.block) = some j) → W.heap.size ≤ X.heap.size) := fun X b => b.size
  obtain ⟨iV, hVi, hVz, hVs, hVb⟩ := info_parts' u64_info
  obtain ⟨iL, hLi, hLz, hLs, hLb⟩ := info_parts' bool_info
  have hmx : Hid (n + 1 ≤ maxLen) := by show _ ≤ _; unfold maxLen; omega
  have hbV : Hid ((n + 1) * 8 ≤ 140737488355328) := by show _ ≤ _; omega
  have hbL : Hid ((n + 1) * 1 ≤ 140737488355328) := by show _ ≤ _; omega
  have hBW : B ≤ W.heap.size := Nat.le_trans aW.base (Nat.le_of_lt aW.lt)
  have hRlt := aW.lt
  have fW0 := aW.fr 0
  have fW1 := aW.fr 1
  have aWH := Lib.hid aW
  clear aW dW hW hc0 hc1 hc2 hc3 hd2 hn ht nR nS
  refine wp_region_late (S := fun X => X.cell? ⟨R, 0, none⟩ = some (.slice Av n cv) ∧ X.cell? ⟨R, 1, none⟩ = some (.slice Al n cl) ∧ X.cell? ⟨s, 2, none⟩ = some (.int .u64 (V : Int))) (N := [16, 17, 18, 19, 20, 21]) (by kernel_rfl) (by (try dsimp only); go_keep) (fun hHeld => ?_)
  refine late_pure (i := 0) (v := ?_) rfl (by kernel_rfl) (by kernel_rfl) (by kernel_rfl) (by kernel_rfl) (fun _ _ _ h => h) (by assumption) (by rfl) ?_ ?_
  rotate_left
  · intro w
    go_simp
    try (with_reducible rfl)
  try simp only [Act.put, List.setIfInBounds_toArray, List.set_cons_zero, List.set_cons_succ]
  refine late_pure (i := 1) (v := ?_) rfl (by kernel_rfl) (by kernel_rfl) (by kernel_rfl) (by kernel_rfl) (fun _ _ _ h => h) (by assumption) (by rfl) ?_ ?_
  rotate_left
  · intro w
    go_simp
    try (with_reducible rfl)
  try simp only [Act.put, List.setIfInBounds_toArray, List.set_cons_zero, List.set_cons_succ]
  refine late_pure (i := 2) (v := ?_) rfl (by kernel_rfl) (by kernel_rfl) (by kernel_rfl) (by kernel_rfl) (fun _ _ _ h => h) (by assumption) (by rfl) ?_ ?_
  rotate_left
  · intro w
    go_simp
    try (with_reducible rfl)
  try simp only [Act.put, List.setIfInBounds_toArray, List.set_cons_zero, List.set_cons_succ]
  refine late_pure (i := 3) (v := ?_) rfl (by kernel_rfl) (by kernel_rfl) (by kernel_rfl) (by kernel_rfl) (fun _ _ _ h => h) (by assumption) (by rfl) ?_ ?_
  rotate_left
  · intro w
    go_simp
    try (with_reducible rfl)
  try simp only [Act.put, List.setIfInBounds_toArray, List.set_cons_zero, List.set_cons_succ]
  refine late_pure (i := 4) (v := ?_) rfl (by kernel_rfl) (by kernel_rfl) (by kernel_rfl) (by kernel_rfl) (fun _ _ _ h => h) (by assumption) (by rfl) ?_ ?_
  rotate_left
  · intro w
    go_simp
    try (with_reducible rfl)
  try simp only [Act.put, List.setIfInBounds_toArray, List.set_cons_zero, List.set_cons_succ]
  refine late_take (i := 5) (v := ?_) rfl (by kernel_rfl) (by kernel_rfl) (by kernel_rfl) (by kernel_rfl) (by kernel_rfl) (by kernel_rfl) (fun _ _ _ h => h) (by assumption) (by rfl) ?_ ?_
  rotate_left
  · intro w hSw
    try dsimp only at hSw
    go_simp
    try (with_reducible rfl)
  try simp only [Act.put, List.setIfInBounds_toArray, List.set_cons_zero, List.set_cons_succ]
  refine late_pure (i := 6) (v := ?_) rfl (by kernel_rfl) (by kernel_rfl) (by kernel_rfl) (by kernel_rfl) (fun _ _ _ h => h) (by assumption) (by rfl) ?_ ?_
  rotate_left
  · intro w
    go_simp
    try (with_reducible rfl)
  try simp only [Act.put, List.setIfInBounds_toArray, List.set_cons_zero, List.set_cons_succ]
  refine late_take (i := 7) (v := ?_) rfl (by kernel_rfl) (by kernel_rfl) (by kernel_rfl) (by kernel_rfl) (by kernel_rfl) (by kernel_rfl) (fun _ _ _ h => h) (by assumption) (by rfl) ?_ ?_
  rotate_left
  · intro w hSw
    try dsimp only at hSw
    go_simp
    try (with_reducible rfl)
  try simp only [Act.put, List.setIfInBounds_toArray, List.set_cons_zero, List.set_cons_succ]
  refine late_pure (i := 10) (v := ?_) rfl (by kernel_rfl) (by kernel_rfl) (by kernel_rfl) (by kernel_rfl) (fun _ _ _ h => h) (by assumption) (by rfl) ?_ ?_
  rotate_left
  · intro w
    go_simp
    try (with_reducible rfl)
  try simp only [Act.put, List.setIfInBounds_toArray, List.set_cons_zero, List.set_cons_succ]
  refine late_pure (i := 11) (v := ?_) rfl (by kernel_rfl) (by kernel_rfl) (by kernel_rfl) (by kernel_rfl) (fun _ _ _ h => h) (by assumption) (by rfl) ?_ ?_
  rotate_left
  · intro w
    go_simp
    try (with_reducible rfl)
  try simp only [Act.put, List.setIfInBounds_toArray, List.set_cons_zero, List.set_cons_succ]
  refine late_pure (i := 12) (v := ?_) rfl (by kernel_rfl) (by kernel_rfl) (by kernel_rfl) (by kernel_rfl) (fun _ _ _ h => h) (by assumption) (by rfl) ?_ ?_
  rotate_left
  · intro w
    go_simp
    try (with_reducible rfl)
  try simp only [Act.put, List.setIfInBounds_toArray, List.set_cons_zero, List.set_cons_succ]
  refine late_take (i := 13) (v := ?_) rfl (by kernel_rfl) (by kernel_rfl) (by kernel_rfl) (by kernel_rfl) (by kernel_rfl) (by kernel_rfl) (fun _ _ _ h => h) (by assumption) (by rfl) ?_ ?_
  rotate_left
  · intro w hSw
    try dsimp only at hSw
    go_simp
    try (with_reducible rfl)
  try simp only [Act.put, List.setIfInBounds_toArray, List.set_cons_zero, List.set_cons_succ]
  refine wpAnyM_ready (rs := [8, 14]) (by kernel_rfl) (by simp) ?_
  refine AllReadyM.cons (At.out rfl) (fun K hK => ?_) ?_
  ·
    go_simp
    refine hK.out _ _ (by (try dsimp only); go_keep) (fun hHeld => ?_)
    clear hK K
    try simp only [Act.put, List.setIfInBounds_toArray, List.set_cons_zero, List.set_cons_succ]
    refine wpAnyM_ready (rs := [9, 14]) (by kernel_rfl) (by simp) ?_
    refine AllReadyM.cons (At.out rfl) (fun K hK => ?_) ?_
    ·
      ((refine step_append_any _ rfl (.tmp 75) (.tmp 78) 33 rfl B 31 iV _ 1 8 Try.underlying33 hVi hVz hVs hVb rfl (by decide) (.slice Av n cv) n (vv ns) (by rfl) (ButS.own (by (repeat first | exact ButS.refl _ _ | exact (ButS.refl _ _).drewN 1 | refine but_drew ?_ | refine ButS.trans ?_ (but_alloc _ _ _) | refine ButS.trans ?_ (ButS.of_grown (by assumption) (fun j e => by first | exact own_block e | exact .inl (own_block e) | exact .inr (own_block e)))) : ButS W _ (fun j => Al.map (·.block) = some j)) hVo.out (fun k hk e => hvl.out k (own_block hk) e)) _ (some ⟨_, 0, none⟩) 1 1 [.int .u64 (V : Int)] (by rfl) (reads_one (by (repeat first | exact alloc_top _ _ rfl | exact alloc_top _ _ (by simp) | exact alloc_top _ _ (by first | omega | (simp; done) | (simp; omega)) | refine (Below.heap_alloc _ _ _ (by first | omega | (simp; done) | (simp; omega))).trans ?_ | refine (World.grownBy.block (by assumption) _ (by first | omega | (simp; done) | (simp; omega)) (fun e => by first | exact absurd (hltH.out _ (.inl (own_block e.symm))) (by first | omega | (simp; done) | (simp; omega)) | exact absurd (hltH.out _ (.inr (own_block e.symm))) (by first | omega | (simp; done) | (simp; omega)))).trans ?_))) (fun u hu => by simp at hu; subst hu; rfl) hmx.out hbV.out (by first | omega | (simp; done) | (simp; omega)) ?_; intro v1 wV hV1 hV2 hV3; obtain ⟨A1, c1, rfl⟩ := own_form hV1; have zV : W.heap.size ≤ wV.heap.size := (hRWz.out wV (by (repeat first | exact ButS.refl _ _ | exact (ButS.refl _ _).drewN 1 | refine but_drew ?_ | refine ButS.trans ?_ (but_alloc _ _ _) | refine ButS.trans ?_ (ButS.of_grown (by assumption) (fun j e => by first | exact own_block e | exact .inl (own_block e) | exact .inr (own_block e)))))); have zVR : R < wV.heap.size := (by omega); have zVs : s < wV.heap.size := (by omega); have cV0 : wV.cell? ⟨R, 0, none⟩ = some (.slice Av n cv) := (hRW.out wV (by (repeat first | exact ButS.refl _ _ | exact (ButS.refl _ _).drewN 1 | refine but_drew ?_ | refine ButS.trans ?_ (but_alloc _ _ _) | refine ButS.trans ?_ (ButS.of_grown (by assumption) (fun j e => by first | exact own_block e | exact .inl (own_block e) | exact .inr (own_block e)))))).1; have cV1 : wV.cell? ⟨R, 1, none⟩ = some (.slice Al n cl) := (hRW.out wV (by (repeat first | exact ButS.refl _ _ | exact (ButS.refl _ _).drewN 1 | refine but_drew ?_ | refine ButS.trans ?_ (but_alloc _ _ _) | refine ButS.trans ?_ (ButS.of_grown (by assumption) (fun j e => by first | exact own_block e | exact .inl (own_block e) | exact .inr (own_block e)))))).2.1; have fV0 : wV.frozen? ⟨R, 0, none⟩ = false := (hRW.out wV (by (repeat first | exact ButS.refl _ _ | exact (ButS.refl _ _).drewN 1 | refine but_drew ?_ | refine ButS.trans ?_ (but_alloc _ _ _) | refine ButS.trans ?_ (ButS.of_grown (by assumption) (fun j e => by first | exact own_block e | exact .inl (own_block e) | exact .inr (own_block e)))))).2.2.1 0; have fV1 : wV.frozen? ⟨R, 1, none⟩ = false := (hRW.out wV (by (repeat first | exact ButS.refl _ _ | exact (ButS.refl _ _).drewN 1 | refine but_drew ?_ | refine ButS.trans ?_ (but_alloc _ _ _) | refine ButS.trans ?_ (ButS.of_grown (by assumption) (fun j e => by first | exact own_block e | exact .inl (own_block e) | exact .inr (own_block e)))))).2.2.1 1; have dV2 : wV.cell? ⟨s, 2, none⟩ = some (.int .u64 (V : Int)) := (hRW.out wV (by (repeat first | exact ButS.refl _ _ | exact (ButS.refl _ _).drewN 1 | refine but_drew ?_ | refine ButS.trans ?_ (but_alloc _ _ _) | refine ButS.trans ?_ (ButS.of_grown (by assumption) (fun j e => by first | exact own_block e | exact .inl (own_block e) | exact .inr (own_block e)))))).2.2.2))
      refine hK.out _ _ ⟨cV0, cV1, dV2⟩ (fun hHeld => ?_)
      clear hK K
      try simp only [Act.put, List.setIfInBounds_toArray, List.set_cons_zero, List.set_cons_succ]
      refine wpAnyM_ready (rs := [14]) (by kernel_rfl) (by simp) ?_
      refine AllReadyM.cons (At.out rfl) (fun K hK => ?_) ?_
      ·
        go_simp
        refine hK.out _ _ (by (try dsimp only); go_keep) (fun hHeld => ?_)
        clear hK K
        try simp only [Act.put, List.setIfInBounds_toArray, List.set_cons_zero, List.set_cons_succ]
        refine wpAnyM_ready (rs := [15]) (by kernel_rfl) (by simp) ?_
        refine AllReadyM.cons (At.out rfl) (fun K hK => ?_) ?_
        ·
          ((refine step_append_any _ rfl (.tmp 83) (.tmp 84) 34 rfl B 4 iL _ 1 1 Try.underlying34 hLi hLz hLs hLb rfl (by decide) (.slice Al n cl) n (lbv ns) (by rfl) (ButS.own (by (repeat first | exact ButS.refl _ _ | exact (ButS.refl _ _).drewN 1 | refine but_drew ?_ | refine ButS.trans ?_ (but_alloc _ _ _) | refine ButS.trans ?_ (ButS.of_grown (by assumption) (fun j e => by first | exact own_block e | exact .inl (own_block e) | exact .inr (own_block e)))) : ButS W _ (fun j => Av.map (·.block) = some j)) hLo.out (fun k hk e => hlv.out k (own_block hk) e)) _ (some ⟨_, 0, none⟩) 1 1 [.bool true] (by rfl) (reads_one (by (repeat first | exact alloc_top _ _ rfl | exact alloc_top _ _ (by simp) | exact alloc_top _ _ (by first | omega | (simp; done) | (simp; omega)) | refine (Below.heap_alloc _ _ _ (by first | omega | (simp; done) | (simp; omega))).trans ?_ | refine (World.grownBy.block (by assumption) _ (by first | omega | (simp; done) | (simp; omega)) (fun e => by first | exact absurd (hltH.out _ (.inl (own_block e.symm))) (by first | omega | (simp; done) | (simp; omega)) | exact absurd (hltH.out _ (.inr (own_block e.symm))) (by first | omega | (simp; done) | (simp; omega)))).trans ?_))) (fun u hu => by simp at hu; subst hu; rfl) hmx.out hbL.out (by first | omega | (simp; done) | (simp; omega)) ?_; intro v2 wL hL1 hL2 hL3; obtain ⟨A2, c2, rfl⟩ := own_form hL1; have zL : W.heap.size ≤ wL.heap.size := (hRWz.out wL (by (repeat first | exact ButS.refl _ _ | exact (ButS.refl _ _).drewN 1 | refine but_drew ?_ | refine ButS.trans ?_ (but_alloc _ _ _) | refine ButS.trans ?_ (ButS.of_grown (by assumption) (fun j e => by first | exact own_block e | exact .inl (own_block e) | exact .inr (own_block e)))))); have zLR : R < wL.heap.size := (by omega); have zLs : s < wL.heap.size := (by omega); have cL0 : wL.cell? ⟨R, 0, none⟩ = some (.slice Av n cv) := (hRW.out wL (by (repeat first | exact ButS.refl _ _ | exact (ButS.refl _ _).drewN 1 | refine but_drew ?_ | refine ButS.trans ?_ (but_alloc _ _ _) | refine ButS.trans ?_ (ButS.of_grown (by assumption) (fun j e => by first | exact own_block e | exact .inl (own_block e) | exact .inr (own_block e)))))).1; have cL1 : wL.cell? ⟨R, 1, none⟩ = some (.slice Al n cl) := (hRW.out wL (by (repeat first | exact ButS.refl _ _ | exact (ButS.refl _ _).drewN 1 | refine but_drew ?_ | refine ButS.trans ?_ (but_alloc _ _ _) | refine ButS.trans ?_ (ButS.of_grown (by assumption) (fun j e => by first | exact own_block e | exact .inl (own_block e) | exact .inr (own_block e)))))).2.1; have fL0 : wL.frozen? ⟨R, 0, none⟩ = false := (hRW.out wL (by (repeat first | exact ButS.refl _ _ | exact (ButS.refl _ _).drewN 1 | refine but_drew ?_ | refine ButS.trans ?_ (but_alloc _ _ _) | refine ButS.trans ?_ (ButS.of_grown (by assumption) (fun j e => by first | exact own_block e | exact .inl (own_block e) | exact .inr (own_block e)))))).2.2.1 0; have fL1 : wL.frozen? ⟨R, 1, none⟩ = false := (hRW.out wL (by (repeat first | exact ButS.refl _ _ | exact (ButS.refl _ _).drewN 1 | refine but_drew ?_ | refine ButS.trans ?_ (but_alloc _ _ _) | refine ButS.trans ?_ (ButS.of_grown (by assumption) (fun j e => by first | exact own_block e | exact .inl (own_block e) | exact .inr (own_block e)))))).2.2.1 1; have dL2 : wL.cell? ⟨s, 2, none⟩ = some (.int .u64 (V : Int)) := (hRW.out wL (by (repeat first | exact ButS.refl _ _ | exact (ButS.refl _ _).drewN 1 | refine but_drew ?_ | refine ButS.trans ?_ (but_alloc _ _ _) | refine ButS.trans ?_ (ButS.of_grown (by assumption) (fun j e => by first | exact own_block e | exact .inl (own_block e) | exact .inr (own_block e)))))).2.2.2))
          refine hK.out _ _ ⟨cL0, cL1, dL2⟩ (fun hHeld => ?_)
          clear hK K
          try simp only [Act.put, List.setIfInBounds_toArray, List.set_cons_zero, List.set_cons_succ]
          refine wpAnyM_drop (by kernel_rfl) ?_
          refine late_tail (i := 16) (v := ?_) rfl (by kernel_rfl) (by kernel_rfl) (by kernel_rfl) (fun _ _ _ h => h) (by rfl) ?_ ?_
          rotate_left
          · intro w
            go_simp
            try (with_reducible rfl)
          try simp only [Act.put, List.setIfInBounds_toArray, List.set_cons_zero, List.set_cons_succ]
          refine late_tail (i := 17) (v := ?_) rfl (by kernel_rfl) (by kernel_rfl) (by kernel_rfl) (fun _ _ _ h => h) (by rfl) ?_ ?_
          rotate_left
          · intro w
            go_simp
            try (with_reducible rfl)
          try simp only [Act.put, List.setIfInBounds_toArray, List.set_cons_zero, List.set_cons_succ]
          refine Go.wpAny_ready (rs := [18]) (by kernel_rfl) (by simp) ?_
          refine AllReady.cons (At.out rfl) (fun K hK => ?_) AllReady.nil
          go_simp
          refine hK _ _ ?_
          clear hK K
          try simp only [Act.put, List.setIfInBounds_toArray, List.set_cons_zero, List.set_cons_succ]
          refine late_tail (i := 19) (v := ?_) rfl (by kernel_rfl) (by kernel_rfl) (by kernel_rfl) (fun _ _ _ h => h) (by rfl) ?_ ?_
          rotate_left
          · intro w
            go_simp
            try (with_reducible rfl)
          try simp only [Act.put, List.setIfInBounds_toArray, List.set_cons_zero, List.set_cons_succ]
          refine late_tail (i := 20) (v := ?_) rfl (by kernel_rfl) (by kernel_rfl) (by kernel_rfl) (fun _ _ _ h => h) (by rfl) ?_ ?_
          rotate_left
          · intro w
            go_simp
            try (with_reducible rfl)
          try simp only [Act.put, List.setIfInBounds_toArray, List.set_cons_zero, List.set_cons_succ]
          refine Go.wpAny_ready (rs := [21]) (by kernel_rfl) (by simp) ?_
          refine AllReady.cons (At.out rfl) (fun K hK => ?_) AllReady.nil
          go_simp
          refine hK _ _ ?_
          clear hK K
          try simp only [Act.put, List.setIfInBounds_toArray, List.set_cons_zero, List.set_cons_succ]
          refine wpAny_done (by kernel_rfl) ?_ _
          go_wp2
          refine bodyPost_ret (results_tmp3 rfl _ _ _) rfl ?_
          have hfin := fin_two aWH.out hnlH.out (by (repeat first | exact ButS.refl _ _ | exact (ButS.refl _ _).drewN 1 | refine but_drew ?_ | refine ButS.trans ?_ (but_alloc _ _ _) | refine ButS.trans ?_ (ButS.of_grown (by assumption) (fun j e => by first | exact own_block e | exact .inl (own_block e) | exact .inr (own_block e))))) hV2 hV1 hV3 (by (repeat first | exact ButS.refl _ _ | exact (ButS.refl _ _).drewN 1 | refine but_drew ?_ | refine ButS.trans ?_ (but_alloc _ _ _) | refine ButS.trans ?_ (ButS.of_grown (by assumption) (fun j e => by first | exact own_block e | exact .inl (own_block e) | exact .inr (own_block e))))) hL2 hL1 hL3 hn9
          first
          | exact ⟨rfl, rstep_then0 bW.out hfin.1⟩
          | exact ⟨rfl, rstep_then0 bW.out hfin.2⟩
          | exact ⟨rfl, rstep_then bW.out hfin.1 _⟩
          | exact ⟨rfl, rstep_then bW.out hfin.2 _⟩
        exact AllReadyM.nil
      exact AllReadyM.nil
    refine AllReadyM.cons (At.out rfl) (fun K hK => ?_) ?_
    ·
      go_simp
      refine hK.out _ _ (by (try dsimp only); go_keep) (fun hHeld => ?_)
      clear hK K
      try simp only [Act.put, List.setIfInBounds_toArray, List.set_cons_zero, List.set_cons_succ]
      refine wpAnyM_ready (rs := [9]) (by kernel_rfl) (by simp) ?_
      refine AllReadyM.cons (At.out rfl) (fun K hK => ?_) ?_
      ·
        ((refine step_append_any _ rfl (.tmp 75) (.tmp 78) 33 rfl B 31 iV _ 1 8 Try.underlying33 hVi hVz hVs hVb rfl (by decide) (.slice Av n cv) n (vv ns) (by rfl) (ButS.own (by (repeat first | exact ButS.refl _ _ | exact (ButS.refl _ _).drewN 1 | refine but_drew ?_ | refine ButS.trans ?_ (but_alloc _ _ _) | refine ButS.trans ?_ (ButS.of_grown (by assumption) (fun j e => by first | exact own_block e | exact .inl (own_block e) | exact .inr (own_block e)))) : ButS W _ (fun j => Al.map (·.block) = some j)) hVo.out (fun k hk e => hvl.out k (own_block hk) e)) _ (some ⟨_, 0, none⟩) 1 1 [.int .u64 (V : Int)] (by rfl) (reads_one (by (repeat first | exact alloc_top _ _ rfl | exact alloc_top _ _ (by simp) | exact alloc_top _ _ (by first | omega | (simp; done) | (simp; omega)) | refine (Below.heap_alloc _ _ _ (by first | omega | (simp; done) | (simp; omega))).trans ?_ | refine (World.grownBy.block (by assumption) _ (by first | omega | (simp; done) | (simp; omega)) (fun e => by first | exact absurd (hltH.out _ (.inl (own_block e.symm))) (by first | omega | (simp; done) | (simp; omega)) | exact absurd (hltH.out _ (.inr (own_block e.symm))) (by first | omega | (simp; done) | (simp; omega)))).trans ?_))) (fun u hu => by simp at hu; subst hu; rfl) hmx.out hbV.out (by first | omega | (simp; done) | (simp; omega)) ?_; intro v1 wV hV1 hV2 hV3; obtain ⟨A1, c1, rfl⟩ := own_form hV1; have zV : W.heap.size ≤ wV.heap.size := (hRWz.out wV (by (repeat first | exact ButS.refl _ _ | exact (ButS.refl _ _).drewN 1 | refine but_drew ?_ | refine ButS.trans ?_ (but_alloc _ _ _) | refine ButS.trans ?_ (ButS.of_grown (by assumption) (fun j e => by first | exact own_block e | exact .inl (own_block e) | exact .inr (own_block e)))))); have zVR : R < wV.heap.size := (by omega); have zVs : s < wV.heap.size := (by omega); have cV0 : wV.cell? ⟨R, 0, none⟩ = some (.slice Av n cv) := (hRW.out wV (by (repeat first | exact ButS.refl _ _ | exact (ButS.refl _ _).drewN 1 | refine but_drew ?_ | refine ButS.trans ?_ (but_alloc _ _ _) | refine ButS.trans ?_ (ButS.of_grown (by assumption) (fun j e => by first | exact own_block e | exact .inl (own_block e) | exact .inr (own_block e)))))).1; have cV1 : wV.cell? ⟨R, 1, none⟩ = some (.slice Al n cl) := (hRW.out wV (by (repeat first | exact ButS.refl _ _ | exact (ButS.refl _ _).drewN 1 | refine but_drew ?_ | refine ButS.trans ?_ (but_alloc _ _ _) | refine ButS.trans ?_ (ButS.of_grown (by assumption) (fun j e => by first | exact own_block e | exact .inl (own_block e) | exact .inr (own_block e)))))).2.1; have fV0 : wV.frozen? ⟨R, 0, none⟩ = false := (hRW.out wV (by (repeat first | exact ButS.refl _ _ | exact (ButS.refl _ _).drewN 1 | refine but_drew ?_ | refine ButS.trans ?_ (but_alloc _ _ _) | refine ButS.trans ?_ (ButS.of_grown (by assumption) (fun j e => by first | exact own_block e | exact .inl (own_block e) | exact .inr (own_block e)))))).2.2.1 0; have fV1 : wV.frozen? ⟨R, 1, none⟩ = false := (hRW.out wV (by (repeat first | exact ButS.refl _ _ | exact (ButS.refl _ _).drewN 1 | refine but_drew ?_ | refine ButS.trans ?_ (but_alloc _ _ _) | refine ButS.trans ?_ (ButS.of_grown (by assumption) (fun j e => by first | exact own_block e | exact .inl (own_block e) | exact .inr (own_block e)))))).2.2.1 1; have dV2 : wV.cell? ⟨s, 2, none⟩ = some (.int .u64 (V : Int)) := (hRW.out wV (by (repeat first | exact ButS.refl _ _ | exact (ButS.refl _ _).drewN 1 | refine but_drew ?_ | refine ButS.trans ?_ (but_alloc _ _ _) | refine ButS.trans ?_ (ButS.of_grown (by assumption) (fun j e => by first | exact own_block e | exact .inl (own_block e) | exact .inr (own_block e)))))).2.2.2))
        refine hK.out _ _ ⟨cV0, cV1, dV2⟩ (fun hHeld => ?_)
        clear hK K
        try simp only [Act.put, List.setIfInBounds_toArray, List.set_cons_zero, List.set_cons_succ]
        refine wpAnyM_ready (rs := [15]) (by kernel_rfl) (by simp) ?_
        refine AllReadyM.cons (At.out rfl) (fun K hK => ?_) ?_
        ·
          ((refine step_append_any _ rfl (.tmp 83) (.tmp 84) 34 rfl B 4 iL _ 1 1 Try.underlying34 hLi hLz hLs hLb rfl (by decide) (.slice Al n cl) n (lbv ns) (by rfl) (ButS.own (by (repeat first | exact ButS.refl _ _ | exact (ButS.refl _ _).drewN 1 | refine but_drew ?_ | refine ButS.trans ?_ (but_alloc _ _ _) | refine ButS.trans ?_ (ButS.of_grown (by assumption) (fun j e => by first | exact own_block e | exact .inl (own_block e) | exact .inr (own_block e)))) : ButS W _ (fun j => Av.map (·.block) = some j)) hLo.out (fun k hk e => hlv.out k (own_block hk) e)) _ (some ⟨_, 0, none⟩) 1 1 [.bool true] (by rfl) (reads_one (by (repeat first | exact alloc_top _ _ rfl | exact alloc_top _ _ (by simp) | exact alloc_top _ _ (by first | omega | (simp; done) | (simp; omega)) | refine (Below.heap_alloc _ _ _ (by first | omega | (simp; done) | (simp; omega))).trans ?_ | refine (World.grownBy.block (by assumption) _ (by first | omega | (simp; done) | (simp; omega)) (fun e => by first | exact absurd (hltH.out _ (.inl (own_block e.symm))) (by first | omega | (simp; done) | (simp; omega)) | exact absurd (hltH.out _ (.inr (own_block e.symm))) (by first | omega | (simp; done) | (simp; omega)))).trans ?_))) (fun u hu => by simp at hu; subst hu; rfl) hmx.out hbL.out (by first | omega | (simp; done) | (simp; omega)) ?_; intro v2 wL hL1 hL2 hL3; obtain ⟨A2, c2, rfl⟩ := own_form hL1; have zL : W.heap.size ≤ wL.heap.size := (hRWz.out wL (by (repeat first | exact ButS.refl _ _ | exact (ButS.refl _ _).drewN 1 | refine but_drew ?_ | refine ButS.trans ?_ (but_alloc _ _ _) | refine ButS.trans ?_ (ButS.of_grown (by assumption) (fun j e => by first | exact own_block e | exact .inl (own_block e) | exact .inr (own_block e)))))); have zLR : R < wL.heap.size := (by omega); have zLs : s < wL.heap.size := (by omega); have cL0 : wL.cell? ⟨R, 0, none⟩ = some (.slice Av n cv) := (hRW.out wL (by (repeat first | exact ButS.refl _ _ | exact (ButS.refl _ _).drewN 1 | refine but_drew ?_ | refine ButS.trans ?_ (but_alloc _ _ _) | refine ButS.trans ?_ (ButS.of_grown (by assumption) (fun j e => by first | exact own_block e | exact .inl (own_block e) | exact .inr (own_block e)))))).1; have cL1 : wL.cell? ⟨R, 1, none⟩ = some (.slice Al n cl) := (hRW.out wL (by (repeat first | exact ButS.refl _ _ | exact (ButS.refl _ _).drewN 1 | refine but_drew ?_ | refine ButS.trans ?_ (but_alloc _ _ _) | refine ButS.trans ?_ (ButS.of_grown (by assumption) (fun j e => by first | exact own_block e | exact .inl (own_block e) | exact .inr (own_block e)))))).2.1; have fL0 : wL.frozen? ⟨R, 0, none⟩ = false := (hRW.out wL (by (repeat first | exact ButS.refl _ _ | exact (ButS.refl _ _).drewN 1 | refine but_drew ?_ | refine ButS.trans ?_ (but_alloc _ _ _) | refine ButS.trans ?_ (ButS.of_grown (by assumption) (fun j e => by first | exact own_block e | exact .inl (own_block e) | exact .inr (own_block e)))))).2.2.1 0; have fL1 : wL.frozen? ⟨R, 1, none⟩ = false := (hRW.out wL (by (repeat first | exact ButS.refl _ _ | exact (ButS.refl _ _).drewN 1 | refine but_drew ?_ | refine ButS.trans ?_ (but_alloc _ _ _) | refine ButS.trans ?_ (ButS.of_grown (by assumption) (fun j e => by first | exact own_block e | exact .inl (own_block e) | exact .inr (own_block e)))))).2.2.1 1; have dL2 : wL.cell? ⟨s, 2, none⟩ = some (.int .u64 (V : Int)) := (hRW.out wL (by (repeat first | exact ButS.refl _ _ | exact (ButS.refl _ _).drewN 1 | refine but_drew ?_ | refine ButS.trans ?_ (but_alloc _ _ _) | refine ButS.trans ?_ (ButS.of_grown (by assumption) (fun j e => by first | exact own_block e | exact .inl (own_block e) | exact .inr (own_block e)))))).2.2.2))
          refine hK.out _ _ ⟨cL0, cL1, dL2⟩ (fun hHeld => ?_)
          clear hK K
          try simp only [Act.put, List.setIfInBounds_toArray, List.set_cons_zero, List.set_cons_succ]
          refine wpAnyM_drop (by kernel_rfl) ?_
          refine late_tail (i := 16) (v := ?_) rfl (by kernel_rfl) (by kernel_rfl) (by kernel_rfl) (fun _ _ _ h => h) (by rfl) ?_ ?_
          rotate_left
          · intro w
            go_simp
            try (with_reducible rfl)
          try simp only [Act.put, List.setIfInBounds_toArray, List.set_cons_zero, List.set_cons_succ]
          refine late_tail (i := 17) (v := ?_) rfl (by kernel_rfl) (by kernel_rfl) (by kernel_rfl) (fun _ _ _ h => h) (by rfl) ?_ ?_
          rotate_left
          · intro w
            go_simp
            try (with_reducible rfl)
          try simp only [Act.put, List.setIfInBounds_toArray, List.set_cons_zero, List.set_cons_succ]
          refine Go.wpAny_ready (rs := [18]) (by kernel_rfl) (by simp) ?_
          refine AllReady.cons (At.out rfl) (fun K hK => ?_) AllReady.nil
          go_simp
          refine hK _ _ ?_
          clear hK K
          try simp only [Act.put, List.setIfInBounds_toArray, List.set_cons_zero, List.set_cons_succ]
          refine late_tail (i := 19) (v := ?_) rfl (by kernel_rfl) (by kernel_rfl) (by kernel_rfl) (fun _ _ _ h => h) (by rfl) ?_ ?_
          rotate_left
          · intro w
            go_simp
            try (with_reducible rfl)
          try simp only [Act.put, List.setIfInBounds_toArray, List.set_cons_zero, List.set_cons_succ]
          refine late_tail (i := 20) (v := ?_) rfl (by kernel_rfl) (by kernel_rfl) (by kernel_rfl) (fun _ _ _ h => h) (by rfl) ?_ ?_
          rotate_left
          · intro w
            go_simp
            try (with_reducible rfl)
          try simp only [Act.put, List.setIfInBounds_toArray, List.set_cons_zero, List.set_cons_succ]
          refine Go.wpAny_ready (rs := [21]) (by kernel_rfl) (by simp) ?_
          refine AllReady.cons (At.out rfl) (fun K hK => ?_) AllReady.nil
          go_simp
          refine hK _ _ ?_
          clear hK K
          try simp only [Act.put, List.setIfInBounds_toArray, List.set_cons_zero, List.set_cons_succ]
          refine wpAny_done (by kernel_rfl) ?_ _
          go_wp2
          refine bodyPost_ret (results_tmp3 rfl _ _ _) rfl ?_
          have hfin := fin_two aWH.out hnlH.out (by (repeat first | exact ButS.refl _ _ | exact (ButS.refl _ _).drewN 1 | refine but_drew ?_ | refine ButS.trans ?_ (but_alloc _ _ _) | refine ButS.trans ?_ (ButS.of_grown (by assumption) (fun j e => by first | exact own_block e | exact .inl (own_block e) | exact .inr (own_block e))))) hV2 hV1 hV3 (by (repeat first | exact ButS.refl _ _ | exact (ButS.refl _ _).drewN 1 | refine but_drew ?_ | refine ButS.trans ?_ (but_alloc _ _ _) | refine ButS.trans ?_ (ButS.of_grown (by assumption) (fun j e => by first | exact own_block e | exact .inl (own_block e) | exact .inr (own_block e))))) hL2 hL1 hL3 hn9
          first
          | exact ⟨rfl, rstep_then0 bW.out hfin.1⟩
          | exact ⟨rfl, rstep_then0 bW.out hfin.2⟩
          | exact ⟨rfl, rstep_then bW.out hfin.1 _⟩
          | exact ⟨rfl, rstep_then bW.out hfin.2 _⟩
        exact AllReadyM.nil
      exact AllReadyM.nil
    exact AllReadyM.nil
  refine AllReadyM.cons (At.out rfl) (fun K hK => ?_) ?_
  ·
    go_simp
    refine hK.out _ _ (by (try dsimp only); go_keep) (fun hHeld => ?_)
    clear hK K
    try simp only [Act.put, List.setIfInBounds_toArray, List.set_cons_zero, List.set_cons_succ]
    refine wpAnyM_ready (rs := [8]) (by kernel_rfl) (by simp) ?_
    refine AllReadyM.cons (At.out rfl) (fun K hK => ?_) ?_
    ·
      go_simp
      refine hK.out _ _ (by (try dsimp only); go_keep) (fun hHeld => ?_)
      clear hK K
      try simp only [Act.put, List.setIfInBounds_toArray, List.set_cons_zero, List.set_cons_succ]
      refine wpAnyM_ready (rs := [9]) (by kernel_rfl) (by simp) ?_
      refine AllReadyM.cons (At.out rfl) (fun K hK => ?_) ?_
      ·
        ((refine step_append_any _ rfl (.tmp 75) (.tmp 78) 33 rfl B 31 iV _ 1 8 Try.underlying33 hVi hVz hVs hVb rfl (by decide) (.slice Av n cv) n (vv ns) (by rfl) (ButS.own (by (repeat first | exact ButS.refl _ _ | exact (ButS.refl _ _).drewN 1 | refine but_drew ?_ | refine ButS.trans ?_ (but_alloc _ _ _) | refine ButS.trans ?_ (ButS.of_grown (by assumption) (fun j e => by first | exact own_block e | exact .inl (own_block e) | exact .inr (own_block e)))) : ButS W _ (fun j => Al.map (·.block) = some j)) hVo.out (fun k hk e => hvl.out k (own_block hk) e)) _ (some ⟨_, 0, none⟩) 1 1 [.int .u64 (V : Int)] (by rfl) (reads_one (by (repeat first | exact alloc_top _ _ rfl | exact alloc_top _ _ (by simp) | exact alloc_top _ _ (by first | omega | (simp; done) | (simp; omega)) | refine (Below.heap_alloc _ _ _ (by first | omega | (simp; done) | (simp; omega))).trans ?_ | refine (World.grownBy.block (by assumption) _ (by first | omega | (simp; done) | (simp; omega)) (fun e => by first | exact absurd (hltH.out _ (.inl (own_block e.symm))) (by first | omega | (simp; done) | (simp; omega)) | exact absurd (hltH.out _ (.inr (own_block e.symm))) (by first | omega | (simp; done) | (simp; omega)))).trans ?_))) (fun u hu => by simp at hu; subst hu; rfl) hmx.out hbV.out (by first | omega | (simp; done) | (simp; omega)) ?_; intro v1 wV hV1 hV2 hV3; obtain ⟨A1, c1, rfl⟩ := own_form hV1; have zV : W.heap.size ≤ wV.heap.size := (hRWz.out wV (by (repeat first | exact ButS.refl _ _ | exact (ButS.refl _ _).drewN 1 | refine but_drew ?_ | refine ButS.trans ?_ (but_alloc _ _ _) | refine ButS.trans ?_ (ButS.of_grown (by assumption) (fun j e => by first | exact own_block e | exact .inl (own_block e) | exact .inr (own_block e)))))); have zVR : R < wV.heap.size := (by omega); have zVs : s < wV.heap.size := (by omega); have cV0 : wV.cell? ⟨R, 0, none⟩ = some (.slice Av n cv) := (hRW.out wV (by (repeat first | exact ButS.refl _ _ | exact (ButS.refl _ _).drewN 1 | refine but_drew ?_ | refine ButS.trans ?_ (but_alloc _ _ _) | refine ButS.trans ?_ (ButS.of_grown (by assumption) (fun j e => by first | exact own_block e | exact .inl (own_block e) | exact .inr (own_block e)))))).1; have cV1 : wV.cell? ⟨R, 1, none⟩ = some (.slice Al n cl) := (hRW.out wV (by (repeat first | exact ButS.refl _ _ | exact (ButS.refl _ _).drewN 1 | refine but_drew ?_ | refine ButS.trans ?_ (but_alloc _ _ _) | refine ButS.trans ?_ (ButS.of_grown (by assumption) (fun j e => by first | exact own_block e | exact .inl (own_block e) | exact .inr (own_block e)))))).2.1; have fV0 : wV.frozen? ⟨R, 0, none⟩ = false := (hRW.out wV (by (repeat first | exact ButS.refl _ _ | exact (ButS.refl _ _).drewN 1 | refine but_drew ?_ | refine ButS.trans ?_ (but_alloc _ _ _) | refine ButS.trans ?_ (ButS.of_grown (by assumption) (fun j e => by first | exact own_block e | exact .inl (own_block e) | exact .inr (own_block e)))))).2.2.1 0; have fV1 : wV.frozen? ⟨R, 1, none⟩ = false := (hRW.out wV (by (repeat first | exact ButS.refl _ _ | exact (ButS.refl _ _).drewN 1 | refine but_drew ?_ | refine ButS.trans ?_ (but_alloc _ _ _) | refine ButS.trans ?_ (ButS.of_grown (by assumption) (fun j e => by first | exact own_block e | exact .inl (own_block e) | exact .inr (own_block e)))))).2.2.1 1; have dV2 : wV.cell? ⟨s, 2, none⟩ = some (.int .u64 (V : Int)) := (hRW.out wV (by (repeat first | exact ButS.refl _ _ | exact (ButS.refl _ _).drewN 1 | refine but_drew ?_ | refine ButS.trans ?_ (but_alloc _ _ _) | refine ButS.trans ?_ (ButS.of_grown (by assumption) (fun j e => by first | exact own_block e | exact .inl (own_block e) | exact .inr (own_block e)))))).2.2.2))
        refine hK.out _ _ ⟨cV0, cV1, dV2⟩ (fun hHeld => ?_)
        clear hK K
        try simp only [Act.put, List.setIfInBounds_toArray, List.set_cons_zero, List.set_cons_succ]
        refine wpAnyM_ready (rs := [15]) (by kernel_rfl) (by simp) ?_
        refine AllReadyM.cons (At.out rfl) (fun K hK => ?_) ?_
        ·
          ((refine step_append_any _ rfl (.tmp 83) (.tmp 84) 34 rfl B 4 iL _ 1 1 Try.underlying34 hLi hLz hLs hLb rfl (by decide) (.slice Al n cl) n (lbv ns) (by rfl) (ButS.own (by (repeat first | exact ButS.refl _ _ | exact (ButS.refl _ _).drewN 1 | refine but_drew ?_ | refine ButS.trans ?_ (but_alloc _ _ _) | refine ButS.trans ?_ (ButS.of_grown (by assumption) (fun j e => by first | exact own_block e | exact .inl (own_block e) | exact .inr (own_block e)))) : ButS W _ (fun j => Av.map (·.block) = some j)) hLo.out (fun k hk e => hlv.out k (own_block hk) e)) _ (some ⟨_, 0, none⟩) 1 1 [.bool true] (by rfl) (reads_one (by (repeat first | exact alloc_top _ _ rfl | exact alloc_top _ _ (by simp) | exact alloc_top _ _ (by first | omega | (simp; done) | (simp; omega)) | refine (Below.heap_alloc _ _ _ (by first | omega | (simp; done) | (simp; omega))).trans ?_ | refine (World.grownBy.block (by assumption) _ (by first | omega | (simp; done) | (simp; omega)) (fun e => by first | exact absurd (hltH.out _ (.inl (own_block e.symm))) (by first | omega | (simp; done) | (simp; omega)) | exact absurd (hltH.out _ (.inr (own_block e.symm))) (by first | omega | (simp; done) | (simp; omega)))).trans ?_))) (fun u hu => by simp at hu; subst hu; rfl) hmx.out hbL.out (by first | omega | (simp; done) | (simp; omega)) ?_; intro v2 wL hL1 hL2 hL3; obtain ⟨A2, c2, rfl⟩ := own_form hL1; have zL : W.heap.size ≤ wL.heap.size := (hRWz.out wL (by (repeat first | exact ButS.refl _ _ | exact (ButS.refl _ _).drewN 1 | refine but_drew ?_ | refine ButS.trans ?_ (but_alloc _ _ _) | refine ButS.trans ?_ (ButS.of_grown (by assumption) (fun j e => by first | exact own_block e | exact .inl (own_block e) | exact .inr (own_block e)))))); have zLR : R < wL.heap.size := (by omega); have zLs : s < wL.heap.size := (by omega); have cL0 : wL.cell? ⟨R, 0, none⟩ = some (.slice Av n cv) := (hRW.out wL (by (repeat first | exact ButS.refl _ _ | exact (ButS.refl _ _).drewN 1 | refine but_drew ?_ | refine ButS.trans ?_ (but_alloc _ _ _) | refine ButS.trans ?_ (ButS.of_grown (by assumption) (fun j e => by first | exact own_block e | exact .inl (own_block e) | exact .inr (own_block e)))))).1; have cL1 : wL.cell? ⟨R, 1, none⟩ = some (.slice Al n cl) := (hRW.out wL (by (repeat first | exact ButS.refl _ _ | exact (ButS.refl _ _).drewN 1 | refine but_drew ?_ | refine ButS.trans ?_ (but_alloc _ _ _) | refine ButS.trans ?_ (ButS.of_grown (by assumption) (fun j e => by first | exact own_block e | exact .inl (own_block e) | exact .inr (own_block e)))))).2.1; have fL0 : wL.frozen? ⟨R, 0, none⟩ = false := (hRW.out wL (by (repeat first | exact ButS.refl _ _ | exact (ButS.refl _ _).drewN 1 | refine but_drew ?_ | refine ButS.trans ?_ (but_alloc _ _ _) | refine ButS.trans ?_ (ButS.of_grown (by assumption) (fun j e => by first | exact own_block e | exact .inl (own_block e) | exact .inr (own_block e)))))).2.2.1 0; have fL1 : wL.frozen? ⟨R, 1, none⟩ = false := (hRW.out wL (by (repeat first | exact ButS.refl _ _ | exact (ButS.refl _ _).drewN 1 | refine but_drew ?_ | refine ButS.trans ?_ (but_alloc _ _ _) | refine ButS.trans ?_ (ButS.of_grown (by assumption) (fun j e => by first | exact own_block e | exact .inl (own_block e) | exact .inr (own_block e)))))).2.2.1 1; have dL2 : wL.cell? ⟨s, 2, none⟩ = some (.int .u64 (V : Int)) := (hRW.out wL (by (repeat first | exact ButS.refl _ _ | exact (ButS.refl _ _).drewN 1 | refine but_drew ?_ | refine ButS.trans ?_ (but_alloc _ _ _) | refine ButS.trans ?_ (ButS.of_grown (by assumption) (fun j e => by first | exact own_block e | exact .inl (own_block e) | exact .inr (own_block e)))))).2.2.2))
          refine hK.out _ _ ⟨cL0, cL1, dL2⟩ (fun hHeld => ?_)
          clear hK K
          try simp only [Act.put, List.setIfInBounds_toArray, List.set_cons_zero, List.set_cons_succ]
          refine wpAnyM_drop (by kernel_rfl) ?_
          refine late_tail (i := 16) (v := ?_) rfl (by kernel_rfl) (by kernel_rfl) (by kernel_rfl) (fun _ _ _ h => h) (by rfl) ?_ ?_
          rotate_left
          · intro w
            go_simp
            try (with_reducible rfl)
          try simp only [Act.put, List.setIfInBounds_toArray, List.set_cons_zero, List.set_cons_succ]
          refine late_tail (i := 17) (v := ?_) rfl (by kernel_rfl) (by kernel_rfl) (by kernel_rfl) (fun _ _ _ h => h) (by rfl) ?_ ?_
          rotate_left
          · intro w
            go_simp
            try (with_reducible rfl)
          try simp only [Act.put, List.setIfInBounds_toArray, List.set_cons_zero, List.set_cons_succ]
          refine Go.wpAny_ready (rs := [18]) (by kernel_rfl) (by simp) ?_
          refine AllReady.cons (At.out rfl) (fun K hK => ?_) AllReady.nil
          go_simp
          refine hK _ _ ?_
          clear hK K
          try simp only [Act.put, List.setIfInBounds_toArray, List.set_cons_zero, List.set_cons_succ]
          refine late_tail (i := 19) (v := ?_) rfl (by kernel_rfl) (by kernel_rfl) (by kernel_rfl) (fun _ _ _ h => h) (by rfl) ?_ ?_
          rotate_left
          · intro w
            go_simp
            try (with_reducible rfl)
          try simp only [Act.put, List.setIfInBounds_toArray, List.set_cons_zero, List.set_cons_succ]
          refine late_tail (i := 20) (v := ?_) rfl (by kernel_rfl) (by kernel_rfl) (by kernel_rfl) (fun _ _ _ h => h) (by rfl) ?_ ?_
          rotate_left
          · intro w
            go_simp
            try (with_reducible rfl)
          try simp only [Act.put, List.setIfInBounds_toArray, List.set_cons_zero, List.set_cons_succ]
          refine Go.wpAny_ready (rs := [21]) (by kernel_rfl) (by simp) ?_
          refine AllReady.cons (At.out rfl) (fun K hK => ?_) AllReady.nil
          go_simp
          refine hK _ _ ?_
          clear hK K
          try simp only [Act.put, List.setIfInBounds_toArray, List.set_cons_zero, List.set_cons_succ]
          refine wpAny_done (by kernel_rfl) ?_ _
          go_wp2
          refine bodyPost_ret (results_tmp3 rfl _ _ _) rfl ?_
          have hfin := fin_two aWH.out hnlH.out (by (repeat first | exact ButS.refl _ _ | exact (ButS.refl _ _).drewN 1 | refine but_drew ?_ | refine ButS.trans ?_ (but_alloc _ _ _) | refine ButS.trans ?_ (ButS.of_grown (by assumption) (fun j e => by first | exact own_block e | exact .inl (own_block e) | exact .inr (own_block e))))) hV2 hV1 hV3 (by (repeat first | exact ButS.refl _ _ | exact (ButS.refl _ _).drewN 1 | refine but_drew ?_ | refine ButS.trans ?_ (but_alloc _ _ _) | refine ButS.trans ?_ (ButS.of_grown (by assumption) (fun j e => by first | exact own_block e | exact .inl (own_block e) | exact .inr (own_block e))))) hL2 hL1 hL3 hn9
          first
          | exact ⟨rfl, rstep_then0 bW.out hfin.1⟩
          | exact ⟨rfl, rstep_then0 bW.out hfin.2⟩
          | exact ⟨rfl, rstep_then bW.out hfin.1 _⟩
          | exact ⟨rfl, rstep_then bW.out hfin.2 _⟩
        exact AllReadyM.nil
      exact AllReadyM.nil
    exact AllReadyM.nil
  exact AllReadyM.nil
end
end Go.Proofs.Ytpgmgldhpagieaa
