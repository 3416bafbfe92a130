/- As RangeZ: and the iterator is promised, also where a round says no more, that all but what is no block of its own and none of Z is as it was: so iterators go over iterators. The nodes of chain.link in memory; asking a pool of nodes; the texts walked. -/
import Derived.Test.YtelfacchhclgnaaGreatMu03
section
namespace Go.Proofs.YtelfacchhclgnaaGreat
open Go.RowKit Go.Shelf
/-- An iterator over any body that leaves the iterator's blocks, and the blocks Z, as they are. -/
def SeqW {α : Type} (F : Fence) (n : Nat) (P : Program) (g : Nat) (lb : Array Value) (encs : α → Array Value) (Z : Nat → Prop) (S Sp T : List α → Prop) (w : World) : Prop :=
  ∀ (l : Nat) (J Jx : List α → (Nat → Prop) → World → Prop) (W : World), Below w.heap.size w W → Steps J → Steps Jx →
    (∀ pre x R W1, J pre R W1 → T (pre ++ [x]) → YieldAt F (n - 1) P l (encs x) W1 fun e W' =>
      ((e = .returned (.bool true) ∧ J (pre ++ [x]) R W') ∨ (e = .returned (.bool false) ∧ Jx (pre ++ [x]) R W')) ∧ ButS W1 W' (fun j => ¬ (Z j ∨ R j))) →
    J [] (fun _ => False) W →
    CallsIn F n P g (#[.func (.yield l) #[] #[]] ++ lb) W fun e W' => (∃ v, e = .returned v) ∧ ((∃ xs R, S xs ∧ J xs R W') ∨ (∃ pre R, Sp pre ∧ Jx pre R W'))
variable {F : Fence} {n : Nat} {P : Program}
/-- The law. -/
theorem wpIn_rangeW {α : Type} {g : Operand} {ps : Array Tmp} {assign body : Code} {Q : Exit → Act → World → Prop} {a : Act} {w : World}
    (hro : F.round = none) (h1 : 1 ≤ n) {gf : Nat} {lb : Array Value} (hg : a.eval g = .func (.func gf) #[] lb) (hFg : F.fn gf) (eg : ∀ args w, (callFunc gf args).run P w = .ok (.enter gf args) w)
    {encs : α → Array Value} {Z : Nat → Prop} {S Sp T : List α → Prop} {w0 : World} (hseq : SeqW F (n - 1) P gf lb encs Z S Sp T w0) (hZ : ∀ j, Z j → j < w.heap.size) (hb0 : Below w0.heap.size w0 w) (hps : ∀ x, (encs x).size = ps.size)
    (I : List α → (Nat → Prop) → World → Prop) (Ix : Code → List α → (Nat → Prop) → World → Prop) (A : List α × α → Act → (Nat → Prop) → World → Prop)
    (hI : Abides w.heap.size I) (hIx : ∀ c, Abides w.heap.size (Ix c)) (hA : ∀ a', Abides w.heap.size (fun s => A s a')) (hlow : ∀ xs O W, I xs O W → ∀ j, O j → ¬ Z j)
    (O₀ : Nat → Prop) (hO₀ : ∀ j, O₀ j → j < w.heap.size) (h0 : I [] O₀ w)
    (hassign : ∀ (l : Nat) (pre : List α) (x : α) (O : Nat → Prop) (W : World), I pre O W → T (pre ++ [x]) →
      assign.wpIn (F.inRound l) (n - 1 - 1) P (Exit.then (fun a1 W1 => ∃ O1, OwnStep O O1 W W1 ∧ A (pre, x) a1 O1 W1) (fun _ _ _ => False)) { tmps := (ps.zip (encs x)).foldl (fun t (p, v) => t.setIfInBounds p v) a.tmps, defers := [] } W)
    (hbody : ∀ (l : Nat) (pre : List α) (x : α) (O : Nat → Prop) (a1 : Act) (W : World), A (pre, x) a1 O W → body.wpIn (F.inRound l) (n - 1 - 1) P (roundO I Ix (pre ++ [x]) O W) a1 W)
    (hdone : ∀ (D : Nat) (xs : List α) (O : Nat → Prop) (W : World), w.heap.size ≤ D → ¬ O D → S xs → I xs O W → W.heap[D]? = some (.deferred (some [])) → Q .normal { a with defers := { target := .collected D, args := #[] } :: a.defers } W)
    (hstop : ∀ (D : Nat) (c : Code) (pre : List α) (O : Nat → Prop) (W : World), w.heap.size ≤ D → ¬ O D → Sp pre → Ix c pre O W → W.heap[D]? = some (.deferred (some [])) → c.wpIn F n P Q { a with defers := { target := .collected D, args := #[] } :: a.defers } W) :
    (Code.rangeFunc g ps assign body).wpIn F n P Q a w := by
  refine wpIn_rangeFunc ?_
  intro fn hfn
  rw [hro]
  generalize hD : w.heap.size = D at *
  obtain ⟨rc, hrc⟩ : ∃ rc : LoopState → Option Code → Loop, rc = fun st pe => { state := st, pending := pe, fn, tmps := a.tmps, params := ps, assign, body, defers := D } := ⟨_, rfl⟩
  obtain ⟨V, hV⟩ : ∃ V, (w.alloc (.deferred (some []))).alloc (.loop (rc .ready none)) = V := ⟨_, rfl⟩
  have hbV : ButS w V (fun _ => False) := by rw [← hV]; exact (but_alloc' _ _ _).trans (but_alloc' _ _ _)
  have hsV : V.heap.size = D + 2 := by rw [← hV]; simp [hD]
  have hL : V.heap[D + 1]? = some (.loop (rc .ready none)) := by
    rw [← hV, ← hD]
    have := World.alloc_heap_new (w.alloc (.deferred (some []))) (.loop (rc .ready none))
    rwa [World.size_alloc] at this
  have hK : V.heap[D]? = some (.deferred (some [])) := by
    rw [← hV, ← hD]
    exact (Below.heap_alloc _ _ _ (by simp)).trans (World.alloc_heap_new w _)
  have hbl : Below w0.heap.size w0 V := hb0.trans (hbV.below (by have := hb0.size; omega) (fun _ h => h.elim))
  have hIV : I [] O₀ V := hI _ _ _ _ _ h0 hbV (fun _ h => h.elim)
  refine ⟨D + 1, [{ target := .collected D, args := #[] }], V, { target := .fn (.func gf) lb, args := #[.func (.yield (D + 1)) #[] #[]] }, V, gf, #[.func (.yield (D + 1)) #[] #[]] ++ lb, V, ?_, ?_, ?_, ?_, fun _ => h1, ?_⟩
  · have := run_enterLoop_outer (P := P) (w := w) fn a.tmps ps assign body
    rw [hD] at this
    rw [this, ← hV, hrc]
  · simp only [resolve, hg]
    simp [go_sem]
  · intro f' hf'
    simp [Target.leads] at hf'
    subst hf'; exact hFg
  · simp [invoke, go_sem, eg]
  · obtain ⟨Bk, hBk⟩ : ∃ Bk : LoopState → Option Code → (Nat → Prop) → (Nat → Prop) → World → Prop, Bk = fun st pe O R W => (∀ j, O j → ¬ R j ∧ j ≠ D ∧ j ≠ D + 1 ∧ j < W.heap.size) ∧ (∀ j, R j → D + 2 ≤ j ∧ j < W.heap.size) ∧ W.heap[D + 1]? = some (.loop (rc st pe)) ∧ W.heap[D]? = some (.deferred (some [])) := ⟨_, rfl⟩
    have hstep : ∀ {st : LoopState} {pe : Option Code} {O R R' : Nat → Prop} {W W' : World}, Bk st pe O R W → ButS W W' R → (∀ j, R' j → (R j ∨ W.heap.size ≤ j) ∧ j < W'.heap.size) → Bk st pe O R' W' := by
      intro st pe O R R' W W' hb hw hR'
      rw [hBk] at hb ⊢
      obtain ⟨b1, b2, b3, b4⟩ := hb
      have hlt := (Array.getElem?_eq_some_iff.1 b3).1
      refine ⟨fun j hj => ⟨fun hr => ?_, (b1 j hj).2.1, (b1 j hj).2.2.1, by have := (b1 j hj).2.2.2; have := hw.size; omega⟩, fun j hj => ⟨?_, (hR' j hj).2⟩, (hw.block _ hlt (fun h => by have := (b2 _ h).1; omega)).trans b3, (hw.block _ (by omega) (fun h => by have := (b2 _ h).1; omega)).trans b4⟩
      · rcases (hR' j hr).1 with h | h
        · exact (b1 j hj).1 h
        · have := (b1 j hj).2.2.2; omega
      · rcases (hR' j hj).1 with h | h
        · exact (b2 j h).1
        · omega
    have hown : ∀ {st : LoopState} {pe : Option Code} {O O' R : Nat → Prop} {W W' : World}, Bk st pe O R W → OwnStep O O' W W' → Bk st pe O' R W' ∧ ∀ j, R j → W'.heap[j]? = W.heap[j]? := by
      intro st pe O O' R W W' hb hw
      rw [hBk] at hb ⊢
      obtain ⟨b1, b2, b3, b4⟩ := hb
      have hlt := (Array.getElem?_eq_some_iff.1 b3).1
      refine ⟨⟨fun j hj => ?_, fun j hj => ⟨(b2 j hj).1, by have := (b2 j hj).2; have := hw.1.size; omega⟩, (hw.1.block _ hlt (fun h => (b1 _ h).2.2.1 rfl)).trans b3, (hw.1.block _ (by omega) (fun h => (b1 _ h).2.1 rfl)).trans b4⟩, fun j hj => hw.1.block j (b2 j hj).2 (fun h => (b1 j h).1 hj)⟩
      obtain ⟨h1, h2⟩ := hw.2 j hj
      rcases h1 with h1 | h1
      · exact ⟨(b1 j h1).1, (b1 j h1).2.1, (b1 j h1).2.2.1, h2⟩
      · exact ⟨fun hr => by have := (b2 j hr).2; omega, by omega, by omega, h2⟩
    have hput : ∀ {st st' : LoopState} {pe pe' : Option Code} {O R : Nat → Prop} {W : World}, Bk st pe O R W → Bk st' pe' O R (W.putObj (D + 1) (.loop (rc st' pe'))) := by
      intro st st' pe pe' O R W hb
      rw [hBk] at hb ⊢
      obtain ⟨b1, b2, b3, b4⟩ := hb
      have hlt := (Array.getElem?_eq_some_iff.1 b3).1
      exact ⟨fun j hj => by rw [World.putObj_size]; exact b1 j hj, fun j hj => by rw [World.putObj_size]; exact b2 j hj, World.putObj_heap_same hlt, (World.putObj_heap_other (by omega)).trans b4⟩
    have hrec : ∀ {st : LoopState} {pe : Option Code} {O R : Nat → Prop} {W : World}, Bk st pe O R W → W.heap[D + 1]? = some (.loop (rc st pe)) := by
      intro st pe O R W hb
      rw [hBk] at hb
      exact hb.2.2.1
    have hdef : ∀ {st : LoopState} {pe : Option Code} {O R : Nat → Prop} {W : World}, Bk st pe O R W → W.heap[D]? = some (.deferred (some [])) := by
      intro st pe O R W hb
      rw [hBk] at hb
      exact hb.2.2.2
    have hno : ∀ {st : LoopState} {pe : Option Code} {O R : Nat → Prop} {W : World}, Bk st pe O R W → ¬ O (D + 1) ∧ ¬ O D := by
      intro st pe O R W hb
      rw [hBk] at hb
      exact ⟨fun h => (hb.1 _ h).2.2.1 rfl, fun h => (hb.1 _ h).2.1 rfl⟩
    have hRB : ∀ {st : LoopState} {pe : Option Code} {O R : Nat → Prop} {W : World}, Bk st pe O R W → ∀ j, R j → ¬ O j ∧ D ≤ j := by
      intro st pe O R W hb j hj
      rw [hBk] at hb
      exact ⟨fun h => (hb.1 j h).1 hj, by have := (hb.2.1 j hj).1; omega⟩
    have hJs : ∀ (st : LoopState) (T : List α → Option Code → (Nat → Prop) → World → Prop), (∀ pe, Abides D (fun s => T s pe)) → Steps (fun pre R W => ∃ pe O, T pre pe O W ∧ Bk st pe O R W) := by
      intro st T hT s R R' W W' hj hw hR'
      obtain ⟨pe, O, h1, h2⟩ := hj
      exact ⟨pe, O, hT pe _ _ _ _ _ h1 hw (hRB h2), hstep h2 hw hR'⟩
    refine (hseq (D + 1) (fun pre R W => ∃ pe O, (fun pre (pe : Option Code) O W => pe = none ∧ I pre O W) pre pe O W ∧ Bk .ready pe O R W) (fun pre R W => ∃ pe O, (fun pre (pe : Option Code) O W => ∃ c, pe = some c ∧ Ix c pre O W) pre pe O W ∧ Bk .done pe O R W) V hbl
      (hJs .ready (fun pre pe O W => pe = none ∧ I pre O W) (fun pe s O W W' R h hw hr => ⟨h.1, hI _ _ _ _ _ h.2 hw hr⟩)) (hJs .done (fun pre pe O W => ∃ c, pe = some c ∧ Ix c pre O W) (fun pe s O W W' R h hw hr => by obtain ⟨c, h1, h2⟩ := h; exact ⟨c, h1, hIx c _ _ _ _ _ h2 hw hr⟩)) ?_
      ⟨none, O₀, ⟨rfl, hIV⟩, by rw [hBk]; exact ⟨fun j hj => ⟨fun h => h, by have := hO₀ j hj; omega, by have := hO₀ j hj; omega, by have := hO₀ j hj; omega⟩, fun _ h => h.elim, hL, hK⟩⟩).mono ?_
    · rintro pre x R W ⟨pe, O, ⟨rfl, hi⟩, hb⟩ hlen
      have hy := run_yield (P := P) (args := encs x) (hrec hb) (by rw [hrc]; exact hps x)
      rw [hrc] at hy
      have hsW : D ≤ W.heap.size := by have := (Array.getElem?_eq_some_iff.1 (hrec hb)).1; omega
      refine ⟨fn, _, assign, body, hy, roundIn_of_wpIn hfn (wpIn_mono (hassign (D + 1) pre x O W hi hlen) ?_)⟩
      rintro e a1 W1 hp
      cases e with
      | normal =>
        obtain ⟨O1, hst, ha⟩ := hp
        obtain ⟨hb1, hk1⟩ := hown hb hst
        have hb2 := hput (st' := .busy) (pe' := none) hb1
        refine ⟨W1.putObj (D + 1) (.loop (rc .busy none)), by have h := run_beginRound (P := P) (hrec hb1) (by rw [hrc]); rw [hrc] at h ⊢; exact h, ?_⟩
        have ha2 : A (pre, x) a1 O1 (W1.putObj (D + 1) (.loop (rc .busy none))) := hA a1 _ _ _ _ _ ha (but_put _ _ _) (fun j hj => by subst hj; exact ⟨(hno hb1).1, by omega⟩)
        have hsz1 : W.heap.size ≤ W1.heap.size := hst.1.size
        have hbd := hbody (D + 1) pre x O1 a1 _ ha2
        refine wpIn_mono hbd ?_
        have fin : ∀ (jump : Option Code) (O2 : Nat → Prop) (W3 : World), OwnStep O1 O2 (W1.putObj (D + 1) (.loop (rc .busy none))) W3 →
            (Instr.endRound (D + 1) jump).run P W3 = .ok (.bool jump.isNone) (W3.putObj (D + 1) (.loop (rc (if jump.isNone then .ready else .done) jump))) ∧
            Bk (if jump.isNone then .ready else .done) jump O2 R (W3.putObj (D + 1) (.loop (rc (if jump.isNone then .ready else .done) jump))) ∧ ButS W3 (W3.putObj (D + 1) (.loop (rc (if jump.isNone then .ready else .done) jump))) (· = D + 1) ∧ ¬ O2 (D + 1) ∧
            ButS W (W3.putObj (D + 1) (.loop (rc (if jump.isNone then .ready else .done) jump))) (fun j => ¬ (Z j ∨ R j)) := by
          intro jump O2 W3 hs3
          obtain ⟨hb3, hk3⟩ := hown hb2 hs3
          have he := run_endRound (P := P) jump (hrec hb3)
          have hRne : ∀ j, R j → j ≠ D + 1 := fun j hj e => by
            have := hb; rw [hBk] at this
            have := (this.2.1 j hj).1; omega
          refine ⟨?_, hput hb3, but_put _ _ _, (hno hb3).1, ?_⟩
          · rw [hrc] at he ⊢; exact he
          · have c0 : ButS W W1 (fun j => O j ∨ j = D + 1) := hst.1.mono (fun j _ h => .inl h)
            have c1 := c0.then (but_put W1 (D + 1) (.loop (rc .busy none))) (fun j h => .inl (.inr h))
            have c2 := c1.then hs3.1 (fun j h => by
              rcases (hst.2 j h).1 with h2 | h2
              · exact .inl (.inl h2)
              · exact .inr h2)
            have c3 := c2.then (but_put W3 (D + 1) (.loop (rc (if jump.isNone then .ready else .done) jump))) (fun j h => .inl (.inr h))
            have hbB := hb
            rw [hBk] at hbB
            refine c3.mono (fun j _ h hz => ?_)
            rcases h with h | h
            · rcases hz with hz | hz
              · exact hlow _ _ _ hi j h hz
              · exact (hbB.1 j h).1 hz
            · rcases hz with hz | hz
              · have := hZ j hz; omega
              · have := (hbB.2.1 j hz).1; omega
        rintro e a3 W3 hp
        cases e with
        | normal =>
          obtain ⟨O2, hs3, hi3⟩ := hp
          obtain ⟨f1, f2, f3, f4, f5⟩ := fin none O2 W3 hs3
          exact ⟨_, _, f1, .inl ⟨rfl, ⟨none, O2, ⟨rfl, hI _ _ _ _ _ hi3 f3 (fun j hj => by subst hj; exact ⟨f4, by omega⟩)⟩, f2⟩⟩, f5⟩
        | ret =>
          obtain ⟨O2, hs3, hi3⟩ := hp
          obtain ⟨f1, f2, f3, f4, f5⟩ := fin (some .ret) O2 W3 hs3
          exact ⟨_, _, f1, .inr ⟨rfl, ⟨some .ret, O2, ⟨.ret, rfl, hIx _ _ _ _ _ _ hi3 f3 (fun j hj => by subst hj; exact ⟨f4, by omega⟩)⟩, f2⟩⟩, f5⟩
        | exit id =>
          obtain ⟨O2, hs3, hi3⟩ := hp
          obtain ⟨f1, f2, f3, f4, f5⟩ := fin (some (.exit id)) O2 W3 hs3
          exact ⟨_, _, f1, .inr ⟨rfl, ⟨some (.exit id), O2, ⟨.exit id, rfl, hIx _ _ _ _ _ _ hi3 f3 (fun j hj => by subst hj; exact ⟨f4, by omega⟩)⟩, f2⟩⟩, f5⟩
        | goto t =>
          obtain ⟨O2, hs3, hi3⟩ := hp
          obtain ⟨f1, f2, f3, f4, f5⟩ := fin (some (.goto t)) O2 W3 hs3
          exact ⟨_, _, f1, .inr ⟨rfl, ⟨some (.goto t), O2, ⟨.goto t, rfl, hIx _ _ _ _ _ _ hi3 f3 (fun j hj => by subst hj; exact ⟨f4, by omega⟩)⟩, f2⟩⟩, f5⟩
        | panic ch => exact hp.elim
        | outgrown => exact hp.elim
      | ret => exact hp.elim
      | exit id => exact hp.elim
      | goto t => exact hp.elim
      | panic ch => exact hp.elim
      | outgrown => exact hp.elim
    · rintro e W2 ⟨⟨v, rfl⟩, (⟨xs, R, hS, pe, O, ⟨rfl, hi⟩, hb⟩ | ⟨pre, R, hSp, pe, O, ⟨c, rfl, hi⟩, hb⟩)⟩
      · have he := run_endLoop (P := P) (hrec hb) (by rw [hrc]; simp)
        rw [hrc] at he
        exact ⟨none, _, he, hdone D xs O _ (Nat.le_refl _) (hno hb).2 hS (hI _ _ _ _ _ hi (but_put _ _ _) (fun j hj => by subst hj; exact ⟨(hno hb).1, by omega⟩)) ((World.putObj_heap_other (by omega)).trans (hdef hb))⟩
      · have he := run_endLoop (P := P) (hrec hb) (by rw [hrc]; simp)
        rw [hrc] at he
        exact ⟨some c, _, he, hstop D c pre O _ (Nat.le_refl _) (hno hb).2 hSp (hIx c _ _ _ _ _ hi (but_put _ _ _) (fun j hj => by subst hj; exact ⟨(hno hb).1, by omega⟩)) ((World.putObj_heap_other (by omega)).trans (hdef hb))⟩
end Go.Proofs.YtelfacchhclgnaaGreat
end
section
namespace Go.Proofs.YtelfacchhclgnaaGreat
set_option maxRecDepth 20000
open Go.RowKit
set_option linter.unusedSectionVars false
variable [Gh]
/-- A node as it lies. -/
structure Nd where
  key : Nat
  ah : Int
  be : Int
abbrev ndv (key : Nat) (ah : Int) (be : Int) : Value := .agg #[.int .u64 (key : Int), .int .i64 ah, .int .i64 be]
abbrev ndo (key : Nat) (ah : Int) (be : Int) : Obj := .cells #[.int .u64 (key : Int), .int .i64 ah, .int .i64 be] 145
abbrev Nd.v (x : Nd) : Value := ndv x.key x.ah x.be
abbrev Nd.o (x : Nd) : Obj := ndo x.key x.ah x.be
def Nd.z : Nd := ⟨0, 0, 0⟩
/-- The cells of places: a node, and is it taken? -/
def ncl (x : Nd × Bool) : List Value := [.int .u64 (x.1.key : Int), .int .i64 x.1.ah, .int .i64 x.1.be, .bool x.2]
def nv (ns : List (Nd × Bool)) : List Value := ns.flatMap ncl
theorem nv_cons (x : Nd × Bool) (ns : List (Nd × Bool)) : nv (x :: ns) = Value.int .u64 (x.1.key : Int) :: Value.int .i64 x.1.ah :: Value.int .i64 x.1.be :: Value.bool x.2 :: nv ns := rfl
theorem nv_snoc (ns : List (Nd × Bool)) (x : Nd × Bool) : nv (ns ++ [x]) = nv ns ++ ncl x := by simp [nv]
theorem nv_at : ∀ (ns : List (Nd × Bool)) (k : Nat) (h : k < ns.length) (j : Nat), j < 4 → (nv ns)[k * 4 + j]? = (ncl ns[k])[j]?
  | x :: ns, 0, _, j, hj => by
    rw [nv_cons]
    match j, hj with
    | 0, _ => rfl
    | 1, _ => rfl
    | 2, _ => rfl
    | 3, _ => rfl
  | x :: ns, k + 1, h, j, hj => by
    have ih := nv_at ns k (by simpa using h) j hj
    have e1 : (k + 1) * 4 + j = (k * 4 + j) + 1 + 1 + 1 + 1 := by omega
    rw [e1, nv_cons]
    simp only [List.getElem?_cons_succ, List.getElem_cons_succ]
    exact ih
theorem nv_put : ∀ (ns : List (Nd × Bool)) (k : Nat) (y : Nd) (h : k < ns.length), (((nv ns).set (k * 4) (.int .u64 (y.key : Int))).set (k * 4 + 1) (.int .i64 y.ah)).set (k * 4 + 2) (.int .i64 y.be) = nv (ns.set k (y, ns[k].2))
  | x :: ns, 0, y, _ => rfl
  | x :: ns, k + 1, y, h => by
    have ih := nv_put ns k y (by simpa using h)
    have e0 : (k + 1) * 4 = (k * 4) + 1 + 1 + 1 + 1 := by omega
    have e : ∀ j, (k + 1) * 4 + j = (k * 4 + j) + 1 + 1 + 1 + 1 := fun j => by omega
    rw [e 1, e 2, e0, nv_cons]
    simp only [List.set_cons_succ, List.getElem_cons_succ]
    rw [nv_cons, ih]
theorem nv_flag : ∀ (ns : List (Nd × Bool)) (k : Nat) (b : Bool) (h : k < ns.length), (nv ns).set (k * 4 + 3) (.bool b) = nv (ns.set k (ns[k].1, b))
  | x :: ns, 0, b, _ => rfl
  | x :: ns, k + 1, b, h => by
    have ih := nv_flag ns k b (by simpa using h)
    have e : (k + 1) * 4 + 3 = (k * 4 + 3) + 1 + 1 + 1 + 1 := by omega
    rw [e, nv_cons]
    simp only [List.set_cons_succ, List.getElem_cons_succ]
    rw [nv_cons, ih]
theorem nv_set (ns : List (Nd × Bool)) (k : Nat) (y : Nd) (b : Bool) (h : k < ns.length) : ((((nv ns).set (k * 4) (.int .u64 (y.key : Int))).set (k * 4 + 1) (.int .i64 y.ah)).set (k * 4 + 2) (.int .i64 y.be)).set (k * 4 + 3) (.bool b) = nv (ns.set k (y, b)) := by
  rw [nv_put ns k y h, nv_flag _ k b (by simpa using h)]
  simp
abbrev iw (fs : List Nat) : List Value := fs.map fun i : Nat => Value.int .i64 (i : Int)
/-- Block Q is a pool's struct: its meter, its limit, its places, the freed ones. -/
structure Qo (w : World) (Q M lim : Nat) (An : Option Addr) (cn : Nat) (Af : Option Addr) (cf : Nat) (ns : List (Nd × Bool)) (fs : List Nat) : Prop where
  row : w.heap[Q]? = some (.cells #[.pointer (some ⟨M, 0, none⟩), .int .i64 (lim : Int), .slice An ns.length cn, .slice Af fs.length cf] 148 (0, 0))
  nodes : w.ownsRow 0 186 4 (.slice An ns.length cn) ns.length (nv ns)
  freed : w.ownsRow 0 3 1 (.slice Af fs.length cf) fs.length (iw fs)
  inr : ∀ i ∈ fs, ∃ h : i < ns.length, ns[i].2 = false
  nod : fs.Nodup
  lim_le : lim ≤ 1048576
  ns_le : ns.length ≤ lim
  fs_le : fs.length ≤ ns.length
/-- The blocks of a pool. -/
def QB (Q : Nat) (An Af : Option Addr) (j : Nat) : Prop := j = Q ∨ An.map (·.block) = some j ∨ Af.map (·.block) = some j
section
variable {w w' : World} {Q M lim cn cf : Nat} {An Af : Option Addr} {ns : List (Nd × Bool)} {fs : List Nat}
theorem Qo.c0 (h : Qo w Q M lim An cn Af cf ns fs) : w.cell? ⟨Q, 0, none⟩ = some (.pointer (some ⟨M, 0, none⟩)) := cell_of_row w Q 0 _ _ (0, 0) h.row
theorem Qo.c1 (h : Qo w Q M lim An cn Af cf ns fs) : w.cell? ⟨Q, 1, none⟩ = some (.int .i64 (lim : Int)) := cell_of_row w Q 1 _ _ (0, 0) h.row
theorem Qo.c2 (h : Qo w Q M lim An cn Af cf ns fs) : w.cell? ⟨Q, 2, none⟩ = some (.slice An ns.length cn) := cell_of_row w Q 2 _ _ (0, 0) h.row
theorem Qo.c3 (h : Qo w Q M lim An cn Af cf ns fs) : w.cell? ⟨Q, 3, none⟩ = some (.slice Af fs.length cf) := cell_of_row w Q 3 _ _ (0, 0) h.row
theorem Qo.fr (h : Qo w Q M lim An cn Af cf ns fs) (k : Nat) : w.frozen? ⟨Q, k, none⟩ = false := frozen_of_row w Q k _ _ h.row
theorem Qo.lt (h : Qo w Q M lim An cn Af cf ns fs) : Q < w.heap.size := row_lt h.row
theorem own_block_lt {w : World} {base : Nat} {e : TypeId} {size n c : Nat} {A : Option Addr} {xs : List Value} (h : w.ownsRow base e size (.slice A n c) n xs) {j : Nat} (hj : A.map (·.block) = some j) : j < w.heap.size ∧ ∃ cur, w.heap[j]? = some (.cells cur e (0, 0)) := by
  rcases own_addr h with ⟨rfl, _⟩ | ⟨g, rfl, hg, _, cur, hc⟩
  · cases hj
  · cases hj; exact ⟨hg, cur, hc⟩
theorem Qo.qb (h : Qo w Q M lim An cn Af cf ns fs) {j : Nat} (hj : QB Q An Af j) : j < w.heap.size := by
  rcases hj with rfl | hj | hj
  · exact h.lt
  · exact (own_block_lt h.nodes hj).1
  · exact (own_block_lt h.freed hj).1
theorem own_of_map {A : Option Addr} {n c k : Nat} (h : (Value.slice A n c).ownBlock = some k) : A.map (·.block) = some k := by
  cases A with
  | none => simp [Value.ownBlock] at h
  | some a => simpa [Value.ownBlock] using h
theorem Qo.chg {O : Nat → Prop} (h : Qo w Q M lim An cn Af cf ns fs) (b : K.Chg w w' O) (hO : ∀ j, QB Q An Af j → ¬ O j) : Qo w' Q M lim An cn Af cf ns fs :=
  ⟨(b.block Q h.lt (hO Q (.inl rfl))).trans h.row, b.own h.nodes (fun k hk => hO k (.inr (.inl (own_of_map hk)))), b.own h.freed (fun k hk => hO k (.inr (.inr (own_of_map hk)))), h.inr, h.nod, h.lim_le, h.ns_le, h.fs_le⟩
theorem Qo.drew (h : Qo w Q M lim An cn Af cf ns fs) (n : Nat) : Qo (w.drewN n) Q M lim An cn Af cf ns fs := ⟨h.row, h.nodes, h.freed, h.inr, h.nod, h.lim_le, h.ns_le, h.fs_le⟩
/-- The blocks lie apart: their types are unlike. -/
theorem Qo.ne_nodes (h : Qo w Q M lim An cn Af cf ns fs) {g : Nat} (hg : An.map (·.block) = some g) : g ≠ Q := by
  obtain ⟨_, cur, hc⟩ := own_block_lt h.nodes hg
  exact row_ne hc h.row (by decide)
theorem Qo.ne_freed (h : Qo w Q M lim An cn Af cf ns fs) {g : Nat} (hg : Af.map (·.block) = some g) : g ≠ Q := by
  obtain ⟨_, cur, hc⟩ := own_block_lt h.freed hg
  exact row_ne hc h.row (by decide)
theorem Qo.ne_both (h : Qo w Q M lim An cn Af cf ns fs) {g f : Nat} (hg : An.map (·.block) = some g) (hf : Af.map (·.block) = some f) : g ≠ f := by
  obtain ⟨_, cur, hc⟩ := own_block_lt h.nodes hg
  obtain ⟨_, cur', hc'⟩ := own_block_lt h.freed hf
  exact row_ne hc hc' (by decide)
/-- Place i, where it lies. -/
theorem Qo.at (h : Qo w Q M lim An cn Af cf ns fs) {i : Nat} (hi : i < ns.length) : ∃ g, An = some ⟨g, 0, none⟩ ∧ w.cell? ⟨g, i * 4, none⟩ = some (.int .u64 (ns[i].1.key : Int)) ∧ w.cell? ⟨g, i * 4 + 1, none⟩ = some (.int .i64 ns[i].1.ah) ∧ w.cell? ⟨g, i * 4 + 2, none⟩ = some (.int .i64 ns[i].1.be) ∧ w.cell? ⟨g, i * 4 + 3, none⟩ = some (.bool ns[i].2) ∧ ∀ k, w.frozen? ⟨g, k, none⟩ = false := by
  obtain ⟨g, rfl⟩ := own_some h.nodes (by omega)
  have e : ∀ j, j < 4 → w.cell? ⟨g, i * 4 + j, none⟩ = (ncl ns[i])[j]? := fun j hj => (h.nodes.cellAt (i * 4 + j) (by omega)).trans (nv_at ns i hi j hj)
  exact ⟨g, rfl, e 0 (by decide), e 1 (by decide), e 2 (by decide), e 3 (by decide), fun k => h.nodes.frozenAt k⟩
end
section
variable (w : World) (Q M lim cn cf : Nat) (An Af : Option Addr) (ns : List (Nd × Bool)) (fs : List Nat)
theorem q_len (a : Qo w Q M lim An cn Af cf ns fs) :
    Calls Tryz.prog 107 #[.pointer (some ⟨Q, 0, none⟩)] w fun e w' => e = .returned (.int .i64 ((ns.length - fs.length : Nat) : Int)) ∧ ∃ n, w' = w.drewN n := by
  have hc2 := a.c2
  have hc3 := a.c3
  have h1 := a.ns_le
  have h3 := a.lim_le
  have h2 := a.fs_le
  clear a
  generalize ns.length = n at *
  generalize fs.length = m at *
  have ws : IntKind.i64.wrap ((n : Int) - (m : Int)) = (n : Int) - (m : Int) := IntWalk.i64_in _ (by omega)
  go_enter Tryz.func107, Tryz.ntmps107
  go_wp2
  go_quiet (fail)
  go_wp2
  refine bodyPost_ret (results_tmp (t := 2) rfl _ _ _) rfl ?_
  exact ⟨ret_int (by omega), _, rfl⟩
theorem q_room (a : Qo w Q M lim An cn Af cf ns fs) (k : Int) :
    Calls Tryz.prog 175 #[.pointer (some ⟨Q, 0, none⟩), .int .i64 k] w fun e w' => e = .returned (.bool (decide (k ≤ (lim : Int) - ((ns.length - fs.length : Nat) : Int)))) ∧ ∃ n, w' = w.drewN n := by
  have hc1 := a.c1
  have hl := fun N => Lib.hid (q_len (w.drewN N) Q M lim cn cf An Af ns fs (a.drew N))
  have h1 := a.ns_le
  have h3 := a.lim_le
  clear a
  have h2 : ns.length - fs.length ≤ 1048576 := by omega
  generalize ns.length - fs.length = n at *
  have ws : IntKind.i64.wrap ((lim : Int) - (n : Int)) = (lim : Int) - (n : Int) := IntWalk.i64_in _ (by omega)
  go_enter Tryz.func175, Tryz.ntmps175
  go_wp2
  go_quiet ((go_at_call 107; exact Calls.quiet_of (hl _).out))
  go_wp2
  go_ret
  exact ⟨rfl, _, rfl⟩
/-- Is place i taken? -/
def lvq (ns : List (Nd × Bool)) (i : Int) : Bool := decide (0 ≤ i) && ((ns[i.toNat]?).map (·.2)).getD false
theorem q_live (a : Qo w Q M lim An cn Af cf ns fs) (i : Int) :
    Calls Tryz.prog 156 #[.pointer (some ⟨Q, 0, none⟩), .int .i64 i] w fun e w' => e = .returned (.bool (lvq ns i)) ∧ w = w' := by
  have hc2 := a.c2
  have hle := a.ns_le
  have hle2 := a.lim_le
  by_cases h0 : 0 ≤ i
  · obtain ⟨k, rfl⟩ : ∃ k : Nat, i = (k : Int) := ⟨i.toNat, by omega⟩
    have g0 : decide (0 ≤ (k : Int)) = true := decide_eq_true h0
    by_cases hk : k < ns.length
    · obtain ⟨g, rfl, _, _, _, ha, _⟩ := a.at hk
      have hr : Hid (lvq ns (k : Int) = ns[k].2) := by
        show lvq ns (k : Int) = _
        unfold lvq
        simp [hk]
      have g1 : decide ((k : Int) < (ns.length : Int)) = true := decide_eq_true (by omega)
      have k1 : (k : Int) < (ns.length : Int) := by omega
      have k2 : (k : Int).toNat = k := by omega
      clear a
      generalize ns[k].2 = b at *
      go_enter Tryz.func156, Tryz.ntmps156
      go_wp2
      go_ret
      exact ⟨ret_bool hr.out.symm, rfl⟩
    · have hr : Hid (lvq ns (k : Int) = false) := by
        show lvq ns (k : Int) = _
        unfold lvq
        rw [Int.toNat_natCast, List.getElem?_eq_none (by omega)]
        simp
      have g1 : decide ((k : Int) < (ns.length : Int)) = false := decide_eq_false (by omega)
      clear a
      generalize ns.length = n at *
      go_enter Tryz.func156, Tryz.ntmps156
      go_wp2
      go_ret
      exact ⟨ret_bool hr.out.symm, rfl⟩
  · have g0 : decide (0 ≤ i) = false := decide_eq_false h0
    have hr : Hid (lvq ns i = false) := by
      show lvq ns i = _
      unfold lvq
      rw [g0]; rfl
    clear a
    go_enter Tryz.func156, Tryz.ntmps156
    go_wp2
    go_ret
    exact ⟨ret_bool hr.out.symm, rfl⟩
theorem lvq_yes {ns : List (Nd × Bool)} {k : Nat} (hk : k < ns.length) (ht : ns[k].2 = true) : lvq ns (k : Int) = true := by
  unfold lvq
  simp [hk, ht]
end
end Go.Proofs.YtelfacchhclgnaaGreat
end
