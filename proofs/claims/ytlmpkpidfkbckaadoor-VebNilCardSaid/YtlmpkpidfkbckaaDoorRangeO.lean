
/- A range over a function whose iterator lays blocks of its own and reads them between the rounds: the body owns some blocks, the iterator others. -/
import Derived.RangeFuncNested
import Derived.RangeFuncBound
import Derived.RangeFuncCalls
import Derived.RangeFuncBox
import Derived.RangeFuncLeaves
import Derived.Shelf.Abstract
import Derived.Shelf.RegionOpen
import Derived.OwnWalkIn
import Derived.TacticsInMore
import Derived.LoopNIn
import Derived.LoopIn
import Derived.Maps.AppendAt
import Derived.Test.YtlmpkpidfkbckaaDoorButC
namespace Go.Proofs.YtlmpkpidfkbckaaDoor
open Go.RowKit Go.Shelf
/-- I speaks of the blocks O alone, and of what lies below B. -/
def Abides {β : Type} (B : Nat) (I : β → (Nat → Prop) → World → Prop) : Prop :=
  ∀ s O W W' R, I s O W → ButS W W' R → (∀ j, R j → ¬ O j ∧ B ≤ j) → I s O W'
/-- What J is told of the blocks R, the iterator's own: it may turn them, lay others, let some go. -/
def Steps {β : Type} (J : β → (Nat → Prop) → World → Prop) : Prop :=
  ∀ s R R' W W', J s R W → ButS W W' R → (∀ j, R' j → (R j ∨ W.heap.size ≤ j) ∧ j < W'.heap.size) → J s R' W'
/-- An iterator over any body that leaves the iterator's blocks, and what lies below n₀, as they are. -/
def SeqO {α : Type} (F : Fence) (n : Nat) (P : Program) (g : Nat) (lb : Array Value) (encs : α → Array Value) (n₀ : Nat) (S Sp : List α → Prop) (N : Nat) (w : World) : Prop :=
  ∀ (l : Nat) (J Jx : List α → (Nat → Prop) → World → Prop) (W : World), Below w.heap.size w W → Steps J → Steps Jx →
    (∀ pre x R W1, J pre R W1 → pre.length < N → YieldAt F (n - 1) P l (encs x) W1 fun e W' =>
      (e = .returned (.bool true) ∧ J (pre ++ [x]) R W' ∧ Below n₀ W1 W' ∧ ∀ j, R j → W'.heap[j]? = W1.heap[j]?) ∨ (e = .returned (.bool false) ∧ Jx (pre ++ [x]) R W')) →
    J [] (fun _ => False) W →
    CallsIn F n P g (#[.func (.yield l) #[] #[]] ++ lb) W fun e W' => (∃ v, e = .returned v) ∧ ((∃ xs R, S xs ∧ J xs R W') ∨ (∃ pre R, Sp pre ∧ Jx pre R W'))
/-- What is left of the world by a round's part that owns O; O': what it owns then. -/
def OwnStep (O O' : Nat → Prop) (W W' : World) : Prop := ButS W W' O ∧ ∀ j, O' j → (O j ∨ W.heap.size ≤ j) ∧ j < W'.heap.size
theorem OwnStep.trans {O O1 O2 : Nat → Prop} {W W1 W2 : World} (h : OwnStep O O1 W W1) (k : OwnStep O1 O2 W1 W2) : OwnStep O O2 W W2 :=
  ⟨h.1.then k.1 (fun j hj => (h.2 j hj).1), fun j hj => ⟨by
    rcases (k.2 j hj).1 with h1 | h1
    · exact (h.2 j h1).1
    · right; have := h.1.size; omega, (k.2 j hj).2⟩⟩
/-- How a round's body is left. -/
def roundO {α : Type} (I : List α → (Nat → Prop) → World → Prop) (Ix : Code → List α → (Nat → Prop) → World → Prop) (xs : List α) (O : Nat → Prop) (W : World) : Exit → Act → World → Prop
  | .normal, _, W' => ∃ O', OwnStep O O' W W' ∧ I xs O' W'
  | .ret, _, W' => ∃ O', OwnStep O O' W W' ∧ Ix .ret xs O' W'
  | .exit id, _, W' => ∃ O', OwnStep O O' W W' ∧ Ix (.exit id) xs O' W'
  | .goto t, _, W' => ∃ O', OwnStep O O' W W' ∧ Ix (.goto t) xs O' W'
  | .panic _, _, _ => False
  | .outgrown, _, _ => False
theorem but_put (W : World) (l : Nat) (o : Obj) : ButS W (W.putObj l o) (· = l) := ⟨rfl, rfl, rfl, by simp, fun j _ hj => World.putObj_heap_other hj⟩
variable {F : Fence} {n : Nat} {P : Program}
/-- The law. -/
theorem wpIn_rangeO {α : Type} {g : Operand} {ps : Array Tmp} {assign body : Code} {Q : Exit → Act → World → Prop} {a : Act} {w : World}
    (hro : F.round = none) (h1 : 1 ≤ n) {gf : Nat} {lb : Array Value} (hg : a.eval g = .func (.func gf) #[] lb) (hFg : F.fn gf) (eg : ∀ args w, (callFunc gf args).run P w = .ok (.enter gf args) w)
    {encs : α → Array Value} {n₀ : Nat} {S Sp : List α → Prop} {N : Nat} {w0 : World} (hseq : SeqO F (n - 1) P gf lb encs n₀ S Sp N w0) (hn₀ : n₀ ≤ w.heap.size) (hb0 : Below w0.heap.size w0 w) (hps : ∀ x, (encs x).size = ps.size)
    (I : List α → (Nat → Prop) → World → Prop) (Ix : Code → List α → (Nat → Prop) → World → Prop) (A : List α × α → Act → (Nat → Prop) → World → Prop)
    (hI : Abides w.heap.size I) (hIx : ∀ c, Abides w.heap.size (Ix c)) (hA : ∀ a', Abides w.heap.size (fun s => A s a')) (hlow : ∀ xs O W, I xs O W → ∀ j, O j → n₀ ≤ j)
    (O₀ : Nat → Prop) (hO₀ : ∀ j, O₀ j → j < w.heap.size) (h0 : I [] O₀ w)
    (hassign : ∀ (l : Nat) (pre : List α) (x : α) (O : Nat → Prop) (W : World), I pre O W → pre.length < N →
      assign.wpIn (F.inRound l) (n - 1 - 1) P (Exit.then (fun a1 W1 => ∃ O1, OwnStep O O1 W W1 ∧ A (pre, x) a1 O1 W1) (fun _ _ _ => False)) { tmps := (ps.zip (encs x)).foldl (fun t (p, v) => t.setIfInBounds p v) a.tmps, defers := [] } W)
    (hbody : ∀ (l : Nat) (pre : List α) (x : α) (O : Nat → Prop) (a1 : Act) (W : World), A (pre, x) a1 O W → body.wpIn (F.inRound l) (n - 1 - 1) P (roundO I Ix (pre ++ [x]) O W) a1 W)
    (hdone : ∀ (D : Nat) (xs : List α) (O : Nat → Prop) (W : World), w.heap.size ≤ D → ¬ O D → S xs → I xs O W → W.heap[D]? = some (.deferred (some [])) → Q .normal { a with defers := { target := .collected D, args := #[] } :: a.defers } W)
    (hstop : ∀ (D : Nat) (c : Code) (pre : List α) (O : Nat → Prop) (W : World), w.heap.size ≤ D → ¬ O D → Sp pre → Ix c pre O W → W.heap[D]? = some (.deferred (some [])) → c.wpIn F n P Q { a with defers := { target := .collected D, args := #[] } :: a.defers } W) :
    (Code.rangeFunc g ps assign body).wpIn F n P Q a w := by
  refine wpIn_rangeFunc ?_
  intro fn hfn
  rw [hro]
  generalize hD : w.heap.size = D at *
  obtain ⟨rc, hrc⟩ : ∃ rc : LoopState → Option Code → Loop, rc = fun st pe => { state := st, pending := pe, fn, tmps := a.tmps, params := ps, assign, body, defers := D } := ⟨_, rfl⟩
  obtain ⟨V, hV⟩ : ∃ V, (w.alloc (.deferred (some []))).alloc (.loop (rc .ready none)) = V := ⟨_, rfl⟩
  have hbV : ButS w V (fun _ => False) := by rw [← hV]; exact (but_alloc' _ _ _).trans (but_alloc' _ _ _)
  have hsV : V.heap.size = D + 2 := by rw [← hV]; simp [hD]
  have hL : V.heap[D + 1]? = some (.loop (rc .ready none)) := by
    rw [← hV, ← hD]
    have := World.alloc_heap_new (w.alloc (.deferred (some []))) (.loop (rc .ready none))
    rwa [World.size_alloc] at this
  have hK : V.heap[D]? = some (.deferred (some [])) := by
    rw [← hV, ← hD]
    exact (Below.heap_alloc _ _ _ (by simp)).trans (World.alloc_heap_new w _)
  have hbl : Below w0.heap.size w0 V := hb0.trans (hbV.below (by have := hb0.size; omega) (fun _ h => h.elim))
  have hIV : I [] O₀ V := hI _ _ _ _ _ h0 hbV (fun _ h => h.elim)
  refine ⟨D + 1, [{ target := .collected D, args := #[] }], V, { target := .fn (.func gf) lb, args := #[.func (.yield (D + 1)) #[] #[]] }, V, gf, #[.func (.yield (D + 1)) #[] #[]] ++ lb, V, ?_, ?_, ?_, ?_, fun _ => h1, ?_⟩
  · have := run_enterLoop_outer (P := P) (w := w) fn a.tmps ps assign body
    rw [hD] at this
    rw [this, ← hV, hrc]
  · simp only [resolve, hg]
    simp [go_sem]
  · intro f' hf'
    simp [Target.leads] at hf'
    subst hf'; exact hFg
  · simp [invoke, go_sem, eg]
  · obtain ⟨Bk, hBk⟩ : ∃ Bk : LoopState → Option Code → (Nat → Prop) → (Nat → Prop) → World → Prop, Bk = fun st pe O R W => (∀ j, O j → ¬ R j ∧ j ≠ D ∧ j ≠ D + 1 ∧ j < W.heap.size) ∧ (∀ j, R j → D + 2 ≤ j ∧ j < W.heap.size) ∧ W.heap[D + 1]? = some (.loop (rc st pe)) ∧ W.heap[D]? = some (.deferred (some [])) := ⟨_, rfl⟩
    have hstep : ∀ {st : LoopState} {pe : Option Code} {O R R' : Nat → Prop} {W W' : World}, Bk st pe O R W → ButS W W' R → (∀ j, R' j → (R j ∨ W.heap.size ≤ j) ∧ j < W'.heap.size) → Bk st pe O R' W' := by
      intro st pe O R R' W W' hb hw hR'
      rw [hBk] at hb ⊢
      obtain ⟨b1, b2, b3, b4⟩ := hb
      have hlt := (Array.getElem?_eq_some_iff.1 b3).1
      refine ⟨fun j hj => ⟨fun hr => ?_, (b1 j hj).2.1, (b1 j hj).2.2.1, by have := (b1 j hj).2.2.2; have := hw.size; omega⟩, fun j hj => ⟨?_, (hR' j hj).2⟩, (hw.block _ hlt (fun h => by have := (b2 _ h).1; omega)).trans b3, (hw.block _ (by omega) (fun h => by have := (b2 _ h).1; omega)).trans b4⟩
      · rcases (hR' j hr).1 with h | h
        · exact (b1 j hj).1 h
        · have := (b1 j hj).2.2.2; omega
      · rcases (hR' j hj).1 with h | h
        · exact (b2 j h).1
        · omega
    have hown : ∀ {st : LoopState} {pe : Option Code} {O O' R : Nat → Prop} {W W' : World}, Bk st pe O R W → OwnStep O O' W W' → Bk st pe O' R W' ∧ ∀ j, R j → W'.heap[j]? = W.heap[j]? := by
      intro st pe O O' R W W' hb hw
      rw [hBk] at hb ⊢
      obtain ⟨b1, b2, b3, b4⟩ := hb
      have hlt := (Array.getElem?_eq_some_iff.1 b3).1
      refine ⟨⟨fun j hj => ?_, fun j hj => ⟨(b2 j hj).1, by have := (b2 j hj).2; have := hw.1.size; omega⟩, (hw.1.block _ hlt (fun h => (b1 _ h).2.2.1 rfl)).trans b3, (hw.1.block _ (by omega) (fun h => (b1 _ h).2.1 rfl)).trans b4⟩, fun j hj => hw.1.block j (b2 j hj).2 (fun h => (b1 j h).1 hj)⟩
      obtain ⟨h1, h2⟩ := hw.2 j hj
      rcases h1 with h1 | h1
      · exact ⟨(b1 j h1).1, (b1 j h1).2.1, (b1 j h1).2.2.1, h2⟩
      · exact ⟨fun hr => by have := (b2 j hr).2; omega, by omega, by omega, h2⟩
    have hput : ∀ {st st' : LoopState} {pe pe' : Option Code} {O R : Nat → Prop} {W : World}, Bk st pe O R W → Bk st' pe' O R (W.putObj (D + 1) (.loop (rc st' pe'))) := by
      intro st st' pe pe' O R W hb
      rw [hBk] at hb ⊢
      obtain ⟨b1, b2, b3, b4⟩ := hb
      have hlt := (Array.getElem?_eq_some_iff.1 b3).1
      exact ⟨fun j hj => by rw [World.putObj_size]; exact b1 j hj, fun j hj => by rw [World.putObj_size]; exact b2 j hj, World.putObj_heap_same hlt, (World.putObj_heap_other (by omega)).trans b4⟩
    have hrec : ∀ {st : LoopState} {pe : Option Code} {O R : Nat → Prop} {W : World}, Bk st pe O R W → W.heap[D + 1]? = some (.loop (rc st pe)) := by
      intro st pe O R W hb
      rw [hBk] at hb
      exact hb.2.2.1
    have hdef : ∀ {st : LoopState} {pe : Option Code} {O R : Nat → Prop} {W : World}, Bk st pe O R W → W.heap[D]? = some (.deferred (some [])) := by
      intro st pe O R W hb
      rw [hBk] at hb
      exact hb.2.2.2
    have hno : ∀ {st : LoopState} {pe : Option Code} {O R : Nat → Prop} {W : World}, Bk st pe O R W → ¬ O (D + 1) ∧ ¬ O D := by
      intro st pe O R W hb
      rw [hBk] at hb
      exact ⟨fun h => (hb.1 _ h).2.2.1 rfl, fun h => (hb.1 _ h).2.1 rfl⟩
    have hRB : ∀ {st : LoopState} {pe : Option Code} {O R : Nat → Prop} {W : World}, Bk st pe O R W → ∀ j, R j → ¬ O j ∧ D ≤ j := by
      intro st pe O R W hb j hj
      rw [hBk] at hb
      exact ⟨fun h => (hb.1 j h).1 hj, by have := (hb.2.1 j hj).1; omega⟩
    have hlowB : ∀ {O O' : Nat → Prop} {W W' : World}, (∀ j, O j → n₀ ≤ j) → n₀ ≤ W.heap.size → OwnStep O O' W W' → Below n₀ W W' := fun ho hs h => h.1.below hs ho
    have hJs : ∀ (st : LoopState) (T : List α → Option Code → (Nat → Prop) → World → Prop), (∀ pe, Abides D (fun s => T s pe)) → Steps (fun pre R W => ∃ pe O, T pre pe O W ∧ Bk st pe O R W) := by
      intro st T hT s R R' W W' hj hw hR'
      obtain ⟨pe, O, h1, h2⟩ := hj
      exact ⟨pe, O, hT pe _ _ _ _ _ h1 hw (hRB h2), hstep h2 hw hR'⟩
    refine (hseq (D + 1) (fun pre R W => ∃ pe O, (fun pre (pe : Option Code) O W => pe = none ∧ I pre O W) pre pe O W ∧ Bk .ready pe O R W) (fun pre R W => ∃ pe O, (fun pre (pe : Option Code) O W => ∃ c, pe = some c ∧ Ix c pre O W) pre pe O W ∧ Bk .done pe O R W) V hbl
      (hJs .ready (fun pre pe O W => pe = none ∧ I pre O W) (fun pe s O W W' R h hw hr => ⟨h.1, hI _ _ _ _ _ h.2 hw hr⟩)) (hJs .done (fun pre pe O W => ∃ c, pe = some c ∧ Ix c pre O W) (fun pe s O W W' R h hw hr => by obtain ⟨c, h1, h2⟩ := h; exact ⟨c, h1, hIx c _ _ _ _ _ h2 hw hr⟩)) ?_
      ⟨none, O₀, ⟨rfl, hIV⟩, by rw [hBk]; exact ⟨fun j hj => ⟨fun h => h, by have := hO₀ j hj; omega, by have := hO₀ j hj; omega, by have := hO₀ j hj; omega⟩, fun _ h => h.elim, hL, hK⟩⟩).mono ?_
    · rintro pre x R W ⟨pe, O, ⟨rfl, hi⟩, hb⟩ hlen
      have hy := run_yield (P := P) (args := encs x) (hrec hb) (by rw [hrc]; exact hps x)
      rw [hrc] at hy
      have hsW : n₀ ≤ W.heap.size := by have := (Array.getElem?_eq_some_iff.1 (hrec hb)).1; omega
      refine ⟨fn, _, assign, body, hy, roundIn_of_wpIn hfn (wpIn_mono (hassign (D + 1) pre x O W hi hlen) ?_)⟩
      rintro e a1 W1 hp
      cases e with
      | normal =>
        obtain ⟨O1, hst, ha⟩ := hp
        obtain ⟨hb1, hk1⟩ := hown hb hst
        have hb2 := hput (st' := .busy) (pe' := none) hb1
        refine ⟨W1.putObj (D + 1) (.loop (rc .busy none)), by have h := run_beginRound (P := P) (hrec hb1) (by rw [hrc]); rw [hrc] at h ⊢; exact h, ?_⟩
        have ha2 : A (pre, x) a1 O1 (W1.putObj (D + 1) (.loop (rc .busy none))) := hA a1 _ _ _ _ _ ha (but_put _ _ _) (fun j hj => by subst hj; exact ⟨(hno hb1).1, by omega⟩)
        have hsz1 : W.heap.size ≤ W1.heap.size := hst.1.size
        have hll : ∀ j, O1 j → n₀ ≤ j := fun j hj => by
          rcases (hst.2 j hj).1 with h | h
          · exact hlow _ _ _ hi j h
          · omega
        have hbd := hbody (D + 1) pre x O1 a1 _ ha2
        refine wpIn_mono hbd ?_
        have fin : ∀ (jump : Option Code) (O2 : Nat → Prop) (W3 : World), OwnStep O1 O2 (W1.putObj (D + 1) (.loop (rc .busy none))) W3 →
            (Instr.endRound (D + 1) jump).run P W3 = .ok (.bool jump.isNone) (W3.putObj (D + 1) (.loop (rc (if jump.isNone then .ready else .done) jump))) ∧
            Bk (if jump.isNone then .ready else .done) jump O2 R (W3.putObj (D + 1) (.loop (rc (if jump.isNone then .ready else .done) jump))) ∧ ButS W3 (W3.putObj (D + 1) (.loop (rc (if jump.isNone then .ready else .done) jump))) (· = D + 1) ∧ ¬ O2 (D + 1) ∧
            (∀ j, R j → (W3.putObj (D + 1) (.loop (rc (if jump.isNone then .ready else .done) jump))).heap[j]? = W.heap[j]?) ∧ Below n₀ W (W3.putObj (D + 1) (.loop (rc (if jump.isNone then .ready else .done) jump))) := by
          intro jump O2 W3 hs3
          obtain ⟨hb3, hk3⟩ := hown hb2 hs3
          have he := run_endRound (P := P) jump (hrec hb3)
          have hRne : ∀ j, R j → j ≠ D + 1 := fun j hj e => by
            have := hb; rw [hBk] at this
            have := (this.2.1 j hj).1; omega
          refine ⟨?_, hput hb3, but_put _ _ _, (hno hb3).1, fun j hj => (World.putObj_heap_other (hRne j hj)).trans ((hk3 j hj).trans ((World.putObj_heap_other (hRne j hj)).trans (hk1 j hj))), ?_⟩
          · rw [hrc] at he ⊢; exact he
          · have p1 := (but_put W1 (D + 1) (.loop (rc .busy none))).below (B := n₀) (by omega) (fun j hj => by omega)
            have p2 := hlowB hll (by rw [World.putObj_size]; omega) hs3
            have hs3' := hs3.1.size
            rw [World.putObj_size] at hs3'
            have p3 := (but_put W3 (D + 1) (.loop (rc (if jump.isNone then .ready else .done) jump))).below (B := n₀) (by omega) (fun j hj => by omega)
            exact ((hlowB (hlow _ _ _ hi) hsW hst).trans p1).trans (p2.trans p3)
        rintro e a3 W3 hp
        cases e with
        | normal =>
          obtain ⟨O2, hs3, hi3⟩ := hp
          obtain ⟨f1, f2, f3, f4, f5, f6⟩ := fin none O2 W3 hs3
          exact ⟨_, _, f1, .inl ⟨rfl, ⟨none, O2, ⟨rfl, hI _ _ _ _ _ hi3 f3 (fun j hj => by subst hj; exact ⟨f4, by omega⟩)⟩, f2⟩, f6, f5⟩⟩
        | ret =>
          obtain ⟨O2, hs3, hi3⟩ := hp
          obtain ⟨f1, f2, f3, f4, f5, f6⟩ := fin (some .ret) O2 W3 hs3
          exact ⟨_, _, f1, .inr ⟨rfl, ⟨some .ret, O2, ⟨.ret, rfl, hIx _ _ _ _ _ _ hi3 f3 (fun j hj => by subst hj; exact ⟨f4, by omega⟩)⟩, f2⟩⟩⟩
        | exit id =>
          obtain ⟨O2, hs3, hi3⟩ := hp
          obtain ⟨f1, f2, f3, f4, f5, f6⟩ := fin (some (.exit id)) O2 W3 hs3
          exact ⟨_, _, f1, .inr ⟨rfl, ⟨some (.exit id), O2, ⟨.exit id, rfl, hIx _ _ _ _ _ _ hi3 f3 (fun j hj => by subst hj; exact ⟨f4, by omega⟩)⟩, f2⟩⟩⟩
        | goto t =>
          obtain ⟨O2, hs3, hi3⟩ := hp
          obtain ⟨f1, f2, f3, f4, f5, f6⟩ := fin (some (.goto t)) O2 W3 hs3
          exact ⟨_, _, f1, .inr ⟨rfl, ⟨some (.goto t), O2, ⟨.goto t, rfl, hIx _ _ _ _ _ _ hi3 f3 (fun j hj => by subst hj; exact ⟨f4, by omega⟩)⟩, f2⟩⟩⟩
        | panic ch => exact hp.elim
        | outgrown => exact hp.elim
      | ret => exact hp.elim
      | exit id => exact hp.elim
      | goto t => exact hp.elim
      | panic ch => exact hp.elim
      | outgrown => exact hp.elim
    · rintro e W2 ⟨⟨v, rfl⟩, (⟨xs, R, hS, pe, O, ⟨rfl, hi⟩, hb⟩ | ⟨pre, R, hSp, pe, O, ⟨c, rfl, hi⟩, hb⟩)⟩
      · have he := run_endLoop (P := P) (hrec hb) (by rw [hrc]; simp)
        rw [hrc] at he
        exact ⟨none, _, he, hdone D xs O _ (Nat.le_refl _) (hno hb).2 hS (hI _ _ _ _ _ hi (but_put _ _ _) (fun j hj => by subst hj; exact ⟨(hno hb).1, by omega⟩)) ((World.putObj_heap_other (by omega)).trans (hdef hb))⟩
      · have he := run_endLoop (P := P) (hrec hb) (by rw [hrc]; simp)
        rw [hrc] at he
        exact ⟨some c, _, he, hstop D c pre O _ (Nat.le_refl _) (hno hb).2 hSp (hIx c _ _ _ _ _ hi (but_put _ _ _) (fun j hj => by subst hj; exact ⟨(hno hb).1, by omega⟩)) ((World.putObj_heap_other (by omega)).trans (hdef hb))⟩
end Go.Proofs.YtlmpkpidfkbckaaDoor
