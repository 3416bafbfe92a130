/- A range over a function whose iterator lays blocks of its own and reads them between the rounds: the body owns some blocks, the iterator others. As RangeP: and the iterator is promised, where a round says no more, that its blocks and what lies below n₀ are as they were: so iterators go over iterators. The iterators of package bit over a word's bits, rising: for every loop body that keeps what lay below a block. An iterator that goes over another one: what is kept from round to round; the bits of a word, one by one. All of a strip: an iterator that goes over the bits of each word; the text walked. -/
import Derived.RangeFuncNested
import Derived.RangeFuncBound
import Derived.RangeFuncCalls
import Derived.RangeFuncBox
import Derived.RangeFuncLeaves
import Derived.Shelf.Abstract
import Derived.Shelf.RegionOpen
import Derived.OwnWalkIn
import Derived.TacticsInMore
import Derived.LoopNIn
import Derived.LoopIn
import Derived.Maps.AppendAt
import Derived.Outline
import Derived.Test.YtkehehfphccpbaaGreatDoorMgBu
import Derived.Test.YtkehehfphccpbaaGreatDoorMgWo
section
namespace Go.Proofs.YtkehehfphccpbaaGreatDoor
open Go.RowKit Go.Shelf
/-- I speaks of the blocks O alone, and of what lies below B. -/
def Abides {β : Type} (B : Nat) (I : β → (Nat → Prop) → World → Prop) : Prop :=
  ∀ s O W W' R, I s O W → ButS W W' R → (∀ j, R j → ¬ O j ∧ B ≤ j) → I s O W'
/-- What J is told of the blocks R, the iterator's own: it may turn them, lay others, let some go. -/
def Steps {β : Type} (J : β → (Nat → Prop) → World → Prop) : Prop :=
  ∀ s R R' W W', J s R W → ButS W W' R → (∀ j, R' j → (R j ∨ W.heap.size ≤ j) ∧ j < W'.heap.size) → J s R' W'
/-- An iterator over any body that leaves the iterator's blocks, and what lies below n₀, as they are. -/
def SeqO {α : Type} (F : Fence) (n : Nat) (P : Program) (g : Nat) (lb : Array Value) (encs : α → Array Value) (n₀ : Nat) (S Sp : List α → Prop) (N : Nat) (w : World) : Prop :=
  ∀ (l : Nat) (J Jx : List α → (Nat → Prop) → World → Prop) (W : World), Below w.heap.size w W → Steps J → Steps Jx →
    (∀ pre x R W1, J pre R W1 → pre.length < N → YieldAt F (n - 1) P l (encs x) W1 fun e W' =>
      (e = .returned (.bool true) ∧ J (pre ++ [x]) R W' ∧ Below n₀ W1 W' ∧ ∀ j, R j → W'.heap[j]? = W1.heap[j]?) ∨ (e = .returned (.bool false) ∧ Jx (pre ++ [x]) R W')) →
    J [] (fun _ => False) W →
    CallsIn F n P g (#[.func (.yield l) #[] #[]] ++ lb) W fun e W' => (∃ v, e = .returned v) ∧ ((∃ xs R, S xs ∧ J xs R W') ∨ (∃ pre R, Sp pre ∧ Jx pre R W'))
/-- What is left of the world by a round's part that owns O; O': what it owns then. -/
def OwnStep (O O' : Nat → Prop) (W W' : World) : Prop := ButS W W' O ∧ ∀ j, O' j → (O j ∨ W.heap.size ≤ j) ∧ j < W'.heap.size
theorem OwnStep.trans {O O1 O2 : Nat → Prop} {W W1 W2 : World} (h : OwnStep O O1 W W1) (k : OwnStep O1 O2 W1 W2) : OwnStep O O2 W W2 :=
  ⟨h.1.then k.1 (fun j hj => (h.2 j hj).1), fun j hj => ⟨by
    rcases (k.2 j hj).1 with h1 | h1
    · exact (h.2 j h1).1
    · right; have := h.1.size; omega, (k.2 j hj).2⟩⟩
/-- How a round's body is left. -/
def roundO {α : Type} (I : List α → (Nat → Prop) → World → Prop) (Ix : Code → List α → (Nat → Prop) → World → Prop) (xs : List α) (O : Nat → Prop) (W : World) : Exit → Act → World → Prop
  | .normal, _, W' => ∃ O', OwnStep O O' W W' ∧ I xs O' W'
  | .ret, _, W' => ∃ O', OwnStep O O' W W' ∧ Ix .ret xs O' W'
  | .exit id, _, W' => ∃ O', OwnStep O O' W W' ∧ Ix (.exit id) xs O' W'
  | .goto t, _, W' => ∃ O', OwnStep O O' W W' ∧ Ix (.goto t) xs O' W'
  | .panic _, _, _ => False
  | .outgrown, _, _ => False
theorem but_put (W : World) (l : Nat) (o : Obj) : ButS W (W.putObj l o) (· = l) := ⟨rfl, rfl, rfl, by simp, fun j _ hj => World.putObj_heap_other hj⟩
variable {F : Fence} {n : Nat} {P : Program}
/-- The law. -/
theorem wpIn_rangeO {α : Type} {g : Operand} {ps : Array Tmp} {assign body : Code} {Q : Exit → Act → World → Prop} {a : Act} {w : World}
    (hro : F.round = none) (h1 : 1 ≤ n) {gf : Nat} {lb : Array Value} (hg : a.eval g = .func (.func gf) #[] lb) (hFg : F.fn gf) (eg : ∀ args w, (callFunc gf args).run P w = .ok (.enter gf args) w)
    {encs : α → Array Value} {n₀ : Nat} {S Sp : List α → Prop} {N : Nat} {w0 : World} (hseq : SeqO F (n - 1) P gf lb encs n₀ S Sp N w0) (hn₀ : n₀ ≤ w.heap.size) (hb0 : Below w0.heap.size w0 w) (hps : ∀ x, (encs x).size = ps.size)
    (I : List α → (Nat → Prop) → World → Prop) (Ix : Code → List α → (Nat → Prop) → World → Prop) (A : List α × α → Act → (Nat → Prop) → World → Prop)
    (hI : Abides w.heap.size I) (hIx : ∀ c, Abides w.heap.size (Ix c)) (hA : ∀ a', Abides w.heap.size (fun s => A s a')) (hlow : ∀ xs O W, I xs O W → ∀ j, O j → n₀ ≤ j)
    (O₀ : Nat → Prop) (hO₀ : ∀ j, O₀ j → j < w.heap.size) (h0 : I [] O₀ w)
    (hassign : ∀ (l : Nat) (pre : List α) (x : α) (O : Nat → Prop) (W : World), I pre O W → pre.length < N →
      assign.wpIn (F.inRound l) (n - 1 - 1) P (Exit.then (fun a1 W1 => ∃ O1, OwnStep O O1 W W1 ∧ A (pre, x) a1 O1 W1) (fun _ _ _ => False)) { tmps := (ps.zip (encs x)).foldl (fun t (p, v) => t.setIfInBounds p v) a.tmps, defers := [] } W)
    (hbody : ∀ (l : Nat) (pre : List α) (x : α) (O : Nat → Prop) (a1 : Act) (W : World), A (pre, x) a1 O W → body.wpIn (F.inRound l) (n - 1 - 1) P (roundO I Ix (pre ++ [x]) O W) a1 W)
    (hdone : ∀ (D : Nat) (xs : List α) (O : Nat → Prop) (W : World), w.heap.size ≤ D → ¬ O D → S xs → I xs O W → W.heap[D]? = some (.deferred (some [])) → Q .normal { a with defers := { target := .collected D, args := #[] } :: a.defers } W)
    (hstop : ∀ (D : Nat) (c : Code) (pre : List α) (O : Nat → Prop) (W : World), w.heap.size ≤ D → ¬ O D → Sp pre → Ix c pre O W → W.heap[D]? = some (.deferred (some [])) → c.wpIn F n P Q { a with defers := { target := .collected D, args := #[] } :: a.defers } W) :
    (Code.rangeFunc g ps assign body).wpIn F n P Q a w := by
  refine wpIn_rangeFunc ?_
  intro fn hfn
  rw [hro]
  generalize hD : w.heap.size = D at *
  obtain ⟨rc, hrc⟩ : ∃ rc : LoopState → Option Code → Loop, rc = fun st pe => { state := st, pending := pe, fn, tmps := a.tmps, params := ps, assign, body, defers := D } := ⟨_, rfl⟩
  obtain ⟨V, hV⟩ : ∃ V, (w.alloc (.deferred (some []))).alloc (.loop (rc .ready none)) = V := ⟨_, rfl⟩
  have hbV : ButS w V (fun _ => False) := by rw [← hV]; exact (but_alloc' _ _ _).trans (but_alloc' _ _ _)
  have hsV : V.heap.size = D + 2 := by rw [← hV]; simp [hD]
  have hL : V.heap[D + 1]? = some (.loop (rc .ready none)) := by
    rw [← hV, ← hD]
    have := World.alloc_heap_new (w.alloc (.deferred (some []))) (.loop (rc .ready none))
    rwa [World.size_alloc] at this
  have hK : V.heap[D]? = some (.deferred (some [])) := by
    rw [← hV, ← hD]
    exact (Below.heap_alloc _ _ _ (by simp)).trans (World.alloc_heap_new w _)
  have hbl : Below w0.heap.size w0 V := hb0.trans (hbV.below (by have := hb0.size; omega) (fun _ h => h.elim))
  have hIV : I [] O₀ V := hI _ _ _ _ _ h0 hbV (fun _ h => h.elim)
  refine ⟨D + 1, [{ target := .collected D, args := #[] }], V, { target := .fn (.func gf) lb, args := #[.func (.yield (D + 1)) #[] #[]] }, V, gf, #[.func (.yield (D + 1)) #[] #[]] ++ lb, V, ?_, ?_, ?_, ?_, fun _ => h1, ?_⟩
  · have := run_enterLoop_outer (P := P) (w := w) fn a.tmps ps assign body
    rw [hD] at this
    rw [this, ← hV, hrc]
  · simp only [resolve, hg]
    simp [go_sem]
  · intro f' hf'
    simp [Target.leads] at hf'
    subst hf'; exact hFg
  · simp [invoke, go_sem, eg]
  · obtain ⟨Bk, hBk⟩ : ∃ Bk : LoopState → Option Code → (Nat → Prop) → (Nat → Prop) → World → Prop, Bk = fun st pe O R W => (∀ j, O j → ¬ R j ∧ j ≠ D ∧ j ≠ D + 1 ∧ j < W.heap.size) ∧ (∀ j, R j → D + 2 ≤ j ∧ j < W.heap.size) ∧ W.heap[D + 1]? = some (.loop (rc st pe)) ∧ W.heap[D]? = some (.deferred (some [])) := ⟨_, rfl⟩
    have hstep : ∀ {st : LoopState} {pe : Option Code} {O R R' : Nat → Prop} {W W' : World}, Bk st pe O R W → ButS W W' R → (∀ j, R' j → (R j ∨ W.heap.size ≤ j) ∧ j < W'.heap.size) → Bk st pe O R' W' := by
      intro st pe O R R' W W' hb hw hR'
      rw [hBk] at hb ⊢
      obtain ⟨b1, b2, b3, b4⟩ := hb
      have hlt := (Array.getElem?_eq_some_iff.1 b3).1
      refine ⟨fun j hj => ⟨fun hr => ?_, (b1 j hj).2.1, (b1 j hj).2.2.1, by have := (b1 j hj).2.2.2; have := hw.size; omega⟩, fun j hj => ⟨?_, (hR' j hj).2⟩, (hw.block _ hlt (fun h => by have := (b2 _ h).1; omega)).trans b3, (hw.block _ (by omega) (fun h => by have := (b2 _ h).1; omega)).trans b4⟩
      · rcases (hR' j hr).1 with h | h
        · exact (b1 j hj).1 h
        · have := (b1 j hj).2.2.2; omega
      · rcases (hR' j hj).1 with h | h
        · exact (b2 j h).1
        · omega
    have hown : ∀ {st : LoopState} {pe : Option Code} {O O' R : Nat → Prop} {W W' : World}, Bk st pe O R W → OwnStep O O' W W' → Bk st pe O' R W' ∧ ∀ j, R j → W'.heap[j]? = W.heap[j]? := by
      intro st pe O O' R W W' hb hw
      rw [hBk] at hb ⊢
      obtain ⟨b1, b2, b3, b4⟩ := hb
      have hlt := (Array.getElem?_eq_some_iff.1 b3).1
      refine ⟨⟨fun j hj => ?_, fun j hj => ⟨(b2 j hj).1, by have := (b2 j hj).2; have := hw.1.size; omega⟩, (hw.1.block _ hlt (fun h => (b1 _ h).2.2.1 rfl)).trans b3, (hw.1.block _ (by omega) (fun h => (b1 _ h).2.1 rfl)).trans b4⟩, fun j hj => hw.1.block j (b2 j hj).2 (fun h => (b1 j h).1 hj)⟩
      obtain ⟨h1, h2⟩ := hw.2 j hj
      rcases h1 with h1 | h1
      · exact ⟨(b1 j h1).1, (b1 j h1).2.1, (b1 j h1).2.2.1, h2⟩
      · exact ⟨fun hr => by have := (b2 j hr).2; omega, by omega, by omega, h2⟩
    have hput : ∀ {st st' : LoopState} {pe pe' : Option Code} {O R : Nat → Prop} {W : World}, Bk st pe O R W → Bk st' pe' O R (W.putObj (D + 1) (.loop (rc st' pe'))) := by
      intro st st' pe pe' O R W hb
      rw [hBk] at hb ⊢
      obtain ⟨b1, b2, b3, b4⟩ := hb
      have hlt := (Array.getElem?_eq_some_iff.1 b3).1
      exact ⟨fun j hj => by rw [World.putObj_size]; exact b1 j hj, fun j hj => by rw [World.putObj_size]; exact b2 j hj, World.putObj_heap_same hlt, (World.putObj_heap_other (by omega)).trans b4⟩
    have hrec : ∀ {st : LoopState} {pe : Option Code} {O R : Nat → Prop} {W : World}, Bk st pe O R W → W.heap[D + 1]? = some (.loop (rc st pe)) := by
      intro st pe O R W hb
      rw [hBk] at hb
      exact hb.2.2.1
    have hdef : ∀ {st : LoopState} {pe : Option Code} {O R : Nat → Prop} {W : World}, Bk st pe O R W → W.heap[D]? = some (.deferred (some [])) := by
      intro st pe O R W hb
      rw [hBk] at hb
      exact hb.2.2.2
    have hno : ∀ {st : LoopState} {pe : Option Code} {O R : Nat → Prop} {W : World}, Bk st pe O R W → ¬ O (D + 1) ∧ ¬ O D := by
      intro st pe O R W hb
      rw [hBk] at hb
      exact ⟨fun h => (hb.1 _ h).2.2.1 rfl, fun h => (hb.1 _ h).2.1 rfl⟩
    have hRB : ∀ {st : LoopState} {pe : Option Code} {O R : Nat → Prop} {W : World}, Bk st pe O R W → ∀ j, R j → ¬ O j ∧ D ≤ j := by
      intro st pe O R W hb j hj
      rw [hBk] at hb
      exact ⟨fun h => (hb.1 j h).1 hj, by have := (hb.2.1 j hj).1; omega⟩
    have hlowB : ∀ {O O' : Nat → Prop} {W W' : World}, (∀ j, O j → n₀ ≤ j) → n₀ ≤ W.heap.size → OwnStep O O' W W' → Below n₀ W W' := fun ho hs h => h.1.below hs ho
    have hJs : ∀ (st : LoopState) (T : List α → Option Code → (Nat → Prop) → World → Prop), (∀ pe, Abides D (fun s => T s pe)) → Steps (fun pre R W => ∃ pe O, T pre pe O W ∧ Bk st pe O R W) := by
      intro st T hT s R R' W W' hj hw hR'
      obtain ⟨pe, O, h1, h2⟩ := hj
      exact ⟨pe, O, hT pe _ _ _ _ _ h1 hw (hRB h2), hstep h2 hw hR'⟩
    refine (hseq (D + 1) (fun pre R W => ∃ pe O, (fun pre (pe : Option Code) O W => pe = none ∧ I pre O W) pre pe O W ∧ Bk .ready pe O R W) (fun pre R W => ∃ pe O, (fun pre (pe : Option Code) O W => ∃ c, pe = some c ∧ Ix c pre O W) pre pe O W ∧ Bk .done pe O R W) V hbl
      (hJs .ready (fun pre pe O W => pe = none ∧ I pre O W) (fun pe s O W W' R h hw hr => ⟨h.1, hI _ _ _ _ _ h.2 hw hr⟩)) (hJs .done (fun pre pe O W => ∃ c, pe = some c ∧ Ix c pre O W) (fun pe s O W W' R h hw hr => by obtain ⟨c, h1, h2⟩ := h; exact ⟨c, h1, hIx c _ _ _ _ _ h2 hw hr⟩)) ?_
      ⟨none, O₀, ⟨rfl, hIV⟩, by rw [hBk]; exact ⟨fun j hj => ⟨fun h => h, by have := hO₀ j hj; omega, by have := hO₀ j hj; omega, by have := hO₀ j hj; omega⟩, fun _ h => h.elim, hL, hK⟩⟩).mono ?_
    · rintro pre x R W ⟨pe, O, ⟨rfl, hi⟩, hb⟩ hlen
      have hy := run_yield (P := P) (args := encs x) (hrec hb) (by rw [hrc]; exact hps x)
      rw [hrc] at hy
      have hsW : n₀ ≤ W.heap.size := by have := (Array.getElem?_eq_some_iff.1 (hrec hb)).1; omega
      refine ⟨fn, _, assign, body, hy, roundIn_of_wpIn hfn (wpIn_mono (hassign (D + 1) pre x O W hi hlen) ?_)⟩
      rintro e a1 W1 hp
      cases e with
      | normal =>
        obtain ⟨O1, hst, ha⟩ := hp
        obtain ⟨hb1, hk1⟩ := hown hb hst
        have hb2 := hput (st' := .busy) (pe' := none) hb1
        refine ⟨W1.putObj (D + 1) (.loop (rc .busy none)), by have h := run_beginRound (P := P) (hrec hb1) (by rw [hrc]); rw [hrc] at h ⊢; exact h, ?_⟩
        have ha2 : A (pre, x) a1 O1 (W1.putObj (D + 1) (.loop (rc .busy none))) := hA a1 _ _ _ _ _ ha (but_put _ _ _) (fun j hj => by subst hj; exact ⟨(hno hb1).1, by omega⟩)
        have hsz1 : W.heap.size ≤ W1.heap.size := hst.1.size
        have hll : ∀ j, O1 j → n₀ ≤ j := fun j hj => by
          rcases (hst.2 j hj).1 with h | h
          · exact hlow _ _ _ hi j h
          · omega
        have hbd := hbody (D + 1) pre x O1 a1 _ ha2
        refine wpIn_mono hbd ?_
        have fin : ∀ (jump : Option Code) (O2 : Nat → Prop) (W3 : World), OwnStep O1 O2 (W1.putObj (D + 1) (.loop (rc .busy none))) W3 →
            (Instr.endRound (D + 1) jump).run P W3 = .ok (.bool jump.isNone) (W3.putObj (D + 1) (.loop (rc (if jump.isNone then .ready else .done) jump))) ∧
            Bk (if jump.isNone then .ready else .done) jump O2 R (W3.putObj (D + 1) (.loop (rc (if jump.isNone then .ready else .done) jump))) ∧ ButS W3 (W3.putObj (D + 1) (.loop (rc (if jump.isNone then .ready else .done) jump))) (· = D + 1) ∧ ¬ O2 (D + 1) ∧
            (∀ j, R j → (W3.putObj (D + 1) (.loop (rc (if jump.isNone then .ready else .done) jump))).heap[j]? = W.heap[j]?) ∧ Below n₀ W (W3.putObj (D + 1) (.loop (rc (if jump.isNone then .ready else .done) jump))) := by
          intro jump O2 W3 hs3
          obtain ⟨hb3, hk3⟩ := hown hb2 hs3
          have he := run_endRound (P := P) jump (hrec hb3)
          have hRne : ∀ j, R j → j ≠ D + 1 := fun j hj e => by
            have := hb; rw [hBk] at this
            have := (this.2.1 j hj).1; omega
          refine ⟨?_, hput hb3, but_put _ _ _, (hno hb3).1, fun j hj => (World.putObj_heap_other (hRne j hj)).trans ((hk3 j hj).trans ((World.putObj_heap_other (hRne j hj)).trans (hk1 j hj))), ?_⟩
          · rw [hrc] at he ⊢; exact he
          · have p1 := (but_put W1 (D + 1) (.loop (rc .busy none))).below (B := n₀) (by omega) (fun j hj => by omega)
            have p2 := hlowB hll (by rw [World.putObj_size]; omega) hs3
            have hs3' := hs3.1.size
            rw [World.putObj_size] at hs3'
            have p3 := (but_put W3 (D + 1) (.loop (rc (if jump.isNone then .ready else .done) jump))).below (B := n₀) (by omega) (fun j hj => by omega)
            exact ((hlowB (hlow _ _ _ hi) hsW hst).trans p1).trans (p2.trans p3)
        rintro e a3 W3 hp
        cases e with
        | normal =>
          obtain ⟨O2, hs3, hi3⟩ := hp
          obtain ⟨f1, f2, f3, f4, f5, f6⟩ := fin none O2 W3 hs3
          exact ⟨_, _, f1, .inl ⟨rfl, ⟨none, O2, ⟨rfl, hI _ _ _ _ _ hi3 f3 (fun j hj => by subst hj; exact ⟨f4, by omega⟩)⟩, f2⟩, f6, f5⟩⟩
        | ret =>
          obtain ⟨O2, hs3, hi3⟩ := hp
          obtain ⟨f1, f2, f3, f4, f5, f6⟩ := fin (some .ret) O2 W3 hs3
          exact ⟨_, _, f1, .inr ⟨rfl, ⟨some .ret, O2, ⟨.ret, rfl, hIx _ _ _ _ _ _ hi3 f3 (fun j hj => by subst hj; exact ⟨f4, by omega⟩)⟩, f2⟩⟩⟩
        | exit id =>
          obtain ⟨O2, hs3, hi3⟩ := hp
          obtain ⟨f1, f2, f3, f4, f5, f6⟩ := fin (some (.exit id)) O2 W3 hs3
          exact ⟨_, _, f1, .inr ⟨rfl, ⟨some (.exit id), O2, ⟨.exit id, rfl, hIx _ _ _ _ _ _ hi3 f3 (fun j hj => by subst hj; exact ⟨f4, by omega⟩)⟩, f2⟩⟩⟩
        | goto t =>
          obtain ⟨O2, hs3, hi3⟩ := hp
          obtain ⟨f1, f2, f3, f4, f5, f6⟩ := fin (some (.goto t)) O2 W3 hs3
          exact ⟨_, _, f1, .inr ⟨rfl, ⟨some (.goto t), O2, ⟨.goto t, rfl, hIx _ _ _ _ _ _ hi3 f3 (fun j hj => by subst hj; exact ⟨f4, by omega⟩)⟩, f2⟩⟩⟩
        | panic ch => exact hp.elim
        | outgrown => exact hp.elim
      | ret => exact hp.elim
      | exit id => exact hp.elim
      | goto t => exact hp.elim
      | panic ch => exact hp.elim
      | outgrown => exact hp.elim
    · rintro e W2 ⟨⟨v, rfl⟩, (⟨xs, R, hS, pe, O, ⟨rfl, hi⟩, hb⟩ | ⟨pre, R, hSp, pe, O, ⟨c, rfl, hi⟩, hb⟩)⟩
      · have he := run_endLoop (P := P) (hrec hb) (by rw [hrc]; simp)
        rw [hrc] at he
        exact ⟨none, _, he, hdone D xs O _ (Nat.le_refl _) (hno hb).2 hS (hI _ _ _ _ _ hi (but_put _ _ _) (fun j hj => by subst hj; exact ⟨(hno hb).1, by omega⟩)) ((World.putObj_heap_other (by omega)).trans (hdef hb))⟩
      · have he := run_endLoop (P := P) (hrec hb) (by rw [hrc]; simp)
        rw [hrc] at he
        exact ⟨some c, _, he, hstop D c pre O _ (Nat.le_refl _) (hno hb).2 hSp (hIx c _ _ _ _ _ hi (but_put _ _ _) (fun j hj => by subst hj; exact ⟨(hno hb).1, by omega⟩)) ((World.putObj_heap_other (by omega)).trans (hdef hb))⟩
end Go.Proofs.YtkehehfphccpbaaGreatDoor
end
section
namespace Go.Proofs.YtkehehfphccpbaaGreatDoor
open Go.RowKit Go.Shelf
/-- An iterator over any body that leaves the iterator's blocks, and what lies below n₀, as they are. -/
def SeqY {α : Type} (F : Fence) (n : Nat) (P : Program) (g : Nat) (lb : Array Value) (encs : α → Array Value) (n₀ : Nat) (S Sp T : List α → Prop) (w : World) : Prop :=
  ∀ (l : Nat) (J Jx : List α → (Nat → Prop) → World → Prop) (W : World), Below w.heap.size w W → Steps J → Steps Jx →
    (∀ pre x R W1, J pre R W1 → T (pre ++ [x]) → YieldAt F (n - 1) P l (encs x) W1 fun e W' =>
      (e = .returned (.bool true) ∧ J (pre ++ [x]) R W' ∧ Below n₀ W1 W' ∧ ∀ j, R j → W'.heap[j]? = W1.heap[j]?) ∨ (e = .returned (.bool false) ∧ Jx (pre ++ [x]) R W' ∧ Below n₀ W1 W' ∧ ∀ j, R j → W'.heap[j]? = W1.heap[j]?)) →
    J [] (fun _ => False) W →
    CallsIn F n P g (#[.func (.yield l) #[] #[]] ++ lb) W fun e W' => (∃ v, e = .returned v) ∧ ((∃ xs R, S xs ∧ J xs R W') ∨ (∃ pre R, Sp pre ∧ Jx pre R W'))
variable {F : Fence} {n : Nat} {P : Program}
/-- The law. -/
theorem wpIn_rangeY {α : Type} {g : Operand} {ps : Array Tmp} {assign body : Code} {Q : Exit → Act → World → Prop} {a : Act} {w : World}
    (hro : F.round = none) (h1 : 1 ≤ n) {gf : Nat} {lb : Array Value} (hg : a.eval g = .func (.func gf) #[] lb) (hFg : F.fn gf) (eg : ∀ args w, (callFunc gf args).run P w = .ok (.enter gf args) w)
    {encs : α → Array Value} {n₀ : Nat} {S Sp T : List α → Prop} {w0 : World} (hseq : SeqY F (n - 1) P gf lb encs n₀ S Sp T w0) (hn₀ : n₀ ≤ w.heap.size) (hb0 : Below w0.heap.size w0 w) (hps : ∀ x, (encs x).size = ps.size)
    (I : List α → (Nat → Prop) → World → Prop) (Ix : Code → List α → (Nat → Prop) → World → Prop) (A : List α × α → Act → (Nat → Prop) → World → Prop)
    (hI : Abides w.heap.size I) (hIx : ∀ c, Abides w.heap.size (Ix c)) (hA : ∀ a', Abides w.heap.size (fun s => A s a')) (hlow : ∀ xs O W, I xs O W → ∀ j, O j → n₀ ≤ j)
    (O₀ : Nat → Prop) (hO₀ : ∀ j, O₀ j → j < w.heap.size) (h0 : I [] O₀ w)
    (hassign : ∀ (l : Nat) (pre : List α) (x : α) (O : Nat → Prop) (W : World), I pre O W → T (pre ++ [x]) →
      assign.wpIn (F.inRound l) (n - 1 - 1) P (Exit.then (fun a1 W1 => ∃ O1, OwnStep O O1 W W1 ∧ A (pre, x) a1 O1 W1) (fun _ _ _ => False)) { tmps := (ps.zip (encs x)).foldl (fun t (p, v) => t.setIfInBounds p v) a.tmps, defers := [] } W)
    (hbody : ∀ (l : Nat) (pre : List α) (x : α) (O : Nat → Prop) (a1 : Act) (W : World), A (pre, x) a1 O W → body.wpIn (F.inRound l) (n - 1 - 1) P (roundO I Ix (pre ++ [x]) O W) a1 W)
    (hdone : ∀ (D : Nat) (xs : List α) (O : Nat → Prop) (W : World), w.heap.size ≤ D → ¬ O D → S xs → I xs O W → W.heap[D]? = some (.deferred (some [])) → Q .normal { a with defers := { target := .collected D, args := #[] } :: a.defers } W)
    (hstop : ∀ (D : Nat) (c : Code) (pre : List α) (O : Nat → Prop) (W : World), w.heap.size ≤ D → ¬ O D → Sp pre → Ix c pre O W → W.heap[D]? = some (.deferred (some [])) → c.wpIn F n P Q { a with defers := { target := .collected D, args := #[] } :: a.defers } W) :
    (Code.rangeFunc g ps assign body).wpIn F n P Q a w := by
  refine wpIn_rangeFunc ?_
  intro fn hfn
  rw [hro]
  generalize hD : w.heap.size = D at *
  obtain ⟨rc, hrc⟩ : ∃ rc : LoopState → Option Code → Loop, rc = fun st pe => { state := st, pending := pe, fn, tmps := a.tmps, params := ps, assign, body, defers := D } := ⟨_, rfl⟩
  obtain ⟨V, hV⟩ : ∃ V, (w.alloc (.deferred (some []))).alloc (.loop (rc .ready none)) = V := ⟨_, rfl⟩
  have hbV : ButS w V (fun _ => False) := by rw [← hV]; exact (but_alloc' _ _ _).trans (but_alloc' _ _ _)
  have hsV : V.heap.size = D + 2 := by rw [← hV]; simp [hD]
  have hL : V.heap[D + 1]? = some (.loop (rc .ready none)) := by
    rw [← hV, ← hD]
    have := World.alloc_heap_new (w.alloc (.deferred (some []))) (.loop (rc .ready none))
    rwa [World.size_alloc] at this
  have hK : V.heap[D]? = some (.deferred (some [])) := by
    rw [← hV, ← hD]
    exact (Below.heap_alloc _ _ _ (by simp)).trans (World.alloc_heap_new w _)
  have hbl : Below w0.heap.size w0 V := hb0.trans (hbV.below (by have := hb0.size; omega) (fun _ h => h.elim))
  have hIV : I [] O₀ V := hI _ _ _ _ _ h0 hbV (fun _ h => h.elim)
  refine ⟨D + 1, [{ target := .collected D, args := #[] }], V, { target := .fn (.func gf) lb, args := #[.func (.yield (D + 1)) #[] #[]] }, V, gf, #[.func (.yield (D + 1)) #[] #[]] ++ lb, V, ?_, ?_, ?_, ?_, fun _ => h1, ?_⟩
  · have := run_enterLoop_outer (P := P) (w := w) fn a.tmps ps assign body
    rw [hD] at this
    rw [this, ← hV, hrc]
  · simp only [resolve, hg]
    simp [go_sem]
  · intro f' hf'
    simp [Target.leads] at hf'
    subst hf'; exact hFg
  · simp [invoke, go_sem, eg]
  · obtain ⟨Bk, hBk⟩ : ∃ Bk : LoopState → Option Code → (Nat → Prop) → (Nat → Prop) → World → Prop, Bk = fun st pe O R W => (∀ j, O j → ¬ R j ∧ j ≠ D ∧ j ≠ D + 1 ∧ j < W.heap.size) ∧ (∀ j, R j → D + 2 ≤ j ∧ j < W.heap.size) ∧ W.heap[D + 1]? = some (.loop (rc st pe)) ∧ W.heap[D]? = some (.deferred (some [])) := ⟨_, rfl⟩
    have hstep : ∀ {st : LoopState} {pe : Option Code} {O R R' : Nat → Prop} {W W' : World}, Bk st pe O R W → ButS W W' R → (∀ j, R' j → (R j ∨ W.heap.size ≤ j) ∧ j < W'.heap.size) → Bk st pe O R' W' := by
      intro st pe O R R' W W' hb hw hR'
      rw [hBk] at hb ⊢
      obtain ⟨b1, b2, b3, b4⟩ := hb
      have hlt := (Array.getElem?_eq_some_iff.1 b3).1
      refine ⟨fun j hj => ⟨fun hr => ?_, (b1 j hj).2.1, (b1 j hj).2.2.1, by have := (b1 j hj).2.2.2; have := hw.size; omega⟩, fun j hj => ⟨?_, (hR' j hj).2⟩, (hw.block _ hlt (fun h => by have := (b2 _ h).1; omega)).trans b3, (hw.block _ (by omega) (fun h => by have := (b2 _ h).1; omega)).trans b4⟩
      · rcases (hR' j hr).1 with h | h
        · exact (b1 j hj).1 h
        · have := (b1 j hj).2.2.2; omega
      · rcases (hR' j hj).1 with h | h
        · exact (b2 j h).1
        · omega
    have hown : ∀ {st : LoopState} {pe : Option Code} {O O' R : Nat → Prop} {W W' : World}, Bk st pe O R W → OwnStep O O' W W' → Bk st pe O' R W' ∧ ∀ j, R j → W'.heap[j]? = W.heap[j]? := by
      intro st pe O O' R W W' hb hw
      rw [hBk] at hb ⊢
      obtain ⟨b1, b2, b3, b4⟩ := hb
      have hlt := (Array.getElem?_eq_some_iff.1 b3).1
      refine ⟨⟨fun j hj => ?_, fun j hj => ⟨(b2 j hj).1, by have := (b2 j hj).2; have := hw.1.size; omega⟩, (hw.1.block _ hlt (fun h => (b1 _ h).2.2.1 rfl)).trans b3, (hw.1.block _ (by omega) (fun h => (b1 _ h).2.1 rfl)).trans b4⟩, fun j hj => hw.1.block j (b2 j hj).2 (fun h => (b1 j h).1 hj)⟩
      obtain ⟨h1, h2⟩ := hw.2 j hj
      rcases h1 with h1 | h1
      · exact ⟨(b1 j h1).1, (b1 j h1).2.1, (b1 j h1).2.2.1, h2⟩
      · exact ⟨fun hr => by have := (b2 j hr).2; omega, by omega, by omega, h2⟩
    have hput : ∀ {st st' : LoopState} {pe pe' : Option Code} {O R : Nat → Prop} {W : World}, Bk st pe O R W → Bk st' pe' O R (W.putObj (D + 1) (.loop (rc st' pe'))) := by
      intro st st' pe pe' O R W hb
      rw [hBk] at hb ⊢
      obtain ⟨b1, b2, b3, b4⟩ := hb
      have hlt := (Array.getElem?_eq_some_iff.1 b3).1
      exact ⟨fun j hj => by rw [World.putObj_size]; exact b1 j hj, fun j hj => by rw [World.putObj_size]; exact b2 j hj, World.putObj_heap_same hlt, (World.putObj_heap_other (by omega)).trans b4⟩
    have hrec : ∀ {st : LoopState} {pe : Option Code} {O R : Nat → Prop} {W : World}, Bk st pe O R W → W.heap[D + 1]? = some (.loop (rc st pe)) := by
      intro st pe O R W hb
      rw [hBk] at hb
      exact hb.2.2.1
    have hdef : ∀ {st : LoopState} {pe : Option Code} {O R : Nat → Prop} {W : World}, Bk st pe O R W → W.heap[D]? = some (.deferred (some [])) := by
      intro st pe O R W hb
      rw [hBk] at hb
      exact hb.2.2.2
    have hno : ∀ {st : LoopState} {pe : Option Code} {O R : Nat → Prop} {W : World}, Bk st pe O R W → ¬ O (D + 1) ∧ ¬ O D := by
      intro st pe O R W hb
      rw [hBk] at hb
      exact ⟨fun h => (hb.1 _ h).2.2.1 rfl, fun h => (hb.1 _ h).2.1 rfl⟩
    have hRB : ∀ {st : LoopState} {pe : Option Code} {O R : Nat → Prop} {W : World}, Bk st pe O R W → ∀ j, R j → ¬ O j ∧ D ≤ j := by
      intro st pe O R W hb j hj
      rw [hBk] at hb
      exact ⟨fun h => (hb.1 j h).1 hj, by have := (hb.2.1 j hj).1; omega⟩
    have hlowB : ∀ {O O' : Nat → Prop} {W W' : World}, (∀ j, O j → n₀ ≤ j) → n₀ ≤ W.heap.size → OwnStep O O' W W' → Below n₀ W W' := fun ho hs h => h.1.below hs ho
    have hJs : ∀ (st : LoopState) (T : List α → Option Code → (Nat → Prop) → World → Prop), (∀ pe, Abides D (fun s => T s pe)) → Steps (fun pre R W => ∃ pe O, T pre pe O W ∧ Bk st pe O R W) := by
      intro st T hT s R R' W W' hj hw hR'
      obtain ⟨pe, O, h1, h2⟩ := hj
      exact ⟨pe, O, hT pe _ _ _ _ _ h1 hw (hRB h2), hstep h2 hw hR'⟩
    refine (hseq (D + 1) (fun pre R W => ∃ pe O, (fun pre (pe : Option Code) O W => pe = none ∧ I pre O W) pre pe O W ∧ Bk .ready pe O R W) (fun pre R W => ∃ pe O, (fun pre (pe : Option Code) O W => ∃ c, pe = some c ∧ Ix c pre O W) pre pe O W ∧ Bk .done pe O R W) V hbl
      (hJs .ready (fun pre pe O W => pe = none ∧ I pre O W) (fun pe s O W W' R h hw hr => ⟨h.1, hI _ _ _ _ _ h.2 hw hr⟩)) (hJs .done (fun pre pe O W => ∃ c, pe = some c ∧ Ix c pre O W) (fun pe s O W W' R h hw hr => by obtain ⟨c, h1, h2⟩ := h; exact ⟨c, h1, hIx c _ _ _ _ _ h2 hw hr⟩)) ?_
      ⟨none, O₀, ⟨rfl, hIV⟩, by rw [hBk]; exact ⟨fun j hj => ⟨fun h => h, by have := hO₀ j hj; omega, by have := hO₀ j hj; omega, by have := hO₀ j hj; omega⟩, fun _ h => h.elim, hL, hK⟩⟩).mono ?_
    · rintro pre x R W ⟨pe, O, ⟨rfl, hi⟩, hb⟩ hlen
      have hy := run_yield (P := P) (args := encs x) (hrec hb) (by rw [hrc]; exact hps x)
      rw [hrc] at hy
      have hsW : n₀ ≤ W.heap.size := by have := (Array.getElem?_eq_some_iff.1 (hrec hb)).1; omega
      refine ⟨fn, _, assign, body, hy, roundIn_of_wpIn hfn (wpIn_mono (hassign (D + 1) pre x O W hi hlen) ?_)⟩
      rintro e a1 W1 hp
      cases e with
      | normal =>
        obtain ⟨O1, hst, ha⟩ := hp
        obtain ⟨hb1, hk1⟩ := hown hb hst
        have hb2 := hput (st' := .busy) (pe' := none) hb1
        refine ⟨W1.putObj (D + 1) (.loop (rc .busy none)), by have h := run_beginRound (P := P) (hrec hb1) (by rw [hrc]); rw [hrc] at h ⊢; exact h, ?_⟩
        have ha2 : A (pre, x) a1 O1 (W1.putObj (D + 1) (.loop (rc .busy none))) := hA a1 _ _ _ _ _ ha (but_put _ _ _) (fun j hj => by subst hj; exact ⟨(hno hb1).1, by omega⟩)
        have hsz1 : W.heap.size ≤ W1.heap.size := hst.1.size
        have hll : ∀ j, O1 j → n₀ ≤ j := fun j hj => by
          rcases (hst.2 j hj).1 with h | h
          · exact hlow _ _ _ hi j h
          · omega
        have hbd := hbody (D + 1) pre x O1 a1 _ ha2
        refine wpIn_mono hbd ?_
        have fin : ∀ (jump : Option Code) (O2 : Nat → Prop) (W3 : World), OwnStep O1 O2 (W1.putObj (D + 1) (.loop (rc .busy none))) W3 →
            (Instr.endRound (D + 1) jump).run P W3 = .ok (.bool jump.isNone) (W3.putObj (D + 1) (.loop (rc (if jump.isNone then .ready else .done) jump))) ∧
            Bk (if jump.isNone then .ready else .done) jump O2 R (W3.putObj (D + 1) (.loop (rc (if jump.isNone then .ready else .done) jump))) ∧ ButS W3 (W3.putObj (D + 1) (.loop (rc (if jump.isNone then .ready else .done) jump))) (· = D + 1) ∧ ¬ O2 (D + 1) ∧
            (∀ j, R j → (W3.putObj (D + 1) (.loop (rc (if jump.isNone then .ready else .done) jump))).heap[j]? = W.heap[j]?) ∧ Below n₀ W (W3.putObj (D + 1) (.loop (rc (if jump.isNone then .ready else .done) jump))) := by
          intro jump O2 W3 hs3
          obtain ⟨hb3, hk3⟩ := hown hb2 hs3
          have he := run_endRound (P := P) jump (hrec hb3)
          have hRne : ∀ j, R j → j ≠ D + 1 := fun j hj e => by
            have := hb; rw [hBk] at this
            have := (this.2.1 j hj).1; omega
          refine ⟨?_, hput hb3, but_put _ _ _, (hno hb3).1, fun j hj => (World.putObj_heap_other (hRne j hj)).trans ((hk3 j hj).trans ((World.putObj_heap_other (hRne j hj)).trans (hk1 j hj))), ?_⟩
          · rw [hrc] at he ⊢; exact he
          · have p1 := (but_put W1 (D + 1) (.loop (rc .busy none))).below (B := n₀) (by omega) (fun j hj => by omega)
            have p2 := hlowB hll (by rw [World.putObj_size]; omega) hs3
            have hs3' := hs3.1.size
            rw [World.putObj_size] at hs3'
            have p3 := (but_put W3 (D + 1) (.loop (rc (if jump.isNone then .ready else .done) jump))).below (B := n₀) (by omega) (fun j hj => by omega)
            exact ((hlowB (hlow _ _ _ hi) hsW hst).trans p1).trans (p2.trans p3)
        rintro e a3 W3 hp
        cases e with
        | normal =>
          obtain ⟨O2, hs3, hi3⟩ := hp
          obtain ⟨f1, f2, f3, f4, f5, f6⟩ := fin none O2 W3 hs3
          exact ⟨_, _, f1, .inl ⟨rfl, ⟨none, O2, ⟨rfl, hI _ _ _ _ _ hi3 f3 (fun j hj => by subst hj; exact ⟨f4, by omega⟩)⟩, f2⟩, f6, f5⟩⟩
        | ret =>
          obtain ⟨O2, hs3, hi3⟩ := hp
          obtain ⟨f1, f2, f3, f4, f5, f6⟩ := fin (some .ret) O2 W3 hs3
          exact ⟨_, _, f1, .inr ⟨rfl, ⟨some .ret, O2, ⟨.ret, rfl, hIx _ _ _ _ _ _ hi3 f3 (fun j hj => by subst hj; exact ⟨f4, by omega⟩)⟩, f2⟩, f6, f5⟩⟩
        | exit id =>
          obtain ⟨O2, hs3, hi3⟩ := hp
          obtain ⟨f1, f2, f3, f4, f5, f6⟩ := fin (some (.exit id)) O2 W3 hs3
          exact ⟨_, _, f1, .inr ⟨rfl, ⟨some (.exit id), O2, ⟨.exit id, rfl, hIx _ _ _ _ _ _ hi3 f3 (fun j hj => by subst hj; exact ⟨f4, by omega⟩)⟩, f2⟩, f6, f5⟩⟩
        | goto t =>
          obtain ⟨O2, hs3, hi3⟩ := hp
          obtain ⟨f1, f2, f3, f4, f5, f6⟩ := fin (some (.goto t)) O2 W3 hs3
          exact ⟨_, _, f1, .inr ⟨rfl, ⟨some (.goto t), O2, ⟨.goto t, rfl, hIx _ _ _ _ _ _ hi3 f3 (fun j hj => by subst hj; exact ⟨f4, by omega⟩)⟩, f2⟩, f6, f5⟩⟩
        | panic ch => exact hp.elim
        | outgrown => exact hp.elim
      | ret => exact hp.elim
      | exit id => exact hp.elim
      | goto t => exact hp.elim
      | panic ch => exact hp.elim
      | outgrown => exact hp.elim
    · rintro e W2 ⟨⟨v, rfl⟩, (⟨xs, R, hS, pe, O, ⟨rfl, hi⟩, hb⟩ | ⟨pre, R, hSp, pe, O, ⟨c, rfl, hi⟩, hb⟩)⟩
      · have he := run_endLoop (P := P) (hrec hb) (by rw [hrc]; simp)
        rw [hrc] at he
        exact ⟨none, _, he, hdone D xs O _ (Nat.le_refl _) (hno hb).2 hS (hI _ _ _ _ _ hi (but_put _ _ _) (fun j hj => by subst hj; exact ⟨(hno hb).1, by omega⟩)) ((World.putObj_heap_other (by omega)).trans (hdef hb))⟩
      · have he := run_endLoop (P := P) (hrec hb) (by rw [hrc]; simp)
        rw [hrc] at he
        exact ⟨some c, _, he, hstop D c pre O _ (Nat.le_refl _) (hno hb).2 hSp (hIx c _ _ _ _ _ hi (but_put _ _ _) (fun j hj => by subst hj; exact ⟨(hno hb).1, by omega⟩)) ((World.putObj_heap_other (by omega)).trans (hdef hb))⟩
end Go.Proofs.YtkehehfphccpbaaGreatDoor
end
section
namespace Go.Proofs.YtkehehfphccpbaaGreatDoor
open Go.RowKit Go.Shelf
attribute [local go_sem] Oper.semAt_some

theorem low_at {x j : Nat} (hx : x < 18446744073709551616) (hj : j < (M.bz x).length) : M.low (M.less j x) = (M.bz x)[j] := by
  rw [M.select_eq x j hx, M.rSel, if_neg (by omega), Int.toNat_natCast, List.getElem?_eq_getElem hj]
  rfl
theorem less_ne {x j : Nat} (hx : x < 18446744073709551616) (hj : j < (M.bz x).length) : M.less j x ≠ 0 := by
  intro h0
  have := M.bl_less j x hx
  rw [h0, M.bl_zero] at this
  rw [M.bz_len] at hj
  have h2 := congrArg List.length this
  rw [List.length_drop] at h2
  simp at h2
  omega
theorem less_end {x j : Nat} (hx : x < 18446744073709551616) (hj : ¬ j < (M.bz x).length) : M.less j x = 0 := by
  have := M.bl_less j x hx
  rw [M.bz_len] at hj
  rw [List.drop_of_length_le (by omega)] at this
  exact M.bl_nil (M.less_lt j x hx) this
theorem pred_lt {r : Nat} (h : r ≠ 0) : r &&& (r - 1) < r := Nat.lt_of_le_of_lt Nat.and_le_right (by omega)

set_option maxRecDepth 100000 in
set_option maxHeartbeats 1000000 in
theorem rising1 (n : Nat) (hn : 1 ≤ n) (l Bn n₀ : Nat) (h0n : 0 < n₀) (x : Nat) (hx : x < 18446744073709551616) (J Jx : List Int → World → Prop)
    (hY : ∀ pre y W, J pre W → pre.length < (M.bz x).length → YieldAt Fence.wide (n - 1) Tryz.prog l #[.int .i64 y] W fun e W' =>
      (e = .returned (.bool true) ∧ J (pre ++ [y]) W' ∧ Below n₀ W W') ∨ (e = .returned (.bool false) ∧ Jx (pre ++ [y]) W'))
    (W : World) (hT : Tab W) (hBn : W.cell? ⟨Bn, 0, none⟩ = some (.int .u64 (x : Int))) (h0 : J [] W) :
    CallsIn Fence.wide n Tryz.prog 103 #[.func (.yield l) #[] #[], .pointer (some ⟨Bn, 0, none⟩)] W fun e W' => (∃ v, e = .returned v) ∧
      ((∃ ys, ys = M.bz x ∧ J ys W') ∨ (∃ pre, pre <+: M.bz x ∧ Jx pre W')) := by
  refine callsIn_of_wp Tryz.func103 rfl trivial ?_ rfl
  simp only [Tryz.ntmps103, List.size_toArray, List.length_cons, List.length_nil, Nat.reduceAdd, Nat.reduceSub, Array.replicate_succ, Array.replicate_zero, List.push_toArray, List.append_toArray, List.nil_append, List.cons_append]
  gi_wp2
  gi_loopw [3] (fun q wr => ∃ j : Nat, j ≤ (M.bz x).length ∧ q = .int .u64 (M.less j x : Nat) ∧ Hid (J ((M.bz x).take j) wr) ∧ Tab wr) (fun q _ => (intOf q).toNat)
  case atStart => exact ⟨0, by omega, rfl, h0, hT⟩
  case round =>
    obtain ⟨j, hj, rfl, hJ, hTr⟩ := hrel
    have hlt := M.less_lt j x hx
    by_cases hjl : j < (M.bz x).length
    · have hlow := low_at hx hjl
      have hne := less_ne hx hjl
      have hs := Lib.hid (M.less_succ j x)
      have hpl := pred_lt hne
      have htk := Lib.hid (show (M.bz x).take (j + 1) = (M.bz x).take j ++ [(M.bz x)[j]] by rw [List.take_succ_eq_append_getElem hjl])
      obtain ⟨fn, tmps, assign, body, hy, hR⟩ := hY _ (M.bz x)[j] wr hJ.out (by rw [List.length_take]; omega)
      generalize (M.bz x)[j] = y at *
      generalize M.less j x = r at *
      have hr0 : ((r : Int) == 0) = false := by simp; omega
      have hr1 : ((r : Int) != 0) = true := by simp; omega
      gi_wp2_with (refine ⟨trivial, ?_⟩; gi_at_call 105; refine (callsIn_wide.2 (bit_low r hlt _ hTr)).mono ?_; rintro e w' ⟨rfl, rfl⟩)
      refine hR.mono ?_
      rintro e W3 (⟨rfl, hJ3, hk3⟩ | ⟨rfl, hJx3⟩)
      · have hT3 := hTr.below hk3 h0n
        have hJ4 : Hid (J ((M.bz x).take (j + 1)) W3) := by rw [htk.out]; exact hJ3
        gi_wp2_with (refine ⟨trivial, ?_⟩; gi_at_call 104; refine (callsIn_wide.2 (bit_less r hlt _)).mono ?_; rintro e w' ⟨rfl, rfl⟩)
        go_roundw
        case rel => exact ⟨j + 1, by omega, by rw [hs.out], hJ4, hT3⟩
        case measure => simp [intOf]; omega
      · have hJ4 : Hid (Jx ((M.bz x).take (j + 1)) W3) := by rw [htk.out]; exact hJx3
        gi_wp2
        refine bodyPost_ret (results_none rfl _ _ _) rfl ?_
        exact ⟨⟨_, rfl⟩, .inr ⟨_, List.take_prefix _ _, hJ4.out⟩⟩
    · have he := less_end hx hjl
      rw [he] at hlt
      rw [he]
      have hJ4 : Hid (J (M.bz x) wr) := by
        have := hJ.out
        rw [List.take_of_length_le (by omega)] at this
        exact this
      gi_wp2
      go_end0
      exact ⟨⟨_, rfl⟩, .inl ⟨_, rfl, hJ4.out⟩⟩

/-- The iterator that Rising hands back. -/
theorem rising_stops (n : Nat) (hn : 1 ≤ n) (Bn n₀ : Nat) (h0n : 0 < n₀) (x : Nat) (hx : x < 18446744073709551616) (w : World) (hBn : Bn < w.heap.size) (hT : Tab w)
    (hc : w.cell? ⟨Bn, 0, none⟩ = some (.int .u64 (x : Int))) :
    SeqStopsK Fence.wide n Tryz.prog 103 #[.pointer (some ⟨Bn, 0, none⟩)] (fun y : Int => #[Value.int .i64 y]) (Below n₀) (fun ys => ys = M.bz x) (fun pre => pre <+: M.bz x) (M.bz x).length w := fun l J Jx W hW _ _ hY h0 =>
  rising1 n hn l Bn n₀ h0n x hx J Jx hY W (hT.below hW hT.pos) ((hW.cell (p := ⟨Bn, 0, none⟩) hBn).trans hc) h0
theorem rising_any (x : Nat) (w : World) :
    Calls Tryz.prog 84 #[.int .u64 (x : Int)] w fun e w' => e = .returned (.func (.func 103) #[] #[.pointer (some ⟨w.heap.size, 0, none⟩)]) ∧ w' = w.alloc (.cells #[.int .u64 (x : Int)] 117) := by
  go_enter Tryz.func84, Tryz.ntmps84
  go_wp2
  go_ret
  exact ⟨rfl, rfl⟩

/-- Without the highest bit, j times. -/
def hless : Nat → Nat → Nat
  | 0, x => x
  | j + 1, x => hless j x &&& (18446744073709551615 - M.one (M.high (hless j x)))
theorem hless_lt {x : Nat} (hx : x < 18446744073709551616) (j : Nat) : hless j x < 18446744073709551616 := by
  induction j with
  | zero => exact hx
  | succ j ih => exact Nat.lt_of_le_of_lt Nat.and_le_left ih
theorem bz_hless {x : Nat} (j : Nat) (hj : j ≤ (M.bz x).length) : M.bz (hless j x) = (M.bz x).take ((M.bz x).length - j) := by
  induction j with
  | zero => rw [hless, Nat.sub_zero, List.take_length]
  | succ j ih =>
    have ih := ih (by omega)
    obtain ⟨m, hm⟩ : ∃ m, (M.bz x).length - j = m + 1 := ⟨(M.bz x).length - j - 1, by omega⟩
    have hml : m < (M.bz x).length := by omega
    have e1 : (M.bz x).length - (j + 1) = m := by omega
    rw [hm, List.take_succ_eq_append_getElem hml] at ih
    have hh : M.high (hless j x) = (M.bz x)[m] := by
      unfold M.high
      rw [ih, List.getLast?_concat]; rfl
    have hmem := M.mem_bz.1 (List.getElem_mem hml)
    rw [hless, hh, M.bz_clear _ _ hmem.1 hmem.2.1, ih, e1]
    unfold M.drop
    rw [List.filter_append]
    have hs := M.bz_sorted x
    have hsp : M.bz x = (M.bz x).take m ++ (M.bz x)[m] :: (M.bz x).drop (m + 1) := by
      rw [← List.drop_eq_getElem_cons hml, List.take_append_drop]
    rw [hsp] at hs
    have h1 := (M.sorted_split hs).1
    rw [List.filter_eq_self.2 (fun y hy => by have := h1 y hy; simp; omega)]
    simp
theorem high_at {x j : Nat} (hj : j < (M.bz x).length) : M.high (hless j x) = (M.bz x).reverse[j]'(by simpa using hj) := by
  obtain ⟨m, hm⟩ : ∃ m, (M.bz x).length - j = m + 1 := ⟨(M.bz x).length - j - 1, by omega⟩
  have hml : m < (M.bz x).length := by omega
  unfold M.high
  rw [bz_hless j (by omega), hm, List.take_succ_eq_append_getElem hml, List.getElem_reverse]
  have e : (M.bz x).length - 1 - j = m := by omega
  rw [List.getLast?_concat]
  simp [e]
theorem hless_ne {x j : Nat} (hj : j < (M.bz x).length) : hless j x ≠ 0 := by
  intro h0
  have := bz_hless (x := x) j (by omega)
  rw [h0] at this
  have h2 := congrArg List.length this
  rw [List.length_take] at h2
  simp [M.bz, M.bl_zero] at h2
  rw [M.bz_len] at hj
  omega
theorem hless_end {x j : Nat} (hx : x < 18446744073709551616) (hj : j ≤ (M.bz x).length) (hjl : ¬ j < (M.bz x).length) : hless j x = 0 := by
  have := bz_hless (x := x) j hj
  have e : (M.bz x).length - j = 0 := by omega
  rw [e, List.take_zero] at this
  have h2 : M.bl (hless j x) = [] := by
    unfold M.bz at this
    simpa using this
  exact M.bl_nil (hless_lt hx j) h2
theorem hless_dec {x j : Nat} (hj : j < (M.bz x).length) : hless (j + 1) x < hless j x := by
  have hle : hless (j + 1) x ≤ hless j x := Nat.and_le_left
  refine Nat.lt_of_le_of_ne hle fun h => ?_
  have h1 := bz_hless (x := x) j (by omega)
  have h2 := bz_hless (x := x) (j + 1) (by omega)
  rw [h, h1] at h2
  have := congrArg List.length h2
  rw [List.length_take, List.length_take] at this
  omega
end Go.Proofs.YtkehehfphccpbaaGreatDoor
end
section
namespace Go.Proofs.YtkehehfphccpbaaGreatDoor
set_option maxRecDepth 40000
open Go.RowKit Go.Shelf
attribute [local go_sem] Oper.semAt_some
/-- What an inner loop keeps of the outer one's word J: f of what the inner one has told has come. -/
def IJ {α β : Type} (n₀ : Nat) (w0 : World) (J : List β → (Nat → Prop) → World → Prop) (f : List α → List β) (pre : List α) (O : Nat → Prop) (W : World) : Prop :=
  (∀ j, O j → n₀ ≤ j ∧ j < W.heap.size) ∧ Below n₀ w0 W ∧ J (f pre) (fun j => n₀ ≤ j ∧ j < W.heap.size ∧ ¬ O j) W
theorem IJ.abides {α β : Type} {n₀ B : Nat} {w0 : World} {J : List β → (Nat → Prop) → World → Prop} (f : List α → List β) (hJ : Steps J) (hn : n₀ ≤ B) (h0 : n₀ ≤ w0.heap.size) : Abides B (IJ n₀ w0 J f) := by
  intro s O W W' R ⟨h1, h2, h3⟩ hw hR
  refine ⟨fun j hj => ⟨(h1 j hj).1, Nat.lt_of_lt_of_le (h1 j hj).2 hw.size⟩, h2.trans (hw.below (Nat.le_trans h0 h2.size) (fun j hj => Nat.le_trans hn (hR j hj).2)), ?_⟩
  refine hJ _ _ _ _ _ h3 (hw.mono fun j hlt hj => ⟨Nat.le_trans hn (hR j hj).2, hlt, (hR j hj).1⟩) (fun j hj => ⟨?_, hj.2.1⟩)
  by_cases hlt : j < W.heap.size
  · exact .inl ⟨hj.1, hlt, hj.2.2⟩
  · exact .inr (by omega)
/-- The outer round is over: what it has turned is the body's. -/
theorem yield_own {β : Type} {n₀ : Nat} {J : List β → (Nat → Prop) → World → Prop} {xs : List β} {O : Nat → Prop} {W1 W' : World} (hJ : Steps J)
    (hj : J xs (fun j => n₀ ≤ j ∧ j < W1.heap.size ∧ ¬ O j) W') (hb : Below n₀ W1 W') (hs : ∀ j, (n₀ ≤ j ∧ j < W1.heap.size ∧ ¬ O j) → W'.heap[j]? = W1.heap[j]?) :
    ∃ O', OwnStep O O' W1 W' ∧ (∀ j, O' j → n₀ ≤ j ∧ j < W'.heap.size) ∧ J xs (fun j => n₀ ≤ j ∧ j < W'.heap.size ∧ ¬ O' j) W' := by
  refine ⟨fun j => n₀ ≤ j ∧ j < W'.heap.size ∧ ¬ (n₀ ≤ j ∧ j < W1.heap.size ∧ ¬ O j), ⟨⟨hb.os, hb.tape, hb.output, hb.size, fun j hlt ho => ?_⟩, fun j hj => ⟨?_, hj.2.1⟩⟩, fun j hj => ⟨hj.1, hj.2.1⟩, ?_⟩
  · rcases Nat.lt_or_ge j n₀ with h | h
    · exact hb.block j h
    · exact hs j ⟨h, hlt, ho⟩
  · by_cases hlt : j < W1.heap.size
    · left
      exact Classical.byContradiction fun ho => hj.2.2 ⟨hj.1, hlt, ho⟩
    · right; omega
  · refine hJ _ _ _ _ _ hj (ButS.refl _ _) (fun j hj => ⟨.inl ?_, hj.2.1⟩)
    exact Classical.byContradiction fun h => hj.2.2 ⟨hj.1, hj.2.1, h⟩
theorem prefix_snoc {α : Type} {pre l : List α} {x : α} (h : pre ++ [x] <+: l) : x ∈ l := by
  obtain ⟨r, rfl⟩ := h
  simp
theorem SeqY.inRound {α : Type} {F : Fence} {n : Nat} {P : Program} {g : Nat} {lb : Array Value} {encs : α → Array Value} {n₀ : Nat} {S Sp T : List α → Prop} {w : World} (l : Nat)
    (h : SeqY F n P g lb encs n₀ S Sp T w) : SeqY (F.inRound l) n P g lb encs n₀ S Sp T w := h
set_option maxRecDepth 100000 in
set_option maxHeartbeats 1000000 in
theorem risingY (n : Nat) (hn : 1 ≤ n) (l Bn n₀ : Nat) (h0n : 0 < n₀) (x : Nat) (hx : x < 18446744073709551616) (J Jx : List Int → World → Prop)
    (hY : ∀ pre y W, J pre W → (pre ++ [y]) <+: M.bz x → YieldAt Fence.wide (n - 1) Tryz.prog l #[.int .i64 y] W fun e W' =>
      (e = .returned (.bool true) ∧ J (pre ++ [y]) W' ∧ Below n₀ W W') ∨ (e = .returned (.bool false) ∧ Jx (pre ++ [y]) W'))
    (W : World) (hT : Tab W) (hBn : W.cell? ⟨Bn, 0, none⟩ = some (.int .u64 (x : Int))) (h0 : J [] W) :
    CallsIn Fence.wide n Tryz.prog 103 #[.func (.yield l) #[] #[], .pointer (some ⟨Bn, 0, none⟩)] W fun e W' => (∃ v, e = .returned v) ∧
      ((∃ ys, ys = M.bz x ∧ J ys W') ∨ (∃ pre, pre <+: M.bz x ∧ Jx pre W')) := by
  refine callsIn_of_wp Tryz.func103 rfl trivial ?_ rfl
  simp only [Tryz.ntmps103, List.size_toArray, List.length_cons, List.length_nil, Nat.reduceAdd, Nat.reduceSub, Array.replicate_succ, Array.replicate_zero, List.push_toArray, List.append_toArray, List.nil_append, List.cons_append]
  gi_wp2
  gi_loopw [3] (fun q wr => ∃ j : Nat, j ≤ (M.bz x).length ∧ q = .int .u64 (M.less j x : Nat) ∧ Hid (J ((M.bz x).take j) wr) ∧ Tab wr) (fun q _ => (intOf q).toNat)
  case atStart => exact ⟨0, by omega, rfl, h0, hT⟩
  case round =>
    obtain ⟨j, hj, rfl, hJ, hTr⟩ := hrel
    have hlt := M.less_lt j x hx
    by_cases hjl : j < (M.bz x).length
    · have hlow := low_at hx hjl
      have hne := less_ne hx hjl
      have hs := Lib.hid (M.less_succ j x)
      have hpl := pred_lt hne
      have htk := Lib.hid (show (M.bz x).take (j + 1) = (M.bz x).take j ++ [(M.bz x)[j]] by rw [List.take_succ_eq_append_getElem hjl])
      obtain ⟨fn, tmps, assign, body, hy, hR⟩ := hY _ (M.bz x)[j] wr hJ.out (by rw [← htk.out]; exact List.take_prefix _ _)
      generalize (M.bz x)[j] = y at *
      generalize M.less j x = r at *
      have hr0 : ((r : Int) == 0) = false := by simp; omega
      have hr1 : ((r : Int) != 0) = true := by simp; omega
      gi_wp2_with (refine ⟨trivial, ?_⟩; gi_at_call 105; refine (callsIn_wide.2 (bit_low r hlt _ hTr)).mono ?_; rintro e w' ⟨rfl, rfl⟩)
      refine hR.mono ?_
      rintro e W3 (⟨rfl, hJ3, hk3⟩ | ⟨rfl, hJx3⟩)
      · have hT3 := hTr.below hk3 h0n
        have hJ4 : Hid (J ((M.bz x).take (j + 1)) W3) := by rw [htk.out]; exact hJ3
        gi_wp2_with (refine ⟨trivial, ?_⟩; gi_at_call 104; refine (callsIn_wide.2 (bit_less r hlt _)).mono ?_; rintro e w' ⟨rfl, rfl⟩)
        go_roundw
        case rel => exact ⟨j + 1, by omega, by rw [hs.out], hJ4, hT3⟩
        case measure => simp [intOf]; omega
      · have hJ4 : Hid (Jx ((M.bz x).take (j + 1)) W3) := by rw [htk.out]; exact hJx3
        gi_wp2
        refine bodyPost_ret (results_none rfl _ _ _) rfl ?_
        exact ⟨⟨_, rfl⟩, .inr ⟨_, List.take_prefix _ _, hJ4.out⟩⟩
    · have he := less_end hx hjl
      rw [he] at hlt
      rw [he]
      have hJ4 : Hid (J (M.bz x) wr) := by
        have := hJ.out
        rw [List.take_of_length_le (by omega)] at this
        exact this
      gi_wp2
      go_end0
      exact ⟨⟨_, rfl⟩, .inl ⟨_, rfl, hJ4.out⟩⟩

theorem rising_seq (n : Nat) (hn : 1 ≤ n) (Bn n₀ : Nat) (h0n : 0 < n₀) (x : Nat) (hx : x < 18446744073709551616) (w : World) (hBn : Bn < w.heap.size) (hT : Tab w)
    (hc : w.cell? ⟨Bn, 0, none⟩ = some (.int .u64 (x : Int))) :
    SeqY Fence.wide n Tryz.prog 103 #[.pointer (some ⟨Bn, 0, none⟩)] (fun y : Int => #[Value.int .i64 y]) n₀ (fun ys => ys = M.bz x) (fun pre => pre <+: M.bz x) (fun pre => pre <+: M.bz x) w := by
  intro l J Jx W hW hJ hJx hY h0
  refine (risingY n hn l Bn n₀ h0n x hx (fun pre W => J pre (fun _ => False) W) (fun pre W => Jx pre (fun _ => False) W) (fun pre y W1 hj hp => ?_) W (hT.below hW hT.pos) ((hW.cell (p := ⟨Bn, 0, none⟩) hBn).trans hc) h0).mono ?_
  · refine (hY pre y (fun _ => False) W1 hj hp).mono ?_
    rintro e W' (⟨h1, h2, h3, _⟩ | ⟨h1, h2, _⟩)
    · exact .inl ⟨h1, h2, h3⟩
    · exact .inr ⟨h1, h2⟩
  · rintro e W' ⟨h1, ⟨ys, h2, h3⟩ | ⟨pre, h2, h3⟩⟩
    · exact ⟨h1, .inl ⟨ys, _, h2, h3⟩⟩
    · exact ⟨h1, .inr ⟨pre, _, h2, h3⟩⟩
end Go.Proofs.YtkehehfphccpbaaGreatDoor
end
section
namespace Go.Proofs.YtkehehfphccpbaaGreatDoor
set_option maxRecDepth 40000
open Go.RowKit Go.Shelf
attribute [local go_sem] Oper.semAt_some
abbrev mark (D : Nat) : Deferred := { target := .collected D, args := #[] }
/-- A function leaves with marks of blocks that hold no calls. -/
theorem leaves_marks {F : Fence} {n : Nat} {P : Program} {fn : Func} {tmps : Array Value} {R : Ending → World → Prop} : ∀ (Ds : List Nat) (W : World), Ds.Nodup → (∀ D ∈ Ds, W.heap[D]? = some (.deferred (some []))) →
    (∀ W', ButS W W' (· ∈ Ds) → LeavesIn F n P fn tmps R [] .returning W') → LeavesInM F n P fn tmps R (Ds.map mark) .returning W
  | [], W, _, _, h => h W (ButS.refl _ _)
  | D :: Ds, W, hn, hd, h => by
    rw [List.nodup_cons] at hn
    refine ⟨by simp, .inl ⟨D, _, rfl, run_takeDeferred (hd D (List.mem_cons_self ..)), ?_⟩⟩
    refine leaves_marks Ds _ hn.2 (fun E hE => ?_) (fun W' hW => h W' ?_)
    · rw [World.putObj_heap_other (by intro e; subst e; exact hn.1 hE)]
      exact hd E (List.mem_cons_of_mem _ hE)
    · exact ((but_put W D _).mono (fun j _ e => by rw [e]; exact List.mem_cons_self ..)).trans (hW.mono (fun j _ e => List.mem_cons_of_mem _ e))
theorem sl_word_app {ws : List Nat} {k : Nat} (hk : k < ws.length) : sl (ws.take (k + 1)) = sl (ws.take k) ++ (M.bz ws[k]).map fun y => (k : Int) * 64 + y := by
  rw [List.take_succ_eq_append_getElem hk, sl_snoc, List.length_take, Nat.min_eq_left (Nat.le_of_lt hk)]
  congr 1
  apply List.map_congr_left
  intro y _
  omega
/-- What has come when pre of word k's bits have. -/
def upTo (ws : List Nat) (k : Nat) (pre : List Int) : List Int := sl (ws.take k) ++ pre.map fun y => (k : Int) * 64 + y
theorem upTo_snoc (ws : List Nat) (k : Nat) (pre : List Int) (y : Int) : upTo ws k pre ++ [(k : Int) * 64 + y] = upTo ws k (pre ++ [y]) := by simp [upTo]
theorem upTo_nil (ws : List Nat) (k : Nat) : upTo ws k [] = sl (ws.take k) := by simp [upTo]
theorem upTo_prefix {ws : List Nat} {k x : Nat} {pre : List Int} (happ : sl (ws.take (k + 1)) = upTo ws k (M.bz x)) (h : pre <+: M.bz x) : upTo ws k pre <+: sl ws := by
  obtain ⟨r, hr⟩ := h
  refine List.IsPrefix.trans ⟨r.map fun y => (k : Int) * 64 + y, ?_⟩ (sl_prefix ws (k + 1))
  rw [happ, ← hr]; simp [upTo]
/-- A round's word holds at any depth, and within another loop's round, where no depth is asked. -/
theorem roundIn_any {m m' l0 : Nat} {P : Program} {l : Nat} {f : FuncId} {tmps : Array Value} {assign body : Code} {w : World} {R : Ending → World → Prop}
    (h : RoundIn Fence.wide m P l f tmps assign body w R) : RoundIn (Fence.wide.inRound l0) m' P l f tmps assign body w R :=
  ⟨h.1, fun c cs _ => h.2 c cs (fun d hd => by cases hd)⟩
/-- What lay before a loop began, and is none of the body's, lies as it lay. -/
def Stays (S : Nat → Prop) (w0 : World) (O : Nat → Prop) (W : World) : Prop := ∀ j, S j → ¬ O j ∧ W.heap[j]? = w0.heap[j]?
theorem Stays.abides {β : Type} {S : Nat → Prop} {w0 : World} (hS : ∀ j, S j → j < w0.heap.size) : Abides w0.heap.size (fun (_ : β) O W => Stays S w0 O W) := by
  intro s O W W' R h hw hR j hj
  have hlt : j < W.heap.size := by
    have h1 := (h j hj).2
    rw [Array.getElem?_eq_getElem (hS j hj)] at h1
    exact (Array.getElem?_eq_some_iff.1 h1).1
  exact ⟨(h j hj).1, (hw.block j hlt (fun hr => by have := (hR j hr).2; have := hS j hj; omega)).trans (h j hj).2⟩
theorem Abides.and {β : Type} {B : Nat} {I K : β → (Nat → Prop) → World → Prop} (h : Abides B I) (k : Abides B K) : Abides B (fun s O W => I s O W ∧ K s O W) :=
  fun s O W W' R hi hw hR => ⟨h s O W W' R hi.1 hw hR, k s O W W' R hi.2 hw hR⟩
theorem Abides.pure {β : Type} {B : Nat} {I : β → (Nat → Prop) → World → Prop} (p : β → Prop) (h : Abides B I) : Abides B (fun s O W => p s ∧ I s O W) :=
  fun s O W W' R hi hw hR => ⟨hi.1, h s O W W' R hi.2 hw hR⟩
theorem Stays.own {S : Nat → Prop} {w0 W W' : World} {O O' : Nat → Prop} (h : Stays S w0 O W) (hS : ∀ j, S j → j < w0.heap.size) (ho : OwnStep O O' W W') : Stays S w0 O' W' := fun j hj => by
  have hlt : j < W.heap.size := by
    have h1 := (h j hj).2
    rw [Array.getElem?_eq_getElem (hS j hj)] at h1
    exact (Array.getElem?_eq_some_iff.1 h1).1
  refine ⟨fun h1 => ?_, (ho.1.block j hlt (h j hj).1).trans (h j hj).2⟩
  rcases (ho.2 j h1).1 with h2 | h2
  · exact (h j hj).1 h2
  · omega
set_option maxRecDepth 100000 in
set_option maxHeartbeats 4000000 in
theorem strip_seq (n Bn n₀ s h : Nat) (ws : List Nat) (hl : ws.length ≤ 4096) (hn0 : 0 < n₀) (w : World) (hst : St w s h ws) (hT : Tab w) (hs : s < n₀) (hh : h < n₀) (hnw : n₀ ≤ w.heap.size) (hBn : Bn < w.heap.size)
    (hc : w.cell? ⟨Bn, 0, none⟩ = some (.pointer (some ⟨s, 0, none⟩))) (hn : 3 ≤ n) :
    SeqY Fence.wide n Tryz.prog 83 #[.pointer (some ⟨Bn, 0, none⟩)] (fun y : Int => #[Value.int .i64 y]) n₀ (fun ys => ys = sl ws) (fun pre => pre <+: sl ws) (fun pre => pre <+: sl ws) w := by
  intro l J Jx W hW hJ hJx hY h0
  have hn1 : 1 ≤ n := by omega
  have hBc := Lib.hid ((hW.cell (p := ⟨Bn, 0, none⟩) hBn).trans hc)
  have hlt := hst.lt
  have hS := Lib.hid (hst.below hW hlt.1 hlt.2)
  have hTW := Lib.hid (hT.below hW hT.pos)
  obtain ⟨Wa, hWa⟩ : ∃ Wa, W.alloc (.cells #[.func (.yield l) #[] #[]] 91) = Wa := ⟨_, rfl⟩
  have hza : Wa.heap.size = W.heap.size + 1 := by rw [← hWa]; simp
  have hbW : Below W.heap.size W Wa := by rw [← hWa]; exact (Below.refl _ _).alloc (Nat.le_refl _) _
  have hnW : n₀ ≤ W.heap.size := Nat.le_trans hnw hW.size
  have hltB : Bn < W.heap.size := Nat.lt_of_lt_of_le hBn hW.size
  have hyc : Hid (Wa.heap[W.heap.size]? = some (.cells #[.func (.yield l) #[] #[]] 91 (0, 0))) := by rw [← hWa]; exact alloc_top _ _ rfl
  have hf1 : ∀ o, (W.alloc o).cell? ⟨Bn, 0, none⟩ = some (.pointer (some ⟨s, 0, none⟩)) := fun o => (World.cell?_alloc_lt W o ⟨Bn, 0, none⟩ hltB).trans hBc.out
  have hf2 : ∀ o, (W.alloc o).cell? ⟨s, 0, none⟩ = some (.slice (some ⟨h, 0, none⟩) ws.length ws.length) := fun o => (World.cell?_alloc_lt W o ⟨s, 0, none⟩ hS.out.lt.1).trans hS.out.head
  have hSa := Lib.hid (hS.out.below hbW hS.out.lt.1 hS.out.lt.2)
  have hTa := Lib.hid (hTW.out.below hbW hTW.out.pos)
  have hBWa := Lib.hid hbW
  have hJa : Hid (J [] (fun j => n₀ ≤ j ∧ j < Wa.heap.size ∧ ¬ (n₀ ≤ j ∧ j < W.heap.size)) Wa) := hJ _ _ _ _ _ h0 (by rw [← hWa]; exact but_alloc' _ _ _) (fun j hj => ⟨.inr (by omega), hj.2.1⟩)
  have hWaH := Lib.hid hWa
  clear hbW hWa hBc hS hTW hst hT hc h0
  refine callsIn_of_wp_marks Tryz.func83 rfl trivial ?_ rfl
  simp only [Tryz.ntmps83, List.size_toArray, List.length_cons, List.length_nil, Nat.reduceAdd, Nat.reduceSub, Array.replicate_succ, Array.replicate_zero, List.push_toArray, List.append_toArray, List.nil_append, List.cons_append]
  gi_wp2
  rw [hWaH.out]
  clear hf1 hf2
  obtain ⟨By, hBy⟩ : ∃ By, W.heap.size = By := ⟨_, rfl⟩
  rw [hBy] at hza hJa hyc hBWa hnW hltB ⊢
  have hIJ0 : IJ n₀ Wa J id (sl (ws.take 0)) (fun j => n₀ ≤ j ∧ j < By) Wa := ⟨fun j hj => ⟨hj.1, by omega⟩, Below.refl _ _, by
    have e : sl (ws.take 0) = [] := by simp [sl]
    rw [e]; exact hJa.out⟩
  have hIJ := Lib.hid hIJ0
  have hfin : Hid (∀ (Ds : List Nat) (xs : List Int) (Jz : List Int → (Nat → Prop) → World → Prop) (O : Nat → Prop) (W1 : World), Steps Jz → Ds.Nodup → (∀ D ∈ Ds, ¬ O D ∧ n₀ ≤ D ∧ W1.heap[D]? = some (.deferred (some []))) → Jz xs (fun j => n₀ ≤ j ∧ j < W1.heap.size ∧ ¬ O j) W1 →
      ∀ W', ButS W1 W' (· ∈ Ds) → Jz xs (fun j => n₀ ≤ j ∧ j < W1.heap.size ∧ ¬ O j) W') := fun Ds xs Jz O W1 hs _ hd hj W' hb => hs _ _ _ _ _ hj (hb.mono fun j hlt hj => ⟨(hd j hj).2.1, hlt, (hd j hj).1⟩) (fun j hj => ⟨.inl hj, Nat.lt_of_lt_of_le hj.2.1 hb.size⟩)
  clear hJa hIJ0 hBy hWaH
  refine wpIn_loop (fun a' Wr => ∃ (k : Nat) (i : Int) (u3 u4 u5 u14 u15 u16 u17 u18 u19 u20 u21 u22 u23 u24 u25 u26 u27 u28 : Value) (Ds : List Nat) (O : Nat → Prop), k ≤ ws.length ∧ i = (k : Int) ∧
      a' = { tmps := #[.func (.yield l) #[] #[], .pointer (some ⟨Bn, 0, none⟩), .pointer (some ⟨By, 0, none⟩), u3, u4, u5, .pointer (some ⟨s, 0, none⟩), .bool false, .pointer (some ⟨s, 0, none⟩), .pointer (some ⟨s, 0, none⟩), .pointer (some ⟨s, 0, none⟩),
        .slice (some ⟨h, 0, none⟩) ws.length ws.length, .int .i64 (ws.length : Int), .int .i64 i, u14, u15, u16, u17, u18, u19, u20, u21, u22, u23, u24, u25, u26, u27, u28], defers := Ds.map mark } ∧
      Hid (IJ n₀ Wa J id (sl (ws.take k)) O Wr) ∧ Hid (¬ O By ∧ Wr.heap[By]? = some (.cells #[.func (.yield l) #[] #[]] 91 (0, 0))) ∧ Hid (Ds.Nodup ∧ ∀ D ∈ Ds, ¬ O D ∧ n₀ ≤ D ∧ Wr.heap[D]? = some (.deferred (some []))))
    (fun a' _ => ws.length - (intOf (a'.tmps.getD 13 undef)).toNat) ?_ ?_
  · exact ⟨0, 0, undef, undef, undef, undef, undef, undef, undef, undef, undef, undef, undef, undef, undef, undef, undef, undef, undef, undef, [], _, by omega, rfl, rfl, hIJ, ⟨by omega, hyc.out⟩, ⟨List.nodup_nil, fun D hD => by cases hD⟩⟩
  · rintro a' Wr ⟨k, _, u3, u4, u5, u14, u15, u16, u17, u18, u19, u20, u21, u22, u23, u24, u25, u26, u27, u28, Ds, O, hk, rfl, rfl, hI, hYc, hD⟩
    clear hIJ hyc
    have hSr := Lib.hid (hSa.out.below hI.out.2.1 hs hh)
    have hTr := Lib.hid (hTa.out.below hI.out.2.1 hn0)
    have hzr : By < Wr.heap.size := (Array.getElem?_eq_some_iff.1 hYc.out.2).1
    have hnr : n₀ ≤ Wr.heap.size := by omega
    by_cases hlt : k < ws.length
    · have hT2 : decide (k < ws.length) = true := decide_eq_true hlt
      have hT3 : decide ((k : Int) < (ws.length : Int)) = true := decide_eq_true (by omega)
      have hcw := hSr.out.cell k hlt
      have hx := hSr.out.word k hlt
      have happ : Hid (sl (ws.take (k + 1)) = upTo ws k (M.bz ws[k])) := sl_word_app hlt
      generalize ws[k] = x at *
      gi_wp2_with (refine ⟨trivial, ?_⟩; gi_at_call 84; refine (callsIn_wide.2 (rising_any x _)).mono ?_; rintro e w' ⟨rfl, rfl⟩)
      obtain ⟨At, hAt⟩ : ∃ At, Wr.heap.size = At := ⟨_, rfl⟩
      obtain ⟨Wq, hWq⟩ : ∃ Wq, (Wr.alloc (.cells #[.int .i64 (k : Int)] 3)).alloc (.cells #[.int .u64 (x : Int)] 117) = Wq := ⟨_, rfl⟩
      have hzq : Wq.heap.size = At + 2 := by rw [← hWq, ← hAt]; simp
      have hbut : ButS Wr Wq (fun _ => False) := by rw [← hWq]; exact (but_alloc' _ _ _).trans (but_alloc' _ _ _)
      have hq1 : Wq.heap[At]? = some (.cells #[.int .i64 (k : Int)] 3 (0, 0)) := by rw [← hWq, Below.heap_alloc _ _ _ (by simp; omega)]; exact alloc_top _ _ hAt.symm
      have hq2 : Wq.cell? ⟨At + 1, 0, none⟩ = some (.int .u64 (x : Int)) := by
        have h1 : Wq.heap[At + 1]? = some (.cells #[.int .u64 (x : Int)] 117 (0, 0)) := by rw [← hWq]; exact alloc_top _ _ (by simp; omega)
        exact cell_of_row Wq (At + 1) 0 _ _ (0, 0) h1
      have hq3 : Wq.heap[By]? = some (.cells #[.func (.yield l) #[] #[]] 91 (0, 0)) := (hbut.block By (by omega) (fun h => h)).trans hYc.out.2
      have hqD : ∀ D ∈ Ds, D < Wr.heap.size ∧ Wq.heap[D]? = some (.deferred (some [])) := fun D hDs => by
        have h1 := (hD.out.2 D hDs).2.2
        have h2 := (Array.getElem?_eq_some_iff.1 h1).1
        exact ⟨h2, (hbut.block D h2 (fun h => h)).trans h1⟩
      have hJq : IJ n₀ Wq J (upTo ws k) [] O Wq := by
        refine ⟨fun j hj => ⟨(hI.out.1 j hj).1, by have := (hI.out.1 j hj).2; omega⟩, Below.refl _ _, ?_⟩
        rw [upTo_nil]
        exact hJ _ _ _ _ _ hI.out.2.2 (hbut.mono fun _ _ h => h.elim) (fun j hj => ⟨by
          by_cases h1 : j < Wr.heap.size
          · exact .inl ⟨hj.1, h1, hj.2.2⟩
          · right; omega, hj.2.1⟩)
      have hBq : Below n₀ Wa Wq := hI.out.2.1.trans (hbut.below hnr (fun _ h => h.elim))
      have hO0 : ∀ j, O j → j < Wq.heap.size := fun j hj => by have := (hI.out.1 j hj).2; omega
      obtain ⟨S, hS⟩ : ∃ S : Nat → Prop, S = fun j => j = By ∨ j = At ∨ j ∈ Ds := ⟨_, rfl⟩
      have hSlt : ∀ j, S j → j < Wq.heap.size := fun j hj => by
        rw [hS] at hj
        rcases hj with e | e | e
        · omega
        · omega
        · have := (hqD j e).1; omega
      have hSt : Stays S Wq O Wq := fun j hj => by
        rw [hS] at hj
        refine ⟨?_, rfl⟩
        rcases hj with e | e | e
        · rw [e]; exact hYc.out.1
        · intro h1; have := (hI.out.1 j h1).2; omega
        · exact (hD.out.2 j e).1
      have hTq : Tab Wq := hTa.out.below hBq hn0
      rw [hAt, hWq]
      have hSB : S By := by rw [hS]; exact .inl rfl
      have hSA : S At := by rw [hS]; exact .inr (.inl rfl)
      have hSD : ∀ D ∈ Ds, S D := fun D h => by rw [hS]; exact .inr (.inr h)
      have hnq : n₀ ≤ Wq.heap.size := by omega
      have hatn : n₀ ≤ At := by omega
      have hk9 : (k : Int) ≤ 4095 := by omega
      clear hWq hS hcw
      refine wpIn_rangeY (Q := _) rfl (by omega) (gf := 103) (lb := #[.pointer (some ⟨At + 1, 0, none⟩)]) rfl trivial (enters_of Tryz.func103 (by kernel_rfl) rfl)
        (encs := fun y : Int => #[Value.int .i64 y]) (n₀ := n₀) (S := fun ys => ys = M.bz x) (Sp := fun pre => pre <+: M.bz x) (T := fun pre => pre <+: M.bz x) (w0 := Wq)
        (rising_seq (n - 1) (by omega) (At + 1) n₀ hn0 x hx Wq (by omega) hTq hq2) hnq (Below.refl _ _) (fun _ => rfl)
        (fun pre O W => IJ n₀ Wq J (upTo ws k) pre O W ∧ Stays S Wq O W) (fun c pre O W => c = .ret ∧ IJ n₀ Wq Jx (upTo ws k) pre O W ∧ Stays S Wq O W)
        (fun pp a1 O W => a1 = { tmps := #[.func (.yield l) #[] #[], .pointer (some ⟨Bn, 0, none⟩), .pointer (some ⟨By, 0, none⟩), .pointer (some ⟨At, 0, none⟩), .int .u64 (x : Int), .int .i64 pp.2, .pointer (some ⟨s, 0, none⟩), .bool false, .pointer (some ⟨s, 0, none⟩), .pointer (some ⟨s, 0, none⟩), .pointer (some ⟨s, 0, none⟩),
          .slice (some ⟨h, 0, none⟩) ws.length ws.length, .int .i64 (ws.length : Int), .int .i64 (k : Int), .bool true, .int .i64 (k : Int), .pointer (some ⟨h, k, none⟩), .int .u64 (x : Int), .int .u64 (x : Int), .func (.func 103) #[] #[.pointer (some ⟨At + 1, 0, none⟩)], .int .i64 pp.2, u21, u22, u23, u24, u25, u26, u27, u28], defers := [] } ∧
          (pp.1 ++ [pp.2] <+: M.bz x ∧ IJ n₀ Wq J (upTo ws k) pp.1 O W ∧ Stays S Wq O W))
        ((IJ.abides _ hJ hnq hnq).and (Stays.abides hSlt)) (fun c => Abides.pure (fun _ => c = .ret) ((IJ.abides _ hJx hnq hnq).and (Stays.abides hSlt)))
        (fun a' pp O W W' R hi hw hR => ⟨hi.1, hi.2.1, ((IJ.abides (upTo ws k) hJ hnq hnq).and (Stays.abides hSlt)) pp.1 O W W' R hi.2.2 hw hR⟩)
        (fun pre O W hi j hj => (hi.1.1 j hj).1) O hO0 ⟨hJq, hSt⟩ ?assign ?body ?done ?stop
      case assign =>
        intro l2 pre y O1 W1 hi hT1
        gi_wp2
        exact ⟨O1, ⟨ButS.refl _ _, fun j hj => ⟨.inl hj, (hi.1.1 j hj).2⟩⟩, by first | trivial | rfl, hT1, hi⟩
      case body =>
        rintro l2 pre y O1 a1 W1 ⟨rfl, hT1, hi, hst1⟩
        have hT1 : pre ++ [y] <+: M.bz x := hT1
        have hyb := M.mem_bz.1 (prefix_snoc hT1)
        have hy0 : 0 ≤ y := hyb.1
        have hy1 : y < 64 := hyb.2.1
        have hg1 : W1.cell? ⟨By, 0, none⟩ = some (.func (.yield l) #[] #[]) := cell_of_row W1 By 0 _ _ (0, 0) ((hst1 By hSB).2.trans hq3)
        have hg2 : W1.cell? ⟨At, 0, none⟩ = some (.int .i64 (k : Int)) := cell_of_row W1 At 0 _ _ (0, 0) ((hst1 At hSA).2.trans hq1)
        have hpr : upTo ws k pre ++ [(k : Int) * 64 + y] <+: sl ws := by rw [upTo_snoc]; exact upTo_prefix happ.out hT1
        obtain ⟨fn, tm, asg, bd, hy, hR⟩ := hY (upTo ws k pre) ((k : Int) * 64 + y) _ W1 hi.2.2 hpr
        have HI := Lib.hid hi
        have HST := Lib.hid hst1
        clear hi hst1 hpr hT1 hyb
        gi_wp2
        refine ⟨fun h => (by cases h), (roundIn_any hR).mono ?_⟩
        rintro e W2 (⟨rfl, hj2, hb2, hs2⟩ | ⟨rfl, hj2, hb2, hs2⟩)
        · obtain ⟨O2, ho2, hlo2, hj3⟩ := yield_own hJ hj2 hb2 hs2
          rw [upTo_snoc] at hj3
          have HF : Hid (IJ n₀ Wq J (upTo ws k) (pre ++ [y]) O2 W2 ∧ Stays S Wq O2 W2) := ⟨⟨hlo2, HI.out.2.1.trans hb2, hj3⟩, HST.out.own hSlt ho2⟩
          have HO := Lib.hid ho2
          clear hj2 hb2 hs2 ho2 hlo2 hj3
          gi_wp2
          exact ⟨O2, HO.out, HF.out⟩
        · obtain ⟨O2, ho2, hlo2, hj3⟩ := yield_own hJx hj2 hb2 hs2
          rw [upTo_snoc] at hj3
          have HF : Hid (IJ n₀ Wq Jx (upTo ws k) (pre ++ [y]) O2 W2 ∧ Stays S Wq O2 W2) := ⟨⟨hlo2, HI.out.2.1.trans hb2, hj3⟩, HST.out.own hSlt ho2⟩
          have HO := Lib.hid ho2
          clear hj2 hb2 hs2 ho2 hlo2 hj3
          gi_wp2
          exact ⟨O2, HO.out, rfl, HF.out⟩
      case done =>
        rintro D xs O1 W1 hDw hOD rfl ⟨hi, hst1⟩ hK
        have hnd : (D :: Ds).Nodup := List.nodup_cons.2 ⟨fun h => by have := (hqD D h).1; omega, hD.out.1⟩
        have hall : ∀ E ∈ D :: Ds, ¬ O1 E ∧ n₀ ≤ E ∧ W1.heap[E]? = some (.deferred (some [])) := fun E hE => by
          rcases List.mem_cons.1 hE with e | e
          · subst e; exact ⟨hOD, by omega, hK⟩
          · exact ⟨(hst1 E (hSD E e)).1, (hD.out.2 E e).2.1, (hst1 E (hSD E e)).2.trans (hqD E e).2⟩
        have HI : Hid (IJ n₀ Wa J id (sl (ws.take (k + 1))) O1 W1) := ⟨hi.1, hBq.trans hi.2.1, by have h3 := hi.2.2; rw [← happ.out] at h3; exact h3⟩
        have HY2 : Hid (¬ O1 By ∧ W1.heap[By]? = some (.cells #[.func (.yield l) #[] #[]] 91 (0, 0))) := ⟨(hst1 By hSB).1, (hst1 By hSB).2.trans hq3⟩
        have HD2 : Hid ((D :: Ds).Nodup ∧ ∀ E ∈ D :: Ds, ¬ O1 E ∧ n₀ ≤ E ∧ W1.heap[E]? = some (.deferred (some []))) := ⟨hnd, hall⟩
        clear hi hst1 hK hnd hall
        gi_wp2
        exact ⟨⟨k + 1, (k : Int) + 1, _, _, _, _, _, _, _, _, _, _, _, _, _, _, _, _, _, _, D :: Ds, O1, by omega, by omega, rfl, HI, HY2, HD2⟩, by simp [intOf]; omega⟩
      case stop =>
        rintro D c pre O1 W1 hDw hOD hpre ⟨rfl, hi, hst1⟩ hK
        have hnd : (D :: Ds).Nodup := List.nodup_cons.2 ⟨fun h => by have := (hqD D h).1; omega, hD.out.1⟩
        have hall : ∀ E ∈ D :: Ds, ¬ O1 E ∧ n₀ ≤ E ∧ W1.heap[E]? = some (.deferred (some [])) := fun E hE => by
          rcases List.mem_cons.1 hE with e | e
          · subst e; exact ⟨hOD, by omega, hK⟩
          · exact ⟨(hst1 E (hSD E e)).1, (hD.out.2 E e).2.1, (hst1 E (hSD E e)).2.trans (hqD E e).2⟩
        have HP := Lib.hid (upTo_prefix happ.out hpre)
        have HL := Lib.hid (fun W2 hb => hfin.out (D :: Ds) _ Jx O1 W1 hJx hnd hall hi.2.2 W2 hb)
        have HN := Lib.hid hnd
        have HA := Lib.hid hall
        clear hi hst1 hK hnd hall
        gi_wp2
        exact leaves_marks (D :: Ds) W1 HN.out (fun E hE => (HA.out E hE).2.2) (fun W2 hb => ⟨_, results_none rfl _ _ _, ⟨_, rfl⟩, .inr ⟨_, _, HP.out, HL.out W2 hb⟩⟩)
    · obtain rfl : k = ws.length := by omega
      have hT2 : decide (ws.length < ws.length) = false := decide_eq_false hlt
      have hT3 : decide ((ws.length : Int) < (ws.length : Int)) = false := decide_eq_false (by omega)
      have hj := hI.out.2.2
      have et : sl (ws.take ws.length) = sl ws := by rw [List.take_length]
      rw [show id (sl (ws.take ws.length)) = sl ws from et] at hj
      have HL := Lib.hid (fun W2 hb => hfin.out Ds _ J O Wr hJ hD.out.1 hD.out.2 hj W2 hb)
      clear hj et
      gi_wp2
      exact leaves_marks Ds Wr hD.out.1 (fun E hE => (hD.out.2 E hE).2.2) (fun W2 hb => ⟨_, results_none rfl _ _ _, ⟨_, rfl⟩, .inl ⟨_, _, rfl, HL.out W2 hb⟩⟩)
end Go.Proofs.YtkehehfphccpbaaGreatDoor
end
