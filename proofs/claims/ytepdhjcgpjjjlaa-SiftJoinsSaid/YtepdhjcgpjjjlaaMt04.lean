/- As RangeZ: and the iterator is promised, also where a round says no more, that all but what is no block of its own and none of Z is as it was: so iterators go over iterators. An iterator over an iterator that also writes blocks of its own: what the inner range keeps. A region that draws its order and only reads, within a round of a range over a function: walked as outside one. A region that draws its order, in a round of a range over a function: walked as outside one, with a state that holds behind each operation. Lists of 64-bit numbers in memory. What a call leaves of the world but for some blocks; the first part of a row. slices.Concat at lists of 64-bit numbers: a row of one's own that holds them all; the text walked. slices.Compact at 64-bit numbers: laid over the library's contract. -/
import Derived.Sort.QuietIn
import Derived.OwnWalkIn
import Derived.Shelf.RegionOpen
import Derived.Deep.RegionHeld
import Derived.TacticsIn
import Derived.Maps.AppendAt
import Derived.Deep.AppendLies
import Derived.RegionTactic
import Derived.Lib.Hide
import Derived.OwnWalk
import Derived.Laws.OwnMore
import Derived.Below
import Derived.Lib.AppendZeros
import Derived.Shelf.SlGeneric
import Derived.Shelf.SlicesE.Compact
import Derived.Test.YtepdhjcgpjjjlaaProg
import Derived.Test.YtepdhjcgpjjjlaaMt03
import Derived.Test.YtepdhjcgpjjjlaaMt02
section
namespace Go.Proofs.Ytepdhjcgpjjjlaa
open Go.RowKit Go.Shelf
/-- An iterator over any body that leaves the iterator's blocks, and the blocks Z, as they are. -/
def SeqW {α : Type} (F : Fence) (n : Nat) (P : Program) (g : Nat) (lb : Array Value) (encs : α → Array Value) (Z : Nat → Prop) (S Sp T : List α → Prop) (w : World) : Prop :=
  ∀ (l : Nat) (J Jx : List α → (Nat → Prop) → World → Prop) (W : World), Below w.heap.size w W → Steps J → Steps Jx →
    (∀ pre x R W1, J pre R W1 → T (pre ++ [x]) → YieldAt F (n - 1) P l (encs x) W1 fun e W' =>
      ((e = .returned (.bool true) ∧ J (pre ++ [x]) R W') ∨ (e = .returned (.bool false) ∧ Jx (pre ++ [x]) R W')) ∧ ButS W1 W' (fun j => ¬ (Z j ∨ R j))) →
    J [] (fun _ => False) W →
    CallsIn F n P g (#[.func (.yield l) #[] #[]] ++ lb) W fun e W' => (∃ v, e = .returned v) ∧ ((∃ xs R, S xs ∧ J xs R W') ∨ (∃ pre R, Sp pre ∧ Jx pre R W'))
variable {F : Fence} {n : Nat} {P : Program}
/-- The law. -/
theorem wpIn_rangeW {α : Type} {g : Operand} {ps : Array Tmp} {assign body : Code} {Q : Exit → Act → World → Prop} {a : Act} {w : World}
    (hro : F.round = none) (h1 : 1 ≤ n) {gf : Nat} {lb : Array Value} (hg : a.eval g = .func (.func gf) #[] lb) (hFg : F.fn gf) (eg : ∀ args w, (callFunc gf args).run P w = .ok (.enter gf args) w)
    {encs : α → Array Value} {Z : Nat → Prop} {S Sp T : List α → Prop} {w0 : World} (hseq : SeqW F (n - 1) P gf lb encs Z S Sp T w0) (hZ : ∀ j, Z j → j < w.heap.size) (hb0 : Below w0.heap.size w0 w) (hps : ∀ x, (encs x).size = ps.size)
    (I : List α → (Nat → Prop) → World → Prop) (Ix : Code → List α → (Nat → Prop) → World → Prop) (A : List α × α → Act → (Nat → Prop) → World → Prop)
    (hI : Abides w.heap.size I) (hIx : ∀ c, Abides w.heap.size (Ix c)) (hA : ∀ a', Abides w.heap.size (fun s => A s a')) (hlow : ∀ xs O W, I xs O W → ∀ j, O j → ¬ Z j)
    (O₀ : Nat → Prop) (hO₀ : ∀ j, O₀ j → j < w.heap.size) (h0 : I [] O₀ w)
    (hassign : ∀ (l : Nat) (pre : List α) (x : α) (O : Nat → Prop) (W : World), I pre O W → T (pre ++ [x]) →
      assign.wpIn (F.inRound l) (n - 1 - 1) P (Exit.then (fun a1 W1 => ∃ O1, OwnStep O O1 W W1 ∧ A (pre, x) a1 O1 W1) (fun _ _ _ => False)) { tmps := (ps.zip (encs x)).foldl (fun t (p, v) => t.setIfInBounds p v) a.tmps, defers := [] } W)
    (hbody : ∀ (l : Nat) (pre : List α) (x : α) (O : Nat → Prop) (a1 : Act) (W : World), A (pre, x) a1 O W → body.wpIn (F.inRound l) (n - 1 - 1) P (roundO I Ix (pre ++ [x]) O W) a1 W)
    (hdone : ∀ (D : Nat) (xs : List α) (O : Nat → Prop) (W : World), w.heap.size ≤ D → ¬ O D → S xs → I xs O W → W.heap[D]? = some (.deferred (some [])) → Q .normal { a with defers := { target := .collected D, args := #[] } :: a.defers } W)
    (hstop : ∀ (D : Nat) (c : Code) (pre : List α) (O : Nat → Prop) (W : World), w.heap.size ≤ D → ¬ O D → Sp pre → Ix c pre O W → W.heap[D]? = some (.deferred (some [])) → c.wpIn F n P Q { a with defers := { target := .collected D, args := #[] } :: a.defers } W) :
    (Code.rangeFunc g ps assign body).wpIn F n P Q a w := by
  refine wpIn_rangeFunc ?_
  intro fn hfn
  rw [hro]
  generalize hD : w.heap.size = D at *
  obtain ⟨rc, hrc⟩ : ∃ rc : LoopState → Option Code → Loop, rc = fun st pe => { state := st, pending := pe, fn, tmps := a.tmps, params := ps, assign, body, defers := D } := ⟨_, rfl⟩
  obtain ⟨V, hV⟩ : ∃ V, (w.alloc (.deferred (some []))).alloc (.loop (rc .ready none)) = V := ⟨_, rfl⟩
  have hbV : ButS w V (fun _ => False) := by rw [← hV]; exact (but_alloc' _ _ _).trans (but_alloc' _ _ _)
  have hsV : V.heap.size = D + 2 := by rw [← hV]; simp [hD]
  have hL : V.heap[D + 1]? = some (.loop (rc .ready none)) := by
    rw [← hV, ← hD]
    have := World.alloc_heap_new (w.alloc (.deferred (some []))) (.loop (rc .ready none))
    rwa [World.size_alloc] at this
  have hK : V.heap[D]? = some (.deferred (some [])) := by
    rw [← hV, ← hD]
    exact (Below.heap_alloc _ _ _ (by simp)).trans (World.alloc_heap_new w _)
  have hbl : Below w0.heap.size w0 V := hb0.trans (hbV.below (by have := hb0.size; omega) (fun _ h => h.elim))
  have hIV : I [] O₀ V := hI _ _ _ _ _ h0 hbV (fun _ h => h.elim)
  refine ⟨D + 1, [{ target := .collected D, args := #[] }], V, { target := .fn (.func gf) lb, args := #[.func (.yield (D + 1)) #[] #[]] }, V, gf, #[.func (.yield (D + 1)) #[] #[]] ++ lb, V, ?_, ?_, ?_, ?_, fun _ => h1, ?_⟩
  · have := run_enterLoop_outer (P := P) (w := w) fn a.tmps ps assign body
    rw [hD] at this
    rw [this, ← hV, hrc]
  · simp only [resolve, hg]
    simp [go_sem]
  · intro f' hf'
    simp [Target.leads] at hf'
    subst hf'; exact hFg
  · simp [invoke, go_sem, eg]
  · obtain ⟨Bk, hBk⟩ : ∃ Bk : LoopState → Option Code → (Nat → Prop) → (Nat → Prop) → World → Prop, Bk = fun st pe O R W => (∀ j, O j → ¬ R j ∧ j ≠ D ∧ j ≠ D + 1 ∧ j < W.heap.size) ∧ (∀ j, R j → D + 2 ≤ j ∧ j < W.heap.size) ∧ W.heap[D + 1]? = some (.loop (rc st pe)) ∧ W.heap[D]? = some (.deferred (some [])) := ⟨_, rfl⟩
    have hstep : ∀ {st : LoopState} {pe : Option Code} {O R R' : Nat → Prop} {W W' : World}, Bk st pe O R W → ButS W W' R → (∀ j, R' j → (R j ∨ W.heap.size ≤ j) ∧ j < W'.heap.size) → Bk st pe O R' W' := by
      intro st pe O R R' W W' hb hw hR'
      rw [hBk] at hb ⊢
      obtain ⟨b1, b2, b3, b4⟩ := hb
      have hlt := (Array.getElem?_eq_some_iff.1 b3).1
      refine ⟨fun j hj => ⟨fun hr => ?_, (b1 j hj).2.1, (b1 j hj).2.2.1, by have := (b1 j hj).2.2.2; have := hw.size; omega⟩, fun j hj => ⟨?_, (hR' j hj).2⟩, (hw.block _ hlt (fun h => by have := (b2 _ h).1; omega)).trans b3, (hw.block _ (by omega) (fun h => by have := (b2 _ h).1; omega)).trans b4⟩
      · rcases (hR' j hr).1 with h | h
        · exact (b1 j hj).1 h
        · have := (b1 j hj).2.2.2; omega
      · rcases (hR' j hj).1 with h | h
        · exact (b2 j h).1
        · omega
    have hown : ∀ {st : LoopState} {pe : Option Code} {O O' R : Nat → Prop} {W W' : World}, Bk st pe O R W → OwnStep O O' W W' → Bk st pe O' R W' ∧ ∀ j, R j → W'.heap[j]? = W.heap[j]? := by
      intro st pe O O' R W W' hb hw
      rw [hBk] at hb ⊢
      obtain ⟨b1, b2, b3, b4⟩ := hb
      have hlt := (Array.getElem?_eq_some_iff.1 b3).1
      refine ⟨⟨fun j hj => ?_, fun j hj => ⟨(b2 j hj).1, by have := (b2 j hj).2; have := hw.1.size; omega⟩, (hw.1.block _ hlt (fun h => (b1 _ h).2.2.1 rfl)).trans b3, (hw.1.block _ (by omega) (fun h => (b1 _ h).2.1 rfl)).trans b4⟩, fun j hj => hw.1.block j (b2 j hj).2 (fun h => (b1 j h).1 hj)⟩
      obtain ⟨h1, h2⟩ := hw.2 j hj
      rcases h1 with h1 | h1
      · exact ⟨(b1 j h1).1, (b1 j h1).2.1, (b1 j h1).2.2.1, h2⟩
      · exact ⟨fun hr => by have := (b2 j hr).2; omega, by omega, by omega, h2⟩
    have hput : ∀ {st st' : LoopState} {pe pe' : Option Code} {O R : Nat → Prop} {W : World}, Bk st pe O R W → Bk st' pe' O R (W.putObj (D + 1) (.loop (rc st' pe'))) := by
      intro st st' pe pe' O R W hb
      rw [hBk] at hb ⊢
      obtain ⟨b1, b2, b3, b4⟩ := hb
      have hlt := (Array.getElem?_eq_some_iff.1 b3).1
      exact ⟨fun j hj => by rw [World.putObj_size]; exact b1 j hj, fun j hj => by rw [World.putObj_size]; exact b2 j hj, World.putObj_heap_same hlt, (World.putObj_heap_other (by omega)).trans b4⟩
    have hrec : ∀ {st : LoopState} {pe : Option Code} {O R : Nat → Prop} {W : World}, Bk st pe O R W → W.heap[D + 1]? = some (.loop (rc st pe)) := by
      intro st pe O R W hb
      rw [hBk] at hb
      exact hb.2.2.1
    have hdef : ∀ {st : LoopState} {pe : Option Code} {O R : Nat → Prop} {W : World}, Bk st pe O R W → W.heap[D]? = some (.deferred (some [])) := by
      intro st pe O R W hb
      rw [hBk] at hb
      exact hb.2.2.2
    have hno : ∀ {st : LoopState} {pe : Option Code} {O R : Nat → Prop} {W : World}, Bk st pe O R W → ¬ O (D + 1) ∧ ¬ O D := by
      intro st pe O R W hb
      rw [hBk] at hb
      exact ⟨fun h => (hb.1 _ h).2.2.1 rfl, fun h => (hb.1 _ h).2.1 rfl⟩
    have hRB : ∀ {st : LoopState} {pe : Option Code} {O R : Nat → Prop} {W : World}, Bk st pe O R W → ∀ j, R j → ¬ O j ∧ D ≤ j := by
      intro st pe O R W hb j hj
      rw [hBk] at hb
      exact ⟨fun h => (hb.1 j h).1 hj, by have := (hb.2.1 j hj).1; omega⟩
    have hJs : ∀ (st : LoopState) (T : List α → Option Code → (Nat → Prop) → World → Prop), (∀ pe, Abides D (fun s => T s pe)) → Steps (fun pre R W => ∃ pe O, T pre pe O W ∧ Bk st pe O R W) := by
      intro st T hT s R R' W W' hj hw hR'
      obtain ⟨pe, O, h1, h2⟩ := hj
      exact ⟨pe, O, hT pe _ _ _ _ _ h1 hw (hRB h2), hstep h2 hw hR'⟩
    refine (hseq (D + 1) (fun pre R W => ∃ pe O, (fun pre (pe : Option Code) O W => pe = none ∧ I pre O W) pre pe O W ∧ Bk .ready pe O R W) (fun pre R W => ∃ pe O, (fun pre (pe : Option Code) O W => ∃ c, pe = some c ∧ Ix c pre O W) pre pe O W ∧ Bk .done pe O R W) V hbl
      (hJs .ready (fun pre pe O W => pe = none ∧ I pre O W) (fun pe s O W W' R h hw hr => ⟨h.1, hI _ _ _ _ _ h.2 hw hr⟩)) (hJs .done (fun pre pe O W => ∃ c, pe = some c ∧ Ix c pre O W) (fun pe s O W W' R h hw hr => by obtain ⟨c, h1, h2⟩ := h; exact ⟨c, h1, hIx c _ _ _ _ _ h2 hw hr⟩)) ?_
      ⟨none, O₀, ⟨rfl, hIV⟩, by rw [hBk]; exact ⟨fun j hj => ⟨fun h => h, by have := hO₀ j hj; omega, by have := hO₀ j hj; omega, by have := hO₀ j hj; omega⟩, fun _ h => h.elim, hL, hK⟩⟩).mono ?_
    · rintro pre x R W ⟨pe, O, ⟨rfl, hi⟩, hb⟩ hlen
      have hy := run_yield (P := P) (args := encs x) (hrec hb) (by rw [hrc]; exact hps x)
      rw [hrc] at hy
      have hsW : D ≤ W.heap.size := by have := (Array.getElem?_eq_some_iff.1 (hrec hb)).1; omega
      refine ⟨fn, _, assign, body, hy, roundIn_of_wpIn hfn (wpIn_mono (hassign (D + 1) pre x O W hi hlen) ?_)⟩
      rintro e a1 W1 hp
      cases e with
      | normal =>
        obtain ⟨O1, hst, ha⟩ := hp
        obtain ⟨hb1, hk1⟩ := hown hb hst
        have hb2 := hput (st' := .busy) (pe' := none) hb1
        refine ⟨W1.putObj (D + 1) (.loop (rc .busy none)), by have h := run_beginRound (P := P) (hrec hb1) (by rw [hrc]); rw [hrc] at h ⊢; exact h, ?_⟩
        have ha2 : A (pre, x) a1 O1 (W1.putObj (D + 1) (.loop (rc .busy none))) := hA a1 _ _ _ _ _ ha (but_put _ _ _) (fun j hj => by subst hj; exact ⟨(hno hb1).1, by omega⟩)
        have hsz1 : W.heap.size ≤ W1.heap.size := hst.1.size
        have hbd := hbody (D + 1) pre x O1 a1 _ ha2
        refine wpIn_mono hbd ?_
        have fin : ∀ (jump : Option Code) (O2 : Nat → Prop) (W3 : World), OwnStep O1 O2 (W1.putObj (D + 1) (.loop (rc .busy none))) W3 →
            (Instr.endRound (D + 1) jump).run P W3 = .ok (.bool jump.isNone) (W3.putObj (D + 1) (.loop (rc (if jump.isNone then .ready else .done) jump))) ∧
            Bk (if jump.isNone then .ready else .done) jump O2 R (W3.putObj (D + 1) (.loop (rc (if jump.isNone then .ready else .done) jump))) ∧ ButS W3 (W3.putObj (D + 1) (.loop (rc (if jump.isNone then .ready else .done) jump))) (· = D + 1) ∧ ¬ O2 (D + 1) ∧
            ButS W (W3.putObj (D + 1) (.loop (rc (if jump.isNone then .ready else .done) jump))) (fun j => ¬ (Z j ∨ R j)) := by
          intro jump O2 W3 hs3
          obtain ⟨hb3, hk3⟩ := hown hb2 hs3
          have he := run_endRound (P := P) jump (hrec hb3)
          have hRne : ∀ j, R j → j ≠ D + 1 := fun j hj e => by
            have := hb; rw [hBk] at this
            have := (this.2.1 j hj).1; omega
          refine ⟨?_, hput hb3, but_put _ _ _, (hno hb3).1, ?_⟩
          · rw [hrc] at he ⊢; exact he
          · have c0 : ButS W W1 (fun j => O j ∨ j = D + 1) := hst.1.mono (fun j _ h => .inl h)
            have c1 := c0.then (but_put W1 (D + 1) (.loop (rc .busy none))) (fun j h => .inl (.inr h))
            have c2 := c1.then hs3.1 (fun j h => by
              rcases (hst.2 j h).1 with h2 | h2
              · exact .inl (.inl h2)
              · exact .inr h2)
            have c3 := c2.then (but_put W3 (D + 1) (.loop (rc (if jump.isNone then .ready else .done) jump))) (fun j h => .inl (.inr h))
            have hbB := hb
            rw [hBk] at hbB
            refine c3.mono (fun j _ h hz => ?_)
            rcases h with h | h
            · rcases hz with hz | hz
              · exact hlow _ _ _ hi j h hz
              · exact (hbB.1 j h).1 hz
            · rcases hz with hz | hz
              · have := hZ j hz; omega
              · have := (hbB.2.1 j hz).1; omega
        rintro e a3 W3 hp
        cases e with
        | normal =>
          obtain ⟨O2, hs3, hi3⟩ := hp
          obtain ⟨f1, f2, f3, f4, f5⟩ := fin none O2 W3 hs3
          exact ⟨_, _, f1, .inl ⟨rfl, ⟨none, O2, ⟨rfl, hI _ _ _ _ _ hi3 f3 (fun j hj => by subst hj; exact ⟨f4, by omega⟩)⟩, f2⟩⟩, f5⟩
        | ret =>
          obtain ⟨O2, hs3, hi3⟩ := hp
          obtain ⟨f1, f2, f3, f4, f5⟩ := fin (some .ret) O2 W3 hs3
          exact ⟨_, _, f1, .inr ⟨rfl, ⟨some .ret, O2, ⟨.ret, rfl, hIx _ _ _ _ _ _ hi3 f3 (fun j hj => by subst hj; exact ⟨f4, by omega⟩)⟩, f2⟩⟩, f5⟩
        | exit id =>
          obtain ⟨O2, hs3, hi3⟩ := hp
          obtain ⟨f1, f2, f3, f4, f5⟩ := fin (some (.exit id)) O2 W3 hs3
          exact ⟨_, _, f1, .inr ⟨rfl, ⟨some (.exit id), O2, ⟨.exit id, rfl, hIx _ _ _ _ _ _ hi3 f3 (fun j hj => by subst hj; exact ⟨f4, by omega⟩)⟩, f2⟩⟩, f5⟩
        | goto t =>
          obtain ⟨O2, hs3, hi3⟩ := hp
          obtain ⟨f1, f2, f3, f4, f5⟩ := fin (some (.goto t)) O2 W3 hs3
          exact ⟨_, _, f1, .inr ⟨rfl, ⟨some (.goto t), O2, ⟨.goto t, rfl, hIx _ _ _ _ _ _ hi3 f3 (fun j hj => by subst hj; exact ⟨f4, by omega⟩)⟩, f2⟩⟩, f5⟩
        | panic ch => exact hp.elim
        | outgrown => exact hp.elim
      | ret => exact hp.elim
      | exit id => exact hp.elim
      | goto t => exact hp.elim
      | panic ch => exact hp.elim
      | outgrown => exact hp.elim
    · rintro e W2 ⟨⟨v, rfl⟩, (⟨xs, R, hS, pe, O, ⟨rfl, hi⟩, hb⟩ | ⟨pre, R, hSp, pe, O, ⟨c, rfl, hi⟩, hb⟩)⟩
      · have he := run_endLoop (P := P) (hrec hb) (by rw [hrc]; simp)
        rw [hrc] at he
        exact ⟨none, _, he, hdone D xs O _ (Nat.le_refl _) (hno hb).2 hS (hI _ _ _ _ _ hi (but_put _ _ _) (fun j hj => by subst hj; exact ⟨(hno hb).1, by omega⟩)) ((World.putObj_heap_other (by omega)).trans (hdef hb))⟩
      · have he := run_endLoop (P := P) (hrec hb) (by rw [hrc]; simp)
        rw [hrc] at he
        exact ⟨some c, _, he, hstop D c pre O _ (Nat.le_refl _) (hno hb).2 hSp (hIx c _ _ _ _ _ hi (but_put _ _ _) (fun j hj => by subst hj; exact ⟨(hno hb).1, by omega⟩)) ((World.putObj_heap_other (by omega)).trans (hdef hb))⟩
end Go.Proofs.Ytepdhjcgpjjjlaa
end
section
namespace Go.Proofs.Ytepdhjcgpjjjlaa
open Go.RowKit Go.Shelf
/-- A state of blocks Rt, and of Z. -/
def YFr (Z : Nat → Prop) (Y : (Nat → Prop) → World → Prop) : Prop := ∀ Rt W W' R, Y Rt W → ButS W W' R → (∀ j, j < W.heap.size → R j → ¬ Z j ∧ ¬ Rt j) → Y Rt W'
/-- What the inner loop keeps: Rt are the blocks that the outer iterator writes. -/
def IKY {β : Type} (Z S : Nat → Prop) (Wq : World) (Y : (Nat → Prop) → World → Prop) (J : List β → (Nat → Prop) → World → Prop) (ys : List β) (O : Nat → Prop) (W : World) : Prop :=
  ∃ Rt : Nat → Prop, (∀ j, O j → ¬ Z j ∧ ¬ S j ∧ j < W.heap.size) ∧ (∀ j, Rt j → O j) ∧ ButS Wq W (fun j => ¬ (Z j ∨ S j)) ∧ Y Rt W ∧ J ys (fun j => j < W.heap.size ∧ ¬ Z j ∧ (¬ O j ∨ Rt j)) W
section
variable {β : Type} {Z S : Nat → Prop} {Wq : World} {Y : (Nat → Prop) → World → Prop} {J : List β → (Nat → Prop) → World → Prop}
theorem IKY.abides {α : Type} (f : List α → List β) (hJ : Steps J) (hY : YFr Z Y) (hZ : ∀ j, Z j → j < Wq.heap.size) : Abides Wq.heap.size (fun pre => IKY Z S Wq Y J (f pre)) := by
  intro s O W W' R ⟨Rt, h1, hr, h2, hy, h3⟩ hw hR
  refine ⟨Rt, fun j hj => ⟨(h1 j hj).1, (h1 j hj).2.1, Nat.lt_of_lt_of_le (h1 j hj).2.2 hw.size⟩, hr, h2.then hw (fun j hj => .inr (hR j hj).2), hY _ _ _ _ hy hw (fun j _ hj => ⟨fun hz => by have := hZ j hz; have := (hR j hj).2; omega, fun h => (hR j hj).1 (hr j h)⟩), ?_⟩
  refine hJ _ _ _ _ _ h3 (hw.mono fun j hlt hj => ⟨hlt, fun hz => by have := hZ j hz; have := (hR j hj).2; omega, .inl (hR j hj).1⟩) (fun j hj => ⟨?_, hj.1⟩)
  by_cases hlt : j < W.heap.size
  · exact .inl ⟨hlt, hj.2.1, hj.2.2⟩
  · exact .inr (by omega)
/-- The outer iterator has written its own blocks, and laid others. -/
theorem IKY.wrote {ys : List β} {O Rt : Nat → Prop} {W W1 : World} (h1 : ∀ j, O j → ¬ Z j ∧ ¬ S j ∧ j < W.heap.size) (hr : ∀ j, Rt j → O j) (h2 : ButS Wq W (fun j => ¬ (Z j ∨ S j))) (h3 : J ys (fun j => j < W.heap.size ∧ ¬ Z j ∧ (¬ O j ∨ Rt j)) W) (hJ : Steps J) (hZ : ∀ j, Z j → j < Wq.heap.size) (hS : ∀ j, S j → j < Wq.heap.size)
    (b : ButS W W1 Rt) (hy2 : Y (fun j => Rt j ∨ (W.heap.size ≤ j ∧ j < W1.heap.size)) W1) :
    ∃ O', OwnStep O O' W W1 ∧ IKY Z S Wq Y J ys O' W1 := by
  have hsz := b.size
  have hs2 := h2.size
  refine ⟨fun j => O j ∨ (W.heap.size ≤ j ∧ j < W1.heap.size), ⟨b.mono fun j _ hj => hr j hj, fun j hj => ?_⟩, fun j => Rt j ∨ (W.heap.size ≤ j ∧ j < W1.heap.size), fun j hj => ?_, fun j hj => ?_, h2.then b (fun j hj => .inl (fun hz => ?_)), hy2, hJ _ _ _ _ _ h3 (b.mono fun j hlt hj => ⟨hlt, (h1 j (hr j hj)).1, .inr hj⟩) (fun j hj => ⟨?_, hj.1⟩)⟩
  · rcases hj with hj | hj
    · exact ⟨.inl hj, by have := (h1 j hj).2.2; omega⟩
    · exact ⟨.inr hj.1, hj.2⟩
  · rcases hj with hj | hj
    · exact ⟨(h1 j hj).1, (h1 j hj).2.1, by have := (h1 j hj).2.2; omega⟩
    · exact ⟨fun hz => by have := hZ j hz; omega, fun hz => by have := hS j hz; omega, hj.2⟩
  · rcases hj with hj | hj
    · exact .inl (hr j hj)
    · exact .inr hj
  · rcases hz with hz | hz
    · exact (h1 j (hr j hj)).1 hz
    · exact (h1 j (hr j hj)).2.1 hz
  · obtain ⟨q1, q2, q3⟩ := hj
    by_cases hlt : j < W.heap.size
    · refine .inl ⟨hlt, q2, ?_⟩
      rcases q3 with q3 | q3 | q3
      · exact .inl (fun h => q3 (.inl h))
      · exact .inr q3
      · omega
    · exact .inr (by omega)
/-- The body has written: a key more is told. -/
theorem IKY.next {ys' : List β} {O : Nat → Prop} {W1 W' : World} {J' : List β → (Nat → Prop) → World → Prop} {Rt : Nat → Prop} (h1 : ∀ j, O j → ¬ Z j ∧ ¬ S j ∧ j < W1.heap.size) (hr : ∀ j, Rt j → O j) (h2 : ButS Wq W1 (fun j => ¬ (Z j ∨ S j))) (hy : Y Rt W1) (hJ : Steps J') (hY : YFr Z Y) (hSl : ∀ j, S j → j < Wq.heap.size ∧ ¬ Z j)
    (hj : J' ys' (fun j => j < W1.heap.size ∧ ¬ Z j ∧ (¬ O j ∨ Rt j)) W') (b : ButS W1 W' (fun j => ¬ (Z j ∨ (j < W1.heap.size ∧ ¬ Z j ∧ (¬ O j ∨ Rt j))))) : ∃ O', OwnStep O O' W1 W' ∧ IKY Z S Wq Y J' ys' O' W' := by
  have hs := b.size
  have hs2 := h2.size
  refine ⟨fun j => j < W'.heap.size ∧ ¬ Z j ∧ ¬ (j < W1.heap.size ∧ ¬ Z j ∧ ¬ O j), ⟨b.mono (fun j hlt hj => ?_), fun j hj => ⟨?_, hj.1⟩⟩, Rt, fun j hj => ⟨hj.2.1, fun hS => ?_, hj.1⟩, fun j hj => ?_, h2.then b (fun j hj => ?_), hY _ _ _ _ hy b (fun j hlt hj => ⟨fun hz => hj (.inl hz), fun ht => hj (.inr ⟨hlt, (h1 j (hr j ht)).1, .inr ht⟩)⟩), hJ _ _ _ _ _ hj (ButS.refl _ _) (fun j hj => ⟨?_, hj.1⟩)⟩
  · exact Classical.byContradiction fun ho => hj (Classical.byContradiction fun hn => hn (.inr ⟨hlt, fun hz => hn (.inl hz), .inl ho⟩))
  · by_cases hlt : j < W1.heap.size
    · exact .inl (Classical.byContradiction fun ho => hj.2.2 ⟨hlt, hj.2.1, ho⟩)
    · exact .inr (by omega)
  · exact hj.2.2 ⟨by have := (hSl j hS).1; omega, hj.2.1, fun ho => (h1 j ho).2.1 hS⟩
  · have := h1 j (hr j hj)
    exact ⟨by omega, this.1, fun h => h.2.2 (hr j hj)⟩
  · by_cases hlt : j < Wq.heap.size
    · refine .inl (fun h => hj ?_)
      rcases h with h | h
      · exact .inl h
      · exact .inr ⟨by omega, (hSl j h).2, .inl (fun ho => (h1 j ho).2.1 h)⟩
    · exact .inr (by omega)
  · obtain ⟨q1, q2, q3⟩ := hj
    refine .inl ?_
    rcases q3 with q3 | q3
    · have : j < W1.heap.size ∧ ¬ Z j ∧ ¬ O j := Classical.byContradiction fun h => q3 ⟨q1, q2, h⟩
      exact ⟨this.1, this.2.1, .inl this.2.2⟩
    · exact ⟨(h1 j (hr j q3)).2.2, q2, .inr q3⟩
end
end Go.Proofs.Ytepdhjcgpjjjlaa
end
section
namespace Go.Proofs.Ytepdhjcgpjjjlaa
open Go.RowKit
section
variable {F : Fence} {n : Nat} {P : Program}
def noDefer (ops : Array Oper) : Bool := ops.toList.all fun o => match o.op with | .defer _ => false | _ => true
theorem noDefer_at {ops : Array Oper} (h : noDefer ops = true) {i : Nat} {o : Oper} (ho : ops[i]? = some o) (c : Call) : o.op ≠ .defer c := by
  intro e
  have := List.all_eq_true.1 h o (by
    obtain ⟨hi, hio⟩ := Array.getElem?_eq_some_iff.1 ho
    rw [← hio]; exact Array.getElem_mem_toList hi)
  rw [e] at this
  simp at this
theorem upon_round (l : Nat) (o : Oper) (a : Act) (K : Act → World → Prop) (Q : Exit → Act → World → Prop) (r : Result Next) (h : o.uponIn F n P a K Q r) : o.uponIn (F.inRound l) n P a K Q r := h
theorem wpOpIn_round {ops : Array Oper} {Q : Exit → Act → World → Prop} (l : Nat) (hd : noDefer ops = true) {i : Nat} {K : Act → World → Prop} {a : Act} {w : World} (h : wpOpIn F n P ops Q i K a w) : wpOpIn (F.inRound l) n P ops Q i K a w := by
  unfold wpOpIn at h ⊢
  cases ho : ops[i]? with
  | none => simp only [ho] at h ⊢; exact h
  | some o =>
    simp only [ho] at h ⊢
    by_cases hw : Region.wanted o (yielded ops a.tmps) = true
    · rw [if_pos hw] at h ⊢
      unfold Oper.wpIn at h ⊢
      rw [Oper.semAt_plain F _ _ (noDefer_at hd ho)] at h
      rw [Oper.semAt_plain (F.inRound l) _ _ (noDefer_at hd ho)]
      exact ⟨h.1, upon_round l o a K Q _ h.2⟩
    · rw [if_neg hw] at h ⊢
      exact h
theorem wpAnyIn_round {ops : Array Oper} {md : Region.Mode} {Q : Exit → Act → World → Prop} (l : Nat) (hd : noDefer ops = true) : ∀ (fuel : Nat) (listed : Array Bool) (a : Act) (w : World), wpAnyIn F n P md ops Q fuel listed a w → wpAnyIn (F.inRound l) n P md ops Q fuel listed a w
  | 0, _, _, _, h => h
  | fuel + 1, _, _, _, h => ⟨h.1, fun i hi => wpOpIn_round l hd (wpOpIn_mono (fun _ _ h => wpAnyIn_round l hd fuel _ _ _ h) (h.2 i hi))⟩
end
end Go.Proofs.Ytepdhjcgpjjjlaa
end
section
namespace Go.Proofs.Ytepdhjcgpjjjlaa
open Go.RowKit
section
variable {n : Nat} {P : Program}
theorem rowsIn_of_rows {row : String} {args : Array Value} {w : World} {R : Value → World → Prop} (h : Rows P row args w R) : RowsIn Fence.wide n P row args w R :=
  fun c cs _ => let ⟨v, w', r, s⟩ := h c cs; ⟨v, w', r, stepsIn_wide.2 s⟩
theorem uponIn_of_upon {o : Oper} {a : Act} {K : Act → World → Prop} {Q : Exit → Act → World → Prop} : ∀ {r : Result Next}, o.upon P a K Q r → o.uponIn Fence.wide n P a K Q r
  | .ok (.value _) _, h => h
  | .ok .skip _, h => h
  | .ok (.defer _) _, h => h
  | .ok (.enter _ _) _, h => ⟨(fun e => by cases e), callsIn_wide.2 h⟩
  | .ok (.row _ _) _, h => ⟨(fun e => by cases e), rowsIn_of_rows h⟩
  | .halt (.panic _) _, h => h
theorem wpOpIn_of {ops : Array Oper} {Q : Exit → Act → World → Prop} (hlo : ¬ LetsOut Q) {i : Nat} {K : Act → World → Prop} {a : Act} {w : World} (h : wpOp P ops Q i K a w) : wpOpIn Fence.wide n P ops Q i K a w := by
  unfold wpOp at h
  unfold wpOpIn
  cases ho : ops[i]? with
  | none => simp only [ho] at h ⊢; exact h
  | some o =>
    simp only [ho] at h ⊢
    by_cases hw : Region.wanted o (yielded ops a.tmps) = true
    · rw [if_pos hw] at h ⊢
      rcases h with h | ⟨_, h⟩
      · exact ⟨fun _ _ => trivial, uponIn_of_upon h⟩
      · exact absurd h hlo
    · rw [if_neg hw] at h ⊢
      exact ⟨fun _ _ => trivial, h⟩
theorem wpAnyIn_of {ops : Array Oper} {md : Region.Mode} {Q : Exit → Act → World → Prop} (hlo : ¬ LetsOut Q) : ∀ (fuel : Nat) (listed : Array Bool) (a : Act) (w : World), wpAny P md ops Q fuel listed a w → wpAnyIn Fence.wide n P md ops Q fuel listed a w
  | 0, _, _, _, h => h
  | fuel + 1, _, _, _, h => ⟨h.1, fun i hi => wpOpIn_of hlo (wpOp_mono (fun _ _ h => wpAnyIn_of hlo fuel _ _ _ h) (h.2 i hi))⟩
/-- The region in a round, with S. -/
theorem wpIn_region_held_round {id : Nat} {Q : Exit → Act → World → Prop} {a : Act} {w : World} {ops : Array Oper} {l : Nat} (S : World → Prop) (hm : P.follows .mixedOrders = true) (hd : noDefer ops = true) (hlo : ¬ LetsOut Q) (hS : S w.drew)
    (h : S w.drew → wpAnyH P .any ops Q S ops.size (Array.replicate ops.size false) a w.drew) : (Code.region id ops true).wpIn (Fence.wide.inRound l) n P Q a w :=
  wpIn_region_any hm (wpAnyIn_round l hd _ _ _ _ (wpAnyIn_of hlo _ _ _ _ (wpAny_of_held _ _ _ _ (h hS))))
end
end Go.Proofs.Ytepdhjcgpjjjlaa
end
section
namespace Go.Proofs.Ytepdhjcgpjjjlaa.Kb
set_option maxRecDepth 20000
open Go.RowKit
abbrev hv (xs : List Int) : List Value := xs.map (Value.int .u64)
/-- The slice at A reads as the list xs of 64-bit numbers, in cells below block B. -/
def Rh (w : World) (B : Nat) (A : Option Addr) (xs : List Int) : Prop :=
  xs ≠ [] → ∃ b off, A = some ⟨b, off, none⟩ ∧ b < B ∧ ∀ (k : Nat) (h : k < xs.length), w.cell? ⟨b, off + k, none⟩ = some (.int .u64 xs[k])
theorem Rh.nil (w : World) (B : Nat) (A : Option Addr) : Rh w B A [] := fun h => absurd rfl h
theorem Rh.below {w w' : World} {B B' : Nat} {A : Option Addr} {xs : List Int} (h : Rh w B A xs) (hb : Below B' w w') (hB : B ≤ B') : Rh w' B A xs := fun hne => by
  obtain ⟨b, off, rfl, hlt, hc⟩ := h hne
  exact ⟨b, off, rfl, hlt, fun k hk => (hb.cell (p := ⟨b, off + k, none⟩) (by show b < B'; omega)).trans (hc k hk)⟩
theorem Rh.more {w : World} {B B' : Nat} {A : Option Addr} {xs : List Int} (h : Rh w B A xs) (hB : B ≤ B') : Rh w B' A xs := fun hne => by
  obtain ⟨b, off, rfl, hlt, hc⟩ := h hne
  exact ⟨b, off, rfl, by omega, hc⟩
theorem Rh.drew {w : World} {B : Nat} {A : Option Addr} {xs : List Int} (h : Rh w B A xs) (n : Nat) : Rh (w.drewN n) B A xs := h
theorem Rh.at {w : World} {B : Nat} {A : Option Addr} {xs : List Int} (h : Rh w B A xs) {k : Nat} (hk : k < xs.length) : ∃ b off, A = some ⟨b, off, none⟩ ∧ b < B ∧ w.cell? ⟨b, off + k, none⟩ = some (.int .u64 xs[k]) := by
  obtain ⟨b, off, rfl, hlt, hc⟩ := h (by intro e; subst e; simp at hk)
  exact ⟨b, off, rfl, hlt, hc k hk⟩
theorem Rh.grown {w w' : World} {B g : Nat} {A : Option Addr} {xs : List Int} (h : Rh w B A xs) (hg : w.grownBy w' (some g)) (hB : B ≤ w.heap.size) (hne : ∀ ad, A = some ad → ad.block ≠ g) : Rh w' B A xs := fun he => by
  obtain ⟨b, off, rfl, hlt, hc⟩ := h he
  refine ⟨b, off, rfl, hlt, fun k hk => ?_⟩
  have hb := hg.block b (by omega) (by intro e; cases e; exact hne _ rfl rfl)
  have := hc k hk
  simp only [World.cell?, hb] at this ⊢
  exact this
theorem add_offB (g k : Nat) : (⟨g, 0, none⟩ : Addr).add k = ⟨g, k, none⟩ := by
  by_cases h : k = 0
  · subst h; rfl
  · simp [Addr.add, h]
theorem cell_oneB (w : World) (v : Value) (t : TypeId) (j : Nat) (u : Value) (h : [v][j]? = some u) : (w.alloc (.cells #[v] t)).cell? ((⟨w.heap.size, 0, none⟩ : Addr).add j) = some u := by
  match j, h with
  | 0, h =>
    rw [add_offB]
    simp at h
    subst h
    simp
/-- No older block than n. -/
def Young (n : Nat) (A : Option Addr) : Prop := ∀ ad, A = some ad → n ≤ ad.block
theorem Rh.of_own {w : World} {base : Nat} {v : Value} {xs : List Int} (h : w.ownsRow base 31 1 v xs.length (hv xs)) : ∃ A c, v = .slice A xs.length c ∧ Rh w w.heap.size A xs ∧ Young base A := by
  rcases h.2 with ⟨rfl, hn⟩ | ⟨g, cap, cur, rfl, hb, hh, _⟩
  · have : xs = [] := by simpa using hn
    subst this
    exact ⟨none, 0, rfl, fun h => absurd rfl h, fun _ h => by cases h⟩
  · refine ⟨_, _, rfl, fun hne => ⟨g, 0, rfl, ?_, fun k hk => ?_⟩, fun _ e => by cases e; exact hb⟩
    · exact (h.lt g rfl).2
    · have := h.cells (g := g) rfl k (.int .u64 xs[k]) (by simp [hk])
      rw [add_offB] at this
      rw [Nat.zero_add]
      exact this
theorem u64_info : (Try.prog.info? 31).map (fun i => (i.zero, i.size, i.bytes)) = some (some (.int .u64 0), 1, 8) := by kernel_rfl
end Go.Proofs.Ytepdhjcgpjjjlaa.Kb
end
section
namespace Go.Proofs.Ytepdhjcgpjjjlaa.Kb
set_option maxRecDepth 20000
open Go.RowKit
section
variable {w w' : World}
theorem own_form {base : Nat} {e : TypeId} {size n : Nat} {v : Value} {xs : List Value} (h : w.ownsRow base e size v n xs) : ∃ A c, v = .slice A n c := by
  rcases h.2 with ⟨rfl, rfl⟩ | ⟨g, cap, cur, rfl, _⟩
  · exact ⟨none, 0, rfl⟩
  · exact ⟨_, _, rfl⟩
/-- The first k of a row. -/
theorem own_cut {base : Nat} {e : TypeId} {size n c : Nat} {A : Option Addr} {xs : List Value} (h : w.ownsRow base e size (.slice A n c) n xs) {k : Nat} (hk : k ≤ n) : w.ownsRow base e size (.slice A k c) k (xs.take (k * size)) := by
  have hl := h.1
  have hle : k * size ≤ n * size := Nat.mul_le_mul_right _ hk
  refine ⟨by rw [List.length_take]; omega, ?_⟩
  rcases h.2 with ⟨hv, rfl⟩ | ⟨g, cap, cur, hv, hb, hg, hnc, hcm, hcs, ht⟩
  · obtain rfl : k = 0 := by omega
    exact .inl ⟨hv, rfl⟩
  · simp only [Value.slice.injEq, true_and] at hv
    obtain ⟨rfl, rfl⟩ := hv
    refine .inr ⟨g, c, cur, rfl, hb, hg, by omega, hcm, hcs, ?_⟩
    rw [← ht, List.take_take, Nat.min_eq_left hle]
/-- All but the blocks of S are as they were. -/
structure ButS (w w' : World) (S : Nat → Prop) : Prop where
  os : w'.os = w.os
  tape : w'.tape = w.tape
  output : w'.output = w.output
  size : w.heap.size ≤ w'.heap.size
  block : ∀ j, j < w.heap.size → ¬ S j → w'.heap[j]? = w.heap[j]?
theorem ButS.refl (w : World) (S : Nat → Prop) : ButS w w S := ⟨rfl, rfl, rfl, Nat.le_refl _, fun _ _ _ => rfl⟩
theorem ButS.trans {w2 : World} {S : Nat → Prop} (h : ButS w w' S) (k : ButS w' w2 S) : ButS w w2 S :=
  ⟨k.os.trans h.os, k.tape.trans h.tape, k.output.trans h.output, Nat.le_trans h.size k.size, fun j hj hs => (k.block j (Nat.lt_of_lt_of_le hj h.size) hs).trans (h.block j hj hs)⟩
theorem ButS.mono {S T : Nat → Prop} (h : ButS w w' S) (hST : ∀ j, j < w.heap.size → S j → T j) : ButS w w' T := ⟨h.os, h.tape, h.output, h.size, fun j hj ht => h.block j hj fun hs => ht (hST j hj hs)⟩
/-- One step more, which changes but what S has, or is younger. -/
theorem ButS.then {w2 : World} {S T : Nat → Prop} (h : ButS w w' S) (k : ButS w' w2 T) (hT : ∀ j, T j → S j ∨ w.heap.size ≤ j) : ButS w w2 S :=
  ⟨k.os.trans h.os, k.tape.trans h.tape, k.output.trans h.output, Nat.le_trans h.size k.size, fun j hj hs => (k.block j (Nat.lt_of_lt_of_le hj h.size) fun ht => by rcases hT j ht with h1 | h1; exact hs h1; omega).trans (h.block j hj hs)⟩
theorem ButS.of_grown {row : Option Nat} {S : Nat → Prop} (g : w.grownBy w' row) (h : ∀ j, row = some j → S j) : ButS w w' S :=
  ⟨g.os, g.tape, g.output, g.size, fun j hj hs => g.block j hj fun e => hs (h j e.symm)⟩
theorem ButS.drewN {S : Nat → Prop} (h : ButS w w' S) (n : Nat) : ButS w (w'.drewN n) S := ⟨h.os, h.tape, h.output, h.size, h.block⟩
theorem ButS.below {S : Nat → Prop} {B : Nat} (h : ButS w w' S) (hB : B ≤ w.heap.size) (hS : ∀ j, S j → B ≤ j) : Below B w w' :=
  ⟨h.os, h.tape, h.output, h.size, fun k hk => h.block k (by omega) fun hs => by have := hS k hs; omega⟩
theorem ButS.own {S : Nat → Prop} {base : Nat} {e : TypeId} {size n : Nat} {v : Value} {xs : List Value} (b : ButS w w' S) (h : w.ownsRow base e size v n xs) (hS : ∀ k, v.ownBlock = some k → ¬ S k) : w'.ownsRow base e size v n xs := by
  refine ⟨h.1, ?_⟩
  rcases h.2 with hn | ⟨g, cap, cur, rfl, hb, hg, rest⟩
  · exact .inl hn
  · exact .inr ⟨g, cap, cur, rfl, hb, (b.block g (Array.getElem?_eq_some_iff.1 hg).1 (hS g rfl)).trans hg, rest⟩
end
theorem ButS.cell {w w' : World} {S : Nat → Prop} (h : ButS w w' S) {b : Nat} (hb : b < w.heap.size) (hs : ¬ S b) (o : Nat) : w'.cell? ⟨b, o, none⟩ = w.cell? ⟨b, o, none⟩ := by
  simp [World.cell?, h.block b hb hs]
theorem ButS.of_below {B : Nat} {w w' : World} {S : Nat → Prop} (h : Below B w w') (hB : w.heap.size ≤ B) : ButS w w' S :=
  ⟨h.os, h.tape, h.output, h.size, fun j hj _ => h.block j (by omega)⟩
theorem but_alloc' (w : World) (o : Obj) (S : Nat → Prop) : ButS w (w.alloc o) S := ButS.of_grown (World.grownBy_alloc w o none) (by simp)
theorem set_grown (w : World) (g i : Nat) (u : Value) : w.grownBy (w.setCell ⟨g, i, none⟩ u) (some g) :=
  ⟨rfl, rfl, rfl, by simp [World.setCell], fun j _ hne => Below.heap_setCell w _ u j (fun e => hne (by rw [e]))⟩
theorem but_set' (w : World) (h k : Nat) (u : Value) (S : Nat → Prop) (hS : S h) : ButS w (w.setCell ⟨h, k, none⟩ u) S := ButS.of_grown (set_grown w h k u) (fun j e => by cases e; exact hS)
end Go.Proofs.Ytepdhjcgpjjjlaa.Kb
end
section
namespace Go.Proofs.Ytepdhjcgpjjjlaa.Kb
set_option maxRecDepth 20000
open Go.RowKit
abbrev Part := Option Addr × Nat × List Int
def cat (L : List Part) : List Int := L.flatMap (·.2.2)
/-- The row of slices at gp, from off on, reads as the parts L. -/
def Parts (w : World) (B gp off : Nat) (L : List Part) : Prop := ∀ k (h : k < L.length), w.cell? ⟨gp, off + k, none⟩ = some (.slice L[k].1 L[k].2.2.length L[k].2.1) ∧ Rh w B L[k].1 L[k].2.2
theorem Rh.reads {w : World} {B : Nat} {A : Option Addr} {xs : List Int} (h : Rh w B A xs) : Reads w B 1 A xs.length (hv xs) := by
  refine ⟨by simp, fun hn => ?_⟩
  obtain ⟨b, off, rfl, hb, hc⟩ := h (by intro e; subst e; simp at hn)
  refine ⟨_, rfl, hb, fun j u hu => ?_⟩
  have hj : j < xs.length := by
    rcases Nat.lt_or_ge j xs.length with h1 | h1
    · exact h1
    · rw [List.getElem?_eq_none (by simpa using h1)] at hu; cases hu
  have e : (⟨b, off, none⟩ : Addr).add j = ⟨b, off + j, none⟩ := by
    unfold Addr.add
    by_cases h0 : j = 0 <;> simp [h0]
  rw [e, hc j hj]
  simpa [hj] using hu
end Go.Proofs.Ytepdhjcgpjjjlaa.Kb
end
section
namespace Go.Proofs
set_option maxRecDepth 20000
open Go.Shelf
def Try.compH_ren : Go.Shelf.Ren := ⟨fun | 43 => 25 | n => n, fun | 22 => 22 | 23 => 31 | 3 => 3 | 4 => 4 | 0 => 0 | n => n, fun | n => n⟩
theorem Try.compH : Go.Proofs.SlLaysE.n43 Try.prog Try.compH_ren := {
  mixed := by kernel_rfl
  f43 := ⟨Try.f25.name, by decide, Try.func25.trans (congrArg some (by kernel_rfl))⟩
  t0 := Try.underlying0
  a0 := Try.isAgg0
  z0 := Try.sizeOf0
  v0 := Try.zeroValue0
  t3 := Try.underlying3
  a3 := Try.isAgg3
  z3 := Try.sizeOf3
  v3 := Try.zeroValue3
  t4 := Try.underlying4
  a4 := Try.isAgg4
  z4 := Try.sizeOf4
  v4 := Try.zeroValue4
  t22 := Try.underlying22
  a22 := Try.isAgg22
  z22 := Try.sizeOf22
  v22 := Try.zeroValue22
  a23 := Try.isAgg31
  z23 := Try.sizeOf31 }
end Go.Proofs
end
