/- What the law's own function 'all' collects of an y-fast trie: the first keys; the text walked. A nil y-fast trie; a new one of any limit; the texts walked. The law YfastNil; the text walked. What the cards of the chain's laws use: the last step over a world of which all that was there is as it was; how slices of words and of truth values that came in read. Numbers of 16 and of 32 bits that came in. How a slice of bytes that came in reads. How slices of bytes that came in read. As RangeZ: and the iterator is promised, also where a round says no more, that all but what is no block of its own and none of Z is as it was: so iterators go over iterators. An iterator over an iterator that also writes blocks of its own: what the inner range keeps. -/
import Derived.Maps.AppendAt
import Derived.Maps.OwnIn
import Derived.Test.YtihnjcljheghgaaGreatRows
import Derived.WalkKit
import Derived.ProofKit
import Derived.OpenShut
import Derived.Below
import Derived.ChangeSame
import Derived.ChangeSlices
import Derived.Carry
import Derived.Deep.Grids
import Derived.JoinedOf
import Derived.Test.YtihnjcljheghgaaGreatMr38
import Derived.Test.YtihnjcljheghgaaGreatMr01
import Derived.Test.YtihnjcljheghgaaGreatMr03
import Derived.Test.YtihnjcljheghgaaGreatMr04
section
namespace Go.Proofs.YtihnjcljheghgaaGreat
set_option maxRecDepth 20000
open Go.RowKit Go.Shelf
theorem wide_fnY (f : Nat) : Fence.wide.fn f := trivial
attribute [local go_sem] Oper.semAt_some
attribute [local simp] wide_fnY
theorem yf_all_any (w : World) (p : Option Addr) : Calls Tryz.prog 44 #[.pointer p] w fun e w' => e = .returned (.func (.func 76) #[] #[.pointer (some ⟨w.heap.size, 0, none⟩)]) ∧ w' = w.alloc (.cells #[.pointer p] 26) := by
  go_enter Tryz.func44, Tryz.ntmps44
  go_wp2
  go_ret
  exact ⟨rfl, rfl⟩
theorem cell_oneB (w : World) (v : Value) (T : TypeId) : ∀ j u, [v][j]? = some u → (w.alloc (.cells #[v] T)).cell? (Addr.add ⟨w.heap.size, 0, none⟩ j) = some u := by
  intro j u hu
  match j, hu with
  | 0, hu => simp at hu; subst hu; simp [Addr.add]
theorem alloc_top (w : World) (o : Obj) {n : Nat} (h : n = w.heap.size) : (w.alloc o).heap[n]? = some o := by
  subst h
  exact K.alloc_top w o
theorem but_set' (w : World) (h k : Nat) (u : Value) (S : Nat → Prop) (hS : S h) : ButS w (w.setCell ⟨h, k, none⟩ u) S := ButS.of_chg (chg_set w h k u S hS)
/-- The list that is collected: its box at b, its row. -/
def Outs (b : Nat) (es : List Nat) (O : Nat → Prop) (W : World) : Prop :=
  ∃ v, W.heap[b]? = some (.cells #[v] 47 (0, 0)) ∧ W.ownsRow b 22 1 v es.length (wv es) ∧ v.ownBlock ≠ some b ∧ ∀ j, O j ↔ (j = b ∨ v.ownBlock = some j)
theorem own_ltG {W : World} {base : Nat} {e : TypeId} {size n : Nat} {v : Value} {xs : List Value} (h : W.ownsRow base e size v n xs) {j : Nat} (hj : v.ownBlock = some j) : j < W.heap.size ∧ base ≤ j := by
  rcases h.2 with ⟨rfl, _⟩ | ⟨g, cap, cur, rfl, hb, hg, _⟩
  · simp [Value.ownBlock] at hj
  · simp [Value.ownBlock] at hj
    subst hj
    exact ⟨(Array.getElem?_eq_some_iff.1 hg).1, hb⟩
theorem Outs.but {b : Nat} {es : List Nat} {O R : Nat → Prop} {W W' : World} (h : Outs b es O W) (hw : ButS W W' R) (hR : ∀ j, R j → ¬ O j) : Outs b es O W' := by
  obtain ⟨v, h1, h2, h3, h4⟩ := h
  refine ⟨v, (hw.block b (Array.getElem?_eq_some_iff.1 h1).1 (fun hr => hR b hr ((h4 b).2 (.inl rfl)))).trans h1, hw.own h2 (fun k hk hr => hR k hr ((h4 k).2 (.inr hk))), h3, h4⟩
theorem Outs.lt {b : Nat} {es : List Nat} {O : Nat → Prop} {W : World} (h : Outs b es O W) : ∀ j, O j → b ≤ j ∧ j < W.heap.size := by
  obtain ⟨v, h1, h2, h3, h4⟩ := h
  intro j hj
  rcases (h4 j).1 hj with rfl | hj
  · exact ⟨Nat.le_refl _, (Array.getElem?_eq_some_iff.1 h1).1⟩
  · exact ⟨(own_ltG h2 hj).2, (own_ltG h2 hj).1⟩
theorem eq_testG (a m : Nat) : ((a : Int) + 1 == (m : Int)) = decide (a + 1 = m) := by
  rw [Bool.eq_iff_iff]; simp; omega
theorem far_blockG {W w2 : World} {o : Obj} {row : Option Nat} (hg : (W.alloc o).grownBy w2 row) {b : Nat} (hb : b < W.heap.size) (hne : some b ≠ row) : w2.heap[b]? = W.heap[b]? :=
  (hg.block b (by simp; omega) hne).trans (Below.heap_alloc _ _ _ hb)
theorem far_cellG {W w2 : World} {o : Obj} {row : Option Nat} (hg : (W.alloc o).grownBy w2 row) {b : Nat} (off : Nat) (hb : b < W.heap.size) (hne : some b ≠ row) : w2.cell? ⟨b, off, none⟩ = W.cell? ⟨b, off, none⟩ := by
  have := far_blockG hg hb hne
  simp [World.cell?, this]
theorem own_baseG {w : World} {base base' : Nat} {e : TypeId} {size n : Nat} {v : Value} {xs : List Value} (h : w.ownsRow base e size v n xs) (hb : base' ≤ base) : w.ownsRow base' e size v n xs := by
  refine ⟨h.1, ?_⟩
  rcases h.2 with h | ⟨g, cap, cur, hv, hb', rest⟩
  · exact .inl h
  · exact .inr ⟨g, cap, cur, hv, by omega, rest⟩
theorem set_heapG {w : World} {b : Nat} {v u : Value} {T : TypeId} (h : w.heap[b]? = some (.cells #[v] T (0, 0))) : (w.setCell ⟨b, 0, none⟩ u).heap[b]? = some (.cells #[u] T (0, 0)) := by
  simp [World.setCell, Array.getElem?_modify, h]
/-- What 'all' answers. -/
def AllQ (w : World) (es : List Nat) (e : Ending) (w' : World) : Prop :=
  ∃ v, e = .returned v ∧ KX w' v es ∧ Below w.heap.size w w'
end Go.Proofs.YtihnjcljheghgaaGreat
end
section
namespace Go.Proofs.YtihnjcljheghgaaGreat
set_option maxRecDepth 20000
open Go.RowKit Go.Shelf
attribute [local go_sem] Oper.semAt_some
attribute [local simp] wide_fnY
end Go.Proofs.YtihnjcljheghgaaGreat
end
section
namespace Go.Proofs.YtihnjcljheghgaaGreat
set_option maxRecDepth 20000
open Go.RowKit
end Go.Proofs.YtihnjcljheghgaaGreat
end
section
namespace Go.Proofs.YtihnjcljheghgaaGreat
open Go.ChangeShapes Go.WideShapes Go.ChangeAt Go.RowKit
section
variable {H : Type} {enc : TypeId × Value → H} {P : Program}
theorem post_of_below {f : Func} {s : ChangeSpec} {apart fresh handsOn again : Bool} {W W' : World} {args : Array Value} {v : Value} {ds gs : List (DataW H)} {before pa pv : List MemPlace}
    (hW : DataW.Whole enc P f.params.toList s.vars apart W args.toList ds gs before)
    (hres : ∀ (b : Nat) (sp : Nat → Bool) (hd : Bool), DataW.TrodAll enc P W' b sp hd f.resultTypes.toList (v.resultList f.resultTypes.size) (s.fn H (ds ++ gs)).results [])
    (hargs : ∀ sp : Nat → Bool, (∀ p ∈ before, sp p.block = true) → DataW.TrodAll enc P W' 0 sp true f.params.toList args.toList (s.fn H (ds ++ gs)).args pa)
    (hvars : ∀ sp : Nat → Bool, (∀ p ∈ before, sp p.block = true) → DataW.TrodVars enc P W' sp s.vars (s.fn H (ds ++ gs)).vars pv)
    (hps : before = pa ++ pv) (hb : Below W.heap.size W W')
    (hok : ∀ (j : Nat) (t : TypeId) (r : Value), f.resultTypes[j]? = some t → (v.resultList f.resultTypes.size)[j]? = some r → Value.okWide P W' .any 0 t r) :
    s.post enc P f apart fresh handsOn again W args v W' := by
  have hlt : ∀ p ∈ before, p.block < W.heap.size := fun p hp => hW.lt p hp
  have hold : ∀ p ∈ before, (fun b => decide (b < W.heap.size)) p.block = true := fun p hp => by simpa using hlt p hp
  refine ⟨ds, gs, before, [], pa, pv, hW, hres _ _ _, hargs _ hold, hvars _ hold, World.keptBut_mono (fun p hp => ⟨hp, ?_⟩) (hb.frame (· ∈ before)), fun _ => ?_⟩
  · rw [hps, List.mem_append] at hp
    exact Or.inr hp
  · obtain ⟨_, _, _, _, _, hz, hn⟩ := hW
    refine ⟨hok, _, _, ([] ++ pa) ++ pv, ⟨[] ++ pa, pv, trodAll_append (hargs _ (fun _ _ => rfl)) (hres _ _ _), hvars _ (fun _ _ => rfl), rfl, ?_, ?_⟩, ?_⟩
    · intro b off hp
      have hin : MemPlace.cell b off ∈ before := by rw [hps]; simpa using hp
      rw [hb.frozen (hlt _ hin)]
      exact hz b off hin
    · intro ha
      have := hn ha
      rw [hps] at this
      simpa using this
    · intro p hp _
      rw [hps]
      simpa using hp
end

theorem own : ownKnob Tryz.prog.godebug = none := by kernel_rfl
theorem laidOut : laidOutB Tryz.prog = true := by kernel_rfl
theorem u64_nat {n : Int} (h : (Lit.int .u64 n).wf = true) : ∃ m : Nat, n = m ∧ m < 18446744073709551616 := by
  simp [Lit.wf, IntKind.min, IntKind.max, IntKind.signed, IntKind.bits] at h
  exact ⟨n.toNat, by omega, by omega⟩
theorem u8_nat {n : Int} (h : (Lit.int .u8 n).wf = true) : ∃ m : Nat, n = m ∧ m < 256 := by
  simp [Lit.wf, IntKind.min, IntKind.max, IntKind.signed, IntKind.bits] at h
  exact ⟨n.toNat, by omega, by omega⟩
theorem cellsWord : Tryz.prog.cellsOf 22 = 1 := by kernel_rfl
theorem readWords : Tryz.prog.readableRec 47 = true := by kernel_rfl
theorem rowWords : 47 < Tryz.prog.types.size := of_decide_eq_true (by kernel_rfl)
theorem nats_of {zs : List Int} (h : ∀ n ∈ zs, (Lit.int .u64 n).wf = true) : ∃ xs : List Nat, (zs = xs.map fun a : Nat => (a : Int)) ∧ ∀ x ∈ xs, x < 18446744073709551616 := by
  induction zs with
  | nil => exact ⟨[], rfl, fun x hx => by cases hx⟩
  | cons z zs ih =>
    obtain ⟨xs, rfl, hxs⟩ := ih fun n hn => h n (List.mem_cons_of_mem _ hn)
    obtain ⟨m, rfl, hm⟩ := u64_nat (h z (by simp))
    refine ⟨m :: xs, by simp, fun x hx => ?_⟩
    rcases List.mem_cons.1 hx with rfl | hx
    · exact hm
    · exact hxs x hx

set_option maxRecDepth 100000 in
theorem open_rw {H : Type} {enc : TypeId × Value → H} {W : World} {b0 : Nat} {v : Value} {d : DataW H} {p : List MemPlace}
    (hval : Value.okWide Tryz.prog W .any b0 47 v) (h : DataW.Trod enc Tryz.prog W 0 (fun _ => true) true 47 v d p) (hlt : ∀ x ∈ p, x.block < W.heap.size) :
    ∃ A cp xs, v = .slice A xs.length cp ∧ Rw W W.heap.size A xs ∧ xs.length ≤ 9223372036854775807 ∧ ∀ x ∈ xs, x < 18446744073709551616 := by
  obtain ⟨a0, len, cap, rfl⟩ := okWide_slice Tryz.underlying47 hval
  obtain ⟨fuel, hf⟩ := h
  rcases open_ints Tryz.underlying47 Tryz.underlying22 cellsWord hf with ⟨hcs, hx⟩ | ⟨a, len', cap', zs, hcs, _, hl, hm, hz, hx, hcell, hwz⟩
  · simp [Value.cells] at hcs
    obtain ⟨rfl, rfl, rfl⟩ := hcs
    exact ⟨none, 0, [], rfl, fun h => absurd rfl h, by simp, fun x hx => by cases hx⟩
  · simp [Value.cells] at hcs
    obtain ⟨rfl, rfl, rfl⟩ := hcs
    simp only [Prod.mk.injEq] at hx
    obtain ⟨rfl, rfl⟩ := hx
    simp only [if_true] at hz
    obtain ⟨xs, rfl, hxs⟩ := nats_of hwz
    rw [List.length_map] at hz hcell hlt
    unfold maxLen at hm
    refine ⟨some a, cap, xs.take len, ?_, fun hne => ?_, by rw [List.length_take]; omega, fun x hx => hxs x (List.mem_of_mem_take hx)⟩
    · rw [List.length_take, Nat.min_eq_left (by omega)]
    · have hpos : 0 < xs.length := by
        rcases Nat.eq_zero_or_pos xs.length with h0 | h0
        · have : xs = [] := List.eq_nil_of_length_eq_zero h0
          subst this; simp at hne
        · exact h0
      obtain ⟨b, off, spot⟩ := a
      have hspot : spot = none := by simpa [Addr.add] using World.cell?_spot (hcell 0 hpos)
      subst hspot
      refine ⟨b, off, rfl, hlt (.cell b off) (MemPlace.mem_row.2 ⟨0, hpos, by simp⟩), fun k hk => ?_⟩
      rw [List.length_take] at hk
      have := hcell k (by omega)
      rw [add_plain] at this
      rw [this]
      simp [List.getD, show k < xs.length by omega]
end Go.Proofs.YtihnjcljheghgaaGreat
end
section
namespace Go.Proofs.YtihnjcljheghgaaGreat
open Go.ChangeShapes Go.WideShapes Go.ChangeAt Go.RowKit
end Go.Proofs.YtihnjcljheghgaaGreat
end
section
namespace Go.Proofs.YtihnjcljheghgaaGreat
open Go.RowKit
def Rby (w : World) (B : Nat) (A : Option Addr) (bs : List Nat) : Prop :=
  bs ≠ [] → ∃ b off, A = some ⟨b, off, none⟩ ∧ b < B ∧ ∀ (k : Nat) (h : k < bs.length), w.cell? ⟨b, off + k, none⟩ = some (.int .u8 (bs[k] : Nat))
theorem Rby.at {w w' : World} {B : Nat} {A : Option Addr} {bs : List Nat} (h : Rby w B A bs) (hb : Below B w w') {k : Nat} (hk : k < bs.length) : ∃ b off, A = some ⟨b, off, none⟩ ∧ w'.cell? ⟨b, off + k, none⟩ = some (.int .u8 (bs[k] : Nat)) := by
  obtain ⟨b, off, rfl, hlt, hc⟩ := h (by rintro rfl; simp at hk)
  exact ⟨b, off, rfl, (hb.cell (p := ⟨b, off + k, none⟩) hlt).trans (hc k hk)⟩
end Go.Proofs.YtihnjcljheghgaaGreat
end
section
namespace Go.Proofs.YtihnjcljheghgaaGreat
open Go.ChangeShapes Go.WideShapes Go.ChangeAt Go.RowKit
theorem cellsByte : Tryz.prog.cellsOf 5 = 1 := by kernel_rfl
theorem readBytes : Tryz.prog.readableRec 53 = true := by kernel_rfl
theorem rowBytes : 53 < Tryz.prog.types.size := of_decide_eq_true (by kernel_rfl)

theorem nats8_of {zs : List Int} (h : ∀ n ∈ zs, (Lit.int .u8 n).wf = true) : ∃ xs : List Nat, (zs = xs.map fun a : Nat => (a : Int)) ∧ ∀ x ∈ xs, x < 256 := by
  induction zs with
  | nil => exact ⟨[], rfl, fun x hx => by cases hx⟩
  | cons z zs ih =>
    obtain ⟨xs, rfl, hxs⟩ := ih fun n hn => h n (List.mem_cons_of_mem _ hn)
    obtain ⟨m, rfl, hm⟩ := u8_nat (h z (by simp))
    refine ⟨m :: xs, by simp, fun x hx => ?_⟩
    rcases List.mem_cons.1 hx with rfl | hx
    · exact hm
    · exact hxs x hx

set_option maxRecDepth 100000 in
theorem open_rb {H : Type} {enc : TypeId × Value → H} {W : World} {b0 : Nat} {v : Value} {d : DataW H} {p : List MemPlace}
    (hval : Value.okWide Tryz.prog W .any b0 53 v) (h : DataW.Trod enc Tryz.prog W 0 (fun _ => true) true 53 v d p) (hlt : ∀ x ∈ p, x.block < W.heap.size) :
    ∃ A cp xs, v = .slice A xs.length cp ∧ Rby W W.heap.size A xs ∧ xs.length ≤ 9223372036854775807 ∧ ∀ x ∈ xs, x < 256 := by
  obtain ⟨a0, len, cap, rfl⟩ := okWide_slice Tryz.underlying53 hval
  obtain ⟨fuel, hf⟩ := h
  rcases open_ints Tryz.underlying53 Tryz.underlying5 cellsByte hf with ⟨hcs, hx⟩ | ⟨a, len', cap', zs, hcs, _, hl, hm, hz, hx, hcell, hwz⟩
  · simp [Value.cells] at hcs
    obtain ⟨rfl, rfl, rfl⟩ := hcs
    exact ⟨none, 0, [], rfl, fun h => absurd rfl h, by simp, fun x hx => by cases hx⟩
  · simp [Value.cells] at hcs
    obtain ⟨rfl, rfl, rfl⟩ := hcs
    simp only [Prod.mk.injEq] at hx
    obtain ⟨rfl, rfl⟩ := hx
    simp only [if_true] at hz
    obtain ⟨xs, rfl, hxs⟩ := nats8_of hwz
    rw [List.length_map] at hz hcell hlt
    unfold maxLen at hm
    refine ⟨some a, cap, xs.take len, ?_, fun hne => ?_, by rw [List.length_take]; omega, fun x hx => hxs x (List.mem_of_mem_take hx)⟩
    · rw [List.length_take, Nat.min_eq_left (by omega)]
    · have hpos : 0 < xs.length := by
        rcases Nat.eq_zero_or_pos xs.length with h0 | h0
        · have : xs = [] := List.eq_nil_of_length_eq_zero h0
          subst this; simp at hne
        · exact h0
      obtain ⟨b, off, spot⟩ := a
      have hspot : spot = none := by simpa [Addr.add] using World.cell?_spot (hcell 0 hpos)
      subst hspot
      refine ⟨b, off, rfl, hlt (.cell b off) (MemPlace.mem_row.2 ⟨0, hpos, by simp⟩), fun k hk => ?_⟩
      rw [List.length_take] at hk
      have := hcell k (by omega)
      rw [add_plain] at this
      rw [this]
      simp [List.getD, show k < xs.length by omega]
end Go.Proofs.YtihnjcljheghgaaGreat
end
section
namespace Go.Proofs.YtihnjcljheghgaaGreat
open Go.RowKit Go.Shelf
/-- A state that lives on when blocks change that are not its own: those laid since B, and those of R0. -/
def AbidesR {β : Type} (B : Nat) (R0 : Nat → Prop) (I : β → (Nat → Prop) → World → Prop) : Prop :=
  ∀ s O W W' R, I s O W → ButS W W' R → (∀ j, R j → ¬ O j ∧ (B ≤ j ∨ R0 j)) → I s O W'
def SeqR {α : Type} (F : Fence) (n : Nat) (P : Program) (g : Nat) (lb : Array Value) (encs : α → Array Value) (Z R0 : Nat → Prop) (S Sp : List α → (Nat → Prop) → World → Prop) (T : List α → Prop) (w : World) : Prop :=
  ∀ (l : Nat) (J Jx : List α → (Nat → Prop) → World → Prop) (W : World), Below w.heap.size w W → Steps J → Steps Jx →
    (∀ pre x R W1, J pre R W1 → T (pre ++ [x]) → YieldAt F (n - 1) P l (encs x) W1 fun e W' =>
      ((e = .returned (.bool true) ∧ J (pre ++ [x]) R W') ∨ (e = .returned (.bool false) ∧ Jx (pre ++ [x]) R W')) ∧ ButS W1 W' (fun j => ¬ (Z j ∨ R j))) →
    J [] R0 W →
    CallsIn F n P g (#[.func (.yield l) #[] #[]] ++ lb) W fun e W' => (∃ v, e = .returned v) ∧ ((∃ xs R, S xs R W' ∧ J xs R W') ∨ (∃ pre R, Sp pre R W' ∧ Jx pre R W'))
variable {F : Fence} {n : Nat} {P : Program}
/-- The law. -/
theorem wpIn_rangeR {α : Type} {g : Operand} {ps : Array Tmp} {assign body : Code} {Q : Exit → Act → World → Prop} {a : Act} {w : World}
    (hro : F.round = none) (h1 : 1 ≤ n) {gf : Nat} {lb : Array Value} (hg : a.eval g = .func (.func gf) #[] lb) (hFg : F.fn gf) (eg : ∀ args w, (callFunc gf args).run P w = .ok (.enter gf args) w)
    {encs : α → Array Value} {Z R0 : Nat → Prop} {S Sp : List α → (Nat → Prop) → World → Prop} {T : List α → Prop} {w0 : World} (hseq : SeqR F (n - 1) P gf lb encs Z R0 S Sp T w0) (hZ : ∀ j, Z j → j < w.heap.size) (hb0 : Below w0.heap.size w0 w) (hps : ∀ x, (encs x).size = ps.size)
    (I : List α → (Nat → Prop) → World → Prop) (Ix : Code → List α → (Nat → Prop) → World → Prop) (A : List α × α → Act → (Nat → Prop) → World → Prop)
    (hSa : Abides w.heap.size S) (hSpa : Abides w.heap.size Sp) (hI : AbidesR w.heap.size R0 I) (hIx : ∀ c, AbidesR w.heap.size R0 (Ix c)) (hA : ∀ a', AbidesR w.heap.size R0 (fun s => A s a')) (hlow : ∀ xs O W, I xs O W → ∀ j, O j → ¬ Z j)
    (O₀ : Nat → Prop) (hO₀ : ∀ j, O₀ j → j < w.heap.size) (hR0 : ∀ j, R0 j → j < w.heap.size ∧ ¬ O₀ j) (h0 : I [] O₀ w)
    (hassign : ∀ (l : Nat) (pre : List α) (x : α) (O : Nat → Prop) (W : World), I pre O W → T (pre ++ [x]) →
      assign.wpIn (F.inRound l) (n - 1 - 1) P (Exit.then (fun a1 W1 => ∃ O1, OwnStep O O1 W W1 ∧ A (pre, x) a1 O1 W1) (fun _ _ _ => False)) { tmps := (ps.zip (encs x)).foldl (fun t (p, v) => t.setIfInBounds p v) a.tmps, defers := [] } W)
    (hbody : ∀ (l : Nat) (pre : List α) (x : α) (O : Nat → Prop) (a1 : Act) (W : World), A (pre, x) a1 O W → body.wpIn (F.inRound l) (n - 1 - 1) P (roundO I Ix (pre ++ [x]) O W) a1 W)
    (hdone : ∀ (D : Nat) (xs : List α) (O : Nat → Prop) (W : World), w.heap.size ≤ D → ¬ O D → (∃ R, S xs R W ∧ ∀ j, R j → R0 j ∨ D + 2 ≤ j) → I xs O W → W.heap[D]? = some (.deferred (some [])) → Q .normal { a with defers := { target := .collected D, args := #[] } :: a.defers } W)
    (hstop : ∀ (D : Nat) (c : Code) (pre : List α) (O : Nat → Prop) (W : World), w.heap.size ≤ D → ¬ O D → (∃ R, Sp pre R W ∧ ∀ j, R j → R0 j ∨ D + 2 ≤ j) → Ix c pre O W → W.heap[D]? = some (.deferred (some [])) → c.wpIn F n P Q { a with defers := { target := .collected D, args := #[] } :: a.defers } W) :
    (Code.rangeFunc g ps assign body).wpIn F n P Q a w := by
  refine wpIn_rangeFunc ?_
  intro fn hfn
  rw [hro]
  generalize hD : w.heap.size = D at *
  have hRD : ∀ j, (R0 j ∨ D + 2 ≤ j) → j ≠ D ∧ j ≠ D + 1 := fun j hj => by
    rcases hj with h | h
    · have := (hR0 j h).1
      omega
    · omega
  obtain ⟨rc, hrc⟩ : ∃ rc : LoopState → Option Code → Loop, rc = fun st pe => { state := st, pending := pe, fn, tmps := a.tmps, params := ps, assign, body, defers := D } := ⟨_, rfl⟩
  obtain ⟨V, hV⟩ : ∃ V, (w.alloc (.deferred (some []))).alloc (.loop (rc .ready none)) = V := ⟨_, rfl⟩
  have hbV : ButS w V (fun _ => False) := by rw [← hV]; exact (but_alloc' _ _ _).trans (but_alloc' _ _ _)
  have hsV : V.heap.size = D + 2 := by rw [← hV]; simp [hD]
  have hL : V.heap[D + 1]? = some (.loop (rc .ready none)) := by
    rw [← hV, ← hD]
    have := World.alloc_heap_new (w.alloc (.deferred (some []))) (.loop (rc .ready none))
    rwa [World.size_alloc] at this
  have hK : V.heap[D]? = some (.deferred (some [])) := by
    rw [← hV, ← hD]
    exact (Below.heap_alloc _ _ _ (by simp)).trans (World.alloc_heap_new w _)
  have hbl : Below w0.heap.size w0 V := hb0.trans (hbV.below (by have := hb0.size; omega) (fun _ h => h.elim))
  have hIV : I [] O₀ V := hI _ _ _ _ _ h0 hbV (fun _ h => h.elim)
  refine ⟨D + 1, [{ target := .collected D, args := #[] }], V, { target := .fn (.func gf) lb, args := #[.func (.yield (D + 1)) #[] #[]] }, V, gf, #[.func (.yield (D + 1)) #[] #[]] ++ lb, V, ?_, ?_, ?_, ?_, fun _ => h1, ?_⟩
  · have := run_enterLoop_outer (P := P) (w := w) fn a.tmps ps assign body
    rw [hD] at this
    rw [this, ← hV, hrc]
  · simp only [resolve, hg]
    simp [go_sem]
  · intro f' hf'
    simp [Target.leads] at hf'
    subst hf'; exact hFg
  · simp [invoke, go_sem, eg]
  · obtain ⟨Bk, hBk⟩ : ∃ Bk : LoopState → Option Code → (Nat → Prop) → (Nat → Prop) → World → Prop, Bk = fun st pe O R W => (∀ j, O j → ¬ R j ∧ j ≠ D ∧ j ≠ D + 1 ∧ j < W.heap.size) ∧ (∀ j, R j → (R0 j ∨ D + 2 ≤ j) ∧ j < W.heap.size) ∧ W.heap[D + 1]? = some (.loop (rc st pe)) ∧ W.heap[D]? = some (.deferred (some [])) := ⟨_, rfl⟩
    have hstep : ∀ {st : LoopState} {pe : Option Code} {O R R' : Nat → Prop} {W W' : World}, Bk st pe O R W → ButS W W' R → (∀ j, R' j → (R j ∨ W.heap.size ≤ j) ∧ j < W'.heap.size) → Bk st pe O R' W' := by
      intro st pe O R R' W W' hb hw hR'
      rw [hBk] at hb ⊢
      obtain ⟨b1, b2, b3, b4⟩ := hb
      have hlt := (Array.getElem?_eq_some_iff.1 b3).1
      refine ⟨fun j hj => ⟨fun hr => ?_, (b1 j hj).2.1, (b1 j hj).2.2.1, by have := (b1 j hj).2.2.2; have := hw.size; omega⟩, fun j hj => ⟨?_, (hR' j hj).2⟩, (hw.block _ hlt (fun h => (hRD _ (b2 _ h).1).2 rfl)).trans b3, (hw.block _ (by omega) (fun h => (hRD _ (b2 _ h).1).1 rfl)).trans b4⟩
      · rcases (hR' j hr).1 with h | h
        · exact (b1 j hj).1 h
        · have := (b1 j hj).2.2.2; omega
      · rcases (hR' j hj).1 with h | h
        · exact (b2 j h).1
        · exact .inr (by omega)
    have hown : ∀ {st : LoopState} {pe : Option Code} {O O' R : Nat → Prop} {W W' : World}, Bk st pe O R W → OwnStep O O' W W' → Bk st pe O' R W' ∧ ∀ j, R j → W'.heap[j]? = W.heap[j]? := by
      intro st pe O O' R W W' hb hw
      rw [hBk] at hb ⊢
      obtain ⟨b1, b2, b3, b4⟩ := hb
      have hlt := (Array.getElem?_eq_some_iff.1 b3).1
      refine ⟨⟨fun j hj => ?_, fun j hj => ⟨(b2 j hj).1, by have := (b2 j hj).2; have := hw.1.size; omega⟩, (hw.1.block _ hlt (fun h => (b1 _ h).2.2.1 rfl)).trans b3, (hw.1.block _ (by omega) (fun h => (b1 _ h).2.1 rfl)).trans b4⟩, fun j hj => hw.1.block j (b2 j hj).2 (fun h => (b1 j h).1 hj)⟩
      obtain ⟨h1, h2⟩ := hw.2 j hj
      rcases h1 with h1 | h1
      · exact ⟨(b1 j h1).1, (b1 j h1).2.1, (b1 j h1).2.2.1, h2⟩
      · exact ⟨fun hr => by have := (b2 j hr).2; omega, by omega, by omega, h2⟩
    have hput : ∀ {st st' : LoopState} {pe pe' : Option Code} {O R : Nat → Prop} {W : World}, Bk st pe O R W → Bk st' pe' O R (W.putObj (D + 1) (.loop (rc st' pe'))) := by
      intro st st' pe pe' O R W hb
      rw [hBk] at hb ⊢
      obtain ⟨b1, b2, b3, b4⟩ := hb
      have hlt := (Array.getElem?_eq_some_iff.1 b3).1
      exact ⟨fun j hj => by rw [World.putObj_size]; exact b1 j hj, fun j hj => by rw [World.putObj_size]; exact b2 j hj, World.putObj_heap_same hlt, (World.putObj_heap_other (by omega)).trans b4⟩
    have hrec : ∀ {st : LoopState} {pe : Option Code} {O R : Nat → Prop} {W : World}, Bk st pe O R W → W.heap[D + 1]? = some (.loop (rc st pe)) := by
      intro st pe O R W hb
      rw [hBk] at hb
      exact hb.2.2.1
    have hdef : ∀ {st : LoopState} {pe : Option Code} {O R : Nat → Prop} {W : World}, Bk st pe O R W → W.heap[D]? = some (.deferred (some [])) := by
      intro st pe O R W hb
      rw [hBk] at hb
      exact hb.2.2.2
    have hno : ∀ {st : LoopState} {pe : Option Code} {O R : Nat → Prop} {W : World}, Bk st pe O R W → ¬ O (D + 1) ∧ ¬ O D := by
      intro st pe O R W hb
      rw [hBk] at hb
      exact ⟨fun h => (hb.1 _ h).2.2.1 rfl, fun h => (hb.1 _ h).2.1 rfl⟩
    have hRn : ∀ {st : LoopState} {pe : Option Code} {O R : Nat → Prop} {W : World}, Bk st pe O R W → ¬ R (D + 1) ∧ ∀ j, R j → R0 j ∨ D + 2 ≤ j := by
      intro st pe O R W hb
      rw [hBk] at hb
      exact ⟨fun h => (hRD _ (hb.2.1 _ h).1).2 rfl, fun j hj => (hb.2.1 j hj).1⟩
    have hRB : ∀ {st : LoopState} {pe : Option Code} {O R : Nat → Prop} {W : World}, Bk st pe O R W → ∀ j, R j → ¬ O j ∧ (D ≤ j ∨ R0 j) := by
      intro st pe O R W hb j hj
      rw [hBk] at hb
      exact ⟨fun h => (hb.1 j h).1 hj, (by rcases (hb.2.1 j hj).1 with h | h; exact .inr h; exact .inl (by omega))⟩
    have hJs : ∀ (st : LoopState) (T : List α → Option Code → (Nat → Prop) → World → Prop), (∀ pe, AbidesR D R0 (fun s => T s pe)) → Steps (fun pre R W => ∃ pe O, T pre pe O W ∧ Bk st pe O R W) := by
      intro st T hT s R R' W W' hj hw hR'
      obtain ⟨pe, O, h1, h2⟩ := hj
      exact ⟨pe, O, hT pe _ _ _ _ _ h1 hw (hRB h2), hstep h2 hw hR'⟩
    refine (hseq (D + 1) (fun pre R W => ∃ pe O, (fun pre (pe : Option Code) O W => pe = none ∧ I pre O W) pre pe O W ∧ Bk .ready pe O R W) (fun pre R W => ∃ pe O, (fun pre (pe : Option Code) O W => ∃ c, pe = some c ∧ Ix c pre O W) pre pe O W ∧ Bk .done pe O R W) V hbl
      (hJs .ready (fun pre pe O W => pe = none ∧ I pre O W) (fun pe s O W W' R h hw hr => ⟨h.1, hI _ _ _ _ _ h.2 hw hr⟩)) (hJs .done (fun pre pe O W => ∃ c, pe = some c ∧ Ix c pre O W) (fun pe s O W W' R h hw hr => by obtain ⟨c, h1, h2⟩ := h; exact ⟨c, h1, hIx c _ _ _ _ _ h2 hw hr⟩)) ?_
      ⟨none, O₀, ⟨rfl, hIV⟩, by rw [hBk]; exact ⟨fun j hj => ⟨fun h => (hR0 j h).2 hj, by have := hO₀ j hj; omega, by have := hO₀ j hj; omega, by have := hO₀ j hj; omega⟩, fun j h => ⟨.inl h, by have := (hR0 j h).1; omega⟩, hL, hK⟩⟩).mono ?_
    · rintro pre x R W ⟨pe, O, ⟨rfl, hi⟩, hb⟩ hlen
      have hy := run_yield (P := P) (args := encs x) (hrec hb) (by rw [hrc]; exact hps x)
      rw [hrc] at hy
      have hsW : D ≤ W.heap.size := by have := (Array.getElem?_eq_some_iff.1 (hrec hb)).1; omega
      refine ⟨fn, _, assign, body, hy, roundIn_of_wpIn hfn (wpIn_mono (hassign (D + 1) pre x O W hi hlen) ?_)⟩
      rintro e a1 W1 hp
      cases e with
      | normal =>
        obtain ⟨O1, hst, ha⟩ := hp
        obtain ⟨hb1, hk1⟩ := hown hb hst
        have hb2 := hput (st' := .busy) (pe' := none) hb1
        refine ⟨W1.putObj (D + 1) (.loop (rc .busy none)), by have h := run_beginRound (P := P) (hrec hb1) (by rw [hrc]); rw [hrc] at h ⊢; exact h, ?_⟩
        have ha2 : A (pre, x) a1 O1 (W1.putObj (D + 1) (.loop (rc .busy none))) := hA a1 _ _ _ _ _ ha (but_put _ _ _) (fun j hj => by subst hj; exact ⟨(hno hb1).1, .inl (by omega)⟩)
        have hsz1 : W.heap.size ≤ W1.heap.size := hst.1.size
        have hbd := hbody (D + 1) pre x O1 a1 _ ha2
        refine wpIn_mono hbd ?_
        have fin : ∀ (jump : Option Code) (O2 : Nat → Prop) (W3 : World), OwnStep O1 O2 (W1.putObj (D + 1) (.loop (rc .busy none))) W3 →
            (Instr.endRound (D + 1) jump).run P W3 = .ok (.bool jump.isNone) (W3.putObj (D + 1) (.loop (rc (if jump.isNone then .ready else .done) jump))) ∧
            Bk (if jump.isNone then .ready else .done) jump O2 R (W3.putObj (D + 1) (.loop (rc (if jump.isNone then .ready else .done) jump))) ∧ ButS W3 (W3.putObj (D + 1) (.loop (rc (if jump.isNone then .ready else .done) jump))) (· = D + 1) ∧ ¬ O2 (D + 1) ∧
            ButS W (W3.putObj (D + 1) (.loop (rc (if jump.isNone then .ready else .done) jump))) (fun j => ¬ (Z j ∨ R j)) := by
          intro jump O2 W3 hs3
          obtain ⟨hb3, hk3⟩ := hown hb2 hs3
          have he := run_endRound (P := P) jump (hrec hb3)
          have hRne : ∀ j, R j → j ≠ D + 1 := fun j hj e => by
            have := hb; rw [hBk] at this
            exact (hRD _ (this.2.1 j hj).1).2 e
          refine ⟨?_, hput hb3, but_put _ _ _, (hno hb3).1, ?_⟩
          · rw [hrc] at he ⊢; exact he
          · have c0 : ButS W W1 (fun j => O j ∨ j = D + 1) := hst.1.mono (fun j _ h => .inl h)
            have c1 := c0.then (but_put W1 (D + 1) (.loop (rc .busy none))) (fun j h => .inl (.inr h))
            have c2 := c1.then hs3.1 (fun j h => by
              rcases (hst.2 j h).1 with h2 | h2
              · exact .inl (.inl h2)
              · exact .inr h2)
            have c3 := c2.then (but_put W3 (D + 1) (.loop (rc (if jump.isNone then .ready else .done) jump))) (fun j h => .inl (.inr h))
            have hbB := hb
            rw [hBk] at hbB
            refine c3.mono (fun j _ h hz => ?_)
            rcases h with h | h
            · rcases hz with hz | hz
              · exact hlow _ _ _ hi j h hz
              · exact (hbB.1 j h).1 hz
            · rcases hz with hz | hz
              · have := hZ j hz; omega
              · exact (hRD _ (hbB.2.1 j hz).1).2 h
        rintro e a3 W3 hp
        cases e with
        | normal =>
          obtain ⟨O2, hs3, hi3⟩ := hp
          obtain ⟨f1, f2, f3, f4, f5⟩ := fin none O2 W3 hs3
          exact ⟨_, _, f1, .inl ⟨rfl, ⟨none, O2, ⟨rfl, hI _ _ _ _ _ hi3 f3 (fun j hj => by subst hj; exact ⟨f4, .inl (by omega)⟩)⟩, f2⟩⟩, f5⟩
        | ret =>
          obtain ⟨O2, hs3, hi3⟩ := hp
          obtain ⟨f1, f2, f3, f4, f5⟩ := fin (some .ret) O2 W3 hs3
          exact ⟨_, _, f1, .inr ⟨rfl, ⟨some .ret, O2, ⟨.ret, rfl, hIx _ _ _ _ _ _ hi3 f3 (fun j hj => by subst hj; exact ⟨f4, .inl (by omega)⟩)⟩, f2⟩⟩, f5⟩
        | exit id =>
          obtain ⟨O2, hs3, hi3⟩ := hp
          obtain ⟨f1, f2, f3, f4, f5⟩ := fin (some (.exit id)) O2 W3 hs3
          exact ⟨_, _, f1, .inr ⟨rfl, ⟨some (.exit id), O2, ⟨.exit id, rfl, hIx _ _ _ _ _ _ hi3 f3 (fun j hj => by subst hj; exact ⟨f4, .inl (by omega)⟩)⟩, f2⟩⟩, f5⟩
        | goto t =>
          obtain ⟨O2, hs3, hi3⟩ := hp
          obtain ⟨f1, f2, f3, f4, f5⟩ := fin (some (.goto t)) O2 W3 hs3
          exact ⟨_, _, f1, .inr ⟨rfl, ⟨some (.goto t), O2, ⟨.goto t, rfl, hIx _ _ _ _ _ _ hi3 f3 (fun j hj => by subst hj; exact ⟨f4, .inl (by omega)⟩)⟩, f2⟩⟩, f5⟩
        | panic ch => exact hp.elim
        | outgrown => exact hp.elim
      | ret => exact hp.elim
      | exit id => exact hp.elim
      | goto t => exact hp.elim
      | panic ch => exact hp.elim
      | outgrown => exact hp.elim
    · rintro e W2 ⟨⟨v, rfl⟩, (⟨xs, R, hS, pe, O, ⟨rfl, hi⟩, hb⟩ | ⟨pre, R, hSp, pe, O, ⟨c, rfl, hi⟩, hb⟩)⟩
      · have he := run_endLoop (P := P) (hrec hb) (by rw [hrc]; simp)
        rw [hrc] at he
        exact ⟨none, _, he, hdone D xs O _ (Nat.le_refl _) (hno hb).2 ⟨R, hSa _ _ _ _ _ hS (but_put _ _ _) (fun j hj => by subst hj; exact ⟨(hRn hb).1, by omega⟩), (hRn hb).2⟩ (hI _ _ _ _ _ hi (but_put _ _ _) (fun j hj => by subst hj; exact ⟨(hno hb).1, .inl (by omega)⟩)) ((World.putObj_heap_other (by omega)).trans (hdef hb))⟩
      · have he := run_endLoop (P := P) (hrec hb) (by rw [hrc]; simp)
        rw [hrc] at he
        exact ⟨some c, _, he, hstop D c pre O _ (Nat.le_refl _) (hno hb).2 ⟨R, hSpa _ _ _ _ _ hSp (but_put _ _ _) (fun j hj => by subst hj; exact ⟨(hRn hb).1, by omega⟩), (hRn hb).2⟩ (hIx c _ _ _ _ _ hi (but_put _ _ _) (fun j hj => by subst hj; exact ⟨(hno hb).1, .inl (by omega)⟩)) ((World.putObj_heap_other (by omega)).trans (hdef hb))⟩
end Go.Proofs.YtihnjcljheghgaaGreat
end
section
namespace Go.Proofs.YtihnjcljheghgaaGreat
open Go.RowKit Go.Shelf
/-- A state of blocks Rt, and of Z. -/
def YFr (Z : Nat → Prop) (Y : (Nat → Prop) → World → Prop) : Prop := ∀ Rt W W' R, Y Rt W → ButS W W' R → (∀ j, j < W.heap.size → R j → ¬ Z j ∧ ¬ Rt j) → Y Rt W'
/-- What the inner loop keeps: Rt are the blocks that the outer iterator writes. -/
def IKY {β : Type} (Z S : Nat → Prop) (Wq : World) (Y : (Nat → Prop) → World → Prop) (J : List β → (Nat → Prop) → World → Prop) (ys : List β) (O : Nat → Prop) (W : World) : Prop :=
  ∃ Rt : Nat → Prop, (∀ j, O j → ¬ Z j ∧ ¬ S j ∧ j < W.heap.size) ∧ (∀ j, Rt j → O j) ∧ ButS Wq W (fun j => ¬ (Z j ∨ S j)) ∧ Y Rt W ∧ J ys (fun j => j < W.heap.size ∧ ¬ Z j ∧ (¬ O j ∨ Rt j)) W
section
variable {β : Type} {Z S : Nat → Prop} {Wq : World} {Y : (Nat → Prop) → World → Prop} {J : List β → (Nat → Prop) → World → Prop}
theorem IKY.abides {α : Type} (f : List α → List β) (hJ : Steps J) (hY : YFr Z Y) (hZ : ∀ j, Z j → j < Wq.heap.size) : Abides Wq.heap.size (fun pre => IKY Z S Wq Y J (f pre)) := by
  intro s O W W' R ⟨Rt, h1, hr, h2, hy, h3⟩ hw hR
  refine ⟨Rt, fun j hj => ⟨(h1 j hj).1, (h1 j hj).2.1, Nat.lt_of_lt_of_le (h1 j hj).2.2 hw.size⟩, hr, h2.then hw (fun j hj => .inr (hR j hj).2), hY _ _ _ _ hy hw (fun j _ hj => ⟨fun hz => by have := hZ j hz; have := (hR j hj).2; omega, fun h => (hR j hj).1 (hr j h)⟩), ?_⟩
  refine hJ _ _ _ _ _ h3 (hw.mono fun j hlt hj => ⟨hlt, fun hz => by have := hZ j hz; have := (hR j hj).2; omega, .inl (hR j hj).1⟩) (fun j hj => ⟨?_, hj.1⟩)
  by_cases hlt : j < W.heap.size
  · exact .inl ⟨hlt, hj.2.1, hj.2.2⟩
  · exact .inr (by omega)
/-- The outer iterator has written its own blocks, and laid others. -/
theorem IKY.wrote {ys : List β} {O Rt : Nat → Prop} {W W1 : World} (h1 : ∀ j, O j → ¬ Z j ∧ ¬ S j ∧ j < W.heap.size) (hr : ∀ j, Rt j → O j) (h2 : ButS Wq W (fun j => ¬ (Z j ∨ S j))) (h3 : J ys (fun j => j < W.heap.size ∧ ¬ Z j ∧ (¬ O j ∨ Rt j)) W) (hJ : Steps J) (hZ : ∀ j, Z j → j < Wq.heap.size) (hS : ∀ j, S j → j < Wq.heap.size)
    (b : ButS W W1 Rt) (hy2 : Y (fun j => Rt j ∨ (W.heap.size ≤ j ∧ j < W1.heap.size)) W1) :
    ∃ O', OwnStep O O' W W1 ∧ IKY Z S Wq Y J ys O' W1 := by
  have hsz := b.size
  have hs2 := h2.size
  refine ⟨fun j => O j ∨ (W.heap.size ≤ j ∧ j < W1.heap.size), ⟨b.mono fun j _ hj => hr j hj, fun j hj => ?_⟩, fun j => Rt j ∨ (W.heap.size ≤ j ∧ j < W1.heap.size), fun j hj => ?_, fun j hj => ?_, h2.then b (fun j hj => .inl (fun hz => ?_)), hy2, hJ _ _ _ _ _ h3 (b.mono fun j hlt hj => ⟨hlt, (h1 j (hr j hj)).1, .inr hj⟩) (fun j hj => ⟨?_, hj.1⟩)⟩
  · rcases hj with hj | hj
    · exact ⟨.inl hj, by have := (h1 j hj).2.2; omega⟩
    · exact ⟨.inr hj.1, hj.2⟩
  · rcases hj with hj | hj
    · exact ⟨(h1 j hj).1, (h1 j hj).2.1, by have := (h1 j hj).2.2; omega⟩
    · exact ⟨fun hz => by have := hZ j hz; omega, fun hz => by have := hS j hz; omega, hj.2⟩
  · rcases hj with hj | hj
    · exact .inl (hr j hj)
    · exact .inr hj
  · rcases hz with hz | hz
    · exact (h1 j (hr j hj)).1 hz
    · exact (h1 j (hr j hj)).2.1 hz
  · obtain ⟨q1, q2, q3⟩ := hj
    by_cases hlt : j < W.heap.size
    · refine .inl ⟨hlt, q2, ?_⟩
      rcases q3 with q3 | q3 | q3
      · exact .inl (fun h => q3 (.inl h))
      · exact .inr q3
      · omega
    · exact .inr (by omega)
/-- The body has written: a key more is told. -/
theorem IKY.next {ys' : List β} {O : Nat → Prop} {W1 W' : World} {J' : List β → (Nat → Prop) → World → Prop} {Rt : Nat → Prop} (h1 : ∀ j, O j → ¬ Z j ∧ ¬ S j ∧ j < W1.heap.size) (hr : ∀ j, Rt j → O j) (h2 : ButS Wq W1 (fun j => ¬ (Z j ∨ S j))) (hy : Y Rt W1) (hJ : Steps J') (hY : YFr Z Y) (hSl : ∀ j, S j → j < Wq.heap.size ∧ ¬ Z j)
    (hj : J' ys' (fun j => j < W1.heap.size ∧ ¬ Z j ∧ (¬ O j ∨ Rt j)) W') (b : ButS W1 W' (fun j => ¬ (Z j ∨ (j < W1.heap.size ∧ ¬ Z j ∧ (¬ O j ∨ Rt j))))) : ∃ O', OwnStep O O' W1 W' ∧ IKY Z S Wq Y J' ys' O' W' := by
  have hs := b.size
  have hs2 := h2.size
  refine ⟨fun j => j < W'.heap.size ∧ ¬ Z j ∧ ¬ (j < W1.heap.size ∧ ¬ Z j ∧ ¬ O j), ⟨b.mono (fun j hlt hj => ?_), fun j hj => ⟨?_, hj.1⟩⟩, Rt, fun j hj => ⟨hj.2.1, fun hS => ?_, hj.1⟩, fun j hj => ?_, h2.then b (fun j hj => ?_), hY _ _ _ _ hy b (fun j hlt hj => ⟨fun hz => hj (.inl hz), fun ht => hj (.inr ⟨hlt, (h1 j (hr j ht)).1, .inr ht⟩)⟩), hJ _ _ _ _ _ hj (ButS.refl _ _) (fun j hj => ⟨?_, hj.1⟩)⟩
  · exact Classical.byContradiction fun ho => hj (Classical.byContradiction fun hn => hn (.inr ⟨hlt, fun hz => hn (.inl hz), .inl ho⟩))
  · by_cases hlt : j < W1.heap.size
    · exact .inl (Classical.byContradiction fun ho => hj.2.2 ⟨hlt, hj.2.1, ho⟩)
    · exact .inr (by omega)
  · exact hj.2.2 ⟨by have := (hSl j hS).1; omega, hj.2.1, fun ho => (h1 j ho).2.1 hS⟩
  · have := h1 j (hr j hj)
    exact ⟨by omega, this.1, fun h => h.2.2 (hr j hj)⟩
  · by_cases hlt : j < Wq.heap.size
    · refine .inl (fun h => hj ?_)
      rcases h with h | h
      · exact .inl h
      · exact .inr ⟨by omega, (hSl j h).2, .inl (fun ho => (h1 j ho).2.1 h)⟩
    · exact .inr (by omega)
  · obtain ⟨q1, q2, q3⟩ := hj
    refine .inl ?_
    rcases q3 with q3 | q3
    · have : j < W1.heap.size ∧ ¬ Z j ∧ ¬ O j := Classical.byContradiction fun h => q3 ⟨q1, q2, h⟩
      exact ⟨this.1, this.2.1, .inl this.2.2⟩
    · exact ⟨(h1 j (hr j q3)).2.2, q2, .inr q3⟩
end
end Go.Proofs.YtihnjcljheghgaaGreat
end
