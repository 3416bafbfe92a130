/- Two links are joined; the text walked. Links in a row, told by the list of their places and keys: plain lemmas. -/
import Derived.Test.YtialjokdaniofaaGreatMp05
section
namespace Go.Proofs.YtialjokdaniofaaGreat
set_option maxRecDepth 20000
open Go.RowKit
set_option linter.unusedSectionVars false
variable [Gh]
def ndi (ns : List (Nd × Bool)) (i : Int) : Nd := ((ns[i.toNat]?).getD (Nd.z, true)).1
/-- The link i with another one behind it; or ahead of it. -/
def setb (ns : List (Nd × Bool)) (i b : Int) : List (Nd × Bool) := if lvq ns i then ns.set i.toNat (⟨(ndi ns i).key, (ndi ns i).ah, b⟩, true) else ns
def seta (ns : List (Nd × Bool)) (i a : Int) : List (Nd × Bool) := if lvq ns i then ns.set i.toNat (⟨(ndi ns i).key, a, (ndi ns i).be⟩, true) else ns
theorem lvq_form {ns : List (Nd × Bool)} {i : Int} (h : lvq ns i = true) : ∃ k : Nat, i = (k : Int) ∧ ∃ hk : k < ns.length, ns[k] = (ndi ns i, true) := by
  unfold lvq at h
  rw [Bool.and_eq_true, decide_eq_true_eq] at h
  obtain ⟨h0, h1⟩ := h
  refine ⟨i.toNat, by omega, ?_⟩
  rcases Nat.lt_or_ge i.toNat ns.length with hk | hk
  · rw [List.getElem?_eq_getElem hk] at h1
    simp at h1
    refine ⟨hk, ?_⟩
    unfold ndi
    rw [List.getElem?_eq_getElem hk]
    simp only [Option.getD_some]
    rw [← h1]
  · rw [List.getElem?_eq_none hk] at h1
    simp at h1
theorem lvq_set {ns : List (Nd × Bool)} {k : Nat} (hk : k < ns.length) (ht : ns[k].2 = true) (y : Nd) (i : Int) : lvq (ns.set k (y, true)) i = lvq ns i := by
  unfold lvq
  congr 1
  rw [List.getElem?_set]
  split
  · rename_i e
    rw [← e, List.getElem?_eq_getElem hk]
    simp [ht]
  · rfl
theorem lvq_setb (ns : List (Nd × Bool)) (i b j : Int) : lvq (setb ns i b) j = lvq ns j := by
  unfold setb
  split
  · rename_i h
    obtain ⟨k, rfl, hk, e⟩ := lvq_form h
    exact lvq_set hk (by rw [e]) _ _
  · rfl
theorem lvq_seta (ns : List (Nd × Bool)) (i b j : Int) : lvq (seta ns i b) j = lvq ns j := by
  unfold seta
  split
  · rename_i h
    obtain ⟨k, rfl, hk, e⟩ := lvq_form h
    exact lvq_set hk (by rw [e]) _ _
  · rfl
section
variable (w : World) (C Q M lim cn cf : Nat) (fi la : Int) (An Af : Option Addr) (ns : List (Nd × Bool)) (fs : List Nat)
theorem c_chg1 (h : Cb w C Q M fi la) (a : Qo w Q M lim An cn Af cf ns fs) (i : Int) (B : Nat) (b : Int) (hB : w.cell? ⟨B, 0, none⟩ = some (.int .i64 b)) (hBl : B < w.heap.size) :
    Calls Tryz.prog 177 #[.pointer (some ⟨C, 0, none⟩), .int .i64 i, .func (.func 178) #[] #[.pointer (some ⟨B, 0, none⟩)]] w fun e w' => e = .returned (.bool (lvq ns i)) ∧ QStep w Q M lim An Af (setb ns i b) fs w' := by
  unfold setb
  cases hi : lvq ns i with
  | true =>
    obtain ⟨k, rfl, hk, e⟩ := lvq_form hi
    exact c_change1 w C Q M lim cn cf fi la An Af ns fs h a k hk _ _ _ e B b hB hBl
  | false =>
    refine (c_change_no w C Q M lim cn cf fi la An Af ns fs h a i _ hi).mono ?_
    rintro e w' ⟨rfl, hb⟩
    exact ⟨rfl, An, cn, Af, cf, a.chg (K.Chg.of_below (O := fun _ => False) hb) (fun _ _ h => h), K.Chg.of_below hb, fun j hj => .inl hj⟩
theorem c_chg2 (h : Cb w C Q M fi la) (a : Qo w Q M lim An cn Af cf ns fs) (i : Int) (B : Nat) (b : Int) (hB : w.cell? ⟨B, 0, none⟩ = some (.int .i64 b)) (hBl : B < w.heap.size) :
    Calls Tryz.prog 177 #[.pointer (some ⟨C, 0, none⟩), .int .i64 i, .func (.func 179) #[] #[.pointer (some ⟨B, 0, none⟩)]] w fun e w' => e = .returned (.bool (lvq ns i)) ∧ QStep w Q M lim An Af (seta ns i b) fs w' := by
  unfold seta
  cases hi : lvq ns i with
  | true =>
    obtain ⟨k, rfl, hk, e⟩ := lvq_form hi
    exact c_change2 w C Q M lim cn cf fi la An Af ns fs h a k hk _ _ _ e B b hB hBl
  | false =>
    refine (c_change_no w C Q M lim cn cf fi la An Af ns fs h a i _ hi).mono ?_
    rintro e w' ⟨rfl, hb⟩
    exact ⟨rfl, An, cn, Af, cf, a.chg (K.Chg.of_below (O := fun _ => False) hb) (fun _ _ h => h), K.Chg.of_below hb, fun j hj => .inl hj⟩
/-- The blocks of a chain. -/
def CB (C Q : Nat) (An Af : Option Addr) (j : Nat) : Prop := j = C ∨ QB Q An Af j
/-- What a call that changes a chain leaves. -/
def CStep (w : World) (C Q M lim : Nat) (An Af : Option Addr) (fi' la' : Int) (ns' : List (Nd × Bool)) (fs' : List Nat) (w' : World) : Prop :=
  ∃ An' cn' Af' cf', Cb w' C Q M fi' la' ∧ Qo w' Q M lim An' cn' Af' cf' ns' fs' ∧ K.Chg w w' (CB C Q An Af) ∧ ∀ j, QB Q An' Af' j → QB Q An Af j ∨ w.heap.size ≤ j
theorem c_join (h : Cb w C Q M fi la) (q : Qo w Q M lim An cn Af cf ns fs) (a b : Int) :
    Calls Tryz.prog 161 #[.pointer (some ⟨C, 0, none⟩), .int .i64 a, .int .i64 b] w fun e w' => e = .returned (.tuple #[]) ∧ CStep w C Q M lim An Af (if lvq ns a then fi else b) (if lvq ns b then la else a) (seta (setb ns a b) b a) fs w' := by
  obtain ⟨W0, hW0⟩ : ∃ W0, (w.alloc (.cells #[.int .i64 a] 3)).alloc (.cells #[.int .i64 b] 3) = W0 := ⟨_, rfl⟩
  have hb0 : Below w.heap.size w W0 := by rw [← hW0]; exact ((Below.refl _ w).alloc (Nat.le_refl _) _).alloc (by simp) _
  have hz0 : W0.heap.size = w.heap.size + 2 := by rw [← hW0]; simp
  have x1 : W0.heap[w.heap.size]? = some (.cells #[.int .i64 a] 3 (0, 0)) := by rw [← hW0]; exact (Below.heap_alloc _ _ _ (by simp)).trans (K.alloc_top _ _)
  have x2 : W0.heap[w.heap.size + 1]? = some (.cells #[.int .i64 b] 3 (0, 0)) := by
    rw [← hW0]
    have := K.alloc_top (w.alloc (.cells #[.int .i64 a] 3)) (.cells #[.int .i64 b] 3)
    rw [World.size_alloc] at this
    exact this
  have h0 := h.chg (K.Chg.of_below (O := fun _ => False) hb0) (fun h => h)
  have q0 := q.chg (K.Chg.of_below (O := fun _ => False) hb0) (fun _ _ h => h)
  have hcl := h.lt
  have y1 : W0.cell? ⟨w.heap.size, 0, none⟩ = some (.int .i64 a) := cell_of_row W0 _ 0 _ _ (0, 0) x1
  have y2 : W0.cell? ⟨w.heap.size + 1, 0, none⟩ = some (.int .i64 b) := cell_of_row W0 _ 0 _ _ (0, 0) x2
  have HC1 := Lib.hid (c_chg1 W0 C Q M lim cn cf fi la An Af ns fs h0 q0 a (w.heap.size + 1) b y2 (by omega))
  have HQB := Lib.hid (fun j (hj : QB Q An Af j) => q.qb hj)
  have HNC := Lib.hid (h.qb q)
  have HH0 := Lib.hid h0
  have HB0 := Lib.hid hb0
  have HX1 := Lib.hid x1
  have HX2 := Lib.hid x2
  have hlv := lvq_setb ns a b b
  have hmf : ∀ (fn : Fn) (first cap : Array Value) (w : World), (Instr.makeFunc fn first cap).run Tryz.prog w = .ok (.func fn first cap) w := fun _ _ _ _ => rfl
  have fin : Hid (∀ (w2 w3 w4 : World) (f' : Int) (l' : Int) (An2 Af2 : Option Addr), K.Chg W0 w2 (QB Q An Af) → (∀ j, QB Q An2 Af2 j → QB Q An Af j ∨ W0.heap.size ≤ j) → K.Chg w2 w3 (· = C) → QStep w3 Q M lim An2 Af2 (seta (setb ns a b) b a) fs w4 → (w2.heap.size ≤ w3.heap.size) → Cb w3 C Q M f' l' → ¬ QB Q An2 Af2 C → CStep w C Q M lim An Af f' l' (seta (setb ns a b) b a) fs w4 ∧ CStep w C Q M lim An Af f' a (seta (setb ns a b) b a) fs (w4.setCell ⟨C, 3, none⟩ (.int .i64 a))) := by
    intro w2 w3 w4 f' l' An2 Af2 g1 g2 g3 ⟨An', cn', Af', cf', g4, g5, g6⟩ g7 g8 g9
    have s2 := g1.size
    have c1 : K.Chg w w4 (CB C Q An Af) := by
      refine (((K.Chg.of_below (O := CB C Q An Af) hb0).trans g1 (fun j hj => .inl (.inr hj))).trans g3 (fun j hj => .inl (.inl hj))).trans g5 (fun j hj => ?_)
      rcases g2 j hj with h | h
      · exact .inl (.inr h)
      · right; omega
    have c2 : ∀ j, QB Q An' Af' j → QB Q An Af j ∨ w.heap.size ≤ j := fun j hj => by
      rcases g6 j hj with h | h
      · rcases g2 j h with h | h
        · exact .inl h
        · right; omega
      · right; omega
    have c3 := g8.chg g5 g9
    have g4c := g4
    refine ⟨⟨An', cn', Af', cf', c3, g4, c1, c2⟩, ⟨An', cn', Af', cf', c3.set3 a, g4.chg (chg_set w4 C 3 _ (· = C) rfl) (fun j hj e => by subst e; exact c3.qb g4c hj), c1.same (chg_set w4 C 3 _ _ (.inl rfl)), c2⟩⟩
  have HCl := Lib.hid hcl
  clear h q h0 q0 hb0 x1 x2 y2 hcl
  go_enter Tryz.func161, Tryz.ntmps161
  cases hla : lvq ns a <;> cases hlb : lvq ns b <;> simp only [Bool.false_eq_true, if_true, if_false] <;> rw [hla] at HC1 <;> rw [hlb] at hlv
  all_goals
    go_wp2_with (first
      | (go_at_call 177; (with_reducible refine HC1.out.mono ?_); rintro e w2 ⟨rfl, An2, cn2, Af2, cf2, hq2, hc2, hi2⟩
         have s2 := hc2.size
         have n1 : ¬ QB Q An Af w.heap.size := fun hj => by have := HQB.out _ hj; omega
         have n2 : ¬ QB Q An Af (w.heap.size + 1) := fun hj => by have := HQB.out _ hj; omega
         have z1 := (hc2.block w.heap.size (by omega) n1).trans HX1.out
         have z2 := (hc2.block (w.heap.size + 1) (by omega) n2).trans HX2.out
         have k1 : w2.cell? ⟨w.heap.size, 0, none⟩ = some (.int .i64 a) := cell_of_row w2 _ 0 _ _ (0, 0) z1
         have k2 : w2.cell? ⟨w.heap.size + 1, 0, none⟩ = some (.int .i64 b) := cell_of_row w2 _ 0 _ _ (0, 0) z2
         have hh2 := HH0.out.chg hc2 HNC.out
         have fr := hh2.fr 2
         have fr3 := hh2.fr 3
         have e2 := hh2.c2
         have e3 := hh2.c3
         have cl := HCl.out
         have HH2 := Lib.hid hh2
         have HQ2 := Lib.hid hq2
         have HI2 := Lib.hid hi2
         have HK2 := Lib.hid hc2
         clear hq2 hc2 hi2 z1 z2 hh2)
      | (go_at_call 177; (with_reducible refine (c_chg2 w2 C Q M lim cn2 cf2 fi la An2 Af2 _ fs HH2.out HQ2.out b w.heap.size a k1 (by omega)).mono ?_); rintro e w4 ⟨rfl, hq4⟩
         rw [hlv]
         have HD := Lib.hid (fin.out w2 w2 w4 fi la An2 Af2 HK2.out HI2.out (chg_refl w2 _) hq4 (Nat.le_refl _) HH2.out (HH2.out.qb HQ2.out))
         have hh4 := HH2.out.chg hq4.choose_spec.choose_spec.choose_spec.choose_spec.2.1 (HH2.out.qb HQ2.out)
         have fr4 := hh4.fr 3
         have e4 := hh4.c3
         have n5 : ¬ QB Q An2 Af2 w.heap.size := fun hj => by rcases HI2.out _ hj with h | h; exact n1 h; omega
         have k5 : w4.cell? ⟨w.heap.size, 0, none⟩ = some (.int .i64 a) := (hq4.choose_spec.choose_spec.choose_spec.choose_spec.2.1.cell (by omega) n5 0).trans k1
         clear hq4 hh4)
      | (go_at_call 177; (with_reducible refine (c_chg2 (w2.setCell ⟨C, 2, none⟩ (.int .i64 b)) C Q M lim cn2 cf2 b la An2 Af2 _ fs (HH2.out.set2 b) (HQ2.out.chg (chg_set w2 C 2 _ (· = C) rfl) (fun j hj e => (by have e2 : j = C := e; subst e2; exact absurd hj (HH2.out.qb HQ2.out)))) b w.heap.size a (((chg_set w2 C 2 _ (· = C) rfl).cell (by omega) (fun e => (by have e2 : w.heap.size = C := e; omega)) 0).trans k1) (by rw [size_set]; omega)).mono ?_); rintro e w4 ⟨rfl, hq4⟩
         rw [hlv]
         have hnq2 := HH2.out.qb HQ2.out
         have HD := Lib.hid (fin.out w2 (w2.setCell ⟨C, 2, none⟩ (.int .i64 b)) w4 b la An2 Af2 HK2.out HI2.out (chg_set w2 C 2 _ _ rfl) hq4 (by rw [size_set]; exact Nat.le_refl _) (HH2.out.set2 b) hnq2)
         have hh4 := (HH2.out.set2 b).chg hq4.choose_spec.choose_spec.choose_spec.choose_spec.2.1 hnq2
         have fr4 := hh4.fr 3
         have e4 := hh4.c3
         have n5 : ¬ QB Q An2 Af2 w.heap.size := fun hj => by rcases HI2.out _ hj with h | h; exact n1 h; omega
         have k5 : w4.cell? ⟨w.heap.size, 0, none⟩ = some (.int .i64 a) := (hq4.choose_spec.choose_spec.choose_spec.choose_spec.2.1.cell (by rw [size_set]; omega) n5 0).trans (((chg_set w2 C 2 _ (· = C) rfl).cell (by omega) (fun e => (by have e2 : w.heap.size = C := e; omega)) 0).trans k1)
         clear hq4 hh4))
    go_end0
    first
    | exact ⟨rfl, HD.out.1⟩
    | exact ⟨rfl, HD.out.2⟩
end
end Go.Proofs.YtialjokdaniofaaGreat
end
section
namespace Go.Proofs.YtialjokdaniofaaGreat
set_option maxRecDepth 20000
open Go.RowKit
set_option linter.unusedSectionVars false
variable [Gh]
abbrev LL := List (Nat × Nat)
def hd (L : LL) (b : Int) : Int := match L with | [] => b | x :: _ => (x.1 : Int)
def lst (a : Int) (L : LL) : Int := match L with | [] => a | x :: L => lst (x.1 : Int) L
/-- The links L stand one behind the other, ahead of them a, behind them b. -/
def Seg (ns : List (Nd × Bool)) (a : Int) (L : LL) (b : Int) : Prop := match L with
  | [] => True
  | x :: L => ns[x.1]? = some (⟨x.2, a, hd L b⟩, true) ∧ Seg ns (x.1 : Int) L b
theorem hd_app (L1 L2 : LL) (b : Int) : hd (L1 ++ L2) b = hd L1 (hd L2 b) := by cases L1 <;> rfl
theorem lst_app (L1 L2 : LL) (a : Int) : lst a (L1 ++ L2) = lst (lst a L1) L2 := by
  induction L1 generalizing a with
  | nil => rfl
  | cons x L1 ih => exact ih _
theorem seg_app {ns : List (Nd × Bool)} {L1 L2 : LL} {a b : Int} : Seg ns a (L1 ++ L2) b ↔ Seg ns a L1 (hd L2 b) ∧ Seg ns (lst a L1) L2 b := by
  induction L1 generalizing a with
  | nil => simp [Seg, lst]
  | cons x L1 ih =>
    show (_ ∧ Seg ns _ (L1 ++ L2) b) ↔ (_ ∧ Seg ns _ L1 _) ∧ Seg ns (lst _ L1) L2 b
    rw [ih, ← hd_app]
    exact ⟨fun ⟨h1, h2, h3⟩ => ⟨⟨h1, h2⟩, h3⟩, fun ⟨⟨h1, h2⟩, h3⟩ => ⟨h1, h2, h3⟩⟩
theorem seg_frame {ns ns' : List (Nd × Bool)} {L : LL} {a b : Int} (h : Seg ns a L b) (hf : ∀ x ∈ L, ns'[x.1]? = ns[x.1]?) : Seg ns' a L b := by
  induction L generalizing a with
  | nil => trivial
  | cons x L ih => exact ⟨(hf x (by simp)).trans h.1, ih h.2 (fun y hy => hf y (by simp [hy]))⟩
theorem seg_live {ns : List (Nd × Bool)} {L : LL} {a b : Int} (h : Seg ns a L b) {x : Nat × Nat} (hx : x ∈ L) : ∃ nd : Nd, ns[x.1]? = some (nd, true) ∧ nd.key = x.2 := by
  induction L generalizing a with
  | nil => cases hx
  | cons y L ih =>
    rcases List.mem_cons.1 hx with rfl | hx
    · exact ⟨_, h.1, rfl⟩
    · exact ih h.2 hx
theorem lvq_some {ns : List (Nd × Bool)} {k : Nat} {nd : Nd} (h : ns[k]? = some (nd, true)) : lvq ns (k : Int) = true := by
  unfold lvq
  simp [h]
theorem ndi_some {ns : List (Nd × Bool)} {k : Nat} {nd : Nd} (h : ns[k]? = some (nd, true)) : ndi ns (k : Int) = nd := by
  unfold ndi
  simp [h]
theorem lvq_neg {ns : List (Nd × Bool)} {i : Int} (h : i < 0) : lvq ns i = false := by
  unfold lvq
  rw [decide_eq_false (by omega)]
  rfl
theorem setb_some {ns : List (Nd × Bool)} {k : Nat} {nd : Nd} (h : ns[k]? = some (nd, true)) (b : Int) : setb ns (k : Int) b = ns.set k (⟨nd.key, nd.ah, b⟩, true) := by
  unfold setb
  rw [lvq_some h, if_pos rfl, ndi_some h]
  rfl
theorem seta_some {ns : List (Nd × Bool)} {k : Nat} {nd : Nd} (h : ns[k]? = some (nd, true)) (b : Int) : seta ns (k : Int) b = ns.set k (⟨nd.key, b, nd.be⟩, true) := by
  unfold seta
  rw [lvq_some h, if_pos rfl, ndi_some h]
  rfl
theorem setb_ne (ns : List (Nd × Bool)) {i b : Int} {j : Nat} (h : (j : Int) ≠ i) : (setb ns i b)[j]? = ns[j]? := by
  unfold setb
  split
  · rename_i hl
    obtain ⟨k, rfl, _⟩ := lvq_form hl
    rw [List.getElem?_set_ne]
    rw [Int.toNat_natCast]
    intro e; subst e; exact h rfl
  · rfl
theorem seta_ne (ns : List (Nd × Bool)) {i b : Int} {j : Nat} (h : (j : Int) ≠ i) : (seta ns i b)[j]? = ns[j]? := by
  unfold seta
  split
  · rename_i hl
    obtain ⟨k, rfl, _⟩ := lvq_form hl
    rw [List.getElem?_set_ne]
    rw [Int.toNat_natCast]
    intro e; subst e; exact h rfl
  · rfl
theorem get_set {ns : List (Nd × Bool)} {k : Nat} {x y : Nd × Bool} (h : ns[k]? = some x) : (ns.set k y)[k]? = some y := by
  have hk : k < ns.length := (List.getElem?_eq_some_iff.1 h).1
  simp [hk]
theorem setb_at {ns : List (Nd × Bool)} {k : Nat} {nd : Nd} (h : ns[k]? = some (nd, true)) (b : Int) : (setb ns (k : Int) b)[k]? = some (⟨nd.key, nd.ah, b⟩, true) := by
  rw [setb_some h]
  exact get_set h
theorem seta_at {ns : List (Nd × Bool)} {k : Nat} {nd : Nd} (h : ns[k]? = some (nd, true)) (b : Int) : (seta ns (k : Int) b)[k]? = some (⟨nd.key, b, nd.be⟩, true) := by
  rw [seta_some h]
  exact get_set h
theorem setb_len (ns : List (Nd × Bool)) (i b : Int) : (setb ns i b).length = ns.length := by
  unfold setb
  split <;> simp
theorem seta_len (ns : List (Nd × Bool)) (i b : Int) : (seta ns i b).length = ns.length := by
  unfold seta
  split <;> simp
theorem lst_mem {a : Int} {L : LL} (h : L ≠ []) : ∃ x ∈ L, lst a L = (x.1 : Int) := by
  induction L generalizing a with
  | nil => exact absurd rfl h
  | cons x L ih =>
    cases L with
    | nil => exact ⟨x, by simp, rfl⟩
    | cons y L =>
      obtain ⟨z, hz, e⟩ := ih (a := (x.1 : Int)) (by simp)
      exact ⟨z, by simp [hz], e⟩
/-- The last link with another one behind it. -/
theorem seg_setb {ns : List (Nd × Bool)} {L : LL} {a c : Int} (h : Seg ns a L c) (hn : (L.map (·.1)).Nodup) (b : Int) : Seg (setb ns (lst a L) b) a L b := by
  induction L generalizing a with
  | nil => trivial
  | cons x L ih =>
    rw [List.map_cons, List.nodup_cons] at hn
    cases L with
    | nil =>
      refine ⟨?_, trivial⟩
      show (setb ns (x.1 : Int) b)[x.1]? = _
      exact setb_at h.1 b
    | cons y L =>
      refine ⟨?_, ih h.2 hn.2⟩
      rw [setb_ne]
      · exact h.1
      · intro e
        obtain ⟨z, hz, e2⟩ := lst_mem (a := (x.1 : Int)) (L := y :: L) (by simp)
        have e3 : (x.1 : Int) = (z.1 : Int) := e.trans e2
        exact hn.1 (List.mem_map.2 ⟨z, hz, by omega⟩)
/-- The first link with another one ahead of it. -/
theorem seg_seta {ns : List (Nd × Bool)} {L : LL} {a c : Int} (h : Seg ns a L c) (hn : (L.map (·.1)).Nodup) (b : Int) : Seg (seta ns (hd L c) b) b L c := by
  cases L with
  | nil => trivial
  | cons x L =>
    rw [List.map_cons, List.nodup_cons] at hn
    refine ⟨seta_at h.1 b, seg_frame h.2 (fun y hy => seta_ne _ ?_)⟩
    intro e
    have e2 : (y.1 : Int) = (x.1 : Int) := e
    exact hn.1 (List.mem_map.2 ⟨y, hy, by omega⟩)
theorem lst_ne {L : LL} {n : Nat} (h : ∀ x ∈ L, x.1 ≠ n) : (n : Int) ≠ lst (-1) L := by
  intro e
  by_cases hL : L = []
  · subst hL
    have : (n : Int) = -1 := e
    omega
  · obtain ⟨x, hx, e2⟩ := lst_mem (a := -1) hL
    exact h x hx (by omega)
theorem hd_mem {L : LL} (h : L ≠ []) : ∃ x ∈ L, ∀ b, hd L b = (x.1 : Int) := by
  cases L with
  | nil => exact absurd rfl h
  | cons x L => exact ⟨x, by simp, fun _ => rfl⟩
theorem hd_ne {L : LL} {n : Nat} (h : ∀ x ∈ L, x.1 ≠ n) : (n : Int) ≠ hd L (-1) := by
  intro e
  by_cases hL : L = []
  · subst hL
    have : (n : Int) = -1 := e
    omega
  · obtain ⟨x, hx, e2⟩ := hd_mem hL
    have := e2 (-1)
    exact h x hx (by omega)
theorem nod_app {L1 L2 : LL} (hn : ((L1 ++ L2).map (·.1)).Nodup) : (L1.map (·.1)).Nodup ∧ (L2.map (·.1)).Nodup ∧ ∀ x ∈ L1, ∀ y ∈ L2, x.1 ≠ y.1 := by
  rw [List.map_append, List.nodup_append] at hn
  exact ⟨hn.1, hn.2.1, fun x hx y hy => hn.2.2 _ (List.mem_map.2 ⟨x, hx, rfl⟩) _ (List.mem_map.2 ⟨y, hy, rfl⟩)⟩
/-- A link more, behind L1. -/
theorem seg_more {ns ns2 : List (Nd × Bool)} {L1 L2 : LL} {n k : Nat} {nd : Nd} (h : Seg ns (-1) (L1 ++ L2) (-1)) (hn : ((L1 ++ L2).map (·.1)).Nodup) (hx : ∀ x ∈ L1 ++ L2, x.1 ≠ n)
    (h2 : ns2[n]? = some (nd, true)) (hk : nd.key = k) (hf : ∀ j, j ≠ n → ns2[j]? = ns[j]?) :
    Seg (seta (setb (seta (setb ns2 (lst (-1) L1) n) n (lst (-1) L1)) n (hd L2 (-1))) (hd L2 (-1)) n) (-1) (L1 ++ (n, k) :: L2) (-1) := by
  obtain ⟨hn1, hn2, hn12⟩ := nod_app hn
  have hx1 : ∀ x ∈ L1, x.1 ≠ n := fun x h => hx x (List.mem_append_left _ h)
  have hx2 : ∀ x ∈ L2, x.1 ≠ n := fun x h => hx x (List.mem_append_right _ h)
  obtain ⟨s1, s2⟩ := seg_app.1 h
  have s1 := seg_frame s1 (fun x hm => hf _ (hx1 x hm))
  have s2 := seg_frame s2 (fun x hm => hf _ (hx2 x hm))
  have na := lst_ne hx1
  have nb := hd_ne hx2
  have nl2 : ∀ y ∈ L2, (y.1 : Int) ≠ lst (-1) L1 := fun y hy => lst_ne (fun x hx => hn12 x hx y hy)
  have nh1 : ∀ x ∈ L1, (x.1 : Int) ≠ hd L2 (-1) := fun x hx => hd_ne (fun y hy => Ne.symm (hn12 x hx y hy))
  -- the link ahead
  have t1 := seg_setb s1 hn1 (n : Int)
  have t2 := seg_frame s2 (fun y hy => setb_ne ns2 (b := (n : Int)) (nl2 y hy))
  have t3 : (setb ns2 (lst (-1) L1) n)[n]? = some (nd, true) := (setb_ne ns2 na).trans h2
  generalize setb ns2 (lst (-1) L1) n = m1 at *
  have u3 := seta_at t3 (lst (-1) L1)
  have t1 := seg_frame t1 (fun x hm => seta_ne m1 (i := (n : Int)) (b := lst (-1) L1) (fun e => hx1 x hm (by omega)))
  have t2 := seg_frame t2 (fun x hm => seta_ne m1 (i := (n : Int)) (b := lst (-1) L1) (fun e => hx2 x hm (by omega)))
  generalize seta m1 n (lst (-1) L1) = m2 at *
  have u4 := setb_at u3 (hd L2 (-1))
  have t1 := seg_frame t1 (fun x hm => setb_ne m2 (i := (n : Int)) (b := hd L2 (-1)) (fun e => hx1 x hm (by omega)))
  have t2 := seg_frame t2 (fun x hm => setb_ne m2 (i := (n : Int)) (b := hd L2 (-1)) (fun e => hx2 x hm (by omega)))
  generalize setb m2 n (hd L2 (-1)) = m3 at *
  have t2 := seg_seta t2 hn2 (n : Int)
  have t1 := seg_frame t1 (fun x hm => seta_ne m3 (b := (n : Int)) (nh1 x hm))
  have u5 := (seta_ne m3 (b := (n : Int)) nb).trans u4
  refine seg_app.2 ⟨t1, ?_, t2⟩
  rw [u5]
  show _ = some ((⟨k, _, _⟩ : Nd), true)
  rw [← hk]
/-- A link less. -/
theorem seg_less {ns : List (Nd × Bool)} {L1 L2 : LL} {n k : Nat} {x : Nd × Bool} (h : Seg ns (-1) (L1 ++ (n, k) :: L2) (-1)) (hn : ((L1 ++ (n, k) :: L2).map (·.1)).Nodup) :
    Seg (seta (setb (ns.set n x) (lst (-1) L1) (hd L2 (-1))) (hd L2 (-1)) (lst (-1) L1)) (-1) (L1 ++ L2) (-1) := by
  obtain ⟨hn1, hn2, hn12⟩ := nod_app hn
  rw [List.map_cons, List.nodup_cons] at hn2
  have hx1 : ∀ x ∈ L1, x.1 ≠ n := fun x h => hn12 x h (n, k) (by simp)
  have hx2 : ∀ x ∈ L2, x.1 ≠ n := fun x h e => hn2.1 (List.mem_map.2 ⟨x, h, e⟩)
  have hn12 : ∀ x ∈ L1, ∀ y ∈ L2, x.1 ≠ y.1 := fun x hx y hy => hn12 x hx y (by simp [hy])
  obtain ⟨s1, _, s2⟩ := seg_app.1 h
  have nl2 : ∀ y ∈ L2, (y.1 : Int) ≠ lst (-1) L1 := fun y hy => lst_ne (fun x hx => hn12 x hx y hy)
  have nh1 : ∀ x ∈ L1, (x.1 : Int) ≠ hd L2 (-1) := fun x hx => hd_ne (fun y hy => Ne.symm (hn12 x hx y hy))
  have s1 := seg_frame (ns' := ns.set n x) s1 (fun y hm => List.getElem?_set_ne (Ne.symm (hx1 y hm)))
  have s2 := seg_frame (ns' := ns.set n x) s2 (fun y hm => List.getElem?_set_ne (Ne.symm (hx2 y hm)))
  generalize ns.set n x = m0 at *
  have t1 := seg_setb s1 hn1 (hd L2 (-1))
  have t2 := seg_frame s2 (fun y hy => setb_ne m0 (b := hd L2 (-1)) (nl2 y hy))
  generalize setb m0 (lst (-1) L1) (hd L2 (-1)) = m1 at *
  have t2 := seg_seta t2 hn2.2 (lst (-1) L1)
  have t1 := seg_frame t1 (fun x hm => seta_ne m1 (b := lst (-1) L1) (nh1 x hm))
  exact seg_app.2 ⟨t1, t2⟩
theorem lvq_lst {ns : List (Nd × Bool)} {L : LL} {b : Int} (h : Seg ns (-1) L b) : lvq ns (lst (-1) L) = !L.isEmpty := by
  by_cases hL : L = []
  · subst hL
    exact lvq_neg (by decide)
  · obtain ⟨x, hx, e⟩ := lst_mem (a := -1) hL
    obtain ⟨nd, h1, _⟩ := seg_live h hx
    rw [e, lvq_some h1]
    cases L
    · exact absurd rfl hL
    · rfl
theorem lvq_hd {ns : List (Nd × Bool)} {L : LL} {a : Int} (h : Seg ns a L (-1)) : lvq ns (hd L (-1)) = !L.isEmpty := by
  cases L with
  | nil => exact lvq_neg (by decide)
  | cons x L => exact lvq_some h.1
/-- What is not a link's place. -/
theorem seg_at {ns : List (Nd × Bool)} {L1 L2 : LL} {n k : Nat} {a b : Int} (h : Seg ns a (L1 ++ (n, k) :: L2) b) : ns[n]? = some (⟨k, lst a L1, hd L2 b⟩, true) := (seg_app.1 h).2.1
end Go.Proofs.YtialjokdaniofaaGreat
end
