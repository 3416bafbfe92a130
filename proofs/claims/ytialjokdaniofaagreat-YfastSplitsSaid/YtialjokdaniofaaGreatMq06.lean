/- A link is changed by what one says of it; the text walked. Two links are joined; the text walked. -/
import Derived.Test.YtialjokdaniofaaGreatMq05
section
namespace Go.Proofs.YtialjokdaniofaaGreat
set_option maxRecDepth 20000
open Go.RowKit
set_option linter.unusedSectionVars false
variable [Gh]
/-- Block C is a chain's struct: its meter, its links, the ends. -/
structure Cb (w : World) (C Q M : Nat) (fi la : Int) : Prop where
  row : w.heap[C]? = some (.cells #[.pointer (some ⟨M, 0, none⟩), .pointer (some ⟨Q, 0, none⟩), .int .i64 fi, .int .i64 la] 112 (0, 0))
section
variable {w w' : World} {C Q M : Nat} {fi la : Int}
theorem Cb.c0 (h : Cb w C Q M fi la) : w.cell? ⟨C, 0, none⟩ = some (.pointer (some ⟨M, 0, none⟩)) := cell_of_row w C 0 _ _ (0, 0) h.row
theorem Cb.c1 (h : Cb w C Q M fi la) : w.cell? ⟨C, 1, none⟩ = some (.pointer (some ⟨Q, 0, none⟩)) := cell_of_row w C 1 _ _ (0, 0) h.row
theorem Cb.c2 (h : Cb w C Q M fi la) : w.cell? ⟨C, 2, none⟩ = some (.int .i64 fi) := cell_of_row w C 2 _ _ (0, 0) h.row
theorem Cb.c3 (h : Cb w C Q M fi la) : w.cell? ⟨C, 3, none⟩ = some (.int .i64 la) := cell_of_row w C 3 _ _ (0, 0) h.row
theorem Cb.lt (h : Cb w C Q M fi la) : C < w.heap.size := row_lt h.row
theorem Cb.fr (h : Cb w C Q M fi la) (k : Nat) : w.frozen? ⟨C, k, none⟩ = false := frozen_of_row w C k _ _ h.row
theorem Cb.chg {O : Nat → Prop} (h : Cb w C Q M fi la) (b : K.Chg w w' O) (hO : ¬ O C) : Cb w' C Q M fi la := ⟨(b.block C h.lt hO).trans h.row⟩
theorem Cb.set2 (h : Cb w C Q M fi la) (x : Int) : Cb (w.setCell ⟨C, 2, none⟩ (.int .i64 x)) C Q M x la := ⟨by
  have := row_set h.row 2 (.int .i64 x)
  simpa using this⟩
theorem Cb.set3 (h : Cb w C Q M fi la) (x : Int) : Cb (w.setCell ⟨C, 3, none⟩ (.int .i64 x)) C Q M fi x := ⟨by
  have := row_set h.row 3 (.int .i64 x)
  simpa using this⟩
theorem Cb.qb {lim cn cf : Nat} {An Af : Option Addr} {ns : List (Nd × Bool)} {fs : List Nat} (h : Cb w C Q M fi la) (a : Qo w Q M lim An cn Af cf ns fs) : ¬ QB Q An Af C := by
  rintro (e | e | e)
  · exact row_ne h.row a.row (by decide) e
  · obtain ⟨_, cur, hc⟩ := own_block_lt a.nodes e
    exact row_ne hc h.row (by decide) rfl
  · obtain ⟨_, cur, hc⟩ := own_block_lt a.freed e
    exact row_ne hc h.row (by decide) rfl
end
section
variable (w : World) (C Q M lim cn cf : Nat) (fi la : Int) (An Af : Option Addr) (ns : List (Nd × Bool)) (fs : List Nat)
theorem c_change_no (h : Cb w C Q M fi la) (a : Qo w Q M lim An cn Af cf ns fs) (i : Int) (f : Value) (hi : lvq ns i = false) :
    Calls Tryz.prog 177 #[.pointer (some ⟨C, 0, none⟩), .int .i64 i, f] w fun e w' => e = .returned (.bool false) ∧ Below w.heap.size w w' := by
  have hp := Lib.hid (q_peek_no w Q M lim cn cf An Af ns fs a i hi)
  have h1 := h.c1
  clear h a hi
  go_enter Tryz.func177, Tryz.ntmps177
  go_wp2_with (go_at_call 141; (with_reducible refine hp.out.mono ?_); rintro e w1 ⟨rfl, hb1⟩; have HB1 := Lib.hid hb1; clear hb1)
  go_quiet (fail)
  go_wp2
  go_ret
  refine ⟨rfl, below_drewN ((HB1.out).alloc HB1.out.size _) _⟩
set_option maxHeartbeats 1000000 in
theorem c_change1 (h : Cb w C Q M fi la) (a : Qo w Q M lim An cn Af cf ns fs) (k : Nat) (hk : k < ns.length) (key : Nat) (ah be : Int) (hx : ns[k] = (⟨key, ah, be⟩, true)) (B : Nat) (b : Int) (hB : w.cell? ⟨B, 0, none⟩ = some (.int .i64 b)) (hBl : B < w.heap.size) :
    Calls Tryz.prog 177 #[.pointer (some ⟨C, 0, none⟩), .int .i64 (k : Int), .func (.func 178) #[] #[.pointer (some ⟨B, 0, none⟩)]] w fun e w' => e = .returned (.bool true) ∧ QStep w Q M lim An Af (ns.set k (⟨key, ah, b⟩, true)) fs w' := by
  have ht : ns[k].2 = true := by rw [hx]
  have hp := q_peek_yes w Q M lim cn cf An Af ns fs a k hk ht
  rw [hx] at hp
  have hp : Hid (Calls _ _ _ _ (PeekP w (ndv key ah be) true)) := hp
  have hA := Lib.hid a
  have hH := Lib.hid h
  have hBH := Lib.hid hB
  have hT := Lib.hid ht
  have h1 := h.c1
  have hlt := h.lt
  have hmf : ∀ (fn : Fn) (first cap : Array Value) (w : World), (Instr.makeFunc fn first cap).run Tryz.prog w = .ok (.func fn first cap) w := fun _ _ _ _ => rfl
  clear h a hB ht hx
  go_enter Tryz.func177, Tryz.ntmps177
  go_wp2_with (go_at_call 141; (with_reducible refine hp.out.mono ?_); rintro e w1 ⟨rfl, hb1⟩
               have hs1 := hb1.size
               have HB1 := Lib.hid hb1
               have hb2 : Below w.heap.size w (w1.alloc (ndo key ah be)).drew := below_drewN (hb1.alloc hs1 _) 1
               have hrow : (w1.alloc (ndo key ah be)).drew.heap[w1.heap.size]? = some (ndo key ah be) := K.alloc_top w1 (ndo key ah be)
               have hC0 : (w1.alloc (ndo key ah be)).drew.cell? ⟨C, 1, none⟩ = some (.pointer (some ⟨Q, 0, none⟩)) := (hb2.cell (p := ⟨C, 1, none⟩) hlt).trans h1
               have HS0 := Lib.hid (And.intro hC0 (nd_cells hrow))
               have HB0 := Lib.hid hb2
               have HCl := Lib.hid (c_clos1 (w1.alloc (ndo key ah be)).drew key ah be B b ((hb2.cell (p := ⟨B, 0, none⟩) hBl).trans hBH.out) (Nat.lt_of_lt_of_le hBl hb2.size))
               have hz : (w1.alloc (ndo key ah be)).drew.heap.size = w1.heap.size + 1 := by show (w1.heap.push _).size = _; simp
               have HZ := Lib.hid hz
               clear hb1 hb2 hrow hC0 hz)
  go_region_held3 (fun X => X.cell? ⟨C, 1, none⟩ = some (.pointer (some ⟨Q, 0, none⟩)) ∧ X.cell? ⟨w1.heap.size, 0, none⟩ = some (.int .u64 (key : Int)) ∧ X.cell? ⟨w1.heap.size, 1, none⟩ = some (.int .i64 ah) ∧ X.cell? ⟨w1.heap.size, 2, none⟩ = some (.int .i64 be)) (first | (with_reducible exact HS0.out) | (with_reducible exact HS3.out) | (with_reducible exact HS4.out) | go_keep) (first
    | (go_at_call 178; (with_reducible refine HCl.out.mono ?_); rintro e w3 ⟨rfl, hb3⟩
       have hs3 := hb3.size
       rw [HZ.out] at hs3
       have HB3 := Lib.hid hb3
       have HBw := Lib.hid (HB0.out.trans (hb3.mono HB0.out.size))
       have HS3 := Lib.hid (And.intro ((hb3.cell (p := ⟨C, 1, none⟩) (by rw [HZ.out]; show C < _; omega)).trans HS0.out.1) (And.intro ((hb3.cell (p := ⟨w1.heap.size, 0, none⟩) (by rw [HZ.out]; show w1.heap.size < _; omega)).trans HS0.out.2.1) (And.intro ((hb3.cell (p := ⟨w1.heap.size, 1, none⟩) (by rw [HZ.out]; show w1.heap.size < _; omega)).trans HS0.out.2.2.1) ((hb3.cell (p := ⟨w1.heap.size, 2, none⟩) (by rw [HZ.out]; show w1.heap.size < _; omega)).trans HS0.out.2.2.2))))
       clear hb3)
    | (go_at_call 185; (with_reducible refine (q_put w3 Q M lim cn cf An Af ns fs (hA.out.chg (K.Chg.of_below (O := fun _ => False) HBw.out) (fun _ _ h => h)) k hk hT.out key ah b _ rfl).mono ?_); rintro e w4 ⟨rfl, hq⟩
       have HQ := Lib.hid hq
       have HS4 : Hid (w4.cell? ⟨C, 1, none⟩ = some (.pointer (some ⟨Q, 0, none⟩)) ∧ w4.cell? ⟨w1.heap.size, 0, none⟩ = some (.int .u64 (key : Int)) ∧ w4.cell? ⟨w1.heap.size, 1, none⟩ = some (.int .i64 ah) ∧ w4.cell? ⟨w1.heap.size, 2, none⟩ = some (.int .i64 be)) := by
         obtain ⟨_, _, _, _, _, hc, _⟩ := hq
         have hnq : ¬ QB Q An Af w1.heap.size := fun hj => by have := hA.out.qb hj; omega
         have hnc := hH.out.qb hA.out
         exact ⟨(hc.cell (by omega) hnc 1).trans HS3.out.1, (hc.cell (by omega) hnq 0).trans HS3.out.2.1, (hc.cell (by omega) hnq 1).trans HS3.out.2.2.1, (hc.cell (by omega) hnq 2).trans HS3.out.2.2.2⟩
       clear hq))
  all_goals
    go_wp2
    go_ret
    exact ⟨rfl, HQ.out.from HBw.out⟩
set_option maxHeartbeats 1000000 in
theorem c_change2 (h : Cb w C Q M fi la) (a : Qo w Q M lim An cn Af cf ns fs) (k : Nat) (hk : k < ns.length) (key : Nat) (ah be : Int) (hx : ns[k] = (⟨key, ah, be⟩, true)) (B : Nat) (b : Int) (hB : w.cell? ⟨B, 0, none⟩ = some (.int .i64 b)) (hBl : B < w.heap.size) :
    Calls Tryz.prog 177 #[.pointer (some ⟨C, 0, none⟩), .int .i64 (k : Int), .func (.func 179) #[] #[.pointer (some ⟨B, 0, none⟩)]] w fun e w' => e = .returned (.bool true) ∧ QStep w Q M lim An Af (ns.set k (⟨key, b, be⟩, true)) fs w' := by
  have ht : ns[k].2 = true := by rw [hx]
  have hp := q_peek_yes w Q M lim cn cf An Af ns fs a k hk ht
  rw [hx] at hp
  have hp : Hid (Calls _ _ _ _ (PeekP w (ndv key ah be) true)) := hp
  have hA := Lib.hid a
  have hH := Lib.hid h
  have hBH := Lib.hid hB
  have hT := Lib.hid ht
  have h1 := h.c1
  have hlt := h.lt
  have hmf : ∀ (fn : Fn) (first cap : Array Value) (w : World), (Instr.makeFunc fn first cap).run Tryz.prog w = .ok (.func fn first cap) w := fun _ _ _ _ => rfl
  clear h a hB ht hx
  go_enter Tryz.func177, Tryz.ntmps177
  go_wp2_with (go_at_call 141; (with_reducible refine hp.out.mono ?_); rintro e w1 ⟨rfl, hb1⟩
               have hs1 := hb1.size
               have HB1 := Lib.hid hb1
               have hb2 : Below w.heap.size w (w1.alloc (ndo key ah be)).drew := below_drewN (hb1.alloc hs1 _) 1
               have hrow : (w1.alloc (ndo key ah be)).drew.heap[w1.heap.size]? = some (ndo key ah be) := K.alloc_top w1 (ndo key ah be)
               have hC0 : (w1.alloc (ndo key ah be)).drew.cell? ⟨C, 1, none⟩ = some (.pointer (some ⟨Q, 0, none⟩)) := (hb2.cell (p := ⟨C, 1, none⟩) hlt).trans h1
               have HS0 := Lib.hid (And.intro hC0 (nd_cells hrow))
               have HB0 := Lib.hid hb2
               have HCl := Lib.hid (c_clos2 (w1.alloc (ndo key ah be)).drew key ah be B b ((hb2.cell (p := ⟨B, 0, none⟩) hBl).trans hBH.out) (Nat.lt_of_lt_of_le hBl hb2.size))
               have hz : (w1.alloc (ndo key ah be)).drew.heap.size = w1.heap.size + 1 := by show (w1.heap.push _).size = _; simp
               have HZ := Lib.hid hz
               clear hb1 hb2 hrow hC0 hz)
  go_region_held3 (fun X => X.cell? ⟨C, 1, none⟩ = some (.pointer (some ⟨Q, 0, none⟩)) ∧ X.cell? ⟨w1.heap.size, 0, none⟩ = some (.int .u64 (key : Int)) ∧ X.cell? ⟨w1.heap.size, 1, none⟩ = some (.int .i64 ah) ∧ X.cell? ⟨w1.heap.size, 2, none⟩ = some (.int .i64 be)) (first | (with_reducible exact HS0.out) | (with_reducible exact HS3.out) | (with_reducible exact HS4.out) | go_keep) (first
    | (go_at_call 179; (with_reducible refine HCl.out.mono ?_); rintro e w3 ⟨rfl, hb3⟩
       have hs3 := hb3.size
       rw [HZ.out] at hs3
       have HB3 := Lib.hid hb3
       have HBw := Lib.hid (HB0.out.trans (hb3.mono HB0.out.size))
       have HS3 := Lib.hid (And.intro ((hb3.cell (p := ⟨C, 1, none⟩) (by rw [HZ.out]; show C < _; omega)).trans HS0.out.1) (And.intro ((hb3.cell (p := ⟨w1.heap.size, 0, none⟩) (by rw [HZ.out]; show w1.heap.size < _; omega)).trans HS0.out.2.1) (And.intro ((hb3.cell (p := ⟨w1.heap.size, 1, none⟩) (by rw [HZ.out]; show w1.heap.size < _; omega)).trans HS0.out.2.2.1) ((hb3.cell (p := ⟨w1.heap.size, 2, none⟩) (by rw [HZ.out]; show w1.heap.size < _; omega)).trans HS0.out.2.2.2))))
       clear hb3)
    | (go_at_call 185; (with_reducible refine (q_put w3 Q M lim cn cf An Af ns fs (hA.out.chg (K.Chg.of_below (O := fun _ => False) HBw.out) (fun _ _ h => h)) k hk hT.out key b be _ rfl).mono ?_); rintro e w4 ⟨rfl, hq⟩
       have HQ := Lib.hid hq
       have HS4 : Hid (w4.cell? ⟨C, 1, none⟩ = some (.pointer (some ⟨Q, 0, none⟩)) ∧ w4.cell? ⟨w1.heap.size, 0, none⟩ = some (.int .u64 (key : Int)) ∧ w4.cell? ⟨w1.heap.size, 1, none⟩ = some (.int .i64 ah) ∧ w4.cell? ⟨w1.heap.size, 2, none⟩ = some (.int .i64 be)) := by
         obtain ⟨_, _, _, _, _, hc, _⟩ := hq
         have hnq : ¬ QB Q An Af w1.heap.size := fun hj => by have := hA.out.qb hj; omega
         have hnc := hH.out.qb hA.out
         exact ⟨(hc.cell (by omega) hnc 1).trans HS3.out.1, (hc.cell (by omega) hnq 0).trans HS3.out.2.1, (hc.cell (by omega) hnq 1).trans HS3.out.2.2.1, (hc.cell (by omega) hnq 2).trans HS3.out.2.2.2⟩
       clear hq))
  all_goals
    go_wp2
    go_ret
    exact ⟨rfl, HQ.out.from HBw.out⟩
end
end Go.Proofs.YtialjokdaniofaaGreat
end
section
namespace Go.Proofs.YtialjokdaniofaaGreat
set_option maxRecDepth 20000
open Go.RowKit
set_option linter.unusedSectionVars false
variable [Gh]
def ndi (ns : List (Nd × Bool)) (i : Int) : Nd := ((ns[i.toNat]?).getD (Nd.z, true)).1
/-- The link i with another one behind it; or ahead of it. -/
def setb (ns : List (Nd × Bool)) (i b : Int) : List (Nd × Bool) := if lvq ns i then ns.set i.toNat (⟨(ndi ns i).key, (ndi ns i).ah, b⟩, true) else ns
def seta (ns : List (Nd × Bool)) (i a : Int) : List (Nd × Bool) := if lvq ns i then ns.set i.toNat (⟨(ndi ns i).key, a, (ndi ns i).be⟩, true) else ns
theorem lvq_form {ns : List (Nd × Bool)} {i : Int} (h : lvq ns i = true) : ∃ k : Nat, i = (k : Int) ∧ ∃ hk : k < ns.length, ns[k] = (ndi ns i, true) := by
  unfold lvq at h
  rw [Bool.and_eq_true, decide_eq_true_eq] at h
  obtain ⟨h0, h1⟩ := h
  refine ⟨i.toNat, by omega, ?_⟩
  rcases Nat.lt_or_ge i.toNat ns.length with hk | hk
  · rw [List.getElem?_eq_getElem hk] at h1
    simp at h1
    refine ⟨hk, ?_⟩
    unfold ndi
    rw [List.getElem?_eq_getElem hk]
    simp only [Option.getD_some]
    rw [← h1]
  · rw [List.getElem?_eq_none hk] at h1
    simp at h1
theorem lvq_set {ns : List (Nd × Bool)} {k : Nat} (hk : k < ns.length) (ht : ns[k].2 = true) (y : Nd) (i : Int) : lvq (ns.set k (y, true)) i = lvq ns i := by
  unfold lvq
  congr 1
  rw [List.getElem?_set]
  split
  · rename_i e
    rw [← e, List.getElem?_eq_getElem hk]
    simp [ht]
  · rfl
theorem lvq_setb (ns : List (Nd × Bool)) (i b j : Int) : lvq (setb ns i b) j = lvq ns j := by
  unfold setb
  split
  · rename_i h
    obtain ⟨k, rfl, hk, e⟩ := lvq_form h
    exact lvq_set hk (by rw [e]) _ _
  · rfl
theorem lvq_seta (ns : List (Nd × Bool)) (i b j : Int) : lvq (seta ns i b) j = lvq ns j := by
  unfold seta
  split
  · rename_i h
    obtain ⟨k, rfl, hk, e⟩ := lvq_form h
    exact lvq_set hk (by rw [e]) _ _
  · rfl
section
variable (w : World) (C Q M lim cn cf : Nat) (fi la : Int) (An Af : Option Addr) (ns : List (Nd × Bool)) (fs : List Nat)
theorem c_chg1 (h : Cb w C Q M fi la) (a : Qo w Q M lim An cn Af cf ns fs) (i : Int) (B : Nat) (b : Int) (hB : w.cell? ⟨B, 0, none⟩ = some (.int .i64 b)) (hBl : B < w.heap.size) :
    Calls Tryz.prog 177 #[.pointer (some ⟨C, 0, none⟩), .int .i64 i, .func (.func 178) #[] #[.pointer (some ⟨B, 0, none⟩)]] w fun e w' => e = .returned (.bool (lvq ns i)) ∧ QStep w Q M lim An Af (setb ns i b) fs w' := by
  unfold setb
  cases hi : lvq ns i with
  | true =>
    obtain ⟨k, rfl, hk, e⟩ := lvq_form hi
    exact c_change1 w C Q M lim cn cf fi la An Af ns fs h a k hk _ _ _ e B b hB hBl
  | false =>
    refine (c_change_no w C Q M lim cn cf fi la An Af ns fs h a i _ hi).mono ?_
    rintro e w' ⟨rfl, hb⟩
    exact ⟨rfl, An, cn, Af, cf, a.chg (K.Chg.of_below (O := fun _ => False) hb) (fun _ _ h => h), K.Chg.of_below hb, fun j hj => .inl hj⟩
theorem c_chg2 (h : Cb w C Q M fi la) (a : Qo w Q M lim An cn Af cf ns fs) (i : Int) (B : Nat) (b : Int) (hB : w.cell? ⟨B, 0, none⟩ = some (.int .i64 b)) (hBl : B < w.heap.size) :
    Calls Tryz.prog 177 #[.pointer (some ⟨C, 0, none⟩), .int .i64 i, .func (.func 179) #[] #[.pointer (some ⟨B, 0, none⟩)]] w fun e w' => e = .returned (.bool (lvq ns i)) ∧ QStep w Q M lim An Af (seta ns i b) fs w' := by
  unfold seta
  cases hi : lvq ns i with
  | true =>
    obtain ⟨k, rfl, hk, e⟩ := lvq_form hi
    exact c_change2 w C Q M lim cn cf fi la An Af ns fs h a k hk _ _ _ e B b hB hBl
  | false =>
    refine (c_change_no w C Q M lim cn cf fi la An Af ns fs h a i _ hi).mono ?_
    rintro e w' ⟨rfl, hb⟩
    exact ⟨rfl, An, cn, Af, cf, a.chg (K.Chg.of_below (O := fun _ => False) hb) (fun _ _ h => h), K.Chg.of_below hb, fun j hj => .inl hj⟩
/-- The blocks of a chain. -/
def CB (C Q : Nat) (An Af : Option Addr) (j : Nat) : Prop := j = C ∨ QB Q An Af j
/-- What a call that changes a chain leaves. -/
def CStep (w : World) (C Q M lim : Nat) (An Af : Option Addr) (fi' la' : Int) (ns' : List (Nd × Bool)) (fs' : List Nat) (w' : World) : Prop :=
  ∃ An' cn' Af' cf', Cb w' C Q M fi' la' ∧ Qo w' Q M lim An' cn' Af' cf' ns' fs' ∧ K.Chg w w' (CB C Q An Af) ∧ ∀ j, QB Q An' Af' j → QB Q An Af j ∨ w.heap.size ≤ j
theorem c_join (h : Cb w C Q M fi la) (q : Qo w Q M lim An cn Af cf ns fs) (a b : Int) :
    Calls Tryz.prog 161 #[.pointer (some ⟨C, 0, none⟩), .int .i64 a, .int .i64 b] w fun e w' => e = .returned (.tuple #[]) ∧ CStep w C Q M lim An Af (if lvq ns a then fi else b) (if lvq ns b then la else a) (seta (setb ns a b) b a) fs w' := by
  obtain ⟨W0, hW0⟩ : ∃ W0, (w.alloc (.cells #[.int .i64 a] 3)).alloc (.cells #[.int .i64 b] 3) = W0 := ⟨_, rfl⟩
  have hb0 : Below w.heap.size w W0 := by rw [← hW0]; exact ((Below.refl _ w).alloc (Nat.le_refl _) _).alloc (by simp) _
  have hz0 : W0.heap.size = w.heap.size + 2 := by rw [← hW0]; simp
  have x1 : W0.heap[w.heap.size]? = some (.cells #[.int .i64 a] 3 (0, 0)) := by rw [← hW0]; exact (Below.heap_alloc _ _ _ (by simp)).trans (K.alloc_top _ _)
  have x2 : W0.heap[w.heap.size + 1]? = some (.cells #[.int .i64 b] 3 (0, 0)) := by
    rw [← hW0]
    have := K.alloc_top (w.alloc (.cells #[.int .i64 a] 3)) (.cells #[.int .i64 b] 3)
    rw [World.size_alloc] at this
    exact this
  have h0 := h.chg (K.Chg.of_below (O := fun _ => False) hb0) (fun h => h)
  have q0 := q.chg (K.Chg.of_below (O := fun _ => False) hb0) (fun _ _ h => h)
  have hcl := h.lt
  have y1 : W0.cell? ⟨w.heap.size, 0, none⟩ = some (.int .i64 a) := cell_of_row W0 _ 0 _ _ (0, 0) x1
  have y2 : W0.cell? ⟨w.heap.size + 1, 0, none⟩ = some (.int .i64 b) := cell_of_row W0 _ 0 _ _ (0, 0) x2
  have HC1 := Lib.hid (c_chg1 W0 C Q M lim cn cf fi la An Af ns fs h0 q0 a (w.heap.size + 1) b y2 (by omega))
  have HQB := Lib.hid (fun j (hj : QB Q An Af j) => q.qb hj)
  have HNC := Lib.hid (h.qb q)
  have HH0 := Lib.hid h0
  have HB0 := Lib.hid hb0
  have HX1 := Lib.hid x1
  have HX2 := Lib.hid x2
  have hlv := lvq_setb ns a b b
  have hmf : ∀ (fn : Fn) (first cap : Array Value) (w : World), (Instr.makeFunc fn first cap).run Tryz.prog w = .ok (.func fn first cap) w := fun _ _ _ _ => rfl
  have fin : Hid (∀ (w2 w3 w4 : World) (f' : Int) (l' : Int) (An2 Af2 : Option Addr), K.Chg W0 w2 (QB Q An Af) → (∀ j, QB Q An2 Af2 j → QB Q An Af j ∨ W0.heap.size ≤ j) → K.Chg w2 w3 (· = C) → QStep w3 Q M lim An2 Af2 (seta (setb ns a b) b a) fs w4 → (w2.heap.size ≤ w3.heap.size) → Cb w3 C Q M f' l' → ¬ QB Q An2 Af2 C → CStep w C Q M lim An Af f' l' (seta (setb ns a b) b a) fs w4 ∧ CStep w C Q M lim An Af f' a (seta (setb ns a b) b a) fs (w4.setCell ⟨C, 3, none⟩ (.int .i64 a))) := by
    intro w2 w3 w4 f' l' An2 Af2 g1 g2 g3 ⟨An', cn', Af', cf', g4, g5, g6⟩ g7 g8 g9
    have s2 := g1.size
    have c1 : K.Chg w w4 (CB C Q An Af) := by
      refine (((K.Chg.of_below (O := CB C Q An Af) hb0).trans g1 (fun j hj => .inl (.inr hj))).trans g3 (fun j hj => .inl (.inl hj))).trans g5 (fun j hj => ?_)
      rcases g2 j hj with h | h
      · exact .inl (.inr h)
      · right; omega
    have c2 : ∀ j, QB Q An' Af' j → QB Q An Af j ∨ w.heap.size ≤ j := fun j hj => by
      rcases g6 j hj with h | h
      · rcases g2 j h with h | h
        · exact .inl h
        · right; omega
      · right; omega
    have c3 := g8.chg g5 g9
    have g4c := g4
    refine ⟨⟨An', cn', Af', cf', c3, g4, c1, c2⟩, ⟨An', cn', Af', cf', c3.set3 a, g4.chg (chg_set w4 C 3 _ (· = C) rfl) (fun j hj e => by subst e; exact c3.qb g4c hj), c1.same (chg_set w4 C 3 _ _ (.inl rfl)), c2⟩⟩
  have HCl := Lib.hid hcl
  clear h q h0 q0 hb0 x1 x2 y2 hcl
  go_enter Tryz.func161, Tryz.ntmps161
  cases hla : lvq ns a <;> cases hlb : lvq ns b <;> simp only [Bool.false_eq_true, if_true, if_false] <;> rw [hla] at HC1 <;> rw [hlb] at hlv
  all_goals
    go_wp2_with (first
      | (go_at_call 177; (with_reducible refine HC1.out.mono ?_); rintro e w2 ⟨rfl, An2, cn2, Af2, cf2, hq2, hc2, hi2⟩
         have s2 := hc2.size
         have n1 : ¬ QB Q An Af w.heap.size := fun hj => by have := HQB.out _ hj; omega
         have n2 : ¬ QB Q An Af (w.heap.size + 1) := fun hj => by have := HQB.out _ hj; omega
         have z1 := (hc2.block w.heap.size (by omega) n1).trans HX1.out
         have z2 := (hc2.block (w.heap.size + 1) (by omega) n2).trans HX2.out
         have k1 : w2.cell? ⟨w.heap.size, 0, none⟩ = some (.int .i64 a) := cell_of_row w2 _ 0 _ _ (0, 0) z1
         have k2 : w2.cell? ⟨w.heap.size + 1, 0, none⟩ = some (.int .i64 b) := cell_of_row w2 _ 0 _ _ (0, 0) z2
         have hh2 := HH0.out.chg hc2 HNC.out
         have fr := hh2.fr 2
         have fr3 := hh2.fr 3
         have e2 := hh2.c2
         have e3 := hh2.c3
         have cl := HCl.out
         have HH2 := Lib.hid hh2
         have HQ2 := Lib.hid hq2
         have HI2 := Lib.hid hi2
         have HK2 := Lib.hid hc2
         clear hq2 hc2 hi2 z1 z2 hh2)
      | (go_at_call 177; (with_reducible refine (c_chg2 w2 C Q M lim cn2 cf2 fi la An2 Af2 _ fs HH2.out HQ2.out b w.heap.size a k1 (by omega)).mono ?_); rintro e w4 ⟨rfl, hq4⟩
         rw [hlv]
         have HD := Lib.hid (fin.out w2 w2 w4 fi la An2 Af2 HK2.out HI2.out (chg_refl w2 _) hq4 (Nat.le_refl _) HH2.out (HH2.out.qb HQ2.out))
         have hh4 := HH2.out.chg hq4.choose_spec.choose_spec.choose_spec.choose_spec.2.1 (HH2.out.qb HQ2.out)
         have fr4 := hh4.fr 3
         have e4 := hh4.c3
         have n5 : ¬ QB Q An2 Af2 w.heap.size := fun hj => by rcases HI2.out _ hj with h | h; exact n1 h; omega
         have k5 : w4.cell? ⟨w.heap.size, 0, none⟩ = some (.int .i64 a) := (hq4.choose_spec.choose_spec.choose_spec.choose_spec.2.1.cell (by omega) n5 0).trans k1
         clear hq4 hh4)
      | (go_at_call 177; (with_reducible refine (c_chg2 (w2.setCell ⟨C, 2, none⟩ (.int .i64 b)) C Q M lim cn2 cf2 b la An2 Af2 _ fs (HH2.out.set2 b) (HQ2.out.chg (chg_set w2 C 2 _ (· = C) rfl) (fun j hj e => (by have e2 : j = C := e; subst e2; exact absurd hj (HH2.out.qb HQ2.out)))) b w.heap.size a (((chg_set w2 C 2 _ (· = C) rfl).cell (by omega) (fun e => (by have e2 : w.heap.size = C := e; omega)) 0).trans k1) (by rw [size_set]; omega)).mono ?_); rintro e w4 ⟨rfl, hq4⟩
         rw [hlv]
         have hnq2 := HH2.out.qb HQ2.out
         have HD := Lib.hid (fin.out w2 (w2.setCell ⟨C, 2, none⟩ (.int .i64 b)) w4 b la An2 Af2 HK2.out HI2.out (chg_set w2 C 2 _ _ rfl) hq4 (by rw [size_set]; exact Nat.le_refl _) (HH2.out.set2 b) hnq2)
         have hh4 := (HH2.out.set2 b).chg hq4.choose_spec.choose_spec.choose_spec.choose_spec.2.1 hnq2
         have fr4 := hh4.fr 3
         have e4 := hh4.c3
         have n5 : ¬ QB Q An2 Af2 w.heap.size := fun hj => by rcases HI2.out _ hj with h | h; exact n1 h; omega
         have k5 : w4.cell? ⟨w.heap.size, 0, none⟩ = some (.int .i64 a) := (hq4.choose_spec.choose_spec.choose_spec.choose_spec.2.1.cell (by rw [size_set]; omega) n5 0).trans (((chg_set w2 C 2 _ (· = C) rfl).cell (by omega) (fun e => (by have e2 : w.heap.size = C := e; omega)) 0).trans k1)
         clear hq4 hh4))
    go_end0
    first
    | exact ⟨rfl, HD.out.1⟩
    | exact ⟨rfl, HD.out.2⟩
end
end Go.Proofs.YtialjokdaniofaaGreat
end
