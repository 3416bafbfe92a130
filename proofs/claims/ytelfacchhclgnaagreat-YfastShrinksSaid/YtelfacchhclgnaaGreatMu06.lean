/- Links are joined: what becomes of a link, where it is changed; the texts walked. A link is changed by what one says of it; the text walked. Two links are joined; the text walked. Links in a row, told by the list of their places and keys: plain lemmas. -/
import Derived.Deep.RegionHeld3
import Derived.Test.YtelfacchhclgnaaGreatMu05
section
namespace Go.Proofs.YtelfacchhclgnaaGreat
set_option maxRecDepth 20000
open Go.RowKit
set_option linter.unusedSectionVars false
variable [Gh]
theorem nd_res1 {fn : Func} {u : Tmp} (h : fn.results = #[.cell u 145]) (tmps : Array Value) (w : World) (g : Nat) (a b c : Value) (hu : tmps.getD u undef = .pointer (some ⟨g, 0, none⟩))
    (hc : w.heap[g]? = some (.cells #[a, b, c] 145 (0, 0))) : (results fn tmps).run Tryz.prog w = .ok (.agg #[a, b, c]) w := by
  have hp' : tmps[u]?.getD undef = .pointer (some ⟨g, 0, none⟩) := by simpa using hu
  have hr := run_loadVar_row (P := Tryz.prog) w g 145 145 _ (0, 0) _ hc Tryz.underlying145 (by kernel_rfl) (by kernel_rfl)
  simp [results, h, hp', asAddr, hr]
theorem c_clos1 (w : World) (key : Nat) (ah be : Int) (B : Nat) (b : Int) (hb : w.cell? ⟨B, 0, none⟩ = some (.int .i64 b)) (hB : B < w.heap.size) :
    Calls Tryz.prog 178 #[ndv key ah be, .pointer (some ⟨B, 0, none⟩)] w fun e w' => e = .returned (ndv key ah b) ∧ Below w.heap.size w w' := by
  have hb2 : ((w.alloc (ndo key ah be)).alloc ndzo).cell? ⟨B, 0, none⟩ = some (.int .i64 b) := by
    rw [World.cell?_alloc_lt _ _ _ (by simp; omega), World.cell?_alloc_lt _ _ _ (by simpa using hB)]; exact hb
  go_enter Tryz.func178, Tryz.ntmps178
  go_wp2
  refine bodyPost_ret (nd_res1 rfl _ _ (w.heap.size + 1) _ _ _ rfl ?_) rfl ⟨rfl, ((Below.refl _ w).alloc (Nat.le_refl _) _).alloc (by simp) _⟩
  have := K.alloc_top (w.alloc (ndo key ah b)) (ndo key ah b)
  rw [World.size_alloc] at this
  exact this
theorem c_clos2 (w : World) (key : Nat) (ah be : Int) (B : Nat) (b : Int) (hb : w.cell? ⟨B, 0, none⟩ = some (.int .i64 b)) (hB : B < w.heap.size) :
    Calls Tryz.prog 179 #[ndv key ah be, .pointer (some ⟨B, 0, none⟩)] w fun e w' => e = .returned (ndv key b be) ∧ Below w.heap.size w w' := by
  have hb2 : ((w.alloc (ndo key ah be)).alloc ndzo).cell? ⟨B, 0, none⟩ = some (.int .i64 b) := by
    rw [World.cell?_alloc_lt _ _ _ (by simp; omega), World.cell?_alloc_lt _ _ _ (by simpa using hB)]; exact hb
  go_enter Tryz.func179, Tryz.ntmps179
  go_wp2
  refine bodyPost_ret (nd_res1 rfl _ _ (w.heap.size + 1) _ _ _ rfl ?_) rfl ⟨rfl, ((Below.refl _ w).alloc (Nat.le_refl _) _).alloc (by simp) _⟩
  have := K.alloc_top (w.alloc (ndo key b be)) (ndo key b be)
  rw [World.size_alloc] at this
  exact this
end Go.Proofs.YtelfacchhclgnaaGreat
end
section
namespace Go.Proofs.YtelfacchhclgnaaGreat
set_option maxRecDepth 20000
open Go.RowKit
set_option linter.unusedSectionVars false
variable [Gh]
/-- Block C is a chain's struct: its meter, its links, the ends. -/
structure Cb (w : World) (C Q M : Nat) (fi la : Int) : Prop where
  row : w.heap[C]? = some (.cells #[.pointer (some ⟨M, 0, none⟩), .pointer (some ⟨Q, 0, none⟩), .int .i64 fi, .int .i64 la] 112 (0, 0))
section
variable {w w' : World} {C Q M : Nat} {fi la : Int}
theorem Cb.c0 (h : Cb w C Q M fi la) : w.cell? ⟨C, 0, none⟩ = some (.pointer (some ⟨M, 0, none⟩)) := cell_of_row w C 0 _ _ (0, 0) h.row
theorem Cb.c1 (h : Cb w C Q M fi la) : w.cell? ⟨C, 1, none⟩ = some (.pointer (some ⟨Q, 0, none⟩)) := cell_of_row w C 1 _ _ (0, 0) h.row
theorem Cb.c2 (h : Cb w C Q M fi la) : w.cell? ⟨C, 2, none⟩ = some (.int .i64 fi) := cell_of_row w C 2 _ _ (0, 0) h.row
theorem Cb.c3 (h : Cb w C Q M fi la) : w.cell? ⟨C, 3, none⟩ = some (.int .i64 la) := cell_of_row w C 3 _ _ (0, 0) h.row
theorem Cb.lt (h : Cb w C Q M fi la) : C < w.heap.size := row_lt h.row
theorem Cb.fr (h : Cb w C Q M fi la) (k : Nat) : w.frozen? ⟨C, k, none⟩ = false := frozen_of_row w C k _ _ h.row
theorem Cb.chg {O : Nat → Prop} (h : Cb w C Q M fi la) (b : K.Chg w w' O) (hO : ¬ O C) : Cb w' C Q M fi la := ⟨(b.block C h.lt hO).trans h.row⟩
theorem Cb.set2 (h : Cb w C Q M fi la) (x : Int) : Cb (w.setCell ⟨C, 2, none⟩ (.int .i64 x)) C Q M x la := ⟨by
  have := row_set h.row 2 (.int .i64 x)
  simpa using this⟩
theorem Cb.set3 (h : Cb w C Q M fi la) (x : Int) : Cb (w.setCell ⟨C, 3, none⟩ (.int .i64 x)) C Q M fi x := ⟨by
  have := row_set h.row 3 (.int .i64 x)
  simpa using this⟩
theorem Cb.qb {lim cn cf : Nat} {An Af : Option Addr} {ns : List (Nd × Bool)} {fs : List Nat} (h : Cb w C Q M fi la) (a : Qo w Q M lim An cn Af cf ns fs) : ¬ QB Q An Af C := by
  rintro (e | e | e)
  · exact row_ne h.row a.row (by decide) e
  · obtain ⟨_, cur, hc⟩ := own_block_lt a.nodes e
    exact row_ne hc h.row (by decide) rfl
  · obtain ⟨_, cur, hc⟩ := own_block_lt a.freed e
    exact row_ne hc h.row (by decide) rfl
end
section
variable (w : World) (C Q M lim cn cf : Nat) (fi la : Int) (An Af : Option Addr) (ns : List (Nd × Bool)) (fs : List Nat)
theorem c_change_no (h : Cb w C Q M fi la) (a : Qo w Q M lim An cn Af cf ns fs) (i : Int) (f : Value) (hi : lvq ns i = false) :
    Calls Tryz.prog 177 #[.pointer (some ⟨C, 0, none⟩), .int .i64 i, f] w fun e w' => e = .returned (.bool false) ∧ Below w.heap.size w w' := by
  have hp := Lib.hid (q_peek_no w Q M lim cn cf An Af ns fs a i hi)
  have h1 := h.c1
  clear h a hi
  go_enter Tryz.func177, Tryz.ntmps177
  go_wp2_with (go_at_call 141; (with_reducible refine hp.out.mono ?_); rintro e w1 ⟨rfl, hb1⟩; have HB1 := Lib.hid hb1; clear hb1)
  go_quiet (fail)
  go_wp2
  go_ret
  refine ⟨rfl, below_drewN ((HB1.out).alloc HB1.out.size _) _⟩
set_option maxHeartbeats 1000000 in
theorem c_change1 (h : Cb w C Q M fi la) (a : Qo w Q M lim An cn Af cf ns fs) (k : Nat) (hk : k < ns.length) (key : Nat) (ah be : Int) (hx : ns[k] = (⟨key, ah, be⟩, true)) (B : Nat) (b : Int) (hB : w.cell? ⟨B, 0, none⟩ = some (.int .i64 b)) (hBl : B < w.heap.size) :
    Calls Tryz.prog 177 #[.pointer (some ⟨C, 0, none⟩), .int .i64 (k : Int), .func (.func 178) #[] #[.pointer (some ⟨B, 0, none⟩)]] w fun e w' => e = .returned (.bool true) ∧ QStep w Q M lim An Af (ns.set k (⟨key, ah, b⟩, true)) fs w' := by
  have ht : ns[k].2 = true := by rw [hx]
  have hp := q_peek_yes w Q M lim cn cf An Af ns fs a k hk ht
  rw [hx] at hp
  have hp : Hid (Calls _ _ _ _ (PeekP w (ndv key ah be) true)) := hp
  have hA := Lib.hid a
  have hH := Lib.hid h
  have hBH := Lib.hid hB
  have hT := Lib.hid ht
  have h1 := h.c1
  have hlt := h.lt
  have hmf : ∀ (fn : Fn) (first cap : Array Value) (w : World), (Instr.makeFunc fn first cap).run Tryz.prog w = .ok (.func fn first cap) w := fun _ _ _ _ => rfl
  clear h a hB ht hx
  go_enter Tryz.func177, Tryz.ntmps177
  go_wp2_with (go_at_call 141; (with_reducible refine hp.out.mono ?_); rintro e w1 ⟨rfl, hb1⟩
               have hs1 := hb1.size
               have HB1 := Lib.hid hb1
               have hb2 : Below w.heap.size w (w1.alloc (ndo key ah be)).drew := below_drewN (hb1.alloc hs1 _) 1
               have hrow : (w1.alloc (ndo key ah be)).drew.heap[w1.heap.size]? = some (ndo key ah be) := K.alloc_top w1 (ndo key ah be)
               have hC0 : (w1.alloc (ndo key ah be)).drew.cell? ⟨C, 1, none⟩ = some (.pointer (some ⟨Q, 0, none⟩)) := (hb2.cell (p := ⟨C, 1, none⟩) hlt).trans h1
               have HS0 := Lib.hid (And.intro hC0 (nd_cells hrow))
               have HB0 := Lib.hid hb2
               have HCl := Lib.hid (c_clos1 (w1.alloc (ndo key ah be)).drew key ah be B b ((hb2.cell (p := ⟨B, 0, none⟩) hBl).trans hBH.out) (Nat.lt_of_lt_of_le hBl hb2.size))
               have hz : (w1.alloc (ndo key ah be)).drew.heap.size = w1.heap.size + 1 := by show (w1.heap.push _).size = _; simp
               have HZ := Lib.hid hz
               clear hb1 hb2 hrow hC0 hz)
  go_region_held3 (fun X => X.cell? ⟨C, 1, none⟩ = some (.pointer (some ⟨Q, 0, none⟩)) ∧ X.cell? ⟨w1.heap.size, 0, none⟩ = some (.int .u64 (key : Int)) ∧ X.cell? ⟨w1.heap.size, 1, none⟩ = some (.int .i64 ah) ∧ X.cell? ⟨w1.heap.size, 2, none⟩ = some (.int .i64 be)) (first | (with_reducible exact HS0.out) | (with_reducible exact HS3.out) | (with_reducible exact HS4.out) | go_keep) (first
    | (go_at_call 178; (with_reducible refine HCl.out.mono ?_); rintro e w3 ⟨rfl, hb3⟩
       have hs3 := hb3.size
       rw [HZ.out] at hs3
       have HB3 := Lib.hid hb3
       have HBw := Lib.hid (HB0.out.trans (hb3.mono HB0.out.size))
       have HS3 := Lib.hid (And.intro ((hb3.cell (p := ⟨C, 1, none⟩) (by rw [HZ.out]; show C < _; omega)).trans HS0.out.1) (And.intro ((hb3.cell (p := ⟨w1.heap.size, 0, none⟩) (by rw [HZ.out]; show w1.heap.size < _; omega)).trans HS0.out.2.1) (And.intro ((hb3.cell (p := ⟨w1.heap.size, 1, none⟩) (by rw [HZ.out]; show w1.heap.size < _; omega)).trans HS0.out.2.2.1) ((hb3.cell (p := ⟨w1.heap.size, 2, none⟩) (by rw [HZ.out]; show w1.heap.size < _; omega)).trans HS0.out.2.2.2))))
       clear hb3)
    | (go_at_call 185; (with_reducible refine (q_put w3 Q M lim cn cf An Af ns fs (hA.out.chg (K.Chg.of_below (O := fun _ => False) HBw.out) (fun _ _ h => h)) k hk hT.out key ah b _ rfl).mono ?_); rintro e w4 ⟨rfl, hq⟩
       have HQ := Lib.hid hq
       have HS4 : Hid (w4.cell? ⟨C, 1, none⟩ = some (.pointer (some ⟨Q, 0, none⟩)) ∧ w4.cell? ⟨w1.heap.size, 0, none⟩ = some (.int .u64 (key : Int)) ∧ w4.cell? ⟨w1.heap.size, 1, none⟩ = some (.int .i64 ah) ∧ w4.cell? ⟨w1.heap.size, 2, none⟩ = some (.int .i64 be)) := by
         obtain ⟨_, _, _, _, _, hc, _⟩ := hq
         have hnq : ¬ QB Q An Af w1.heap.size := fun hj => by have := hA.out.qb hj; omega
         have hnc := hH.out.qb hA.out
         exact ⟨(hc.cell (by omega) hnc 1).trans HS3.out.1, (hc.cell (by omega) hnq 0).trans HS3.out.2.1, (hc.cell (by omega) hnq 1).trans HS3.out.2.2.1, (hc.cell (by omega) hnq 2).trans HS3.out.2.2.2⟩
       clear hq))
  all_goals
    go_wp2
    go_ret
    exact ⟨rfl, HQ.out.from HBw.out⟩
set_option maxHeartbeats 1000000 in
theorem c_change2 (h : Cb w C Q M fi la) (a : Qo w Q M lim An cn Af cf ns fs) (k : Nat) (hk : k < ns.length) (key : Nat) (ah be : Int) (hx : ns[k] = (⟨key, ah, be⟩, true)) (B : Nat) (b : Int) (hB : w.cell? ⟨B, 0, none⟩ = some (.int .i64 b)) (hBl : B < w.heap.size) :
    Calls Tryz.prog 177 #[.pointer (some ⟨C, 0, none⟩), .int .i64 (k : Int), .func (.func 179) #[] #[.pointer (some ⟨B, 0, none⟩)]] w fun e w' => e = .returned (.bool true) ∧ QStep w Q M lim An Af (ns.set k (⟨key, b, be⟩, true)) fs w' := by
  have ht : ns[k].2 = true := by rw [hx]
  have hp := q_peek_yes w Q M lim cn cf An Af ns fs a k hk ht
  rw [hx] at hp
  have hp : Hid (Calls _ _ _ _ (PeekP w (ndv key ah be) true)) := hp
  have hA := Lib.hid a
  have hH := Lib.hid h
  have hBH := Lib.hid hB
  have hT := Lib.hid ht
  have h1 := h.c1
  have hlt := h.lt
  have hmf : ∀ (fn : Fn) (first cap : Array Value) (w : World), (Instr.makeFunc fn first cap).run Tryz.prog w = .ok (.func fn first cap) w := fun _ _ _ _ => rfl
  clear h a hB ht hx
  go_enter Tryz.func177, Tryz.ntmps177
  go_wp2_with (go_at_call 141; (with_reducible refine hp.out.mono ?_); rintro e w1 ⟨rfl, hb1⟩
               have hs1 := hb1.size
               have HB1 := Lib.hid hb1
               have hb2 : Below w.heap.size w (w1.alloc (ndo key ah be)).drew := below_drewN (hb1.alloc hs1 _) 1
               have hrow : (w1.alloc (ndo key ah be)).drew.heap[w1.heap.size]? = some (ndo key ah be) := K.alloc_top w1 (ndo key ah be)
               have hC0 : (w1.alloc (ndo key ah be)).drew.cell? ⟨C, 1, none⟩ = some (.pointer (some ⟨Q, 0, none⟩)) := (hb2.cell (p := ⟨C, 1, none⟩) hlt).trans h1
               have HS0 := Lib.hid (And.intro hC0 (nd_cells hrow))
               have HB0 := Lib.hid hb2
               have HCl := Lib.hid (c_clos2 (w1.alloc (ndo key ah be)).drew key ah be B b ((hb2.cell (p := ⟨B, 0, none⟩) hBl).trans hBH.out) (Nat.lt_of_lt_of_le hBl hb2.size))
               have hz : (w1.alloc (ndo key ah be)).drew.heap.size = w1.heap.size + 1 := by show (w1.heap.push _).size = _; simp
               have HZ := Lib.hid hz
               clear hb1 hb2 hrow hC0 hz)
  go_region_held3 (fun X => X.cell? ⟨C, 1, none⟩ = some (.pointer (some ⟨Q, 0, none⟩)) ∧ X.cell? ⟨w1.heap.size, 0, none⟩ = some (.int .u64 (key : Int)) ∧ X.cell? ⟨w1.heap.size, 1, none⟩ = some (.int .i64 ah) ∧ X.cell? ⟨w1.heap.size, 2, none⟩ = some (.int .i64 be)) (first | (with_reducible exact HS0.out) | (with_reducible exact HS3.out) | (with_reducible exact HS4.out) | go_keep) (first
    | (go_at_call 179; (with_reducible refine HCl.out.mono ?_); rintro e w3 ⟨rfl, hb3⟩
       have hs3 := hb3.size
       rw [HZ.out] at hs3
       have HB3 := Lib.hid hb3
       have HBw := Lib.hid (HB0.out.trans (hb3.mono HB0.out.size))
       have HS3 := Lib.hid (And.intro ((hb3.cell (p := ⟨C, 1, none⟩) (by rw [HZ.out]; show C < _; omega)).trans HS0.out.1) (And.intro ((hb3.cell (p := ⟨w1.heap.size, 0, none⟩) (by rw [HZ.out]; show w1.heap.size < _; omega)).trans HS0.out.2.1) (And.intro ((hb3.cell (p := ⟨w1.heap.size, 1, none⟩) (by rw [HZ.out]; show w1.heap.size < _; omega)).trans HS0.out.2.2.1) ((hb3.cell (p := ⟨w1.heap.size, 2, none⟩) (by rw [HZ.out]; show w1.heap.size < _; omega)).trans HS0.out.2.2.2))))
       clear hb3)
    | (go_at_call 185; (with_reducible refine (q_put w3 Q M lim cn cf An Af ns fs (hA.out.chg (K.Chg.of_below (O := fun _ => False) HBw.out) (fun _ _ h => h)) k hk hT.out key b be _ rfl).mono ?_); rintro e w4 ⟨rfl, hq⟩
       have HQ := Lib.hid hq
       have HS4 : Hid (w4.cell? ⟨C, 1, none⟩ = some (.pointer (some ⟨Q, 0, none⟩)) ∧ w4.cell? ⟨w1.heap.size, 0, none⟩ = some (.int .u64 (key : Int)) ∧ w4.cell? ⟨w1.heap.size, 1, none⟩ = some (.int .i64 ah) ∧ w4.cell? ⟨w1.heap.size, 2, none⟩ = some (.int .i64 be)) := by
         obtain ⟨_, _, _, _, _, hc, _⟩ := hq
         have hnq : ¬ QB Q An Af w1.heap.size := fun hj => by have := hA.out.qb hj; omega
         have hnc := hH.out.qb hA.out
         exact ⟨(hc.cell (by omega) hnc 1).trans HS3.out.1, (hc.cell (by omega) hnq 0).trans HS3.out.2.1, (hc.cell (by omega) hnq 1).trans HS3.out.2.2.1, (hc.cell (by omega) hnq 2).trans HS3.out.2.2.2⟩
       clear hq))
  all_goals
    go_wp2
    go_ret
    exact ⟨rfl, HQ.out.from HBw.out⟩
end
end Go.Proofs.YtelfacchhclgnaaGreat
end
section
namespace Go.Proofs.YtelfacchhclgnaaGreat
set_option maxRecDepth 20000
open Go.RowKit
set_option linter.unusedSectionVars false
variable [Gh]
def ndi (ns : List (Nd × Bool)) (i : Int) : Nd := ((ns[i.toNat]?).getD (Nd.z, true)).1
/-- The link i with another one behind it; or ahead of it. -/
def setb (ns : List (Nd × Bool)) (i b : Int) : List (Nd × Bool) := if lvq ns i then ns.set i.toNat (⟨(ndi ns i).key, (ndi ns i).ah, b⟩, true) else ns
def seta (ns : List (Nd × Bool)) (i a : Int) : List (Nd × Bool) := if lvq ns i then ns.set i.toNat (⟨(ndi ns i).key, a, (ndi ns i).be⟩, true) else ns
theorem lvq_form {ns : List (Nd × Bool)} {i : Int} (h : lvq ns i = true) : ∃ k : Nat, i = (k : Int) ∧ ∃ hk : k < ns.length, ns[k] = (ndi ns i, true) := by
  unfold lvq at h
  rw [Bool.and_eq_true, decide_eq_true_eq] at h
  obtain ⟨h0, h1⟩ := h
  refine ⟨i.toNat, by omega, ?_⟩
  rcases Nat.lt_or_ge i.toNat ns.length with hk | hk
  · rw [List.getElem?_eq_getElem hk] at h1
    simp at h1
    refine ⟨hk, ?_⟩
    unfold ndi
    rw [List.getElem?_eq_getElem hk]
    simp only [Option.getD_some]
    rw [← h1]
  · rw [List.getElem?_eq_none hk] at h1
    simp at h1
theorem lvq_set {ns : List (Nd × Bool)} {k : Nat} (hk : k < ns.length) (ht : ns[k].2 = true) (y : Nd) (i : Int) : lvq (ns.set k (y, true)) i = lvq ns i := by
  unfold lvq
  congr 1
  rw [List.getElem?_set]
  split
  · rename_i e
    rw [← e, List.getElem?_eq_getElem hk]
    simp [ht]
  · rfl
theorem lvq_setb (ns : List (Nd × Bool)) (i b j : Int) : lvq (setb ns i b) j = lvq ns j := by
  unfold setb
  split
  · rename_i h
    obtain ⟨k, rfl, hk, e⟩ := lvq_form h
    exact lvq_set hk (by rw [e]) _ _
  · rfl
theorem lvq_seta (ns : List (Nd × Bool)) (i b j : Int) : lvq (seta ns i b) j = lvq ns j := by
  unfold seta
  split
  · rename_i h
    obtain ⟨k, rfl, hk, e⟩ := lvq_form h
    exact lvq_set hk (by rw [e]) _ _
  · rfl
section
variable (w : World) (C Q M lim cn cf : Nat) (fi la : Int) (An Af : Option Addr) (ns : List (Nd × Bool)) (fs : List Nat)
theorem c_chg1 (h : Cb w C Q M fi la) (a : Qo w Q M lim An cn Af cf ns fs) (i : Int) (B : Nat) (b : Int) (hB : w.cell? ⟨B, 0, none⟩ = some (.int .i64 b)) (hBl : B < w.heap.size) :
    Calls Tryz.prog 177 #[.pointer (some ⟨C, 0, none⟩), .int .i64 i, .func (.func 178) #[] #[.pointer (some ⟨B, 0, none⟩)]] w fun e w' => e = .returned (.bool (lvq ns i)) ∧ QStep w Q M lim An Af (setb ns i b) fs w' := by
  unfold setb
  cases hi : lvq ns i with
  | true =>
    obtain ⟨k, rfl, hk, e⟩ := lvq_form hi
    exact c_change1 w C Q M lim cn cf fi la An Af ns fs h a k hk _ _ _ e B b hB hBl
  | false =>
    refine (c_change_no w C Q M lim cn cf fi la An Af ns fs h a i _ hi).mono ?_
    rintro e w' ⟨rfl, hb⟩
    exact ⟨rfl, An, cn, Af, cf, a.chg (K.Chg.of_below (O := fun _ => False) hb) (fun _ _ h => h), K.Chg.of_below hb, fun j hj => .inl hj⟩
theorem c_chg2 (h : Cb w C Q M fi la) (a : Qo w Q M lim An cn Af cf ns fs) (i : Int) (B : Nat) (b : Int) (hB : w.cell? ⟨B, 0, none⟩ = some (.int .i64 b)) (hBl : B < w.heap.size) :
    Calls Tryz.prog 177 #[.pointer (some ⟨C, 0, none⟩), .int .i64 i, .func (.func 179) #[] #[.pointer (some ⟨B, 0, none⟩)]] w fun e w' => e = .returned (.bool (lvq ns i)) ∧ QStep w Q M lim An Af (seta ns i b) fs w' := by
  unfold seta
  cases hi : lvq ns i with
  | true =>
    obtain ⟨k, rfl, hk, e⟩ := lvq_form hi
    exact c_change2 w C Q M lim cn cf fi la An Af ns fs h a k hk _ _ _ e B b hB hBl
  | false =>
    refine (c_change_no w C Q M lim cn cf fi la An Af ns fs h a i _ hi).mono ?_
    rintro e w' ⟨rfl, hb⟩
    exact ⟨rfl, An, cn, Af, cf, a.chg (K.Chg.of_below (O := fun _ => False) hb) (fun _ _ h => h), K.Chg.of_below hb, fun j hj => .inl hj⟩
/-- The blocks of a chain. -/
def CB (C Q : Nat) (An Af : Option Addr) (j : Nat) : Prop := j = C ∨ QB Q An Af j
/-- What a call that changes a chain leaves. -/
def CStep (w : World) (C Q M lim : Nat) (An Af : Option Addr) (fi' la' : Int) (ns' : List (Nd × Bool)) (fs' : List Nat) (w' : World) : Prop :=
  ∃ An' cn' Af' cf', Cb w' C Q M fi' la' ∧ Qo w' Q M lim An' cn' Af' cf' ns' fs' ∧ K.Chg w w' (CB C Q An Af) ∧ ∀ j, QB Q An' Af' j → QB Q An Af j ∨ w.heap.size ≤ j
theorem c_join (h : Cb w C Q M fi la) (q : Qo w Q M lim An cn Af cf ns fs) (a b : Int) :
    Calls Tryz.prog 161 #[.pointer (some ⟨C, 0, none⟩), .int .i64 a, .int .i64 b] w fun e w' => e = .returned (.tuple #[]) ∧ CStep w C Q M lim An Af (if lvq ns a then fi else b) (if lvq ns b then la else a) (seta (setb ns a b) b a) fs w' := by
  obtain ⟨W0, hW0⟩ : ∃ W0, (w.alloc (.cells #[.int .i64 a] 3)).alloc (.cells #[.int .i64 b] 3) = W0 := ⟨_, rfl⟩
  have hb0 : Below w.heap.size w W0 := by rw [← hW0]; exact ((Below.refl _ w).alloc (Nat.le_refl _) _).alloc (by simp) _
  have hz0 : W0.heap.size = w.heap.size + 2 := by rw [← hW0]; simp
  have x1 : W0.heap[w.heap.size]? = some (.cells #[.int .i64 a] 3 (0, 0)) := by rw [← hW0]; exact (Below.heap_alloc _ _ _ (by simp)).trans (K.alloc_top _ _)
  have x2 : W0.heap[w.heap.size + 1]? = some (.cells #[.int .i64 b] 3 (0, 0)) := by
    rw [← hW0]
    have := K.alloc_top (w.alloc (.cells #[.int .i64 a] 3)) (.cells #[.int .i64 b] 3)
    rw [World.size_alloc] at this
    exact this
  have h0 := h.chg (K.Chg.of_below (O := fun _ => False) hb0) (fun h => h)
  have q0 := q.chg (K.Chg.of_below (O := fun _ => False) hb0) (fun _ _ h => h)
  have hcl := h.lt
  have y1 : W0.cell? ⟨w.heap.size, 0, none⟩ = some (.int .i64 a) := cell_of_row W0 _ 0 _ _ (0, 0) x1
  have y2 : W0.cell? ⟨w.heap.size + 1, 0, none⟩ = some (.int .i64 b) := cell_of_row W0 _ 0 _ _ (0, 0) x2
  have HC1 := Lib.hid (c_chg1 W0 C Q M lim cn cf fi la An Af ns fs h0 q0 a (w.heap.size + 1) b y2 (by omega))
  have HQB := Lib.hid (fun j (hj : QB Q An Af j) => q.qb hj)
  have HNC := Lib.hid (h.qb q)
  have HH0 := Lib.hid h0
  have HB0 := Lib.hid hb0
  have HX1 := Lib.hid x1
  have HX2 := Lib.hid x2
  have hlv := lvq_setb ns a b b
  have hmf : ∀ (fn : Fn) (first cap : Array Value) (w : World), (Instr.makeFunc fn first cap).run Tryz.prog w = .ok (.func fn first cap) w := fun _ _ _ _ => rfl
  have fin : Hid (∀ (w2 w3 w4 : World) (f' : Int) (l' : Int) (An2 Af2 : Option Addr), K.Chg W0 w2 (QB Q An Af) → (∀ j, QB Q An2 Af2 j → QB Q An Af j ∨ W0.heap.size ≤ j) → K.Chg w2 w3 (· = C) → QStep w3 Q M lim An2 Af2 (seta (setb ns a b) b a) fs w4 → (w2.heap.size ≤ w3.heap.size) → Cb w3 C Q M f' l' → ¬ QB Q An2 Af2 C → CStep w C Q M lim An Af f' l' (seta (setb ns a b) b a) fs w4 ∧ CStep w C Q M lim An Af f' a (seta (setb ns a b) b a) fs (w4.setCell ⟨C, 3, none⟩ (.int .i64 a))) := by
    intro w2 w3 w4 f' l' An2 Af2 g1 g2 g3 ⟨An', cn', Af', cf', g4, g5, g6⟩ g7 g8 g9
    have s2 := g1.size
    have c1 : K.Chg w w4 (CB C Q An Af) := by
      refine (((K.Chg.of_below (O := CB C Q An Af) hb0).trans g1 (fun j hj => .inl (.inr hj))).trans g3 (fun j hj => .inl (.inl hj))).trans g5 (fun j hj => ?_)
      rcases g2 j hj with h | h
      · exact .inl (.inr h)
      · right; omega
    have c2 : ∀ j, QB Q An' Af' j → QB Q An Af j ∨ w.heap.size ≤ j := fun j hj => by
      rcases g6 j hj with h | h
      · rcases g2 j h with h | h
        · exact .inl h
        · right; omega
      · right; omega
    have c3 := g8.chg g5 g9
    have g4c := g4
    refine ⟨⟨An', cn', Af', cf', c3, g4, c1, c2⟩, ⟨An', cn', Af', cf', c3.set3 a, g4.chg (chg_set w4 C 3 _ (· = C) rfl) (fun j hj e => by subst e; exact c3.qb g4c hj), c1.same (chg_set w4 C 3 _ _ (.inl rfl)), c2⟩⟩
  have HCl := Lib.hid hcl
  clear h q h0 q0 hb0 x1 x2 y2 hcl
  go_enter Tryz.func161, Tryz.ntmps161
  cases hla : lvq ns a <;> cases hlb : lvq ns b <;> simp only [Bool.false_eq_true, if_true, if_false] <;> rw [hla] at HC1 <;> rw [hlb] at hlv
  all_goals
    go_wp2_with (first
      | (go_at_call 177; (with_reducible refine HC1.out.mono ?_); rintro e w2 ⟨rfl, An2, cn2, Af2, cf2, hq2, hc2, hi2⟩
         have s2 := hc2.size
         have n1 : ¬ QB Q An Af w.heap.size := fun hj => by have := HQB.out _ hj; omega
         have n2 : ¬ QB Q An Af (w.heap.size + 1) := fun hj => by have := HQB.out _ hj; omega
         have z1 := (hc2.block w.heap.size (by omega) n1).trans HX1.out
         have z2 := (hc2.block (w.heap.size + 1) (by omega) n2).trans HX2.out
         have k1 : w2.cell? ⟨w.heap.size, 0, none⟩ = some (.int .i64 a) := cell_of_row w2 _ 0 _ _ (0, 0) z1
         have k2 : w2.cell? ⟨w.heap.size + 1, 0, none⟩ = some (.int .i64 b) := cell_of_row w2 _ 0 _ _ (0, 0) z2
         have hh2 := HH0.out.chg hc2 HNC.out
         have fr := hh2.fr 2
         have fr3 := hh2.fr 3
         have e2 := hh2.c2
         have e3 := hh2.c3
         have cl := HCl.out
         have HH2 := Lib.hid hh2
         have HQ2 := Lib.hid hq2
         have HI2 := Lib.hid hi2
         have HK2 := Lib.hid hc2
         clear hq2 hc2 hi2 z1 z2 hh2)
      | (go_at_call 177; (with_reducible refine (c_chg2 w2 C Q M lim cn2 cf2 fi la An2 Af2 _ fs HH2.out HQ2.out b w.heap.size a k1 (by omega)).mono ?_); rintro e w4 ⟨rfl, hq4⟩
         rw [hlv]
         have HD := Lib.hid (fin.out w2 w2 w4 fi la An2 Af2 HK2.out HI2.out (chg_refl w2 _) hq4 (Nat.le_refl _) HH2.out (HH2.out.qb HQ2.out))
         have hh4 := HH2.out.chg hq4.choose_spec.choose_spec.choose_spec.choose_spec.2.1 (HH2.out.qb HQ2.out)
         have fr4 := hh4.fr 3
         have e4 := hh4.c3
         have n5 : ¬ QB Q An2 Af2 w.heap.size := fun hj => by rcases HI2.out _ hj with h | h; exact n1 h; omega
         have k5 : w4.cell? ⟨w.heap.size, 0, none⟩ = some (.int .i64 a) := (hq4.choose_spec.choose_spec.choose_spec.choose_spec.2.1.cell (by omega) n5 0).trans k1
         clear hq4 hh4)
      | (go_at_call 177; (with_reducible refine (c_chg2 (w2.setCell ⟨C, 2, none⟩ (.int .i64 b)) C Q M lim cn2 cf2 b la An2 Af2 _ fs (HH2.out.set2 b) (HQ2.out.chg (chg_set w2 C 2 _ (· = C) rfl) (fun j hj e => (by have e2 : j = C := e; subst e2; exact absurd hj (HH2.out.qb HQ2.out)))) b w.heap.size a (((chg_set w2 C 2 _ (· = C) rfl).cell (by omega) (fun e => (by have e2 : w.heap.size = C := e; omega)) 0).trans k1) (by rw [size_set]; omega)).mono ?_); rintro e w4 ⟨rfl, hq4⟩
         rw [hlv]
         have hnq2 := HH2.out.qb HQ2.out
         have HD := Lib.hid (fin.out w2 (w2.setCell ⟨C, 2, none⟩ (.int .i64 b)) w4 b la An2 Af2 HK2.out HI2.out (chg_set w2 C 2 _ _ rfl) hq4 (by rw [size_set]; exact Nat.le_refl _) (HH2.out.set2 b) hnq2)
         have hh4 := (HH2.out.set2 b).chg hq4.choose_spec.choose_spec.choose_spec.choose_spec.2.1 hnq2
         have fr4 := hh4.fr 3
         have e4 := hh4.c3
         have n5 : ¬ QB Q An2 Af2 w.heap.size := fun hj => by rcases HI2.out _ hj with h | h; exact n1 h; omega
         have k5 : w4.cell? ⟨w.heap.size, 0, none⟩ = some (.int .i64 a) := (hq4.choose_spec.choose_spec.choose_spec.choose_spec.2.1.cell (by rw [size_set]; omega) n5 0).trans (((chg_set w2 C 2 _ (· = C) rfl).cell (by omega) (fun e => (by have e2 : w.heap.size = C := e; omega)) 0).trans k1)
         clear hq4 hh4))
    go_end0
    first
    | exact ⟨rfl, HD.out.1⟩
    | exact ⟨rfl, HD.out.2⟩
end
end Go.Proofs.YtelfacchhclgnaaGreat
end
section
namespace Go.Proofs.YtelfacchhclgnaaGreat
set_option maxRecDepth 20000
open Go.RowKit
set_option linter.unusedSectionVars false
variable [Gh]
abbrev LL := List (Nat × Nat)
def hd (L : LL) (b : Int) : Int := match L with | [] => b | x :: _ => (x.1 : Int)
def lst (a : Int) (L : LL) : Int := match L with | [] => a | x :: L => lst (x.1 : Int) L
/-- The links L stand one behind the other, ahead of them a, behind them b. -/
def Seg (ns : List (Nd × Bool)) (a : Int) (L : LL) (b : Int) : Prop := match L with
  | [] => True
  | x :: L => ns[x.1]? = some (⟨x.2, a, hd L b⟩, true) ∧ Seg ns (x.1 : Int) L b
theorem hd_app (L1 L2 : LL) (b : Int) : hd (L1 ++ L2) b = hd L1 (hd L2 b) := by cases L1 <;> rfl
theorem lst_app (L1 L2 : LL) (a : Int) : lst a (L1 ++ L2) = lst (lst a L1) L2 := by
  induction L1 generalizing a with
  | nil => rfl
  | cons x L1 ih => exact ih _
theorem seg_app {ns : List (Nd × Bool)} {L1 L2 : LL} {a b : Int} : Seg ns a (L1 ++ L2) b ↔ Seg ns a L1 (hd L2 b) ∧ Seg ns (lst a L1) L2 b := by
  induction L1 generalizing a with
  | nil => simp [Seg, lst]
  | cons x L1 ih =>
    show (_ ∧ Seg ns _ (L1 ++ L2) b) ↔ (_ ∧ Seg ns _ L1 _) ∧ Seg ns (lst _ L1) L2 b
    rw [ih, ← hd_app]
    exact ⟨fun ⟨h1, h2, h3⟩ => ⟨⟨h1, h2⟩, h3⟩, fun ⟨⟨h1, h2⟩, h3⟩ => ⟨h1, h2, h3⟩⟩
theorem seg_frame {ns ns' : List (Nd × Bool)} {L : LL} {a b : Int} (h : Seg ns a L b) (hf : ∀ x ∈ L, ns'[x.1]? = ns[x.1]?) : Seg ns' a L b := by
  induction L generalizing a with
  | nil => trivial
  | cons x L ih => exact ⟨(hf x (by simp)).trans h.1, ih h.2 (fun y hy => hf y (by simp [hy]))⟩
theorem seg_live {ns : List (Nd × Bool)} {L : LL} {a b : Int} (h : Seg ns a L b) {x : Nat × Nat} (hx : x ∈ L) : ∃ nd : Nd, ns[x.1]? = some (nd, true) ∧ nd.key = x.2 := by
  induction L generalizing a with
  | nil => cases hx
  | cons y L ih =>
    rcases List.mem_cons.1 hx with rfl | hx
    · exact ⟨_, h.1, rfl⟩
    · exact ih h.2 hx
theorem lvq_some {ns : List (Nd × Bool)} {k : Nat} {nd : Nd} (h : ns[k]? = some (nd, true)) : lvq ns (k : Int) = true := by
  unfold lvq
  simp [h]
theorem ndi_some {ns : List (Nd × Bool)} {k : Nat} {nd : Nd} (h : ns[k]? = some (nd, true)) : ndi ns (k : Int) = nd := by
  unfold ndi
  simp [h]
theorem lvq_neg {ns : List (Nd × Bool)} {i : Int} (h : i < 0) : lvq ns i = false := by
  unfold lvq
  rw [decide_eq_false (by omega)]
  rfl
theorem setb_some {ns : List (Nd × Bool)} {k : Nat} {nd : Nd} (h : ns[k]? = some (nd, true)) (b : Int) : setb ns (k : Int) b = ns.set k (⟨nd.key, nd.ah, b⟩, true) := by
  unfold setb
  rw [lvq_some h, if_pos rfl, ndi_some h]
  rfl
theorem seta_some {ns : List (Nd × Bool)} {k : Nat} {nd : Nd} (h : ns[k]? = some (nd, true)) (b : Int) : seta ns (k : Int) b = ns.set k (⟨nd.key, b, nd.be⟩, true) := by
  unfold seta
  rw [lvq_some h, if_pos rfl, ndi_some h]
  rfl
theorem setb_ne (ns : List (Nd × Bool)) {i b : Int} {j : Nat} (h : (j : Int) ≠ i) : (setb ns i b)[j]? = ns[j]? := by
  unfold setb
  split
  · rename_i hl
    obtain ⟨k, rfl, _⟩ := lvq_form hl
    rw [List.getElem?_set_ne]
    rw [Int.toNat_natCast]
    intro e; subst e; exact h rfl
  · rfl
theorem seta_ne (ns : List (Nd × Bool)) {i b : Int} {j : Nat} (h : (j : Int) ≠ i) : (seta ns i b)[j]? = ns[j]? := by
  unfold seta
  split
  · rename_i hl
    obtain ⟨k, rfl, _⟩ := lvq_form hl
    rw [List.getElem?_set_ne]
    rw [Int.toNat_natCast]
    intro e; subst e; exact h rfl
  · rfl
theorem get_set {ns : List (Nd × Bool)} {k : Nat} {x y : Nd × Bool} (h : ns[k]? = some x) : (ns.set k y)[k]? = some y := by
  have hk : k < ns.length := (List.getElem?_eq_some_iff.1 h).1
  simp [hk]
theorem setb_at {ns : List (Nd × Bool)} {k : Nat} {nd : Nd} (h : ns[k]? = some (nd, true)) (b : Int) : (setb ns (k : Int) b)[k]? = some (⟨nd.key, nd.ah, b⟩, true) := by
  rw [setb_some h]
  exact get_set h
theorem seta_at {ns : List (Nd × Bool)} {k : Nat} {nd : Nd} (h : ns[k]? = some (nd, true)) (b : Int) : (seta ns (k : Int) b)[k]? = some (⟨nd.key, b, nd.be⟩, true) := by
  rw [seta_some h]
  exact get_set h
theorem setb_len (ns : List (Nd × Bool)) (i b : Int) : (setb ns i b).length = ns.length := by
  unfold setb
  split <;> simp
theorem seta_len (ns : List (Nd × Bool)) (i b : Int) : (seta ns i b).length = ns.length := by
  unfold seta
  split <;> simp
theorem lst_mem {a : Int} {L : LL} (h : L ≠ []) : ∃ x ∈ L, lst a L = (x.1 : Int) := by
  induction L generalizing a with
  | nil => exact absurd rfl h
  | cons x L ih =>
    cases L with
    | nil => exact ⟨x, by simp, rfl⟩
    | cons y L =>
      obtain ⟨z, hz, e⟩ := ih (a := (x.1 : Int)) (by simp)
      exact ⟨z, by simp [hz], e⟩
/-- The last link with another one behind it. -/
theorem seg_setb {ns : List (Nd × Bool)} {L : LL} {a c : Int} (h : Seg ns a L c) (hn : (L.map (·.1)).Nodup) (b : Int) : Seg (setb ns (lst a L) b) a L b := by
  induction L generalizing a with
  | nil => trivial
  | cons x L ih =>
    rw [List.map_cons, List.nodup_cons] at hn
    cases L with
    | nil =>
      refine ⟨?_, trivial⟩
      show (setb ns (x.1 : Int) b)[x.1]? = _
      exact setb_at h.1 b
    | cons y L =>
      refine ⟨?_, ih h.2 hn.2⟩
      rw [setb_ne]
      · exact h.1
      · intro e
        obtain ⟨z, hz, e2⟩ := lst_mem (a := (x.1 : Int)) (L := y :: L) (by simp)
        have e3 : (x.1 : Int) = (z.1 : Int) := e.trans e2
        exact hn.1 (List.mem_map.2 ⟨z, hz, by omega⟩)
/-- The first link with another one ahead of it. -/
theorem seg_seta {ns : List (Nd × Bool)} {L : LL} {a c : Int} (h : Seg ns a L c) (hn : (L.map (·.1)).Nodup) (b : Int) : Seg (seta ns (hd L c) b) b L c := by
  cases L with
  | nil => trivial
  | cons x L =>
    rw [List.map_cons, List.nodup_cons] at hn
    refine ⟨seta_at h.1 b, seg_frame h.2 (fun y hy => seta_ne _ ?_)⟩
    intro e
    have e2 : (y.1 : Int) = (x.1 : Int) := e
    exact hn.1 (List.mem_map.2 ⟨y, hy, by omega⟩)
theorem lst_ne {L : LL} {n : Nat} (h : ∀ x ∈ L, x.1 ≠ n) : (n : Int) ≠ lst (-1) L := by
  intro e
  by_cases hL : L = []
  · subst hL
    have : (n : Int) = -1 := e
    omega
  · obtain ⟨x, hx, e2⟩ := lst_mem (a := -1) hL
    exact h x hx (by omega)
theorem hd_mem {L : LL} (h : L ≠ []) : ∃ x ∈ L, ∀ b, hd L b = (x.1 : Int) := by
  cases L with
  | nil => exact absurd rfl h
  | cons x L => exact ⟨x, by simp, fun _ => rfl⟩
theorem hd_ne {L : LL} {n : Nat} (h : ∀ x ∈ L, x.1 ≠ n) : (n : Int) ≠ hd L (-1) := by
  intro e
  by_cases hL : L = []
  · subst hL
    have : (n : Int) = -1 := e
    omega
  · obtain ⟨x, hx, e2⟩ := hd_mem hL
    have := e2 (-1)
    exact h x hx (by omega)
theorem nod_app {L1 L2 : LL} (hn : ((L1 ++ L2).map (·.1)).Nodup) : (L1.map (·.1)).Nodup ∧ (L2.map (·.1)).Nodup ∧ ∀ x ∈ L1, ∀ y ∈ L2, x.1 ≠ y.1 := by
  rw [List.map_append, List.nodup_append] at hn
  exact ⟨hn.1, hn.2.1, fun x hx y hy => hn.2.2 _ (List.mem_map.2 ⟨x, hx, rfl⟩) _ (List.mem_map.2 ⟨y, hy, rfl⟩)⟩
/-- A link more, behind L1. -/
theorem seg_more {ns ns2 : List (Nd × Bool)} {L1 L2 : LL} {n k : Nat} {nd : Nd} (h : Seg ns (-1) (L1 ++ L2) (-1)) (hn : ((L1 ++ L2).map (·.1)).Nodup) (hx : ∀ x ∈ L1 ++ L2, x.1 ≠ n)
    (h2 : ns2[n]? = some (nd, true)) (hk : nd.key = k) (hf : ∀ j, j ≠ n → ns2[j]? = ns[j]?) :
    Seg (seta (setb (seta (setb ns2 (lst (-1) L1) n) n (lst (-1) L1)) n (hd L2 (-1))) (hd L2 (-1)) n) (-1) (L1 ++ (n, k) :: L2) (-1) := by
  obtain ⟨hn1, hn2, hn12⟩ := nod_app hn
  have hx1 : ∀ x ∈ L1, x.1 ≠ n := fun x h => hx x (List.mem_append_left _ h)
  have hx2 : ∀ x ∈ L2, x.1 ≠ n := fun x h => hx x (List.mem_append_right _ h)
  obtain ⟨s1, s2⟩ := seg_app.1 h
  have s1 := seg_frame s1 (fun x hm => hf _ (hx1 x hm))
  have s2 := seg_frame s2 (fun x hm => hf _ (hx2 x hm))
  have na := lst_ne hx1
  have nb := hd_ne hx2
  have nl2 : ∀ y ∈ L2, (y.1 : Int) ≠ lst (-1) L1 := fun y hy => lst_ne (fun x hx => hn12 x hx y hy)
  have nh1 : ∀ x ∈ L1, (x.1 : Int) ≠ hd L2 (-1) := fun x hx => hd_ne (fun y hy => Ne.symm (hn12 x hx y hy))
  -- the link ahead
  have t1 := seg_setb s1 hn1 (n : Int)
  have t2 := seg_frame s2 (fun y hy => setb_ne ns2 (b := (n : Int)) (nl2 y hy))
  have t3 : (setb ns2 (lst (-1) L1) n)[n]? = some (nd, true) := (setb_ne ns2 na).trans h2
  generalize setb ns2 (lst (-1) L1) n = m1 at *
  have u3 := seta_at t3 (lst (-1) L1)
  have t1 := seg_frame t1 (fun x hm => seta_ne m1 (i := (n : Int)) (b := lst (-1) L1) (fun e => hx1 x hm (by omega)))
  have t2 := seg_frame t2 (fun x hm => seta_ne m1 (i := (n : Int)) (b := lst (-1) L1) (fun e => hx2 x hm (by omega)))
  generalize seta m1 n (lst (-1) L1) = m2 at *
  have u4 := setb_at u3 (hd L2 (-1))
  have t1 := seg_frame t1 (fun x hm => setb_ne m2 (i := (n : Int)) (b := hd L2 (-1)) (fun e => hx1 x hm (by omega)))
  have t2 := seg_frame t2 (fun x hm => setb_ne m2 (i := (n : Int)) (b := hd L2 (-1)) (fun e => hx2 x hm (by omega)))
  generalize setb m2 n (hd L2 (-1)) = m3 at *
  have t2 := seg_seta t2 hn2 (n : Int)
  have t1 := seg_frame t1 (fun x hm => seta_ne m3 (b := (n : Int)) (nh1 x hm))
  have u5 := (seta_ne m3 (b := (n : Int)) nb).trans u4
  refine seg_app.2 ⟨t1, ?_, t2⟩
  rw [u5]
  show _ = some ((⟨k, _, _⟩ : Nd), true)
  rw [← hk]
/-- A link less. -/
theorem seg_less {ns : List (Nd × Bool)} {L1 L2 : LL} {n k : Nat} {x : Nd × Bool} (h : Seg ns (-1) (L1 ++ (n, k) :: L2) (-1)) (hn : ((L1 ++ (n, k) :: L2).map (·.1)).Nodup) :
    Seg (seta (setb (ns.set n x) (lst (-1) L1) (hd L2 (-1))) (hd L2 (-1)) (lst (-1) L1)) (-1) (L1 ++ L2) (-1) := by
  obtain ⟨hn1, hn2, hn12⟩ := nod_app hn
  rw [List.map_cons, List.nodup_cons] at hn2
  have hx1 : ∀ x ∈ L1, x.1 ≠ n := fun x h => hn12 x h (n, k) (by simp)
  have hx2 : ∀ x ∈ L2, x.1 ≠ n := fun x h e => hn2.1 (List.mem_map.2 ⟨x, h, e⟩)
  have hn12 : ∀ x ∈ L1, ∀ y ∈ L2, x.1 ≠ y.1 := fun x hx y hy => hn12 x hx y (by simp [hy])
  obtain ⟨s1, _, s2⟩ := seg_app.1 h
  have nl2 : ∀ y ∈ L2, (y.1 : Int) ≠ lst (-1) L1 := fun y hy => lst_ne (fun x hx => hn12 x hx y hy)
  have nh1 : ∀ x ∈ L1, (x.1 : Int) ≠ hd L2 (-1) := fun x hx => hd_ne (fun y hy => Ne.symm (hn12 x hx y hy))
  have s1 := seg_frame (ns' := ns.set n x) s1 (fun y hm => List.getElem?_set_ne (Ne.symm (hx1 y hm)))
  have s2 := seg_frame (ns' := ns.set n x) s2 (fun y hm => List.getElem?_set_ne (Ne.symm (hx2 y hm)))
  generalize ns.set n x = m0 at *
  have t1 := seg_setb s1 hn1 (hd L2 (-1))
  have t2 := seg_frame s2 (fun y hy => setb_ne m0 (b := hd L2 (-1)) (nl2 y hy))
  generalize setb m0 (lst (-1) L1) (hd L2 (-1)) = m1 at *
  have t2 := seg_seta t2 hn2.2 (lst (-1) L1)
  have t1 := seg_frame t1 (fun x hm => seta_ne m1 (b := lst (-1) L1) (nh1 x hm))
  exact seg_app.2 ⟨t1, t2⟩
theorem lvq_lst {ns : List (Nd × Bool)} {L : LL} {b : Int} (h : Seg ns (-1) L b) : lvq ns (lst (-1) L) = !L.isEmpty := by
  by_cases hL : L = []
  · subst hL
    exact lvq_neg (by decide)
  · obtain ⟨x, hx, e⟩ := lst_mem (a := -1) hL
    obtain ⟨nd, h1, _⟩ := seg_live h hx
    rw [e, lvq_some h1]
    cases L
    · exact absurd rfl hL
    · rfl
theorem lvq_hd {ns : List (Nd × Bool)} {L : LL} {a : Int} (h : Seg ns a L (-1)) : lvq ns (hd L (-1)) = !L.isEmpty := by
  cases L with
  | nil => exact lvq_neg (by decide)
  | cons x L => exact lvq_some h.1
/-- What is not a link's place. -/
theorem seg_at {ns : List (Nd × Bool)} {L1 L2 : LL} {n k : Nat} {a b : Int} (h : Seg ns a (L1 ++ (n, k) :: L2) b) : ns[n]? = some (⟨k, lst a L1, hd L2 b⟩, true) := (seg_app.1 h).2.1
end Go.Proofs.YtelfacchhclgnaaGreat
end
