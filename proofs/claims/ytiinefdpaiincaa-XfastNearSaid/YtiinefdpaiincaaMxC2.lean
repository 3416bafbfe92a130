/- A link is changed by what one says of it; the text walked. -/
import Derived.Test.YtiinefdpaiincaaMxC1
namespace Go.Proofs.Ytiinefdpaiincaa
open Go.RowKit
/-- Block C is a chain's struct: its meter, its links, the ends. -/
structure Cb (w : World) (C Q M : Nat) (fi la : Int) : Prop where
  row : w.heap[C]? = some (.cells #[.pointer (some ⟨M, 0, none⟩), .pointer (some ⟨Q, 0, none⟩), .int .i64 fi, .int .i64 la] 71 (0, 0))
section
variable {w w' : World} {C Q M : Nat} {fi la : Int}
theorem Cb.c0 (h : Cb w C Q M fi la) : w.cell? ⟨C, 0, none⟩ = some (.pointer (some ⟨M, 0, none⟩)) := cell_of_row w C 0 _ _ (0, 0) h.row
theorem Cb.c1 (h : Cb w C Q M fi la) : w.cell? ⟨C, 1, none⟩ = some (.pointer (some ⟨Q, 0, none⟩)) := cell_of_row w C 1 _ _ (0, 0) h.row
theorem Cb.c2 (h : Cb w C Q M fi la) : w.cell? ⟨C, 2, none⟩ = some (.int .i64 fi) := cell_of_row w C 2 _ _ (0, 0) h.row
theorem Cb.c3 (h : Cb w C Q M fi la) : w.cell? ⟨C, 3, none⟩ = some (.int .i64 la) := cell_of_row w C 3 _ _ (0, 0) h.row
theorem Cb.lt (h : Cb w C Q M fi la) : C < w.heap.size := row_lt h.row
theorem Cb.fr (h : Cb w C Q M fi la) (k : Nat) : w.frozen? ⟨C, k, none⟩ = false := frozen_of_row w C k _ _ h.row
theorem Cb.chg {O : Nat → Prop} (h : Cb w C Q M fi la) (b : K.Chg w w' O) (hO : ¬ O C) : Cb w' C Q M fi la := ⟨(b.block C h.lt hO).trans h.row⟩
theorem Cb.set2 (h : Cb w C Q M fi la) (x : Int) : Cb (w.setCell ⟨C, 2, none⟩ (.int .i64 x)) C Q M x la := ⟨by
  have := row_set h.row 2 (.int .i64 x)
  simpa using this⟩
theorem Cb.set3 (h : Cb w C Q M fi la) (x : Int) : Cb (w.setCell ⟨C, 3, none⟩ (.int .i64 x)) C Q M fi x := ⟨by
  have := row_set h.row 3 (.int .i64 x)
  simpa using this⟩
theorem Cb.qb {lim cn cf : Nat} {An Af : Option Addr} {ns : List (Nd × Bool)} {fs : List Nat} (h : Cb w C Q M fi la) (a : Qo w Q M lim An cn Af cf ns fs) : ¬ QB Q An Af C := by
  rintro (e | e | e)
  · exact row_ne h.row a.row (by decide) e
  · obtain ⟨_, cur, hc⟩ := own_block_lt a.nodes e
    exact row_ne hc h.row (by decide) rfl
  · obtain ⟨_, cur, hc⟩ := own_block_lt a.freed e
    exact row_ne hc h.row (by decide) rfl
end
section
variable (w : World) (C Q M lim cn cf : Nat) (fi la : Int) (An Af : Option Addr) (ns : List (Nd × Bool)) (fs : List Nat)
theorem c_change_no (h : Cb w C Q M fi la) (a : Qo w Q M lim An cn Af cf ns fs) (i : Int) (f : Value) (hi : lvq ns i = false) :
    Calls Try.prog 92 #[.pointer (some ⟨C, 0, none⟩), .int .i64 i, f] w fun e w' => e = .returned (.bool false) ∧ Below w.heap.size w w' := by
  have hp := Lib.hid (q_peek_no w Q M lim cn cf An Af ns fs a i hi)
  have h1 := h.c1
  clear h a hi
  go_enter Try.func92, Try.ntmps92
  go_wp2_with (go_at_call 76; (with_reducible refine hp.out.mono ?_); rintro e w1 ⟨rfl, hb1⟩; have HB1 := Lib.hid hb1; clear hb1)
  go_quiet (fail)
  go_wp2
  go_ret
  refine ⟨rfl, below_drewN ((HB1.out).alloc HB1.out.size _) _⟩
set_option maxHeartbeats 1000000 in
theorem c_change1 (h : Cb w C Q M fi la) (a : Qo w Q M lim An cn Af cf ns fs) (k : Nat) (hk : k < ns.length) (key : Nat) (ah be : Int) (hx : ns[k] = (⟨key, ah, be⟩, true)) (B : Nat) (b : Int) (hB : w.cell? ⟨B, 0, none⟩ = some (.int .i64 b)) (hBl : B < w.heap.size) :
    Calls Try.prog 92 #[.pointer (some ⟨C, 0, none⟩), .int .i64 (k : Int), .func (.func 93) #[] #[.pointer (some ⟨B, 0, none⟩)]] w fun e w' => e = .returned (.bool true) ∧ QStep w Q M lim An Af (ns.set k (⟨key, ah, b⟩, true)) fs w' := by
  have ht : ns[k].2 = true := by rw [hx]
  have hp := q_peek_yes w Q M lim cn cf An Af ns fs a k hk ht
  rw [hx] at hp
  have hp : Hid (Calls _ _ _ _ (PeekP w (ndv key ah be) true)) := hp
  have hA := Lib.hid a
  have hH := Lib.hid h
  have hBH := Lib.hid hB
  have hT := Lib.hid ht
  have h1 := h.c1
  have hlt := h.lt
  have hmf : ∀ (fn : Fn) (first cap : Array Value) (w : World), (Instr.makeFunc fn first cap).run Try.prog w = .ok (.func fn first cap) w := fun _ _ _ _ => rfl
  clear h a hB ht hx
  go_enter Try.func92, Try.ntmps92
  go_wp2_with (go_at_call 76; (with_reducible refine hp.out.mono ?_); rintro e w1 ⟨rfl, hb1⟩
               have hs1 := hb1.size
               have HB1 := Lib.hid hb1
               have hb2 : Below w.heap.size w (w1.alloc (ndo key ah be)).drew := below_drewN (hb1.alloc hs1 _) 1
               have hrow : (w1.alloc (ndo key ah be)).drew.heap[w1.heap.size]? = some (ndo key ah be) := K.alloc_top w1 (ndo key ah be)
               have hC0 : (w1.alloc (ndo key ah be)).drew.cell? ⟨C, 1, none⟩ = some (.pointer (some ⟨Q, 0, none⟩)) := (hb2.cell (p := ⟨C, 1, none⟩) hlt).trans h1
               have HS0 := Lib.hid (And.intro hC0 (nd_cells hrow))
               have HB0 := Lib.hid hb2
               have HCl := Lib.hid (c_clos1 (w1.alloc (ndo key ah be)).drew key ah be B b ((hb2.cell (p := ⟨B, 0, none⟩) hBl).trans hBH.out) (Nat.lt_of_lt_of_le hBl hb2.size))
               have hz : (w1.alloc (ndo key ah be)).drew.heap.size = w1.heap.size + 1 := by show (w1.heap.push _).size = _; simp
               have HZ := Lib.hid hz
               clear hb1 hb2 hrow hC0 hz)
  go_region_held3 (fun X => X.cell? ⟨C, 1, none⟩ = some (.pointer (some ⟨Q, 0, none⟩)) ∧ X.cell? ⟨w1.heap.size, 0, none⟩ = some (.int .u64 (key : Int)) ∧ X.cell? ⟨w1.heap.size, 1, none⟩ = some (.int .i64 ah) ∧ X.cell? ⟨w1.heap.size, 2, none⟩ = some (.int .i64 be)) (first | (with_reducible exact HS0.out) | (with_reducible exact HS3.out) | (with_reducible exact HS4.out) | go_keep) (first
    | (go_at_call 93; (with_reducible refine HCl.out.mono ?_); rintro e w3 ⟨rfl, hb3⟩
       have hs3 := hb3.size
       rw [HZ.out] at hs3
       have HB3 := Lib.hid hb3
       have HBw := Lib.hid (HB0.out.trans (hb3.mono HB0.out.size))
       have HS3 := Lib.hid (And.intro ((hb3.cell (p := ⟨C, 1, none⟩) (by rw [HZ.out]; show C < _; omega)).trans HS0.out.1) (And.intro ((hb3.cell (p := ⟨w1.heap.size, 0, none⟩) (by rw [HZ.out]; show w1.heap.size < _; omega)).trans HS0.out.2.1) (And.intro ((hb3.cell (p := ⟨w1.heap.size, 1, none⟩) (by rw [HZ.out]; show w1.heap.size < _; omega)).trans HS0.out.2.2.1) ((hb3.cell (p := ⟨w1.heap.size, 2, none⟩) (by rw [HZ.out]; show w1.heap.size < _; omega)).trans HS0.out.2.2.2))))
       clear hb3)
    | (go_at_call 100; (with_reducible refine (q_put w3 Q M lim cn cf An Af ns fs (hA.out.chg (K.Chg.of_below (O := fun _ => False) HBw.out) (fun _ _ h => h)) k hk hT.out key ah b _ rfl).mono ?_); rintro e w4 ⟨rfl, hq⟩
       have HQ := Lib.hid hq
       have HS4 : Hid (w4.cell? ⟨C, 1, none⟩ = some (.pointer (some ⟨Q, 0, none⟩)) ∧ w4.cell? ⟨w1.heap.size, 0, none⟩ = some (.int .u64 (key : Int)) ∧ w4.cell? ⟨w1.heap.size, 1, none⟩ = some (.int .i64 ah) ∧ w4.cell? ⟨w1.heap.size, 2, none⟩ = some (.int .i64 be)) := by
         obtain ⟨_, _, _, _, _, hc, _⟩ := hq
         have hnq : ¬ QB Q An Af w1.heap.size := fun hj => by have := hA.out.qb hj; omega
         have hnc := hH.out.qb hA.out
         exact ⟨(hc.cell (by omega) hnc 1).trans HS3.out.1, (hc.cell (by omega) hnq 0).trans HS3.out.2.1, (hc.cell (by omega) hnq 1).trans HS3.out.2.2.1, (hc.cell (by omega) hnq 2).trans HS3.out.2.2.2⟩
       clear hq))
  all_goals
    go_wp2
    go_ret
    exact ⟨rfl, HQ.out.from HBw.out⟩
set_option maxHeartbeats 1000000 in
theorem c_change2 (h : Cb w C Q M fi la) (a : Qo w Q M lim An cn Af cf ns fs) (k : Nat) (hk : k < ns.length) (key : Nat) (ah be : Int) (hx : ns[k] = (⟨key, ah, be⟩, true)) (B : Nat) (b : Int) (hB : w.cell? ⟨B, 0, none⟩ = some (.int .i64 b)) (hBl : B < w.heap.size) :
    Calls Try.prog 92 #[.pointer (some ⟨C, 0, none⟩), .int .i64 (k : Int), .func (.func 94) #[] #[.pointer (some ⟨B, 0, none⟩)]] w fun e w' => e = .returned (.bool true) ∧ QStep w Q M lim An Af (ns.set k (⟨key, b, be⟩, true)) fs w' := by
  have ht : ns[k].2 = true := by rw [hx]
  have hp := q_peek_yes w Q M lim cn cf An Af ns fs a k hk ht
  rw [hx] at hp
  have hp : Hid (Calls _ _ _ _ (PeekP w (ndv key ah be) true)) := hp
  have hA := Lib.hid a
  have hH := Lib.hid h
  have hBH := Lib.hid hB
  have hT := Lib.hid ht
  have h1 := h.c1
  have hlt := h.lt
  have hmf : ∀ (fn : Fn) (first cap : Array Value) (w : World), (Instr.makeFunc fn first cap).run Try.prog w = .ok (.func fn first cap) w := fun _ _ _ _ => rfl
  clear h a hB ht hx
  go_enter Try.func92, Try.ntmps92
  go_wp2_with (go_at_call 76; (with_reducible refine hp.out.mono ?_); rintro e w1 ⟨rfl, hb1⟩
               have hs1 := hb1.size
               have HB1 := Lib.hid hb1
               have hb2 : Below w.heap.size w (w1.alloc (ndo key ah be)).drew := below_drewN (hb1.alloc hs1 _) 1
               have hrow : (w1.alloc (ndo key ah be)).drew.heap[w1.heap.size]? = some (ndo key ah be) := K.alloc_top w1 (ndo key ah be)
               have hC0 : (w1.alloc (ndo key ah be)).drew.cell? ⟨C, 1, none⟩ = some (.pointer (some ⟨Q, 0, none⟩)) := (hb2.cell (p := ⟨C, 1, none⟩) hlt).trans h1
               have HS0 := Lib.hid (And.intro hC0 (nd_cells hrow))
               have HB0 := Lib.hid hb2
               have HCl := Lib.hid (c_clos2 (w1.alloc (ndo key ah be)).drew key ah be B b ((hb2.cell (p := ⟨B, 0, none⟩) hBl).trans hBH.out) (Nat.lt_of_lt_of_le hBl hb2.size))
               have hz : (w1.alloc (ndo key ah be)).drew.heap.size = w1.heap.size + 1 := by show (w1.heap.push _).size = _; simp
               have HZ := Lib.hid hz
               clear hb1 hb2 hrow hC0 hz)
  go_region_held3 (fun X => X.cell? ⟨C, 1, none⟩ = some (.pointer (some ⟨Q, 0, none⟩)) ∧ X.cell? ⟨w1.heap.size, 0, none⟩ = some (.int .u64 (key : Int)) ∧ X.cell? ⟨w1.heap.size, 1, none⟩ = some (.int .i64 ah) ∧ X.cell? ⟨w1.heap.size, 2, none⟩ = some (.int .i64 be)) (first | (with_reducible exact HS0.out) | (with_reducible exact HS3.out) | (with_reducible exact HS4.out) | go_keep) (first
    | (go_at_call 94; (with_reducible refine HCl.out.mono ?_); rintro e w3 ⟨rfl, hb3⟩
       have hs3 := hb3.size
       rw [HZ.out] at hs3
       have HB3 := Lib.hid hb3
       have HBw := Lib.hid (HB0.out.trans (hb3.mono HB0.out.size))
       have HS3 := Lib.hid (And.intro ((hb3.cell (p := ⟨C, 1, none⟩) (by rw [HZ.out]; show C < _; omega)).trans HS0.out.1) (And.intro ((hb3.cell (p := ⟨w1.heap.size, 0, none⟩) (by rw [HZ.out]; show w1.heap.size < _; omega)).trans HS0.out.2.1) (And.intro ((hb3.cell (p := ⟨w1.heap.size, 1, none⟩) (by rw [HZ.out]; show w1.heap.size < _; omega)).trans HS0.out.2.2.1) ((hb3.cell (p := ⟨w1.heap.size, 2, none⟩) (by rw [HZ.out]; show w1.heap.size < _; omega)).trans HS0.out.2.2.2))))
       clear hb3)
    | (go_at_call 100; (with_reducible refine (q_put w3 Q M lim cn cf An Af ns fs (hA.out.chg (K.Chg.of_below (O := fun _ => False) HBw.out) (fun _ _ h => h)) k hk hT.out key b be _ rfl).mono ?_); rintro e w4 ⟨rfl, hq⟩
       have HQ := Lib.hid hq
       have HS4 : Hid (w4.cell? ⟨C, 1, none⟩ = some (.pointer (some ⟨Q, 0, none⟩)) ∧ w4.cell? ⟨w1.heap.size, 0, none⟩ = some (.int .u64 (key : Int)) ∧ w4.cell? ⟨w1.heap.size, 1, none⟩ = some (.int .i64 ah) ∧ w4.cell? ⟨w1.heap.size, 2, none⟩ = some (.int .i64 be)) := by
         obtain ⟨_, _, _, _, _, hc, _⟩ := hq
         have hnq : ¬ QB Q An Af w1.heap.size := fun hj => by have := hA.out.qb hj; omega
         have hnc := hH.out.qb hA.out
         exact ⟨(hc.cell (by omega) hnc 1).trans HS3.out.1, (hc.cell (by omega) hnq 0).trans HS3.out.2.1, (hc.cell (by omega) hnq 1).trans HS3.out.2.2.1, (hc.cell (by omega) hnq 2).trans HS3.out.2.2.2⟩
       clear hq))
  all_goals
    go_wp2
    go_ret
    exact ⟨rfl, HQ.out.from HBw.out⟩
end
end Go.Proofs.Ytiinefdpaiincaa
