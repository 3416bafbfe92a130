/- The document's example of layer 10; boxes and sets by acts; the texts walked. Is a box plain, and the document's set? Two boxes together, from whatever world on; plain facts; the texts walked. -/
import Derived.Test.YtkehehfphccpbaaGreatDoorMgJb
import Derived.Test.YtkehehfphccpbaaGreatDoorMgBr
import Derived.Test.YtkehehfphccpbaaGreatDoorMgJc
section
namespace Go.Proofs.YtkehehfphccpbaaGreatDoor
set_option maxRecDepth 40000
open Go.RowKit
abbrev AcB := Nat × Nat × Nat × Nat
/-- The slice at P reads as these acts, in cells below block B. -/
def Rk (w : World) (B : Nat) (P : Option Addr) (xs : List AcB) : Prop :=
  (∀ x ∈ xs, x.1 < 256 ∧ x.2.1 ≤ 65535 ∧ x.2.2.1 ≤ 65535 ∧ x.2.2.2 ≤ 65535) ∧ (xs ≠ [] → ∃ b off, P = some ⟨b, off, none⟩ ∧ b < B ∧ ∀ (k : Nat) (h : k < xs.length),
    w.cell? ⟨b, off + k * 4, none⟩ = some (.int .u8 (xs[k].1 : Nat)) ∧ w.cell? ⟨b, off + k * 4 + 1, none⟩ = some (.int .u16 (xs[k].2.1 : Nat)) ∧ w.cell? ⟨b, off + k * 4 + 2, none⟩ = some (.int .u16 (xs[k].2.2.1 : Nat)) ∧ w.cell? ⟨b, off + k * 4 + 3, none⟩ = some (.int .u16 (xs[k].2.2.2 : Nat)))
theorem Rk.below {w w' : World} {B B' : Nat} {P : Option Addr} {xs : List AcB} (h : Rk w B P xs) (hb : Below B' w w') (hB : B ≤ B') : Rk w' B P xs := ⟨h.1, fun hne => by
  obtain ⟨b, off, rfl, hlt, hc⟩ := h.2 hne
  refine ⟨b, off, rfl, hlt, fun k hk => ?_⟩
  have hl : b < B' := by omega
  obtain ⟨h1, h2, h3, h4⟩ := hc k hk
  exact ⟨(hb.cell (p := ⟨b, off + k * 4, none⟩) hl).trans h1, (hb.cell (p := ⟨b, off + k * 4 + 1, none⟩) hl).trans h2, (hb.cell (p := ⟨b, off + k * 4 + 2, none⟩) hl).trans h3, (hb.cell (p := ⟨b, off + k * 4 + 3, none⟩) hl).trans h4⟩⟩
theorem Rk.later {w w1 : World} {P : Option Addr} {xs : List AcB} (h : Rk w w.heap.size P xs) (hb : Below w.heap.size w w1) : Rk w1 w1.heap.size P xs := ⟨h.1, fun hne => by
  obtain ⟨b, off, rfl, hlt, hc⟩ := (h.below hb (Nat.le_refl _)).2 hne
  exact ⟨b, off, rfl, Nat.lt_of_lt_of_le hlt hb.size, hc⟩⟩
theorem Rk.at {w : World} {B : Nat} {P : Option Addr} {xs : List AcB} (h : Rk w B P xs) {k : Nat} (hk : k < xs.length) : ∃ b off, P = some ⟨b, off, none⟩ ∧ b < B ∧
    w.cell? ⟨b, off + k * 4, none⟩ = some (.int .u8 (xs[k].1 : Nat)) ∧ w.cell? ⟨b, off + k * 4 + 1, none⟩ = some (.int .u16 (xs[k].2.1 : Nat)) ∧ w.cell? ⟨b, off + k * 4 + 2, none⟩ = some (.int .u16 (xs[k].2.2.1 : Nat)) ∧ w.cell? ⟨b, off + k * 4 + 3, none⟩ = some (.int .u16 (xs[k].2.2.2 : Nat)) := by
  obtain ⟨b, off, rfl, hb, hc⟩ := h.2 (by intro e; subst e; simp at hk)
  exact ⟨b, off, rfl, hb, hc k hk⟩
theorem NewP.bp {w' : World} {ys : List Int} {q r : Nat} (b : Bo w' q r ys false) : Bp w' (some ⟨q, 0, none⟩) ys := .inr ⟨q, r, false, rfl, b⟩
set_option maxHeartbeats 4000000 in
theorem awake_any (w : World) (hT : Tab w) : Calls Tryz.prog 6 #[] w fun e w' => e = .returned (.bool true) ∧ Below w.heap.size w w' := by
  have hb1 := (Below.refl w.heap.size w).alloc (Nat.le_refl _) (.cells (hv [2, 5]).toArray 35)
  have z1 : (w.alloc (.cells (hv [2, 5]).toArray 35)).heap.size = w.heap.size + 1 := by simp
  have C1 : Hid (Calls Tryz.prog 26 #[.slice (some ⟨w.heap.size, 0, none⟩) 2 2] (w.alloc (.cells #[.int .u16 2, .int .u16 5] 35)) fun e w' => ∃ ys, (∀ x, x ∈ ys ↔ x ∈ [(2 : Int), 5]) ∧ NewP (w.alloc (.cells (hv [2, 5]).toArray 35)) ys e w') :=
    Lib.hid (box_Of (w.alloc (.cells (hv [2, 5]).toArray 35)) (w.heap.size + 1) 2 2 (some ⟨w.heap.size, 0, none⟩) [2, 5] rfl (rh_new w [2, 5]) (by simp) (by omega) (by intro y hy; simp at hy; omega) (hT.below hb1 hT.pos))
  have C2 : Hid (∀ W, Below w.heap.size w W → Calls Tryz.prog 26 #[.slice (some ⟨W.heap.size, 0, none⟩) 1 1] (W.alloc (.cells #[.int .u16 5] 35)) fun e w' => ∃ ys, (∀ x, x ∈ ys ↔ x ∈ [(5 : Int)]) ∧ NewP (W.alloc (.cells (hv [5]).toArray 35)) ys e w') :=
    Lib.hid (fun W hW => box_Of (W.alloc (.cells (hv [5]).toArray 35)) (W.heap.size + 1) 1 1 (some ⟨W.heap.size, 0, none⟩) [5] rfl (rh_new W [5]) (by simp) (by omega) (by intro y hy; simp at hy; omega) (hT.below (hW.alloc hW.size _) hT.pos))
  have HB1 := Lib.hid hb1
  have HZ := Lib.hid z1
  have HT := Lib.hid hT
  clear hb1 z1 hT
  go_enter Tryz.func6, Tryz.ntmps6
  go_wp2_with (first
    | (go_at_call 26; first
       | ((with_reducible refine C1.out.mono ?_); rintro e w2 ⟨ys, hy, q, r, rfl, n1, n2, n3, n4⟩
          have HY := Lib.hid hy
          have HN := Lib.hid n1
          have L2 := Lib.hid (HB1.out.trans (n4.mono HB1.out.size))
          have C22 := Lib.hid (C2.out w2 L2.out)
          clear hy n1 n2 n3 n4 C1)
       | ((with_reducible refine C22.out.mono ?_); rintro e w3 ⟨zs, hz, q2, r2, rfl, m1, m2, m3, m4⟩
          have HZ2 := Lib.hid hz
          have HM := Lib.hid m1
          have b23 : Below w2.heap.size w2 w3 := ((Below.refl w2.heap.size w2).alloc (Nat.le_refl _) _).trans (m4.mono (by simp))
          have HN3 := Lib.hid (HN.out.next b23)
          have L3 := Lib.hid (L2.out.trans (b23.mono L2.out.size))
          have hqq : q < q2 := by
            have h5 := HN.out.lt
            have h6 : w2.heap.size + 1 ≤ q2 := by simpa using m2
            omega
          have HQQ := Lib.hid hqq
          have HLE := Lib.hid (less_any w3 _ _ ys zs (NewP.bp HN3.out) (NewP.bp m1) (HT.out.below L3.out HT.out.pos))
          clear hz m1 m2 m3 m4 b23 hqq C2 C22))
    | (go_at_call 13; (with_reducible refine HLE.out.mono ?_); rintro e w4 ⟨ls, hl, q4, r4, rfl, k1, k2, k3, k4⟩
       have HHA := Lib.hid (bp_Has (NewP.bp k1) 2 (by omega) (by omega))
       have hm2 : (2 : Int) ∈ ls := (hl _).2 ⟨(HY.out _).2 (by simp), fun h => by have := (HZ2.out _).1 h; simp at this⟩
       rw [decide_eq_true hm2] at HHA
       have L4 := Lib.hid (L3.out.trans (k4.mono L3.out.size))
       have HN4 := Lib.hid (HN3.out.next k4)
       have HM4 := Lib.hid (HM.out.next k4)
       clear hl k1 k2 k3 k4 hm2 HLE)
    | (go_at_call 27; (with_reducible refine HHA.out.mono ?_); rintro e w5 ⟨rfl, hb5⟩
       have L5 := Lib.hid (L4.out.trans (hb5.mono L4.out.size))
       have HBO := Lib.hid (both_any w5 _ _ ys zs (NewP.bp (HN4.out.next hb5)) (NewP.bp (HM4.out.next hb5)) (fun e => by have := HQQ.out; cases e; omega) (HT.out.below L5.out HT.out.pos))
       have hcap : (capL ys zs).length = 1 := by
         have e1 : capL ys zs = [5] := M.sorted_ext (HN.out.u.up.filter _) (by simp) (fun x => by
           rw [capL_in, HY.out x, HZ2.out x]
           simp
           omega)
         rw [e1]; rfl
       rw [hcap] at HBO
       clear hb5 hcap HHA)
    | (go_at_call 22; (with_reducible refine HBO.out.mono ?_); rintro e w6 ⟨rfl, hb6⟩; have L6 := Lib.hid (L5.out.trans (hb6.mono L5.out.size)); clear hb6 HBO))
  go_ret
  exact ⟨by first | rfl | simp, L6.out⟩
theorem heap_ty {w : World} {g : Nat} {a b : Array Value} {S T : TypeId} {x y : Nat × Nat} (h : w.heap[g]? = some (.cells a S x)) (k : w.heap[g]? = some (.cells b T y)) : S = T := by
  rw [h] at k
  injection k with k
  injection k
/-- A box and the document's set of the same numbers, all of it younger than w0. -/
structure JS (w0 w : World) (q r : Nat) (xs : List Int) (long : Bool) (g m : Nat) (bs : List Bool) : Prop where
  b : Bo w q r xs long
  s : Bs w g m bs
  same : M.L bs = xs
  low : Below w0.heap.size w0 w
  q0 : w0.heap.size ≤ q
  r0 : kd long xs = 2 → w0.heap.size ≤ r
  g0 : w0.heap.size ≤ g
/-- Between the box's change and the set's. -/
structure JM (o : Bool) (w0 w : World) (q r : Nat) (xs ys : List Int) (g m : Nat) (bs : List Bool) (f t : Int) (n : Nat) : Prop where
  b : Bo w q r ys false
  s : Bs w g m bs
  same : M.L bs = xs
  chg : M.Chg o xs ys f t n
  low : Below w0.heap.size w0 w
  q0 : w0.heap.size ≤ q
  r0 : kd false ys = 2 → w0.heap.size ≤ r
  g0 : w0.heap.size ≤ g
section
variable {w0 w w1 w' : World} {q r g m n : Nat} {xs ys : List Int} {long o : Bool} {bs : List Bool} {f t : Int}
theorem JS.next (j : JS w0 w q r xs long g m bs) (hb : Below w.heap.size w w') : JS w0 w' q r xs long g m bs :=
  ⟨j.b.next hb, j.s.all_below hb, j.same, j.low.trans (hb.mono j.low.size), j.q0, j.r0, j.g0⟩
theorem Bo.ne_row (b : Bo w q r xs long) (s : Bs w g m bs) : g ≠ q ∧ (kd long xs = 2 → g ≠ r) := by
  obtain ⟨v, a, k⟩ := b.kept
  refine ⟨fun e => ?_, fun h2 e => ?_⟩
  · have h1 := s.row
    rw [e] at h1
    exact absurd (heap_ty h1 a.row) (by decide)
  · rcases k.1 with ⟨e1, _⟩ | ⟨_, p, s', ws, _, hm, _⟩ | ⟨e1, _⟩
    · omega
    · exact (s.alien.ne_bm hm).2.2 e.symm
    · omega
theorem JS.box (j : JS w0 w q r xs false g m bs) (h : ChP o w q r xs false f t n w1) : ∃ ys r', JM o w0 w1 q r' xs ys g m bs f t n ∧ ButS w w1 (fun k => k = q ∨ (kd false xs = 2 ∧ k = r)) := by
  obtain ⟨ys, r', h1, h2, h3, h4⟩ := h
  obtain ⟨n1, n2⟩ := j.b.ne_row j.s
  rw [Bool.false_and] at h2 h3
  have hbl : Below w0.heap.size w w1 := h4.below j.low.size (fun k hk => by
    rcases hk with e | ⟨e2, e⟩
    · rw [e]; exact j.q0
    · rw [e]; exact j.r0 e2)
  refine ⟨ys, r', ⟨h2, ⟨(h4.block g j.s.lt (fun hk => by
    rcases hk with e | ⟨e2, e⟩
    · exact n1 e
    · exact n2 e2 e)).trans j.s.row, j.s.len, j.s.top⟩, j.same, h1, j.low.trans hbl, j.q0, fun e => ?_, j.g0⟩, h4⟩
  rcases h3 e with ⟨e2, e3⟩ | e2
  · rw [e3]; exact j.r0 e2
  · exact Nat.le_trans j.low.size e2
theorem JM.fill {k : Nat} (j : JM o w0 w q r xs ys g m bs f t n) (h : FStep o w g m bs f t k w1) : ∃ cs, JS w0 w1 q r ys false g m cs := by
  obtain ⟨cs, h1, h2, h3⟩ := h
  rw [j.same] at h1
  obtain ⟨e, _⟩ := h1.same j.chg
  obtain ⟨n1, n2⟩ := j.b.ne_row j.s
  exact ⟨cs, j.b.keep j.s.alien (fun e => n1 e.symm) h3.size (fun k _ hk => h3.block k (by assumption) (by intro e; cases e; exact hk rfl)), h2, e, j.low.trans (below_of_grown h3 j.low.size j.g0), j.q0, j.r0, j.g0⟩
end
theorem mod4 (d : Nat) (hd : d < 256) (k : Nat) (hk : d % 4 = k) : (d : Int).tmod 4 = (k : Int) ∧ (d : Int) % 4 = (k : Int) := by
  have e : (d : Int) % 4 = (k : Int) := by omega
  exact ⟨by rw [Int.tmod_eq_emod_of_nonneg (by omega)]; exact e, e⟩
/-- What 'lay' answers. -/
def LaidJ (w : World) (e : Ending) (w' : World) : Prop := ∃ q r xs g m bs l, e = .returned (.tuple #[.pointer (some ⟨q, 0, none⟩), .slice (some ⟨g, 0, none⟩) m m]) ∧ JS w w' q r xs l g m bs
theorem JS.opt {w0 w w1 : World} {q r g m : Nat} {xs : List Int} {long : Bool} {bs : List Bool} {e : Ending} (j : JS w0 w q r xs long g m bs) (h : OptP w q r xs long (optl xs) e w1) : (∃ b, e = .returned (.bool b)) ∧ ∃ r', JS w0 w1 q r' xs (optl xs) g m bs := by
  obtain ⟨r', rfl, h2, h3, h4⟩ := h
  obtain ⟨n1, n2⟩ := j.b.ne_row j.s
  have hbl : Below w0.heap.size w w1 := h4.below j.low.size (fun k hk => by rw [hk]; exact j.q0)
  refine ⟨⟨_, rfl⟩, r', h2, ⟨(h4.block g j.s.lt n1).trans j.s.row, j.s.len, j.s.top⟩, j.same, j.low.trans hbl, j.q0, fun e => ?_, j.g0⟩
  rcases h3 e with ⟨e2, e3⟩ | e2
  · rw [e3]; exact j.r0 e2
  · exact Nat.le_trans j.low.size e2
set_option maxHeartbeats 16000000 in
set_option maxRecDepth 100000 in
theorem lay_any (w : World) (hT : Tab w) (P : Option Addr) (cp : Nat) (acs : List AcB) (long : Bool) (hr : Rk w w.heap.size P acs) (_hl : acs.length ≤ 9223372036854775807) :
    Calls Tryz.prog 7 #[.slice P acs.length cp, .bool long] w (LaidJ w) := by
  have hrH := Lib.hid hr
  have HT := Lib.hid hT
  clear hr hT
  have hnew := fun W => Lib.hid (f_new W)
  go_enter Tryz.func7, Tryz.ntmps7
  go_wp2_with (first
    | (go_at_call 20; (with_reducible refine (hnew _).out.mono ?_); rintro e w1 ⟨g, m, rfl, hbs, hg2, hg⟩
       have hb1 : Below w.heap.size w w1 := ⟨hg2.os, hg2.tape, hg2.output, hg2.size, fun k hk => hg2.block k hk (by simp)⟩
       have HS := Lib.hid hbs
       have HB1 := Lib.hid hb1
       have HGW := Lib.hid hg
       have HBN := Lib.hid (box_New w1 (HT.out.below hb1 HT.out.pos))
       clear hbs hg2 hg hb1)
    | (go_at_call 28; (with_reducible refine HBN.out.mono ?_); rintro e w2 ⟨q, r0, rfl, h1, h2, h3, h4⟩
       have hj : JS w w2 q r0 [] false g m (List.replicate m false) := ⟨h1, HS.out.all_below h4, M.L_false _, HB1.out.trans (h4.mono HB1.out.size), Nat.le_trans HB1.out.size h2, fun e => Nat.le_trans HB1.out.size (h3 e), HGW.out⟩
       have HJ0 := Lib.hid hj
       clear hj h1 h2 h3 h4 HBN))
  go_loopw [14] (fun vi wr => ∃ (k r : Nat) (xs : List Int) (bs : List Bool), k ≤ acs.length ∧ vi = .int .i64 (k : Int) ∧ Hid (JS w wr q r xs false g m bs)) (fun vi _ => acs.length - (intOf vi).toNat)
  case atStart => exact ⟨0, r0, [], _, Nat.zero_le _, rfl, HJ0⟩
  case round =>
    obtain ⟨k, r, xs, bs, hk, rfl, HJ⟩ := hrel
    by_cases hlt : k < acs.length
    · have hT2 : decide (k < acs.length) = true := decide_eq_true hlt
      have hT3 : decide ((k : Int) < (acs.length : Int)) = true := decide_eq_true (by omega)
      obtain ⟨b0, off, rfl, hb0, c0, c1, c2, c3⟩ := (hrH.out.below HJ.out.low (Nat.le_refl _)).at hlt
      obtain ⟨hx1, hx2, hx3, hx4⟩ := hrH.out.1 acs[k] (List.getElem_mem hlt)
      generalize acs[k].1 = d at *
      generalize acs[k].2.1 = a at *
      generalize acs[k].2.2.1 = b at *
      generalize acs[k].2.2.2 = S at *
      have b1 := (Below.refl wr.heap.size wr).alloc (Nat.le_refl _) (actoB d a b S)
      have HB1 := Lib.hid b1
      by_cases h8 : k < 8
      · have hTb : decide ((8 : Int) ≤ (k : Int)) = false := decide_eq_false (by omega)
        clear b1
        rcases (by omega : d % 4 = 0 ∨ d % 4 = 1 ∨ d % 4 = 2 ∨ d % 4 = 3) with hr4 | hr4 | hr4 | hr4
        · obtain ⟨e1, e2⟩ := mod4 d hx1 0 hr4
          have HBX := Lib.hid (bo_Add (wr.alloc (actoB d a b S)) q r xs false (HJ.out.next HB1.out).b (HT.out.below (HJ.out.next HB1.out).low HT.out.pos) a hx2)
          have HNX := Lib.hid (HJ.out.next HB1.out)
          have hq1 := HJ.out.b.lt
          have hr1 : Hid (kd false xs = 2 → r < wr.heap.size) := Lib.hid HJ.out.b.rlt
          clear hr4
          go_wp2_with (first
            | (go_at_call 29; (with_reducible refine HBX.out.mono ?_); rintro e w5 ⟨n5, rfl, h5⟩
               obtain ⟨ys, r5, hm5, hbut⟩ := HNX.out.box h5
               have hrow := (hbut.block wr.heap.size (by simp) (by
                 rintro (e | ⟨e2, e⟩)
                 · omega
                 · have := hr1.out e2; omega)).trans (alloc_topB wr (actoB d a b S) rfl)
               obtain ⟨d0, d1, d2, d3⟩ := atB_of hrow
               have HM5 := Lib.hid hm5
               have HFI := Lib.hid (f_fill w5 g m bs hm5.s a a hx2 hx2 true)
               clear hm5 hbut hrow h5 HBX c0 c1 c2 c3)
            | (go_at_call 30; (with_reducible refine HFI.out.mono ?_); rintro e w6 ⟨m6, rfl, h6⟩
               obtain ⟨cs6, j6⟩ := HM5.out.fill h6
               have HJ6 := Lib.hid j6
               clear j6 h6 HFI))
          go_roundw
          case rel => exact ⟨k + 1, r5, ys, cs6, by omega, by go_num, HJ6⟩
          case measure => simp [intOf]; omega
        · obtain ⟨e1, e2⟩ := mod4 d hx1 1 hr4
          have HBX := Lib.hid (bo_Drop (wr.alloc (actoB d a b S)) q r xs false (HJ.out.next HB1.out).b (HT.out.below (HJ.out.next HB1.out).low HT.out.pos) a hx2)
          have HNX := Lib.hid (HJ.out.next HB1.out)
          have hq1 := HJ.out.b.lt
          have hr1 : Hid (kd false xs = 2 → r < wr.heap.size) := Lib.hid HJ.out.b.rlt
          clear hr4
          go_wp2_with (first
            | (go_at_call 31; (with_reducible refine HBX.out.mono ?_); rintro e w5 ⟨n5, rfl, h5⟩
               obtain ⟨ys, r5, hm5, hbut⟩ := HNX.out.box h5
               have hrow := (hbut.block wr.heap.size (by simp) (by
                 rintro (e | ⟨e2, e⟩)
                 · omega
                 · have := hr1.out e2; omega)).trans (alloc_topB wr (actoB d a b S) rfl)
               obtain ⟨d0, d1, d2, d3⟩ := atB_of hrow
               have HM5 := Lib.hid hm5
               have HFI := Lib.hid (f_fill w5 g m bs hm5.s a a hx2 hx2 false)
               clear hm5 hbut hrow h5 HBX c0 c1 c2 c3)
            | (go_at_call 30; (with_reducible refine HFI.out.mono ?_); rintro e w6 ⟨m6, rfl, h6⟩
               obtain ⟨cs6, j6⟩ := HM5.out.fill h6
               have HJ6 := Lib.hid j6
               clear j6 h6 HFI))
          go_roundw
          case rel => exact ⟨k + 1, r5, ys, cs6, by omega, by go_num, HJ6⟩
          case measure => simp [intOf]; omega
        · obtain ⟨e1, e2⟩ := mod4 d hx1 2 hr4
          have HBX := Lib.hid (box_Fill (wr.alloc (actoB d a b S)) q r xs false (HJ.out.next HB1.out).b (HT.out.below (HJ.out.next HB1.out).low HT.out.pos) a b hx2 hx3)
          have HNX := Lib.hid (HJ.out.next HB1.out)
          have hq1 := HJ.out.b.lt
          have hr1 : Hid (kd false xs = 2 → r < wr.heap.size) := Lib.hid HJ.out.b.rlt
          clear hr4
          go_wp2_with (first
            | (go_at_call 15; (with_reducible refine HBX.out.mono ?_); rintro e w5 ⟨n5, rfl, h5⟩
               obtain ⟨ys, r5, hm5, hbut⟩ := HNX.out.box h5
               have hrow := (hbut.block wr.heap.size (by simp) (by
                 rintro (e | ⟨e2, e⟩)
                 · omega
                 · have := hr1.out e2; omega)).trans (alloc_topB wr (actoB d a b S) rfl)
               obtain ⟨d0, d1, d2, d3⟩ := atB_of hrow
               have HM5 := Lib.hid hm5
               have HFI := Lib.hid (f_fill w5 g m bs hm5.s a b hx2 hx3 true)
               clear hm5 hbut hrow h5 HBX c0 c1 c2 c3)
            | (go_at_call 30; (with_reducible refine HFI.out.mono ?_); rintro e w6 ⟨m6, rfl, h6⟩
               obtain ⟨cs6, j6⟩ := HM5.out.fill h6
               have HJ6 := Lib.hid j6
               clear j6 h6 HFI))
          go_roundw
          case rel => exact ⟨k + 1, r5, ys, cs6, by omega, by go_num, HJ6⟩
          case measure => simp [intOf]; omega
        · obtain ⟨e1, e2⟩ := mod4 d hx1 3 hr4
          have HBX := Lib.hid (box_Wipe (wr.alloc (actoB d a b S)) q r xs false (HJ.out.next HB1.out).b (HT.out.below (HJ.out.next HB1.out).low HT.out.pos) a b hx2 hx3)
          have HNX := Lib.hid (HJ.out.next HB1.out)
          have hq1 := HJ.out.b.lt
          have hr1 : Hid (kd false xs = 2 → r < wr.heap.size) := Lib.hid HJ.out.b.rlt
          clear hr4
          go_wp2_with (first
            | (go_at_call 16; (with_reducible refine HBX.out.mono ?_); rintro e w5 ⟨n5, rfl, h5⟩
               obtain ⟨ys, r5, hm5, hbut⟩ := HNX.out.box h5
               have hrow := (hbut.block wr.heap.size (by simp) (by
                 rintro (e | ⟨e2, e⟩)
                 · omega
                 · have := hr1.out e2; omega)).trans (alloc_topB wr (actoB d a b S) rfl)
               obtain ⟨d0, d1, d2, d3⟩ := atB_of hrow
               have HM5 := Lib.hid hm5
               have HFI := Lib.hid (f_fill w5 g m bs hm5.s a b hx2 hx3 false)
               clear hm5 hbut hrow h5 HBX c0 c1 c2 c3)
            | (go_at_call 30; (with_reducible refine HFI.out.mono ?_); rintro e w6 ⟨m6, rfl, h6⟩
               obtain ⟨cs6, j6⟩ := HM5.out.fill h6
               have HJ6 := Lib.hid j6
               clear j6 h6 HFI))
          go_roundw
          case rel => exact ⟨k + 1, r5, ys, cs6, by omega, by go_num, HJ6⟩
          case measure => simp [intOf]; omega
      · have hTb : decide ((8 : Int) ≤ (k : Int)) = true := decide_eq_true (by omega)
        clear b1
        cases long
        · go_wp2
          go_ret2
          exact ⟨q, r, xs, g, m, bs, false, rfl, HJ.out.next HB1.out⟩
        · have HOP := Lib.hid (bo_Optimise (wr.alloc (actoB d a b S)) q r xs false (HJ.out.next HB1.out).b (HT.out.below (HJ.out.next HB1.out).low HT.out.pos))
          go_wp2_with (go_at_call 32; (with_reducible refine HOP.out.mono ?_); intro e w9 h9; obtain ⟨⟨b9, rfl⟩, r9, j9⟩ := (HJ.out.next HB1.out).opt h9; have HJ9 := Lib.hid j9; clear j9 h9 HOP)
          go_ret2
          exact ⟨q, r9, xs, g, m, bs, optl xs, rfl, HJ9.out⟩
    · have hT2 : decide (k < acs.length) = false := decide_eq_false hlt
      have hT3 : decide ((k : Int) < (acs.length : Int)) = false := decide_eq_false (by omega)
      cases long
      · go_wp2
        go_ret2
        exact ⟨q, r, xs, g, m, bs, false, rfl, HJ.out⟩
      · have HOP := Lib.hid (bo_Optimise wr q r xs false HJ.out.b (HT.out.below HJ.out.low HT.out.pos))
        go_wp2_with (go_at_call 32; (with_reducible refine HOP.out.mono ?_); intro e w9 h9; obtain ⟨⟨b9, rfl⟩, r9, j9⟩ := HJ.out.opt h9; have HJ9 := Lib.hid j9; clear j9 h9 HOP)
        go_ret2
        exact ⟨q, r9, xs, g, m, bs, optl xs, rfl, HJ9.out⟩
end Go.Proofs.YtkehehfphccpbaaGreatDoor
end
section
namespace Go.Proofs.YtkehehfphccpbaaGreatDoor
set_option maxRecDepth 40000
open Go.RowKit
theorem L_zip (fb : Bool → Bool → Bool) {bs cs : List Bool} (hb : bs.length = 65536) (hc : cs.length = 65536) {y : Int} :
    y ∈ M.L (List.zipWith fb bs cs) ↔ 0 ≤ y ∧ y < 65536 ∧ fb (bs[y.toNat]?.getD false) (cs[y.toNat]?.getD false) = true := by
  rw [M.L_in]
  constructor
  · rintro ⟨h0, h1⟩
    have hlt : y.toNat < (List.zipWith fb bs cs).length := by
      rcases Nat.lt_or_ge y.toNat (List.zipWith fb bs cs).length with h | h
      · exact h
      · rw [List.getElem?_eq_none h] at h1; cases h1
    rw [List.length_zipWith, hb, hc] at hlt
    have hlt2 : y.toNat < 65536 := by omega
    refine ⟨h0, by omega, ?_⟩
    rw [List.getElem?_eq_getElem (by rw [List.length_zipWith]; omega), List.getElem_zipWith] at h1
    rw [List.getElem?_eq_getElem (by omega), List.getElem?_eq_getElem (by omega)]
    simpa using h1
  · rintro ⟨h0, h1, h2⟩
    refine ⟨h0, ?_⟩
    have hlt2 : y.toNat < 65536 := by omega
    rw [List.getElem?_eq_getElem (by omega), List.getElem?_eq_getElem (by omega)] at h2
    rw [List.getElem?_eq_getElem (by rw [List.length_zipWith]; omega), List.getElem_zipWith]
    simpa using h2
theorem L_zip2 (fb : Bool → Bool → Bool) (h00 : fb false false = false) {bs cs : List Bool} (hb : bs.length = 65536) (hc : cs.length = 65536) {y : Int} :
    y ∈ M.L (List.zipWith fb bs cs) ↔ fb (decide (y ∈ M.L bs)) (decide (y ∈ M.L cs)) = true := by
  rw [L_zip fb hb hc]
  have key : ∀ ds : List Bool, ds.length = 65536 → (0 ≤ y ∧ y < 65536) → (ds[y.toNat]?.getD false) = decide (y ∈ M.L ds) := fun ds hd hy => by
    rw [List.getElem?_eq_getElem (by omega), Bool.eq_iff_iff, decide_eq_true_eq, M.L_in, List.getElem?_eq_getElem (by omega)]
    constructor
    · intro h; exact ⟨hy.1, by rw [show ds[y.toNat] = true from h]⟩
    · intro h; exact Option.some.inj h.2
  have out : ∀ ds : List Bool, ds.length = 65536 → ¬ (0 ≤ y ∧ y < 65536) → decide (y ∈ M.L ds) = false := fun ds hd hy => decide_eq_false (fun h => hy (by have := M.L_lt h; omega))
  by_cases hy : 0 ≤ y ∧ y < 65536
  · rw [key bs hb hy, key cs hc hy]
    exact ⟨fun h => h.2.2, fun h => ⟨hy.1, hy.2, h⟩⟩
  · rw [out bs hb hy, out cs hc hy, h00]
    exact ⟨fun h => absurd ⟨h.1, h.2.1⟩ hy, fun h => by cases h⟩
set_option maxHeartbeats 4000000 in
theorem plain_law (w : World) (q r g m : Nat) (ys : List Int) (bs : List Bool) (b : Bo w q r ys false) (s : Bs w g m bs) (same : M.L bs = ys) (hT : Tab w) :
    Calls Tryz.prog 9 #[.pointer (some ⟨q, 0, none⟩), .slice (some ⟨g, 0, none⟩) m m] w (AskB w true) := by
  have CFL := R.f_len w g m bs s
  rw [same] at CFL
  have few := b.u.few
  have CKI := bo_Kind w q r ys false b
  have CLE := Lib.hid (fun W (hW : Below w.heap.size w W) => bo_Len W q r ys false (b.next hW))
  have CLI := Lib.hid (fun W (hW : Below w.heap.size w W) => bo_List W q r ys false (b.next hW) (hT.below hW hT.pos))
  have CFI := Lib.hid (fun W (hW : Below w.heap.size w W) => (f_list W g m bs (s.all_below hW)))
  rw [same] at CFI
  obtain ⟨L, hL⟩ : ∃ L, ys.length = L := ⟨_, rfl⟩
  rw [hL] at CFL few
  have HL := Lib.hid hL
  rcases Nat.lt_or_ge 4096 L with hk | hk
  · have hkd : kd false ys = 2 := pk_many (by rw [HL.out]; exact hk)
    rw [hkd] at CKI
    have HKI : Hid (Calls Tryz.prog 8 #[.pointer (some ⟨q, 0, none⟩)] w (AskI w 2)) := Lib.hid CKI
    have HFL := Lib.hid CFL
    have d1 : decide ((4096 : Int) < (L : Int)) = true := decide_eq_true (by omega)
    have d2 : decide (4096 < L) = true := decide_eq_true hk
    clear b s same hT CFL CKI hkd hL
    go_enter Tryz.func9, Tryz.ntmps9
    go_wp2_with (first
      | (go_at_call 34; (with_reducible refine HFL.out.mono ?_); rintro e w1 ⟨rfl, rfl⟩)
      | (go_at_call 8; (with_reducible refine HKI.out.mono ?_); rintro e w2 ⟨rfl, hb2⟩; have LW := Lib.hid hb2; clear hb2)
      | (go_at_call 21; (with_reducible refine (CLE.out _ LW.out).mono ?_); rintro e w3 ⟨rfl, hb3⟩; replace LW := Lib.hid (LW.out.trans (hb3.mono LW.out.size)); rw [HL.out]; clear hb3)
      | (go_at_call 18; (with_reducible refine (CLI.out _ LW.out).mono ?_); rintro e w4 ⟨v4, rfl, ho4, hb4⟩; obtain ⟨U4, c4, rfl, hr4, _⟩ := Rh.of_own ho4; have HR4 := Lib.hid hr4; replace LW := Lib.hid (LW.out.trans (hb4.mono LW.out.size)); clear hb4 ho4 hr4)
      | (go_at_call 19; (with_reducible refine (CFI.out _ LW.out).mono ?_); rintro e w5 ⟨U5, c5, rfl, hr5, _, hb5⟩
         have HSA := f_same U4 U5 c4 c5 ys ys w5 _ _ ((HR4.out.below hb5 (Nat.le_refl _)).more hb5.size) hr5 (by rw [HL.out]; omega) (by rw [HL.out]; omega)
         rw [decide_eq_true rfl] at HSA
         replace HSA := Lib.hid HSA
         replace LW := Lib.hid (LW.out.trans (hb5.mono LW.out.size))
         clear hb5 hr5)
      | (go_at_call 17; (with_reducible refine HSA.out.mono ?_); rintro e w6 ⟨rfl, n6, rfl⟩; replace LW := Lib.hid (below_drewN LW.out n6)))
    go_ret
    exact ⟨by first | rfl | simp, LW.out⟩
  · have hkd : kd false ys = 1 := pk_few (by rw [HL.out]; exact hk)
    rw [hkd] at CKI
    have HKI : Hid (Calls Tryz.prog 8 #[.pointer (some ⟨q, 0, none⟩)] w (AskI w 1)) := Lib.hid CKI
    have HFL := Lib.hid CFL
    have d1 : decide ((4096 : Int) < (L : Int)) = false := decide_eq_false (by omega)
    have d2 : decide (4096 < L) = false := decide_eq_false (by omega)
    clear b s same hT CFL CKI hkd hL
    go_enter Tryz.func9, Tryz.ntmps9
    go_wp2_with (first
      | (go_at_call 34; (with_reducible refine HFL.out.mono ?_); rintro e w1 ⟨rfl, rfl⟩)
      | (go_at_call 8; (with_reducible refine HKI.out.mono ?_); rintro e w2 ⟨rfl, hb2⟩; have LW := Lib.hid hb2; clear hb2)
      | (go_at_call 21; (with_reducible refine (CLE.out _ LW.out).mono ?_); rintro e w3 ⟨rfl, hb3⟩; replace LW := Lib.hid (LW.out.trans (hb3.mono LW.out.size)); rw [HL.out]; clear hb3)
      | (go_at_call 18; (with_reducible refine (CLI.out _ LW.out).mono ?_); rintro e w4 ⟨v4, rfl, ho4, hb4⟩; obtain ⟨U4, c4, rfl, hr4, _⟩ := Rh.of_own ho4; have HR4 := Lib.hid hr4; replace LW := Lib.hid (LW.out.trans (hb4.mono LW.out.size)); clear hb4 ho4 hr4)
      | (go_at_call 19; (with_reducible refine (CFI.out _ LW.out).mono ?_); rintro e w5 ⟨U5, c5, rfl, hr5, _, hb5⟩
         have HSA := f_same U4 U5 c4 c5 ys ys w5 _ _ ((HR4.out.below hb5 (Nat.le_refl _)).more hb5.size) hr5 (by rw [HL.out]; omega) (by rw [HL.out]; omega)
         rw [decide_eq_true rfl] at HSA
         replace HSA := Lib.hid HSA
         replace LW := Lib.hid (LW.out.trans (hb5.mono LW.out.size))
         clear hb5 hr5)
      | (go_at_call 17; (with_reducible refine HSA.out.mono ?_); rintro e w6 ⟨rfl, n6, rfl⟩; replace LW := Lib.hid (below_drewN LW.out n6)))
    go_ret
    exact ⟨by first | rfl | simp, LW.out⟩
end Go.Proofs.YtkehehfphccpbaaGreatDoor
end
