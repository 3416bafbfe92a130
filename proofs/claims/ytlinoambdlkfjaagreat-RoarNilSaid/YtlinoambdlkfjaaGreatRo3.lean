
/- A set with nothing, and one with one part: seek, at and find; the texts walked. -/
import Derived.Test.YtlinoambdlkfjaaGreatRo2
namespace Go.Proofs.YtlinoambdlkfjaaGreat
open Go.RowKit
abbrev ro (G : Nat) (bl : Value) (np keys used : Int) : Obj := .cells #[.pointer (some ⟨G, 0, none⟩), bl, .int .i64 np, .int .i64 keys, .int .i64 used, .int .i64 4000] 43
/-- At P lies a set with nothing. -/
structure R0 (w : World) (P G : Nat) : Prop where
  p : w.heap[P]? = some (ro G (.slice none 0 0) 0 0 0)
  m : Mq w G
/-- At P lies a set whose one part, of the upper 0, has xs. -/
structure R1 (w : World) (P G B L X Q c : Nat) (xs : List Int) : Prop where
  p : w.heap[P]? = some (ro G (.slice (some ⟨B, 0, none⟩) 1 c) 1 (xs.length : Nat) ((xs.length : Nat) + 1))
  m : Mq w G
  b : ∃ cs, w.heap[B]? = some (.cells cs 80 (0, 0)) ∧ cs[0]? = some (.slice (some ⟨L, 0, none⟩) 1 1) ∧ cs[1]? = some (.int .i64 (xs.length : Nat))
  l : w.heap[L]? = some (.cells #[.pointer (some ⟨X, 0, none⟩)] 46 (0, 0))
  x : w.heap[X]? = some (pto (xs.length : Nat) (.pointer (some ⟨Q, 0, none⟩)))
  q : Bd w Q xs (fun j => j = P ∨ j = G ∨ j = B ∨ j = X)
  few : xs.length ≤ 100
section
variable {w w' : World} {P G B L X Q c : Nat} {xs : List Int}
theorem R0.same (h : R0 w P G) (hb : ButS w w' (fun _ => False)) : R0 w' P G := ⟨(hb.block P (row_lt h.p) (fun h => h)).trans h.p, h.m.but hb (fun h => h)⟩
theorem R0.below (h : R0 w P G) (hb : Below w.heap.size w w') : R0 w' P G := h.same (ButS.of_below hb (Nat.le_refl _))
theorem R0.only (h : R0 w P G) (hb : Only w G w') : R0 w' P G := by
  obtain ⟨r, c, s, t, p, hr⟩ := h.m
  exact ⟨(hb.but.block P (row_lt h.p) (row_ne h.p hr (by decide))).trans h.p, hb.mq⟩
theorem R1.same (h : R1 w P G B L X Q c xs) (hb : ButS w w' (fun _ => False)) : R1 w' P G B L X Q c xs := by
  obtain ⟨cs, h1, h2, h3⟩ := h.b
  exact ⟨(hb.block P (row_lt h.p) (fun h => h)).trans h.p, h.m.but hb (fun h => h), ⟨cs, (hb.block B (row_lt h1) (fun h => h)).trans h1, h2, h3⟩, (hb.block L (row_lt h.l) (fun h => h)).trans h.l, (hb.block X (row_lt h.x) (fun h => h)).trans h.x, h.q.but hb (fun _ h => h.elim) (fun h => h), h.few⟩
theorem R1.below (h : R1 w P G B L X Q c xs) (hb : Below w.heap.size w w') : R1 w' P G B L X Q c xs := h.same (ButS.of_below hb (Nat.le_refl _))
theorem R1.only (h : R1 w P G B L X Q c xs) (hb : Only w G w') : R1 w' P G B L X Q c xs := by
  obtain ⟨r, c0, s, t, p, hr⟩ := h.m
  obtain ⟨cs, h1, h2, h3⟩ := h.b
  obtain ⟨v, hq⟩ := h.q.row
  exact ⟨(hb.but.block P (row_lt h.p) (row_ne h.p hr (by decide))).trans h.p, hb.mq, ⟨cs, (hb.but.block B (row_lt h1) (row_ne h1 hr (by decide))).trans h1, h2, h3⟩, (hb.but.block L (row_lt h.l) (row_ne h.l hr (by decide))).trans h.l, (hb.but.block X (row_lt h.x) (row_ne h.x hr (by decide))).trans h.x, h.q.but hb.but (fun _ e => .inr (.inl e)) (row_ne hq hr (by decide)), h.few⟩
theorem R1.pc (h : R1 w P G B L X Q c xs) : w.cell? ⟨P, 1, none⟩ = some (.slice (some ⟨B, 0, none⟩) 1 c) := cell_of_row w P 1 _ _ (0, 0) h.p
theorem R1.bc (h : R1 w P G B L X Q c xs) : w.cell? ⟨B, 0, none⟩ = some (.slice (some ⟨L, 0, none⟩) 1 1) := by
  obtain ⟨cs, h1, h2, h3⟩ := h.b
  exact (cell_of_row w B 0 _ _ (0, 0) h1).trans h2
theorem R1.lc (h : R1 w P G B L X Q c xs) : w.cell? ⟨L, 0, none⟩ = some (.pointer (some ⟨X, 0, none⟩)) := cell_of_row w L 0 _ _ (0, 0) h.l
end
theorem Only.then {w w1 w2 : World} {G : Nat} (h : Only w G w1) (k : Only w1 G w2) : Only w G w2 := ⟨k.mq, h.but.trans k.but⟩
theorem Only.refl {w : World} {G : Nat} (h : Mq w G) : Only w G w := ⟨h, ButS.refl _ _⟩
theorem Only.draw {w w1 : World} {G : Nat} (h : Only w G w1) (n : Nat) : Only w G (w1.drewN n) := ⟨h.mq.but ((ButS.refl w1 (fun _ => False)).drewN n) (fun h => h), h.but.drewN n⟩
theorem Only.drawn {w w1 : World} {G n : Nat} (h : Only (w.drewN n) G w1) : Only w G w1 := ⟨h.mq, ⟨h.but.os, h.but.tape, h.but.output, h.but.size, h.but.block⟩⟩
theorem Only.of_below {w w1 w2 : World} {G : Nat} (h : Only w1 G w2) (hb : Below w.heap.size w w1) : Only w G w2 := ⟨h.mq, (ButS.of_below hb (Nat.le_refl _)).trans h.but⟩
theorem Only.cell {w w' : World} {G g : Nat} {cs : Array Value} {T : TypeId} (h : Only w G w') (hm : Mq w G) (hr : w.heap[g]? = some (.cells cs T (0, 0))) (hT : T ≠ 69) (i : Nat) : w'.cell? ⟨g, i, none⟩ = cs[i]? := by
  obtain ⟨r, c, s, t, p, hg⟩ := hm
  exact (h.but.cell (row_lt hr) (row_ne hr hg hT) i).trans (cell_of_row w g i _ _ (0, 0) hr)
theorem Only.row {w w' : World} {G g : Nat} {cs : Array Value} {T : TypeId} (h : Only w G w') (hm : Mq w G) (hr : w.heap[g]? = some (.cells cs T (0, 0))) (hT : T ≠ 69) : w'.heap[g]? = some (.cells cs T (0, 0)) := by
  obtain ⟨r, c, s, t, p, hg⟩ := hm
  exact (h.but.block g (row_lt hr) (row_ne hr hg hT)).trans hr
set_option maxHeartbeats 4000000 in
theorem seek2_one (w : World) (P G B L X Q c : Nat) (xs : List Int) (h : R1 w P G B L X Q c xs) (r f l u : Nat) (hr : w.heap[r]? = some (.cells #[.pointer (some ⟨P, 1, none⟩)] 77 (0, 0))) (hf : w.heap[f]? = some (.cells #[s1v l u] 97 (0, 0))) (hl : w.heap[l]? = some (.cells #[rdv G] 1 (0, 0))) (hu : w.heap[u]? = some (.cells #[.int .u64 0] 22 (0, 0))) :
    Calls Tryz.prog 61 #[.int .i64 0, .pointer (some ⟨r, 0, none⟩), .pointer (some ⟨f, 0, none⟩)] w fun e w' => e = .returned (.bool true) ∧ Only w G w' := by
  have c0 : w.cell? ⟨r, 0, none⟩ = some (.pointer (some ⟨P, 1, none⟩)) := cell_of_row w r 0 _ _ (0, 0) hr
  have c1 : w.cell? ⟨f, 0, none⟩ = some (s1v l u) := cell_of_row w f 0 _ _ (0, 0) hf
  have pc := h.pc
  have bc := h.bc
  have lc := h.lc
  have i1 : (0 : Int) ≤ 0 := by decide
  have i2 : (0 : Int) < 1 := by decide
  have e1 : IntKind.i64.wrap ((1 : Int) - 1) = 0 := by decide
  have e2 : IntKind.i64.wrap 0 = 0 := by decide
  have e3 : IntKind.i64.wrap (((1 : Nat) : Int) - 1) = 0 := by decide
  have i3 : (0 : Int) < ((1 : Nat) : Int) := by decide
  have HR := fun n => Lib.hid (reach_any (w.drewN n) X G l u _ _ h.x h.m hl hu)
  have HL := Lib.hid h.l
  have HF := Lib.hid hf
  have HM := Lib.hid h.m
  clear h hr hf hl hu
  go_enter Tryz.func61, Tryz.ntmps61
  go_wp2
  go_region_held3 (fun Y => Y.cell? ⟨f, 0, none⟩ = some (s1v l u) ∧ Y.cell? ⟨L, 0, none⟩ = some (.pointer (some ⟨X, 0, none⟩))) (first | (exact ⟨c1, lc⟩) | (with_reducible exact HS.out) | go_keep) (first
    | (go_at_call 59; (refine (HR _).out.mono ?_); rintro e w' ⟨rfl, hm⟩
       have HS : Hid (w'.cell? ⟨f, 0, none⟩ = some (s1v l u) ∧ w'.cell? ⟨L, 0, none⟩ = some (.pointer (some ⟨X, 0, none⟩))) := Lib.hid ⟨hm.cell HM.out HF.out (by decide) 0, hm.cell HM.out HL.out (by decide) 0⟩
       replace hm := Lib.hid hm))
  all_goals
    go_wp2
    go_ret
    exact ⟨rfl, hm.out.drawn⟩
set_option maxHeartbeats 4000000 in
theorem seek3_one (w : World) (P G B L X Q c : Nat) (xs : List Int) (h : R1 w P G B L X Q c xs) (f l u g : Nat) (hg : w.heap[g]? = some (.cells #[.slice (some ⟨L, 0, none⟩) 1 1] 78 (0, 0))) (hf : w.heap[f]? = some (.cells #[s1v l u] 97 (0, 0))) (hl : w.heap[l]? = some (.cells #[rdv G] 1 (0, 0))) (hu : w.heap[u]? = some (.cells #[.int .u64 0] 22 (0, 0))) :
    Calls Tryz.prog 62 #[.int .i64 0, .pointer (some ⟨f, 0, none⟩), .pointer (some ⟨g, 0, none⟩)] w fun e w' => e = .returned (.bool true) ∧ Only w G w' := by
  have c0 : w.cell? ⟨g, 0, none⟩ = some (.slice (some ⟨L, 0, none⟩) 1 1) := cell_of_row w g 0 _ _ (0, 0) hg
  have c1 : w.cell? ⟨f, 0, none⟩ = some (s1v l u) := cell_of_row w f 0 _ _ (0, 0) hf
  have lc := h.lc
  have HR := fun n => Lib.hid (reach_any (w.drewN n) X G l u _ _ h.x h.m hl hu)
  have HL := Lib.hid h.l
  have HF := Lib.hid hf
  have HG := Lib.hid hg
  have HM := Lib.hid h.m
  clear h hf hl hu hg
  go_enter Tryz.func62, Tryz.ntmps62
  go_wp2
  go_region_held3 (fun Y => Y.cell? ⟨f, 0, none⟩ = some (s1v l u) ∧ Y.cell? ⟨g, 0, none⟩ = some (.slice (some ⟨L, 0, none⟩) 1 1) ∧ Y.cell? ⟨L, 0, none⟩ = some (.pointer (some ⟨X, 0, none⟩))) (first | (exact ⟨c1, c0, lc⟩) | (with_reducible exact HS.out) | go_keep) (first
    | (go_at_call 59; (refine (HR _).out.mono ?_); rintro e w' ⟨rfl, hm⟩
       have HS : Hid (w'.cell? ⟨f, 0, none⟩ = some (s1v l u) ∧ w'.cell? ⟨g, 0, none⟩ = some (.slice (some ⟨L, 0, none⟩) 1 1) ∧ w'.cell? ⟨L, 0, none⟩ = some (.pointer (some ⟨X, 0, none⟩))) := Lib.hid ⟨hm.cell HM.out HF.out (by decide) 0, hm.cell HM.out HG.out (by decide) 0, hm.cell HM.out HL.out (by decide) 0⟩
       replace hm := Lib.hid hm))
  all_goals
    go_wp2
    go_ret
    exact ⟨rfl, hm.out.drawn⟩
end Go.Proofs.YtlinoambdlkfjaaGreat
