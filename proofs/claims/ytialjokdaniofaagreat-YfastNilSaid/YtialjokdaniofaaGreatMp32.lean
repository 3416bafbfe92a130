/- What a bucket's keys make of it: few, part, needs, Used; the texts walked. How much is used, and what a bucket needs; the texts walked. Two buckets that stand behind one another are made one, or not: merge; the text walked. -/
import Derived.Test.YtialjokdaniofaaGreatMp31
section
namespace Go.Proofs.YtialjokdaniofaaGreat
set_option maxRecDepth 20000
open Go.RowKit
/-- What is left of part. -/
def PartP (w : World) (v1 : Value) (rep : Nat) (A : Option Addr) (n c : Nat) (e : Ending) (w' : World) : Prop := e = .returned (.tuple #[v1, Yp.ndv rep A n c 0 0]) ∧ Below w.heap.size w w'
set_option maxHeartbeats 1000000 in
theorem y_part_no (w : World) (A : Option Addr) (n c : Nat) :
    Calls Tryz.prog 49 #[.int .i64 (-1), .slice A n c] w fun e w' => e = .returned (.tuple #[.slice none 0 0, Yp.ndv 0 A n c 0 0]) ∧ Below w.heap.size w w' := by
  go_enter Tryz.func49, Tryz.ntmps49
  go_wp2
  refine bodyPost_ret (find_res rfl _ _ w.heap.size _ _ _ _ _ rfl (K.alloc_top w _) rfl) rfl ⟨rfl, ?_⟩
  exact (Below.refl _ w).alloc (Nat.le_refl _) _
set_option maxHeartbeats 1000000 in
theorem y_part_all (w : World) (i : Nat) (A : Option Addr) (n c : Nat) (hn : n ≤ 128) :
    Calls Tryz.prog 49 #[.int .i64 (i : Int), .slice A n c] w fun e w' => e = .returned (.tuple #[.slice A n c, Yp.ndzv]) ∧ Below w.heap.size w w' := by
  have g0 : ((i : Int) == -1) = false := by rw [beq_eq_false_iff_ne]; omega
  have g1 : decide ((128 : Int) < (n : Int)) = false := decide_eq_false (by omega)
  have g2 : decide (128 < n) = false := decide_eq_false (by omega)
  go_enter Tryz.func49, Tryz.ntmps49
  go_wp2
  refine bodyPost_ret (find_res rfl _ _ w.heap.size _ _ _ _ _ rfl (K.alloc_top w _) rfl) rfl ⟨rfl, ?_⟩
  exact (Below.refl _ w).alloc (Nat.le_refl _) _
set_option maxHeartbeats 2000000 in
theorem y_part_two (w : World) (i : Nat) (A : Option Addr) (c : Nat) (xs : List Nat) (h : KX w (.slice A xs.length c) xs) (few : xs.length ≤ 1000) (hn : 128 < xs.length) (y : Nat) (ys : List Nat) (hy : xs.drop (xs.length - xs.length / 2) = y :: ys) :
    Calls Tryz.prog 49 #[.int .i64 (i : Int), .slice A xs.length c] w fun e w' => ∃ A1 c1 A2 c2, e = .returned (.tuple #[.slice A1 (xs.take (xs.length - xs.length / 2)).length c1, Yp.ndv y A2 (ys.length + 1) c2 0 0]) ∧ KX w' (.slice A1 (xs.take (xs.length - xs.length / 2)).length c1) (xs.take (xs.length - xs.length / 2)) ∧ KX w' (.slice A2 (ys.length + 1) c2) (y :: ys) ∧ Below w.heap.size w w' := by
  have hb : Below w.heap.size w (w.alloc Yp.ndzo) := (Below.refl _ w).alloc (Nat.le_refl _) _
  have HS := Lib.hid (Kb.b_split (w.alloc Yp.ndzo) _ xs (h.below hb) (by omega))
  rw [show Kb.SplitP (w.alloc Yp.ndzo) xs = fun e w' => ∃ v1 v2, e = .returned (.tuple #[v1, v2]) ∧ Kb.KN (w.alloc Yp.ndzo) w' v1 (xs.take (xs.length - xs.length / 2)) ∧ Kb.KN (w.alloc Yp.ndzo) w' v2 (xs.drop (xs.length - xs.length / 2)) ∧ Below (w.alloc Yp.ndzo).heap.size (w.alloc Yp.ndzo) w' from rfl, hy] at HS
  have hz : Hid ((w.alloc Yp.ndzo).heap[w.heap.size]? = some Yp.ndzo) := Lib.hid (K.alloc_top w Yp.ndzo)
  have HB := Lib.hid hb
  clear hb h hy
  generalize xs.take (xs.length - xs.length / 2) = X1 at *
  generalize xs.length = n at *
  have g0 : ((i : Int) == -1) = false := by rw [beq_eq_false_iff_ne]; omega
  have g1 : decide ((128 : Int) < (n : Int)) = true := decide_eq_true (by omega)
  have g2 : decide (128 < n) = true := decide_eq_true (by omega)
  go_enter Tryz.func49, Tryz.ntmps49
  go_wp2_with (go_at_call 87; (with_reducible refine HS.out.mono ?_); rintro e w1 ⟨v1, v2, rfl, k1, k2, hb1⟩
               have e1 := k1.kx
               have e2 := k2.kx
               obtain ⟨A1, c1, rfl, _, _⟩ := Kb.kx_rh e1
               obtain ⟨A2, c2, rfl, _, _⟩ := Kb.kx_rh e2
               have hl2 : decide ((0 : Int) < ((y :: ys).length : Int)) = true := (by simp)
               obtain ⟨g, cap, hv, hc, hg, hcells⟩ := (e2.form).resolve_left (fun e => by cases e.2)
               have n2 := k2.new (g := g) (by rw [hv]; rfl)
               have cy := hcells 0 (by simp)
               injection hv with hA2 hn2 hc2
               subst hA2
               simp at cy
               have p5 := (hb1.block w.heap.size (by simp)).trans hz.out
               have f50 := frozen_of_row _ _ 0 _ _ p5
               have f51 := frozen_of_row _ _ 1 _ _ p5
               have f52 := frozen_of_row _ _ 2 _ _ p5
               have f53 := frozen_of_row _ _ 3 _ _ p5
               obtain ⟨k50, k51, k52, k53⟩ := Yp.nd_cells p5
               have hgn : g ≠ w.heap.size := fun e => (by have := n2.1; simp at this; omega)
               have P5 := Lib.hid p5
               have N12 := Lib.hid n2
               have E1 := Lib.hid e1
               have E2 := Lib.hid e2
               have HB1 := Lib.hid hb1
               clear n2 e1 e2 hb1 p5 k1 k2 hcells)
  go_region
  all_goals
    go_wp2
    have hrow := Yp.row_z5 P5.out (.int .u64 (y : Int)) (.slice (some ⟨g, 0, none⟩) (ys.length + 1) cap) (.int .i64 0) (.int .i64 0)
    have hch := Yp.chg_five w1 w.heap.size 0 1 2 3 (.int .u64 (y : Int)) (.slice (some ⟨g, 0, none⟩) (ys.length + 1) cap) (.int .i64 0) (.int .i64 0) (· = w.heap.size) rfl
    refine bodyPost_ret (find_res rfl _ _ w.heap.size _ _ _ _ _ rfl hrow rfl) rfl ⟨A1, c1, _, cap, rfl, ?_, ?_, ?_⟩
    · exact kx_chg E1.out (hch.drewN 1) (fun j hj => (kx_bt E1.out hj).ne ⟨_, P5.out⟩ (by decide))
    · have E3 : KX w1 (.slice (some ⟨g, 0, none⟩) (ys.length + 1) cap) (y :: ys) := by rw [← hc2]; exact E2.out
      exact kx_chg E3 (hch.drewN 1) (fun j hj => (kx_bt E3 hj).ne ⟨_, P5.out⟩ (by decide))
    · have h1 : Below w.heap.size w w1 := HB.out.trans (HB1.out.mono (by simp))
      exact ((((h1.setCell (by simp) _).setCell (by simp) _).setCell (by simp) _).setCell (by simp) _).drew
end Go.Proofs.YtialjokdaniofaaGreat
end
section
namespace Go.Proofs.YtialjokdaniofaaGreat
set_option maxRecDepth 20000
open Go.RowKit
section
variable {w0 w : World} {O : Nat → Prop} {P M X T Q lim tk : Nat} {kn : Int} {rs : List Nat} {es : Es} {ns : List (Yp.Nd × Bool)} {fs : List Nat} {G : Nat → List Nat}
theorem YR.bounds (h : YR w0 O P M X T Q lim tk kn rs es ns fs G w) : K.Up rs ∧ (∀ x ∈ rs, x < 18446744073709551616) ∧ K.xfast rs ≤ lim ∧ lim ≤ 500000 ∧ ns.length ≤ lim ∧ fs.length ≤ ns.length := by
  obtain ⟨O', ⟨OX, r, c, seed, Qt, Mt, n, pr, An, cn, Af, cf, hb, rfl⟩, hC, hO⟩ := h
  obtain ⟨q1, q2, q3, q4⟩ := xg_up hb.xg
  exact ⟨q1, q2, q3, q4, hb.po.ns_le, hb.po.fs_le⟩
set_option maxHeartbeats 1000000 in
theorem YR.needs_no (h : YR w0 O P M X T Q lim tk kn rs es ns fs G w) (rep : Nat) (A : Option Addr) (c : Nat) (ah be : Int) :
    Calls Tryz.prog 50 #[.pointer (some ⟨P, 0, none⟩), Yp.ndv rep A 0 c ah be] w fun e w' => e = .returned (.int .i64 1) ∧ YR w0 O P M X T Q lim tk kn rs es ns fs G w' := by
  have H := Lib.hid (h.below ((Below.refl _ w).alloc (Nat.le_refl _) (Yp.ndo rep A 0 c ah be)))
  have k1 : (w.alloc (Yp.ndo rep A 0 c ah be)).cell? ⟨w.heap.size, 1, none⟩ = some (.slice A 0 c) := (Yp.nd_cells (K.alloc_top w _)).2.1
  clear h
  go_enter Tryz.func50, Tryz.ntmps50
  go_wp2
  go_ret
  exact ⟨rfl, H.out⟩
set_option maxHeartbeats 1000000 in
theorem needs_yes_T (h : YT w P M X T Q lim tk kn rs es ns fs G O) (rep : Nat) (hrep : rep < 18446744073709551616) (A : Option Addr) (n c : Nat) (ah be : Int) (hn : 0 < n) (hnc : n ≤ 1000) (hf : K.fo rs rep = false) (hz : K.xfast (K.add rs rep) ≤ 1000000) :
    Calls Tryz.prog 50 #[.pointer (some ⟨P, 0, none⟩), Yp.ndv rep A n c ah be] w fun e w' => e = .returned (.int .i64 ((K.xfast (K.add rs rep) - K.xfast rs + 2 : Nat) : Int)) ∧ YR w O P M X T Q lim tk kn rs es ns fs G w' := by
  have hb : Below w.heap.size w (w.alloc (Yp.ndo rep A n c ah be)) := (Below.refl _ w).alloc (Nat.le_refl _) _
  have h1 := YR.start (h.below hb)
  have h2 : YR (w.alloc (Yp.ndo rep A n c ah be)) O P M X T Q lim tk kn rs es ns fs G (w.alloc (Yp.ndo rep A n c ah be)).drew := h1.drewN 1
  have hn0 : ¬ O w.heap.size := fun ho => by have := h.lt.1 _ ho; omega
  have r5 : (w.alloc (Yp.ndo rep A n c ah be)).heap[w.heap.size]? = some (Yp.ndo rep A n c ah be) := K.alloc_top w _
  have k1 : (w.alloc (Yp.ndo rep A n c ah be)).cell? ⟨w.heap.size, 1, none⟩ = some (.slice A n c) := (Yp.nd_cells r5).2.1
  have k0 : (w.alloc (Yp.ndo rep A n c ah be)).drew.cell? ⟨w.heap.size, 0, none⟩ = some (.int .u64 (rep : Int)) := (Yp.nd_cells r5).1
  have HS0 := Lib.hid (And.intro h2.c1 k0)
  have HN := Lib.hid hn0
  have R5 := Lib.hid r5
  have HB := Lib.hid hb
  have HX := Lib.hid (h2.xneed rep hrep hf)
  have g1 : ((n : Int) == 0) = false := by rw [beq_eq_false_iff_ne]; omega
  obtain ⟨q, hq⟩ : ∃ q, K.xfast (K.add rs rep) - K.xfast rs = q := ⟨_, rfl⟩
  rw [hq] at HX ⊢
  have hw : IntKind.i64.wrap ((q : Int) + 2) = ((q + 2 : Nat) : Int) := by rw [IntWalk.i64_in _ (by omega)]; omega
  clear h h1 h2 k0 hz hn0 r5 hb
  go_enter Tryz.func50, Tryz.ntmps50
  go_wp2
  go_region_held3 (fun Y => Y.cell? ⟨P, 1, none⟩ = some (.pointer (some ⟨X, 0, none⟩)) ∧ Y.cell? ⟨w.heap.size, 0, none⟩ = some (.int .u64 (rep : Int))) (first | (with_reducible exact HS0.out) | (with_reducible exact HS1.out) | go_keep)
    ((go_at_call 88; (with_reducible refine HX.out.mono ?_); rintro e w1 ⟨rfl, h1⟩
      have HS1 := Lib.hid (And.intro h1.c1 (Yp.nd_cells ((h1.same (row_lt R5.out) HN.out).trans R5.out)).1)
      have H1 := Lib.hid h1
      clear h1))
  all_goals
    go_wp2
    go_ret
    exact ⟨rfl, YR.trans (K.Chg.of_below HB.out) (fun j hj => .inl hj) H1.out⟩
theorem YR.needs_yes (h : YR w0 O P M X T Q lim tk kn rs es ns fs G w) (rep : Nat) (hrep : rep < 18446744073709551616) (A : Option Addr) (n c : Nat) (ah be : Int) (hn : 0 < n) (hnc : n ≤ 1000) (hf : K.fo rs rep = false) (hz : K.xfast (K.add rs rep) ≤ 1000000) :
    Calls Tryz.prog 50 #[.pointer (some ⟨P, 0, none⟩), Yp.ndv rep A n c ah be] w fun e w' => e = .returned (.int .i64 ((K.xfast (K.add rs rep) - K.xfast rs + 2 : Nat) : Int)) ∧ YR w0 O P M X T Q lim tk kn rs es ns fs G w' := by
  obtain ⟨O', hT, hC, hO⟩ := h
  refine (needs_yes_T hT rep hrep A n c ah be hn hnc hf hz).mono ?_
  rintro e w' ⟨he', hy⟩
  exact ⟨he', YR.trans hC hO hy⟩
set_option maxHeartbeats 2000000 in
theorem YR.used (h : YR w0 O P M X T Q lim tk kn rs es ns fs G w) (k : Nat) (hk : kn = (k : Int)) (hkl : k ≤ 1000000) :
    Calls Tryz.prog 12 #[.pointer (some ⟨P, 0, none⟩)] w fun e w' => e = .returned (.int .i64 ((K.xfast rs + (ns.length - fs.length) + k : Nat) : Int)) ∧ YR w0 O P M X T Q lim tk kn rs es ns fs G w' := by
  subst hk
  obtain ⟨_, _, b1, b2, b3, b4⟩ := h.bounds
  have h2 : YR w0 O P M X T Q lim tk (k : Int) rs es ns fs G w.drew := h.drewN 1
  have HS0 := Lib.hid (And.intro h2.c1 (And.intro h2.c3 h2.c4))
  have HX := Lib.hid h2.xused
  have HL := Lib.hid h2.plen
  obtain ⟨q, hq⟩ : ∃ q, ns.length - fs.length = q := ⟨_, rfl⟩
  have HQ := Lib.hid hq
  rw [hq] at HL ⊢
  obtain ⟨u, hu⟩ : ∃ u, K.xfast rs = u := ⟨_, rfl⟩
  have HU := Lib.hid hu
  rw [hu] at HX b1 ⊢
  obtain ⟨s, hs⟩ : ∃ s, u + q + k = s := ⟨_, rfl⟩
  rw [hs]
  have w1 : IntKind.i64.wrap ((u : Int) + (q : Int)) = (u : Int) + (q : Int) := IntWalk.i64_in _ (by omega)
  have w2 : IntKind.i64.wrap ((u : Int) + (q : Int) + (k : Int)) = (s : Int) := by rw [IntWalk.i64_in _ (by omega)]; omega
  clear h h2 hq hu
  go_enter Tryz.func12, Tryz.ntmps12
  go_wp2
  go_region_held3 (fun Y => Y.cell? ⟨P, 1, none⟩ = some (.pointer (some ⟨X, 0, none⟩)) ∧ Y.cell? ⟨P, 3, none⟩ = some (.pointer (some ⟨Q, 0, none⟩)) ∧ Y.cell? ⟨P, 4, none⟩ = some (.int .i64 (k : Int))) (first | (with_reducible exact HS0.out) | (with_reducible exact HS1.out) | (with_reducible exact HS2.out) | go_keep) (first
    | (go_at_call 41; (with_reducible refine HX2.out.mono ?_); rintro e w2 ⟨rfl, h2⟩
       have HS2 := Lib.hid (And.intro h2.c1 (And.intro h2.c3 h2.c4))
       have H2 := Lib.hid h2
       clear h2)
    | (go_at_call 42; (with_reducible refine HL2.out.mono ?_); rintro e w2 ⟨rfl, h2⟩
       have HS2 := Lib.hid (And.intro h2.c1 (And.intro h2.c3 h2.c4))
       have H2 := Lib.hid h2
       clear h2)
    | (go_at_call 41; (with_reducible refine HX.out.mono ?_); rintro e w1 ⟨rfl, h1⟩
       have HS1 := Lib.hid (And.intro h1.c1 (And.intro h1.c3 h1.c4))
       have q1 := h1.plen
       rw [HQ.out] at q1
       have HL2 := Lib.hid q1
       clear h1 q1)
    | (go_at_call 42; (with_reducible refine HL.out.mono ?_); rintro e w1 ⟨rfl, h1⟩
       have HS1 := Lib.hid (And.intro h1.c1 (And.intro h1.c3 h1.c4))
       have q1 := h1.xused
       rw [HU.out] at q1
       have HX2 := Lib.hid q1
       clear h1 q1))
  all_goals
    go_wp2
    go_ret
    exact ⟨rfl, H2.out⟩
end
end Go.Proofs.YtialjokdaniofaaGreat
end
section
namespace Go.Proofs.YtialjokdaniofaaGreat
set_option maxRecDepth 20000
open Go.RowKit
/-- What is at a place: a bucket, or none. -/
def AtH (ns : List (Yp.Nd × Bool)) (i : Int) (b : Bool) (rep : Nat) (A : Option Addr) (n c : Nat) (ah be : Int) : Prop := (b = true ∧ ∃ k : Nat, i = (k : Int) ∧ ns[k]? = some (⟨rep, A, n, c, ah, be⟩, true)) ∨ (b = false ∧ Yp.lvq ns i = false ∧ rep = 0 ∧ A = none ∧ n = 0 ∧ c = 0 ∧ ah = 0 ∧ be = 0)
section
variable {w0 w : World} {O : Nat → Prop} {P M X T Q lim tk : Nat} {kn : Int} {rs : List Nat} {es : Es} {ns : List (Yp.Nd × Bool)} {fs : List Nat} {G : Nat → List Nat}
end
end Go.Proofs.YtialjokdaniofaaGreat
end
