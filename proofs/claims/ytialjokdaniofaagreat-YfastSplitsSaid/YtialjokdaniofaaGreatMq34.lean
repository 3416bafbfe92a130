/- How much is used, and what a bucket needs; the texts walked. Two buckets that stand behind one another are made one, or not: merge; the text walked. -/
import Derived.Test.YtialjokdaniofaaGreatMq33
section
namespace Go.Proofs.YtialjokdaniofaaGreat
set_option maxRecDepth 20000
open Go.RowKit
section
variable {w0 w : World} {O : Nat → Prop} {P M X T Q lim tk : Nat} {kn : Int} {rs : List Nat} {es : Es} {ns : List (Yp.Nd × Bool)} {fs : List Nat} {G : Nat → List Nat}
theorem YR.bounds (h : YR w0 O P M X T Q lim tk kn rs es ns fs G w) : K.Up rs ∧ (∀ x ∈ rs, x < 18446744073709551616) ∧ K.xfast rs ≤ lim ∧ lim ≤ 500000 ∧ ns.length ≤ lim ∧ fs.length ≤ ns.length := by
  obtain ⟨O', ⟨OX, r, c, seed, Qt, Mt, n, pr, An, cn, Af, cf, hb, rfl⟩, hC, hO⟩ := h
  obtain ⟨q1, q2, q3, q4⟩ := xg_up hb.xg
  exact ⟨q1, q2, q3, q4, hb.po.ns_le, hb.po.fs_le⟩
set_option maxHeartbeats 1000000 in
theorem YR.needs_no (h : YR w0 O P M X T Q lim tk kn rs es ns fs G w) (rep : Nat) (A : Option Addr) (c : Nat) (ah be : Int) :
    Calls Tryz.prog 50 #[.pointer (some ⟨P, 0, none⟩), Yp.ndv rep A 0 c ah be] w fun e w' => e = .returned (.int .i64 1) ∧ YR w0 O P M X T Q lim tk kn rs es ns fs G w' := by
  have H := Lib.hid (h.below ((Below.refl _ w).alloc (Nat.le_refl _) (Yp.ndo rep A 0 c ah be)))
  have k1 : (w.alloc (Yp.ndo rep A 0 c ah be)).cell? ⟨w.heap.size, 1, none⟩ = some (.slice A 0 c) := (Yp.nd_cells (K.alloc_top w _)).2.1
  clear h
  go_enter Tryz.func50, Tryz.ntmps50
  go_wp2
  go_ret
  exact ⟨rfl, H.out⟩
set_option maxHeartbeats 1000000 in
theorem needs_yes_T (h : YT w P M X T Q lim tk kn rs es ns fs G O) (rep : Nat) (hrep : rep < 18446744073709551616) (A : Option Addr) (n c : Nat) (ah be : Int) (hn : 0 < n) (hnc : n ≤ 1000) (hf : K.fo rs rep = false) (hz : K.xfast (K.add rs rep) ≤ 1000000) :
    Calls Tryz.prog 50 #[.pointer (some ⟨P, 0, none⟩), Yp.ndv rep A n c ah be] w fun e w' => e = .returned (.int .i64 ((K.xfast (K.add rs rep) - K.xfast rs + 2 : Nat) : Int)) ∧ YR w O P M X T Q lim tk kn rs es ns fs G w' := by
  have hb : Below w.heap.size w (w.alloc (Yp.ndo rep A n c ah be)) := (Below.refl _ w).alloc (Nat.le_refl _) _
  have h1 := YR.start (h.below hb)
  have h2 : YR (w.alloc (Yp.ndo rep A n c ah be)) O P M X T Q lim tk kn rs es ns fs G (w.alloc (Yp.ndo rep A n c ah be)).drew := h1.drewN 1
  have hn0 : ¬ O w.heap.size := fun ho => by have := h.lt.1 _ ho; omega
  have r5 : (w.alloc (Yp.ndo rep A n c ah be)).heap[w.heap.size]? = some (Yp.ndo rep A n c ah be) := K.alloc_top w _
  have k1 : (w.alloc (Yp.ndo rep A n c ah be)).cell? ⟨w.heap.size, 1, none⟩ = some (.slice A n c) := (Yp.nd_cells r5).2.1
  have k0 : (w.alloc (Yp.ndo rep A n c ah be)).drew.cell? ⟨w.heap.size, 0, none⟩ = some (.int .u64 (rep : Int)) := (Yp.nd_cells r5).1
  have HS0 := Lib.hid (And.intro h2.c1 k0)
  have HN := Lib.hid hn0
  have R5 := Lib.hid r5
  have HB := Lib.hid hb
  have HX := Lib.hid (h2.xneed rep hrep hf)
  have g1 : ((n : Int) == 0) = false := by rw [beq_eq_false_iff_ne]; omega
  obtain ⟨q, hq⟩ : ∃ q, K.xfast (K.add rs rep) - K.xfast rs = q := ⟨_, rfl⟩
  rw [hq] at HX ⊢
  have hw : IntKind.i64.wrap ((q : Int) + 2) = ((q + 2 : Nat) : Int) := by rw [IntWalk.i64_in _ (by omega)]; omega
  clear h h1 h2 k0 hz hn0 r5 hb
  go_enter Tryz.func50, Tryz.ntmps50
  go_wp2
  go_region_held3 (fun Y => Y.cell? ⟨P, 1, none⟩ = some (.pointer (some ⟨X, 0, none⟩)) ∧ Y.cell? ⟨w.heap.size, 0, none⟩ = some (.int .u64 (rep : Int))) (first | (with_reducible exact HS0.out) | (with_reducible exact HS1.out) | go_keep)
    ((go_at_call 88; (with_reducible refine HX.out.mono ?_); rintro e w1 ⟨rfl, h1⟩
      have HS1 := Lib.hid (And.intro h1.c1 (Yp.nd_cells ((h1.same (row_lt R5.out) HN.out).trans R5.out)).1)
      have H1 := Lib.hid h1
      clear h1))
  all_goals
    go_wp2
    go_ret
    exact ⟨rfl, YR.trans (K.Chg.of_below HB.out) (fun j hj => .inl hj) H1.out⟩
theorem YR.needs_yes (h : YR w0 O P M X T Q lim tk kn rs es ns fs G w) (rep : Nat) (hrep : rep < 18446744073709551616) (A : Option Addr) (n c : Nat) (ah be : Int) (hn : 0 < n) (hnc : n ≤ 1000) (hf : K.fo rs rep = false) (hz : K.xfast (K.add rs rep) ≤ 1000000) :
    Calls Tryz.prog 50 #[.pointer (some ⟨P, 0, none⟩), Yp.ndv rep A n c ah be] w fun e w' => e = .returned (.int .i64 ((K.xfast (K.add rs rep) - K.xfast rs + 2 : Nat) : Int)) ∧ YR w0 O P M X T Q lim tk kn rs es ns fs G w' := by
  obtain ⟨O', hT, hC, hO⟩ := h
  refine (needs_yes_T hT rep hrep A n c ah be hn hnc hf hz).mono ?_
  rintro e w' ⟨he', hy⟩
  exact ⟨he', YR.trans hC hO hy⟩
set_option maxHeartbeats 2000000 in
theorem YR.used (h : YR w0 O P M X T Q lim tk kn rs es ns fs G w) (k : Nat) (hk : kn = (k : Int)) (hkl : k ≤ 1000000) :
    Calls Tryz.prog 12 #[.pointer (some ⟨P, 0, none⟩)] w fun e w' => e = .returned (.int .i64 ((K.xfast rs + (ns.length - fs.length) + k : Nat) : Int)) ∧ YR w0 O P M X T Q lim tk kn rs es ns fs G w' := by
  subst hk
  obtain ⟨_, _, b1, b2, b3, b4⟩ := h.bounds
  have h2 : YR w0 O P M X T Q lim tk (k : Int) rs es ns fs G w.drew := h.drewN 1
  have HS0 := Lib.hid (And.intro h2.c1 (And.intro h2.c3 h2.c4))
  have HX := Lib.hid h2.xused
  have HL := Lib.hid h2.plen
  obtain ⟨q, hq⟩ : ∃ q, ns.length - fs.length = q := ⟨_, rfl⟩
  have HQ := Lib.hid hq
  rw [hq] at HL ⊢
  obtain ⟨u, hu⟩ : ∃ u, K.xfast rs = u := ⟨_, rfl⟩
  have HU := Lib.hid hu
  rw [hu] at HX b1 ⊢
  obtain ⟨s, hs⟩ : ∃ s, u + q + k = s := ⟨_, rfl⟩
  rw [hs]
  have w1 : IntKind.i64.wrap ((u : Int) + (q : Int)) = (u : Int) + (q : Int) := IntWalk.i64_in _ (by omega)
  have w2 : IntKind.i64.wrap ((u : Int) + (q : Int) + (k : Int)) = (s : Int) := by rw [IntWalk.i64_in _ (by omega)]; omega
  clear h h2 hq hu
  go_enter Tryz.func12, Tryz.ntmps12
  go_wp2
  go_region_held3 (fun Y => Y.cell? ⟨P, 1, none⟩ = some (.pointer (some ⟨X, 0, none⟩)) ∧ Y.cell? ⟨P, 3, none⟩ = some (.pointer (some ⟨Q, 0, none⟩)) ∧ Y.cell? ⟨P, 4, none⟩ = some (.int .i64 (k : Int))) (first | (with_reducible exact HS0.out) | (with_reducible exact HS1.out) | (with_reducible exact HS2.out) | go_keep) (first
    | (go_at_call 41; (with_reducible refine HX2.out.mono ?_); rintro e w2 ⟨rfl, h2⟩
       have HS2 := Lib.hid (And.intro h2.c1 (And.intro h2.c3 h2.c4))
       have H2 := Lib.hid h2
       clear h2)
    | (go_at_call 42; (with_reducible refine HL2.out.mono ?_); rintro e w2 ⟨rfl, h2⟩
       have HS2 := Lib.hid (And.intro h2.c1 (And.intro h2.c3 h2.c4))
       have H2 := Lib.hid h2
       clear h2)
    | (go_at_call 41; (with_reducible refine HX.out.mono ?_); rintro e w1 ⟨rfl, h1⟩
       have HS1 := Lib.hid (And.intro h1.c1 (And.intro h1.c3 h1.c4))
       have q1 := h1.plen
       rw [HQ.out] at q1
       have HL2 := Lib.hid q1
       clear h1 q1)
    | (go_at_call 42; (with_reducible refine HL.out.mono ?_); rintro e w1 ⟨rfl, h1⟩
       have HS1 := Lib.hid (And.intro h1.c1 (And.intro h1.c3 h1.c4))
       have q1 := h1.xused
       rw [HU.out] at q1
       have HX2 := Lib.hid q1
       clear h1 q1))
  all_goals
    go_wp2
    go_ret
    exact ⟨rfl, H2.out⟩
end
end Go.Proofs.YtialjokdaniofaaGreat
end
section
namespace Go.Proofs.YtialjokdaniofaaGreat
set_option maxRecDepth 20000
open Go.RowKit
/-- What is at a place: a bucket, or none. -/
def AtH (ns : List (Yp.Nd × Bool)) (i : Int) (b : Bool) (rep : Nat) (A : Option Addr) (n c : Nat) (ah be : Int) : Prop := (b = true ∧ ∃ k : Nat, i = (k : Int) ∧ ns[k]? = some (⟨rep, A, n, c, ah, be⟩, true)) ∨ (b = false ∧ Yp.lvq ns i = false ∧ rep = 0 ∧ A = none ∧ n = 0 ∧ c = 0 ∧ ah = 0 ∧ be = 0)
section
variable {w0 w : World} {O : Nat → Prop} {P M X T Q lim tk : Nat} {kn : Int} {rs : List Nat} {es : Es} {ns : List (Yp.Nd × Bool)} {fs : List Nat} {G : Nat → List Nat}
theorem y_at_any (h : YR w0 O P M X T Q lim tk kn rs es ns fs G w) (htk : tk ≤ 900) (i : Int) (b : Bool) (rep : Nat) (A : Option Addr) (n c : Nat) (ah be : Int) (hi : AtH ns i b rep A n c ah be) :
    Calls Tryz.prog 84 #[.pointer (some ⟨Q, 0, none⟩), .int .i64 i] w fun e w' => e = .returned (.tuple #[Yp.ndv rep A n c ah be, .bool b]) ∧ ∃ t, t ≤ 1 ∧ YR w0 O P M X T Q lim (tk + t) kn rs es ns fs G w' := by
  rcases hi with ⟨rfl, k, rfl, hk⟩ | ⟨rfl, hl, rfl, rfl, rfl, rfl, rfl, rfl⟩
  · refine (y_at_nd h (by omega) k rep A n c ah be hk).mono ?_
    rintro e w' ⟨he, h1⟩
    exact ⟨he, 1, by omega, h1⟩
  · refine (y_at_no h i hl).mono ?_
    rintro e w' ⟨he, h1⟩
    exact ⟨he, 0, by omega, h1⟩
end
end Go.Proofs.YtialjokdaniofaaGreat
end
