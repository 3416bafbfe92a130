
/- The next and the last key of a set with one part; the texts walked. -/
import Derived.Test.YtlinoambdlkfjaaGreatRoA
import Derived.Deep.Cut
namespace Go.Proofs.YtlinoambdlkfjaaGreat
open Go.RowKit
theorem plo_cells {w : World} {g : Nat} (h : w.heap[g]? = some (plo 0 0)) : w.frozen? ⟨g, 0, none⟩ = false ∧ w.frozen? ⟨g, 1, none⟩ = false ∧ w.cell? ⟨g, 0, none⟩ = some (.int .i64 0) ∧ w.cell? ⟨g, 1, none⟩ = some (.int .i64 0) :=
  ⟨frozen_of_row _ _ 0 _ _ h, frozen_of_row _ _ 1 _ _ h, cell_of_row _ _ 0 _ _ (0, 0) h, cell_of_row _ _ 1 _ _ (0, 0) h⟩
theorem Only.al {w w1 : World} {G : Nat} (h : Only w G w1) (o : Obj) : Only w G (w1.alloc o) := ⟨h.mq.but (but_alloc' w1 o (fun _ => False)) (fun h => h), h.but.trans (but_alloc' w1 o _)⟩
theorem Only.set2 {w w1 : World} {G g : Nat} {cs : Array Value} {T : TypeId} (h : Only w G w1) (hg : w1.heap[g]? = some (.cells cs T (0, 0))) (hT : T ≠ 69) (hw : w.heap.size ≤ g) (a b : Value) : Only w G ((w1.setCell ⟨g, 0, none⟩ a).setCell ⟨g, 1, none⟩ b) := by
  obtain ⟨r, c, s, t, p, hr⟩ := h.mq
  have hs : ButS w1 ((w1.setCell ⟨g, 0, none⟩ a).setCell ⟨g, 1, none⟩ b) (· = g) := (but_set' w1 g 0 a (· = g) rfl).trans (but_set' _ g 1 b (· = g) rfl)
  exact ⟨h.mq.but hs (fun e => row_ne hg hr hT e.symm), h.but.then hs (fun j e => .inr (by have e2 : j = g := e; omega))⟩
theorem askP_yes {w : World} {y : Nat} {e : Ending} {w' : World} (h : AskP w (y : Int) e w') : e = .returned (.tuple #[.int .u16 (y : Int), .bool true]) ∧ Below w.heap.size w w' := by
  obtain ⟨x, b, rfl, h0, h1, h2, hb⟩ := h
  cases b
  · simp at h2
  · simp at h2; subst h2; exact ⟨rfl, hb⟩
set_option maxHeartbeats 8000000 in
theorem next_one (w : World) (P G B L X Q c k y : Nat) (xs : List Int) (h : R1 w P G B L X Q c xs) (hk : k < 65536) (hy : y < 65536) (hn : M.rNext xs (k : Int) = (y : Int)) :
    Calls Tryz.prog 6 #[.pointer (some ⟨P, 0, none⟩), .int .u64 (k : Int)] w fun e w' => e = .returned (.tuple #[.int .u64 (y : Int), .bool true]) ∧ R1 w' P G B L X Q c xs ∧ ButS w w' (· = G) := by
  have c0 : w.cell? ⟨P, 0, none⟩ = some (.pointer (some ⟨G, 0, none⟩)) := cell_of_row _ P 0 _ _ (0, 0) h.p
  have HST := Lib.hid (q_start _ G h.m)
  have H0 := Lib.hid h
  have HU := fun W => Lib.hid (up_any W k hk)
  have HL := fun W => Lib.hid (lo_any W k hk)
  have HAS := fun W (hW : R1 W P G B L X Q c xs) => Lib.hid ((by have := ba_Next W Q xs hW.q.ba k; rw [hn] at this; exact this.mono (fun e w' h => askP_yes h)) : Calls Tryz.prog 23 #[.pointer (some ⟨Q, 0, none⟩), .int .u16 (k : Int)] W fun e w' => e = .returned (.tuple #[.int .u16 (y : Int), .bool true]) ∧ Below W.heap.size W w')
  clear h
  go_enter Tryz.func6, Tryz.ntmps6
  go_wp2_with (first
    | (go_at_call 19; (with_reducible refine HST.out.mono ?_); rintro e w1 ⟨rfl, hm, hbt⟩
       have ho : Only w G w1 := ⟨hm, hbt⟩
       have r1 := H0.out.only ho
       have HFI := Lib.hid (fun m => find_one (w1.drewN m) P G B L X Q c xs (r1.below (below_dr (Below.refl _ _) m)))
       have HFA := Lib.hid (fun m => find_one ((w1.alloc (plo 0 0)).drewN m) P G B L X Q c xs (r1.below (below_dr (bel_al (Below.refl _ w1) (Nat.le_refl _) (plo 0 0)) m)))
       have hS1 : Hid (w1.drew.cell? ⟨P, 0, none⟩ = some (.pointer (some ⟨G, 0, none⟩))) := Lib.hid (cell_of_row w1 _ 0 _ _ (0, 0) r1.p)
       have hA1 : Hid (∀ a, (w1.alloc a).drew.cell? ⟨P, 0, none⟩ = some (.pointer (some ⟨G, 0, none⟩))) := Lib.hid (fun a => cell_of_row (w1.alloc a) _ 0 _ _ (0, 0) (al_keep r1.p a))
       have R1x := Lib.hid r1
       have OW := Lib.hid hbt
       have YT := Lib.hid (alloc_top w1 (plo 0 0))
       clear hm hbt ho r1))
  go_cut [6, 7] from 17 (fun s6 s7 wc => s7 = .pointer (some ⟨X, 0, none⟩) ∧ Hid (R1 wc P G B L X Q c xs ∧ ButS w wc (· = G)))
  case first =>
    go_region_held3 (fun Y => Y.cell? ⟨P, 0, none⟩ = some (.pointer (some ⟨G, 0, none⟩))) (first | (with_reducible exact hS1.out) | (with_reducible exact hA1.out _) | (with_reducible exact hS2.out) | (with_reducible exact hS3.out) | (with_reducible exact hS4.out _)) (first
      | (go_at_call 21; (with_reducible refine (HU _).out.mono ?_); rintro e w2 ⟨rfl, rfl⟩)
      | (go_at_call 20; (refine (HFI.out _).mono ?_); rintro e w2 ⟨rfl, ho⟩
         have o2 : Only w1 G w2 := ho.drawn
         have hF := Lib.hid (And.intro (R1x.out.only (o2.al (plo 0 0))) (OW.out.trans (o2.al (plo 0 0)).but))
         have r2 := R1x.out.only o2
         have hS2 : Hid (w2.cell? ⟨P, 0, none⟩ = some (.pointer (some ⟨G, 0, none⟩))) := Lib.hid (cell_of_row w2 _ 0 _ _ (0, 0) r2.p)
         have hS4 : Hid (∀ a, (w2.alloc a).cell? ⟨P, 0, none⟩ = some (.pointer (some ⟨G, 0, none⟩))) := Lib.hid (fun a => cell_of_row (w2.alloc a) _ 0 _ _ (0, 0) (al_keep r2.p a))
         clear ho o2 r2)
      | (go_at_call 20; (refine (HFA.out _).mono ?_); rintro e w2 ⟨rfl, ho⟩
         have hm1 : Mq (w1.alloc (plo 0 0)) G := R1x.out.m.but (but_alloc' w1 (plo 0 0) (fun _ => False)) (fun h => h)
         have y2 := ho.drawn.row hm1 YT.out (by decide)
         have o2 : Only w1 G w2 := ho.drawn.of_below (bel_al (Below.refl _ w1) (Nat.le_refl _) (plo 0 0))
         obtain ⟨yf0, yf1, yc0, yc1⟩ := plo_cells y2
         have r2 := R1x.out.only o2
         have r3 := R1x.out.only (o2.set2 y2 (by decide) (Nat.le_refl _) (.int .i64 0) (.int .i64 0))
         have hS2 : Hid (w2.cell? ⟨P, 0, none⟩ = some (.pointer (some ⟨G, 0, none⟩))) := Lib.hid (cell_of_row w2 _ 0 _ _ (0, 0) r2.p)
         have hS3 : Hid (((w2.setCell ⟨w1.heap.size, 0, none⟩ (.int .i64 0)).setCell ⟨w1.heap.size, 1, none⟩ (.int .i64 0)).cell? ⟨P, 0, none⟩ = some (.pointer (some ⟨G, 0, none⟩))) := Lib.hid (cell_of_row _ _ 0 _ _ (0, 0) r3.p)
         have hF := Lib.hid (And.intro r3 (OW.out.trans (o2.set2 y2 (by decide) (Nat.le_refl _) (.int .i64 0) (.int .i64 0)).but))
         clear ho o2 r2 r3 y2 hm1))
    all_goals
      go_wp2
      go_meet
      exact ⟨rfl, hF⟩
  case rest =>
    obtain ⟨rfl, hr⟩ := hcut
    have HK := fun W (hW : R1 W P G B L X Q c xs) => Lib.hid (key_any W X _ _ hW.x y hy)
    have hT1 : Hid (wc.drew.cell? ⟨X, 2, none⟩ = some (.pointer (some ⟨Q, 0, none⟩))) := Lib.hid (cell_of_row wc _ 2 _ _ (0, 0) hr.out.1.x)
    have HA5 := fun m => HAS (wc.drewN m) (hr.out.1.below (below_dr (Below.refl _ _) m))
    go_wp2
    go_region_held3 (fun Y => Y.cell? ⟨X, 2, none⟩ = some (.pointer (some ⟨Q, 0, none⟩))) (first | (with_reducible exact hT1.out) | (with_reducible exact hT2.out) | go_keep) (first
      | (go_at_call 24; (with_reducible refine (HL _).out.mono ?_); rintro e w4 ⟨rfl, rfl⟩)
      | (go_at_call 23; (refine (HA5 _).out.mono ?_); rintro e w5 ⟨rfl, hb⟩
         have r5 := hr.out.1.below (below_ud hb)
         have hT2 : Hid (w5.cell? ⟨X, 2, none⟩ = some (.pointer (some ⟨Q, 0, none⟩))) := Lib.hid (cell_of_row w5 _ 2 _ _ (0, 0) r5.x)
         have HK5 := HK w5 r5
         have HR5 := Lib.hid r5
         have HW5 := Lib.hid (hr.out.2.trans (ButS.of_below (S := (· = G)) (below_ud hb) (Nat.le_refl _)))
         clear hb r5))
    all_goals
      go_wp2_with (first
        | (go_at_call 25; (with_reducible refine HK5.out.mono ?_); rintro e w6 ⟨rfl, rfl⟩))
      go_ret2
      exact ⟨rfl, HR5.out, HW5.out⟩
set_option maxHeartbeats 8000000 in
theorem prev_one (w : World) (P G B L X Q c k y : Nat) (xs : List Int) (h : R1 w P G B L X Q c xs) (hk : k < 65536) (hy : y < 65536) (hn : M.rPrev xs (k : Int) = (y : Int)) :
    Calls Tryz.prog 7 #[.pointer (some ⟨P, 0, none⟩), .int .u64 (k : Int)] w fun e w' => e = .returned (.tuple #[.int .u64 (y : Int), .bool true]) ∧ R1 w' P G B L X Q c xs ∧ ButS w w' (· = G) := by
  have c0 : w.cell? ⟨P, 0, none⟩ = some (.pointer (some ⟨G, 0, none⟩)) := cell_of_row _ P 0 _ _ (0, 0) h.p
  have HST := Lib.hid (q_start _ G h.m)
  have H0 := Lib.hid h
  have HU := fun W => Lib.hid (up_any W k hk)
  have HL := fun W => Lib.hid (lo_any W k hk)
  have HAS := fun W (hW : R1 W P G B L X Q c xs) => Lib.hid ((by have := ba_Prev W Q xs hW.q.ba k; rw [hn] at this; exact this.mono (fun e w' h => askP_yes h)) : Calls Tryz.prog 28 #[.pointer (some ⟨Q, 0, none⟩), .int .u16 (k : Int)] W fun e w' => e = .returned (.tuple #[.int .u16 (y : Int), .bool true]) ∧ Below W.heap.size W w')
  clear h
  go_enter Tryz.func7, Tryz.ntmps7
  go_wp2_with (first
    | (go_at_call 19; (with_reducible refine HST.out.mono ?_); rintro e w1 ⟨rfl, hm, hbt⟩
       have ho : Only w G w1 := ⟨hm, hbt⟩
       have r1 := H0.out.only ho
       have HFI := Lib.hid (fun m => find_one (w1.drewN m) P G B L X Q c xs (r1.below (below_dr (Below.refl _ _) m)))
       have HFA := Lib.hid (fun m => find_one ((w1.alloc (plo 0 0)).drewN m) P G B L X Q c xs (r1.below (below_dr (bel_al (Below.refl _ w1) (Nat.le_refl _) (plo 0 0)) m)))
       have hS1 : Hid (w1.drew.cell? ⟨P, 0, none⟩ = some (.pointer (some ⟨G, 0, none⟩))) := Lib.hid (cell_of_row w1 _ 0 _ _ (0, 0) r1.p)
       have hA1 : Hid (∀ a, (w1.alloc a).drew.cell? ⟨P, 0, none⟩ = some (.pointer (some ⟨G, 0, none⟩))) := Lib.hid (fun a => cell_of_row (w1.alloc a) _ 0 _ _ (0, 0) (al_keep r1.p a))
       have R1x := Lib.hid r1
       have OW := Lib.hid hbt
       have YT := Lib.hid (alloc_top w1 (plo 0 0))
       clear hm hbt ho r1))
  go_cut [6, 7] from 17 (fun s6 s7 wc => s7 = .pointer (some ⟨X, 0, none⟩) ∧ Hid (R1 wc P G B L X Q c xs ∧ ButS w wc (· = G)))
  case first =>
    go_region_held3 (fun Y => Y.cell? ⟨P, 0, none⟩ = some (.pointer (some ⟨G, 0, none⟩))) (first | (with_reducible exact hS1.out) | (with_reducible exact hA1.out _) | (with_reducible exact hS2.out) | (with_reducible exact hS3.out) | (with_reducible exact hS4.out _)) (first
      | (go_at_call 21; (with_reducible refine (HU _).out.mono ?_); rintro e w2 ⟨rfl, rfl⟩)
      | (go_at_call 20; (refine (HFI.out _).mono ?_); rintro e w2 ⟨rfl, ho⟩
         have o2 : Only w1 G w2 := ho.drawn
         have hF := Lib.hid (And.intro (R1x.out.only (o2.al (plo 0 0))) (OW.out.trans (o2.al (plo 0 0)).but))
         have r2 := R1x.out.only o2
         have hS2 : Hid (w2.cell? ⟨P, 0, none⟩ = some (.pointer (some ⟨G, 0, none⟩))) := Lib.hid (cell_of_row w2 _ 0 _ _ (0, 0) r2.p)
         have hS4 : Hid (∀ a, (w2.alloc a).cell? ⟨P, 0, none⟩ = some (.pointer (some ⟨G, 0, none⟩))) := Lib.hid (fun a => cell_of_row (w2.alloc a) _ 0 _ _ (0, 0) (al_keep r2.p a))
         clear ho o2 r2)
      | (go_at_call 20; (refine (HFA.out _).mono ?_); rintro e w2 ⟨rfl, ho⟩
         have hm1 : Mq (w1.alloc (plo 0 0)) G := R1x.out.m.but (but_alloc' w1 (plo 0 0) (fun _ => False)) (fun h => h)
         have y2 := ho.drawn.row hm1 YT.out (by decide)
         have o2 : Only w1 G w2 := ho.drawn.of_below (bel_al (Below.refl _ w1) (Nat.le_refl _) (plo 0 0))
         obtain ⟨yf0, yf1, yc0, yc1⟩ := plo_cells y2
         have r2 := R1x.out.only o2
         have r3 := R1x.out.only (o2.set2 y2 (by decide) (Nat.le_refl _) (.int .i64 0) (.int .i64 0))
         have hS2 : Hid (w2.cell? ⟨P, 0, none⟩ = some (.pointer (some ⟨G, 0, none⟩))) := Lib.hid (cell_of_row w2 _ 0 _ _ (0, 0) r2.p)
         have hS3 : Hid (((w2.setCell ⟨w1.heap.size, 0, none⟩ (.int .i64 0)).setCell ⟨w1.heap.size, 1, none⟩ (.int .i64 0)).cell? ⟨P, 0, none⟩ = some (.pointer (some ⟨G, 0, none⟩))) := Lib.hid (cell_of_row _ _ 0 _ _ (0, 0) r3.p)
         have hF := Lib.hid (And.intro r3 (OW.out.trans (o2.set2 y2 (by decide) (Nat.le_refl _) (.int .i64 0) (.int .i64 0)).but))
         clear ho o2 r2 r3 y2 hm1))
    all_goals
      go_wp2
      go_meet
      exact ⟨rfl, hF⟩
  case rest =>
    obtain ⟨rfl, hr⟩ := hcut
    have HK := fun W (hW : R1 W P G B L X Q c xs) => Lib.hid (key_any W X _ _ hW.x y hy)
    have hT1 : Hid (wc.drew.cell? ⟨X, 2, none⟩ = some (.pointer (some ⟨Q, 0, none⟩))) := Lib.hid (cell_of_row wc _ 2 _ _ (0, 0) hr.out.1.x)
    have HA5 := fun m => HAS (wc.drewN m) (hr.out.1.below (below_dr (Below.refl _ _) m))
    go_wp2
    go_region_held3 (fun Y => Y.cell? ⟨X, 2, none⟩ = some (.pointer (some ⟨Q, 0, none⟩))) (first | (with_reducible exact hT1.out) | (with_reducible exact hT2.out) | go_keep) (first
      | (go_at_call 24; (with_reducible refine (HL _).out.mono ?_); rintro e w4 ⟨rfl, rfl⟩)
      | (go_at_call 28; (refine (HA5 _).out.mono ?_); rintro e w5 ⟨rfl, hb⟩
         have r5 := hr.out.1.below (below_ud hb)
         have hT2 : Hid (w5.cell? ⟨X, 2, none⟩ = some (.pointer (some ⟨Q, 0, none⟩))) := Lib.hid (cell_of_row w5 _ 2 _ _ (0, 0) r5.x)
         have HK5 := HK w5 r5
         have HR5 := Lib.hid r5
         have HW5 := Lib.hid (hr.out.2.trans (ButS.of_below (S := (· = G)) (below_ud hb) (Nat.le_refl _)))
         clear hb r5))
    all_goals
      go_wp2_with (first
        | (go_at_call 25; (with_reducible refine HK5.out.mono ?_); rintro e w6 ⟨rfl, rfl⟩))
      go_ret2
      exact ⟨rfl, HR5.out, HW5.out⟩
end Go.Proofs.YtlinoambdlkfjaaGreat
