
/- The law RunsAsk; the text walked. -/
import Derived.Test.YtejboemifncjoaaRun25
namespace Go.Proofs.Ytejboemifncjoaa
open Go.RowKit
theorem has_at {w : World} {g n : Nat} {bs : List Bool} (a : Bs w g n bs) {v : Nat} (hv : v ≤ 65535) {zs : List Int} (hs : M.L bs = zs) : w.cell? ⟨g, v, none⟩ = some (.bool (decide ((v : Int) ∈ zs))) := by
  subst hs
  have hn := a.top_ge
  have hlen := a.len
  rw [a.cell v (by omega)]
  congr 2
  rw [Bool.eq_iff_iff, decide_eq_true_eq]
  have hk : v < bs.length := by omega
  constructor
  · intro h
    exact M.L_in.2 ⟨by omega, by rw [Int.toNat_natCast, List.getElem?_eq_getElem hk, h]⟩
  · intro hy
    have h2 := (M.L_in.1 hy).2
    rw [Int.toNat_natCast, List.getElem?_eq_getElem hk] at h2
    exact Option.some.inj h2
set_option maxHeartbeats 40000000 in
set_option maxRecDepth 100000 in
theorem law_ask (P : Option Addr) (cp : Nat) (xs : List AcB) (v : Nat) (hv : v ≤ 65535) (k : Int) (hk : k ≤ 9223372036854775807) (w : World) (hr : Rk w w.heap.size P xs) (hl : xs.length ≤ 9223372036854775807) :
    Calls Try.prog 4 #[.slice P xs.length cp, .int .u16 (v : Int), .int .i64 k] w fun e w' => e = .returned (.bool true) ∧ Below w.heap.size w w' := by
  have hrH := Lib.hid hr
  clear hr
  have wv : IntKind.i64.wrap (v : Int) = (v : Int) := IntWalk.i64_in _ (by omega)
  by_cases h0 : k < 0
  all_goals
    have d0 : decide (0 ≤ k) = !decide (k < 0) := by rw [Bool.eq_iff_iff]; simp
    first
      | (have d1 : decide (k < 0) = true := decide_eq_true h0)
      | (have d1 : decide (k < 0) = false := decide_eq_false h0)
    rw [d1] at d0
    simp only [Bool.not_true, Bool.not_false] at d0
    clear d1
    have HK := Lib.hid hk
    go_enter Try.func4, Try.ntmps4
    go_wp2_with (go_at_call 7; (with_reducible refine (awake_any w).mono ?_); rintro e w1 ⟨rfl, hb1⟩; have HB1 := Lib.hid hb1; have HLY := Lib.hid (lay_any w1 P cp xs (hrH.out.later hb1) hl); clear hb1)
    go_wp2_with (first
      | (go_at_call 8; (with_reducible refine HLY.out.mono ?_); rintro e w2 ⟨rs, bs, A, c, g, m, rfl, hcap, h1, h2, h3, h4, h5⟩
         have HB2 := Lib.hid (HB1.out.trans (h5.mono HB1.out.size))
         have RR := Lib.hid h1
         have OK := Lib.hid h2
         have SS := Lib.hid h3
         have EL : Hid (M.L bs = Rn.flat rs) := Lib.hid (M.sorted_ext (M.L_up bs) (Rn.flat_up h2) fun x => by rw [h4 x, Rn.mem_flat])
         obtain ⟨n, hn⟩ : ∃ n, rs.length = n := ⟨_, rfl⟩
         have HN := Lib.hid hn
         rw [hn] at hcap
         rw [hn]
         obtain ⟨r4, hr4⟩ : ∃ r, M.rSel (Rn.flat rs) k = r := ⟨_, rfl⟩
         have hsel : 0 ≤ k → Hid (Calls Try.prog 10 #[.slice (some ⟨g, 0, none⟩) m m, .int .i64 k] w2 fun e w' => e = .returned (.int .i64 r4) ∧ w2 = w') := fun hk0 => by
           obtain ⟨K, rfl⟩ : ∃ K : Nat, k = (K : Int) := ⟨k.toNat, by omega⟩
           have h1 := f_select w2 g m bs SS.out K (by have := HK.out; omega)
           rw [EL.out, hr4] at h1
           exact h1
         have HR4 := Lib.hid hr4
         clear h1 h2 h3 h4 h5 HLY hn hr4)
      | (go_at_call 10; (with_reducible refine (hsel (by omega)).out.mono ?_); rintro e w3 ⟨rfl, rfl⟩))
    have hneg : k < 0 → Hid (r4 = -1) := fun hk => by
      show _ = _
      rw [← HR4.out]
      unfold M.rSel
      rw [if_pos hk]
    obtain ⟨r1, hr1⟩ : ∃ r, M.rNext (Rn.flat rs) (v : Int) = r := ⟨_, rfl⟩
    obtain ⟨r2, hr2⟩ : ∃ r, M.rPrev (Rn.flat rs) (v : Int) = r := ⟨_, rfl⟩
    obtain ⟨r3, hr3⟩ : ∃ r, M.rRank (Rn.flat rs) (v : Int) = r := ⟨_, rfl⟩
    obtain ⟨b, hb⟩ : ∃ b, decide ((v : Int) ∈ Rn.flat rs) = b := ⟨_, rfl⟩
    have hgl := SS.out.lt
    have hS0 : w2.cell? ⟨g, v, none⟩ = some (.bool b) := by rw [← hb]; exact has_at SS.out hv EL.out
    have hvI : (0 : Int) ≤ (v : Int) ∧ (v : Int) ≤ 65535 := by omega
    have HVI := Lib.hid hvI
    have CHA : Hid (∀ W, Below w2.heap.size w2 W → Calls Try.prog 11 #[.slice A n c, .int .u16 (v : Int)] W fun e w' => e = .returned (.bool b) ∧ Below w2.heap.size w2 w') := Lib.hid (fun W hW => by
      refine (r_has W w2.heap.size n c A rs (v : Int) HN.out.symm (RR.out.below hW (Nat.le_refl _)) hW.size OK.out hcap HVI.out b (by rw [← hb, decide_eq_true_eq, Rn.mem_flat])).mono ?_
      rintro e w' ⟨rfl, h⟩
      exact ⟨rfl, hW.trans (h.mono hW.size)⟩)
    have CNE : Hid (∀ W, Below w2.heap.size w2 W → Calls Try.prog 13 #[.slice A n c, .int .u16 (v : Int)] W fun e w' => ∃ (x : Int) (b : Bool), e = .returned (.tuple #[.int .u16 x, .bool b]) ∧ 0 ≤ x ∧ x ≤ 65535 ∧ (if b then x else -1) = r1 ∧ Below w2.heap.size w2 w') := Lib.hid (fun W hW => by
      refine (r_next W w2.heap.size n c A rs (v : Int) HN.out.symm (RR.out.below hW (Nat.le_refl _)) hW.size OK.out hcap HVI.out).mono ?_
      rintro e w' ⟨x, b, rfl, h1, h2, h3, h⟩
      exact ⟨x, b, rfl, h1, h2, by rw [h3, hr1], hW.trans (h.mono hW.size)⟩)
    have CPR : Hid (∀ W, Below w2.heap.size w2 W → Calls Try.prog 15 #[.slice A n c, .int .u16 (v : Int)] W fun e w' => ∃ (x : Int) (b : Bool), e = .returned (.tuple #[.int .u16 x, .bool b]) ∧ 0 ≤ x ∧ x ≤ 65535 ∧ (if b then x else -1) = r2 ∧ Below w2.heap.size w2 w') := Lib.hid (fun W hW => by
      refine (r_prev W w2.heap.size n c A rs (v : Int) HN.out.symm (RR.out.below hW (Nat.le_refl _)) hW.size OK.out hcap HVI.out).mono ?_
      rintro e w' ⟨x, b, rfl, h1, h2, h3, h⟩
      exact ⟨x, b, rfl, h1, h2, by rw [h3, hr2], hW.trans (h.mono hW.size)⟩)
    have CRA : Hid (∀ W, Below w2.heap.size w2 W → Calls Try.prog 17 #[.slice A n c, .int .u16 (v : Int)] W fun e w' => e = .returned (.int .i64 (r3 : Int)) ∧ Below w2.heap.size w2 w') := Lib.hid (fun W hW => by
      refine (r_rank W w2.heap.size n c A rs HN.out.symm (RR.out.below hW (Nat.le_refl _)) hW.size OK.out (v : Int) hcap HVI.out).mono ?_
      rintro e w' ⟨rfl, h⟩
      exact ⟨by rw [hr3], hW.trans (h.mono hW.size)⟩)
    have CSE : Hid (∀ W, Below w2.heap.size w2 W → Calls Try.prog 19 #[.slice A n c, .int .i64 k] W fun e w' => ∃ (x : Int) (b : Bool), e = .returned (.tuple #[.int .u16 x, .bool b]) ∧ 0 ≤ x ∧ x ≤ 65535 ∧ (if b then x else -1) = r4 ∧ Below w2.heap.size w2 w') := Lib.hid (fun W hW => by
      refine (r_select W w2.heap.size n c A rs HN.out.symm (RR.out.below hW (Nat.le_refl _)) hW.size OK.out k HK.out).mono ?_
      rintro e w' ⟨x, b, rfl, h1, h2, h3, h⟩
      exact ⟨x, b, rfl, h1, h2, by rw [h3, HR4.out], hW.trans (h.mono hW.size)⟩)
    have FNE : Hid (∀ W, Below w2.heap.size w2 W → Calls Try.prog 14 #[.slice (some ⟨g, 0, none⟩) m m, .int .i64 (v : Int)] W fun e w' => e = .returned (.int .i64 r1) ∧ W = w') := Lib.hid (fun W hW => by
      have h := f_next W g m bs (SS.out.all_below hW) (v : Int) (by have := HVI.out; omega)
      rw [EL.out, hr1] at h
      exact h)
    have FPR : Hid (∀ W, Below w2.heap.size w2 W → Calls Try.prog 16 #[.slice (some ⟨g, 0, none⟩) m m, .int .i64 (v : Int)] W fun e w' => e = .returned (.int .i64 r2) ∧ W = w') := Lib.hid (fun W hW => by
      have h := f_prev W g m bs (SS.out.all_below hW) (v : Int) (by have := HVI.out; omega)
      rw [EL.out, hr2] at h
      exact h)
    have FRA : Hid (∀ W, Below w2.heap.size w2 W → Calls Try.prog 18 #[.slice (some ⟨g, 0, none⟩) m m, .int .i64 (v : Int)] W fun e w' => e = .returned (.int .i64 (r3 : Int)) ∧ W = w') := Lib.hid (fun W hW => by
      have h := f_rank W g m bs (SS.out.all_below hW) (v : Int)
      rw [EL.out, hr3] at h
      exact h)
    have FAT : Hid (∀ (W : World) (x : Int) (b : Bool) (r : Int), 0 ≤ x → x ≤ 65535 → (if b then x else -1) = r → Calls Try.prog 12 #[.int .u16 x, .bool b] W fun e w' => e = .returned (.int .i64 r) ∧ W = w') := Lib.hid (fun W x b r h0 h1 h2 => by
      have h3 := f_at W x h0 h1 b
      rw [h2] at h3
      exact h3)
    have LW : Hid (Below w2.heap.size w2 w2) := Lib.hid (Below.refl _ _)
    have LWD : Hid (Below w2.heap.size w2 w2.drew) := Lib.hid (below_drewN LW.out 1)
    have hi2 : (v : Int) < (m : Int) := by have := SS.out.top; omega
    have hvm : v < m := by have := SS.out.top; omega
    first
      | (have hr4n := (hneg (by omega)).out
         subst hr4n)
      | skip
    clear hr1 hr2 hr3 hb hsel hneg hvI
    go_region_held3 (fun (V : World) => V.cell? ⟨g, v, none⟩ = some (.bool b)) (first | exact hS0 | exact hSc) (first
      | (go_at_call 11; (with_reducible refine (CHA.out _ LWD.out).mono ?_); rintro e w3 ⟨rfl, h7⟩
         clear LW
         have LW := Lib.hid h7
         have hSc : w3.cell? ⟨g, v, none⟩ = some (.bool b) := (LW.out.cell (p := ⟨g, v, none⟩) hgl).trans hS0
         clear h7)
      | (go_at_call 13; (with_reducible refine (CNE.out _ LW.out).mono ?_); rintro e w4 ⟨x1, b1, rfl, p1, p2, p3, h7⟩
         have F1 := Lib.hid (And.intro p1 (And.intro p2 p3))
         clear p1 p2 p3
         clear LW
         have LW := Lib.hid h7
         have hSc : w4.cell? ⟨g, v, none⟩ = some (.bool b) := (LW.out.cell (p := ⟨g, v, none⟩) hgl).trans hS0
         clear h7)
      | (go_at_call 12; (with_reducible refine (FAT.out w4 x1 b1 r1 F1.out.1 F1.out.2.1 F1.out.2.2).mono ?_); rintro e w' ⟨rfl, rfl⟩)
      | (go_at_call 14; (with_reducible refine (FNE.out _ LW.out).mono ?_); rintro e w' ⟨rfl, rfl⟩)
      | (go_at_call 15; (with_reducible refine (CPR.out _ LW.out).mono ?_); rintro e w5 ⟨x2, b2, rfl, p1, p2, p3, h7⟩
         have F2 := Lib.hid (And.intro p1 (And.intro p2 p3))
         clear p1 p2 p3
         clear LW
         have LW := Lib.hid h7
         have hSc : w5.cell? ⟨g, v, none⟩ = some (.bool b) := (LW.out.cell (p := ⟨g, v, none⟩) hgl).trans hS0
         clear h7)
      | (go_at_call 12; (with_reducible refine (FAT.out w5 x2 b2 r2 F2.out.1 F2.out.2.1 F2.out.2.2).mono ?_); rintro e w' ⟨rfl, rfl⟩)
      | (go_at_call 16; (with_reducible refine (FPR.out _ LW.out).mono ?_); rintro e w' ⟨rfl, rfl⟩)
      | (go_at_call 17; (with_reducible refine (CRA.out _ LW.out).mono ?_); rintro e w6 ⟨rfl, h7⟩
         clear LW
         have LW := Lib.hid h7
         have hSc : w6.cell? ⟨g, v, none⟩ = some (.bool b) := (LW.out.cell (p := ⟨g, v, none⟩) hgl).trans hS0
         clear h7)
      | (go_at_call 18; (with_reducible refine (FRA.out _ LW.out).mono ?_); rintro e w' ⟨rfl, rfl⟩)
      | (go_at_call 19; (with_reducible refine (CSE.out _ LW.out).mono ?_); rintro e w7 ⟨x4, b4, rfl, p1, p2, p3, h7⟩
         have F4 := Lib.hid (And.intro p1 (And.intro p2 p3))
         clear p1 p2 p3
         clear LW
         have LW := Lib.hid h7
         have hSc : w7.cell? ⟨g, v, none⟩ = some (.bool b) := (LW.out.cell (p := ⟨g, v, none⟩) hgl).trans hS0
         clear h7)
      | (go_at_call 12; (with_reducible refine (FAT.out w7 x4 b4 _ F4.out.1 F4.out.2.1 F4.out.2.2).mono ?_); rintro e w' ⟨rfl, rfl⟩))
    all_goals
      go_wp2
      go_ret
      exact ⟨by simp, HB2.out.trans (LW.out.mono HB2.out.size)⟩
end Go.Proofs.Ytejboemifncjoaa
