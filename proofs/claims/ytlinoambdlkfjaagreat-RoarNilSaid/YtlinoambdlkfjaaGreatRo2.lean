
/- sort.Search over none and over one, by seek's closures; seek over no block and over one of one part; the texts walked. -/
import Derived.Test.YtlinoambdlkfjaaGreatRo1
namespace Go.Proofs.YtlinoambdlkfjaaGreat
open Go.RowKit
/-- The function that a look is: a reading of the meter. -/
abbrev rdv (G : Nat) : Value := .func (.func 22) #[.pointer (some ⟨G, 0, none⟩)] #[]
abbrev s1v (l u : Nat) : Value := .func (.func 59) #[] #[.pointer (some ⟨l, 0, none⟩), .pointer (some ⟨u, 0, none⟩)]
abbrev s2v (r f : Nat) : Value := .func (.func 61) #[] #[.pointer (some ⟨r, 0, none⟩), .pointer (some ⟨f, 0, none⟩)]
abbrev s3v (f l : Nat) : Value := .func (.func 62) #[] #[.pointer (some ⟨f, 0, none⟩), .pointer (some ⟨l, 0, none⟩)]
def Only (w : World) (G : Nat) (w' : World) : Prop := Mq w' G ∧ ButS w w' (· = G)
theorem Only.mq {w w' : World} {G : Nat} (h : Only w G w') : Mq w' G := h.1
theorem Only.but {w w' : World} {G : Nat} (h : Only w G w') : ButS w w' (· = G) := h.2
theorem search2_none (w : World) (r f : Nat) : Calls Tryz.prog 60 #[.int .i64 0, s2v r f] w fun e w' => e = .returned (.int .i64 0) ∧ w = w' := by
  go_enter Tryz.func60, Tryz.ntmps60
  go_wp2_with (fail)
  go_loop [5, 6] (fun vi vj => vi = .int .i64 0 ∧ vj = .int .i64 0) (fun _ _ => 0)
  case atStart => exact ⟨rfl, rfl⟩
  case round =>
    obtain ⟨rfl, rfl⟩ := hrel
    go_wp2
    go_ret
    exact ⟨rfl, rfl⟩
set_option maxHeartbeats 4000000 in
theorem search2_one (w : World) (r f : Nat) (C : World → Prop) (hc : Calls Tryz.prog 61 #[.int .i64 0, .pointer (some ⟨r, 0, none⟩), .pointer (some ⟨f, 0, none⟩)] w fun e w' => e = .returned (.bool true) ∧ C w') :
    Calls Tryz.prog 60 #[.int .i64 1, s2v r f] w fun e w' => e = .returned (.int .i64 0) ∧ C w' := by
  have HC := Lib.hid hc
  clear hc
  go_enter Tryz.func60, Tryz.ntmps60
  go_wp2_with (fail)
  go_loopw [5, 6] (fun vi vj wr => vi = .int .i64 0 ∧ ((vj = .int .i64 1 ∧ wr = w) ∨ (vj = .int .i64 0 ∧ Hid (C wr)))) (fun _ vj _ => (intOf vj).toNat)
  case atStart => exact ⟨rfl, .inl ⟨rfl, rfl⟩⟩
  case round =>
    obtain ⟨rfl, ⟨rfl, rfl⟩ | ⟨rfl, hw⟩⟩ := hrel
    · go_wp2_with (go_at_call 61; (with_reducible refine HC.out.mono ?_); rintro e w' ⟨rfl, hw⟩; replace hw := Lib.hid hw)
      go_roundw
      case rel => exact ⟨rfl, .inr ⟨rfl, hw⟩⟩
      case measure => simp [intOf]
    · go_wp2
      go_ret
      exact ⟨rfl, hw.out⟩
set_option maxHeartbeats 4000000 in
theorem search3_one (w : World) (r f : Nat) (C : World → Prop) (hc : Calls Tryz.prog 62 #[.int .i64 0, .pointer (some ⟨r, 0, none⟩), .pointer (some ⟨f, 0, none⟩)] w fun e w' => e = .returned (.bool true) ∧ C w') :
    Calls Tryz.prog 60 #[.int .i64 1, s3v r f] w fun e w' => e = .returned (.int .i64 0) ∧ C w' := by
  have HC := Lib.hid hc
  clear hc
  go_enter Tryz.func60, Tryz.ntmps60
  go_wp2_with (fail)
  go_loopw [5, 6] (fun vi vj wr => vi = .int .i64 0 ∧ ((vj = .int .i64 1 ∧ wr = w) ∨ (vj = .int .i64 0 ∧ Hid (C wr)))) (fun _ vj _ => (intOf vj).toNat)
  case atStart => exact ⟨rfl, .inl ⟨rfl, rfl⟩⟩
  case round =>
    obtain ⟨rfl, ⟨rfl, rfl⟩ | ⟨rfl, hw⟩⟩ := hrel
    · go_wp2_with (go_at_call 62; (with_reducible refine HC.out.mono ?_); rintro e w' ⟨rfl, hw⟩; replace hw := Lib.hid hw)
      go_roundw
      case rel => exact ⟨rfl, .inr ⟨rfl, hw⟩⟩
      case measure => simp [intOf]
    · go_wp2
      go_ret
      exact ⟨rfl, hw.out⟩
/-- A part of the upper 0. -/
abbrev pto (n : Int) (q : Value) : Obj := .cells #[.int .u64 0, .int .i64 n, q] 54
set_option maxHeartbeats 4000000 in
theorem reach_any (w : World) (X G l u : Nat) (n : Int) (q : Value) (hx : w.heap[X]? = some (pto n q)) (hm : Mq w G) (hl : w.heap[l]? = some (.cells #[rdv G] 1 (0, 0))) (hu : w.heap[u]? = some (.cells #[.int .u64 0] 22 (0, 0))) :
    Calls Tryz.prog 59 #[.pointer (some ⟨X, 0, none⟩), .pointer (some ⟨l, 0, none⟩), .pointer (some ⟨u, 0, none⟩)] w fun e w' => e = .returned (.bool true) ∧ Only w G w' := by
  have c0 : w.cell? ⟨l, 0, none⟩ = some (rdv G) := cell_of_row w l 0 _ _ (0, 0) hl
  have HR := Lib.hid (q_read w G hm)
  obtain ⟨r, c, s, t, p, hr⟩ := hm
  have n1 := row_ne hx hr (by decide)
  have n2 := row_ne hu hr (by decide)
  have HX := Lib.hid hx
  have HU := Lib.hid hu
  clear hx hl hu hr
  go_enter Tryz.func59, Tryz.ntmps59
  go_wp2_with (first
    | (go_at_call 22; (with_reducible refine HR.out.mono ?_); rintro e w1 ⟨rfl, hm, hb⟩
       have x0 : w1.cell? ⟨X, 0, none⟩ = some (.int .u64 0) := (hb.cell (row_lt HX.out) n1 0).trans (cell_of_row w X 0 _ _ (0, 0) HX.out)
       have u0 : w1.cell? ⟨u, 0, none⟩ = some (.int .u64 0) := (hb.cell (row_lt HU.out) n2 0).trans (cell_of_row w u 0 _ _ (0, 0) HU.out)
       have HM := Lib.hid hm
       have HB := Lib.hid hb
       clear hm hb))
  go_quiet (fail)
  go_wp2
  go_ret
  exact ⟨rfl, HM.out.but ((ButS.refl w1 (fun _ => False)).drewN _) (fun h => h), HB.out.drewN _⟩
end Go.Proofs.YtlinoambdlkfjaaGreat
