
/- The order of runs, and their sort; the texts walked. -/
import Derived.Test.YtejboemifncjoaaRun4
import Derived.Test.YtejboemifncjoaaRSort
import Derived.Lib.Small
namespace Go.Proofs.Ytejboemifncjoaa
open Go.RowKit Go.Lib Go.Sort Go.Shelf
theorem nan16 (x : Int) (w : World) : Calls Try.prog 55 #[.int .u16 x] w fun e w' => e = .returned (.bool false) ∧ w = w' := by
  go_enter Try.func55, Try.ntmps55
  go_wp2
  go_ret
  exact ⟨by first | rfl | simp, rfl⟩
theorem cmp16 (x y : Int) (w : World) : Calls Try.prog 50 #[.int .u16 x, .int .u16 y] w fun e w' => e = .returned (.int .i64 (Lib.compareInt x y)) ∧ w = w' := by
  rcases Int.lt_trichotomy x y with h | h | h
  · have d1 : decide (x < y) = true := decide_eq_true h
    have hr := Lib.hid (show Lib.compareInt x y = -1 by unfold Lib.compareInt; rw [if_pos h])
    clear h
    go_enter Try.func50, Try.ntmps50
    go_wp2_with (go_at_call 55; (with_reducible refine (nan16 _ _).mono ?_); rintro e w' ⟨rfl, rfl⟩)
    refine bodyPost_ret (results_tmp (t := 4) rfl _ _ _) rfl ?_
    exact ⟨by rw [hr.out]; rfl, rfl⟩
  · subst h
    have d1 : decide (x < x) = false := decide_eq_false (by omega)
    have hr := Lib.hid (show Lib.compareInt x x = 0 by unfold Lib.compareInt; rw [if_neg (by omega), if_neg (by omega)])
    go_enter Try.func50, Try.ntmps50
    go_wp2_with (go_at_call 55; (with_reducible refine (nan16 _ _).mono ?_); rintro e w' ⟨rfl, rfl⟩)
    refine bodyPost_ret (results_tmp (t := 4) rfl _ _ _) rfl ?_
    exact ⟨by rw [hr.out]; rfl, rfl⟩
  · have d1 : decide (x < y) = false := decide_eq_false (by omega)
    have d2 : decide (y < x) = true := decide_eq_true h
    have hr := Lib.hid (show Lib.compareInt x y = 1 by unfold Lib.compareInt; rw [if_neg (by omega), if_pos h])
    clear h
    go_enter Try.func50, Try.ntmps50
    go_wp2_with (go_at_call 55; (with_reducible refine (nan16 _ _).mono ?_); rintro e w' ⟨rfl, rfl⟩)
    refine bodyPost_ret (results_tmp (t := 4) rfl _ _ _) rfl ?_
    exact ⟨by rw [hr.out]; rfl, rfl⟩
def encR (r : Int × Int) : List Value := [.int .u16 r.1, .int .u16 r.2]
def cfR (x y : Int × Int) : Int := Lib.compareInt x.1 y.1
set_option maxRecDepth 100000 in
set_option maxHeartbeats 1000000 in
theorem closure_any (x y : Int × Int) (W : World) :
    Calls Try.prog 49 #[.agg #[.int .u16 x.1, .int .u16 x.2], .agg #[.int .u16 y.1, .int .u16 y.2]] W fun e w' => e = .returned (.int .i64 (cfR x y)) ∧ ∃ q os', w' = grow (W.drewN q) os' := by
  unfold cfR
  have h8 := fun w => Lib.hid (cmp16 x.1 y.1 w)
  generalize Lib.compareInt x.1 y.1 = a at *
  have hgr : Hid (∃ os, (W.alloc (.cells #[.int .u16 x.1, .int .u16 x.2] 46)).alloc (.cells #[.int .u16 y.1, .int .u16 y.2] 46) = grow W os) := Lib.hid ⟨_, by rw [alloc_eq_grow, alloc_eq_grow, grow_grow]⟩
  go_enter Try.func49, Try.ntmps49
  go_wp2_with (go_at_call 50; (with_reducible refine (h8 _).out.mono ?_); rintro e w' ⟨rfl, rfl⟩)
  go_ret
  obtain ⟨os, ho⟩ := hgr.out
  exact ⟨rfl, 0, os, ho⟩
theorem cmp_lays (blk off size : Nat) (w : World) : CmpLays Try.prog 49 #[] encR 2 cfR blk off size w :=
  fun _ _ _ _ x y => closure_any x y _
theorem cf_lt (x y : Int × Int) : ltOf cfR x y = true ↔ x.1 < y.1 := by
  unfold ltOf cfR Lib.compareInt
  rw [decide_eq_true_iff]
  by_cases h1 : x.1 < y.1
  · rw [if_pos h1]; simp; omega
  · by_cases h2 : x.1 > y.1
    · rw [if_neg h1, if_pos h2]; simp; omega
    · rw [if_neg h1, if_neg h2]; simp; omega
theorem cf_nlt (x y : Int × Int) : ltOf cfR x y = false ↔ ¬ x.1 < y.1 := by
  rw [← cf_lt]; simp
theorem swo_cf : SWO (ltOf cfR) where
  irrefl x := by rw [cf_nlt]; omega
  trans x y z h1 h2 := by rw [cf_lt] at *; omega
  ntrans x y z h1 h2 := by rw [cf_nlt] at *; omega
theorem agg_run (w : World) : (isAgg 46).run Try.prog w = .ok true w := Try.isAgg46 w
theorem size_run (w : World) : (Go.sizeOf 46).run Try.prog w = .ok 2 w := Try.sizeOf46 w
theorem sort_runs (blk cap : Nat) (d : Array (Int × Int)) (w : World) (hH : HoldsK encR 2 w blk 0 d) (hblk : blk < w.heap.size) (hsz : d.size < 4611686018427387904) :
    Calls Try.prog 48 #[.slice (some ⟨blk, 0, none⟩) d.size cap, .func (.func 49) #[] #[]] w fun e w' =>
      e = .returned (.tuple #[]) ∧ ∃ d' n os, PermIn 0 d.size d d' ∧ SortedIn (ltOf cfR) 0 d.size d' ∧ w' = sortWorldK encR 2 w blk 0 n d' os :=
  AnyQ.slices_SortFunc Try.sortR 2 agg_run size_run encR (fun _ => rfl) (fun x v hv => by simp [encR] at hv; rcases hv with rfl | rfl <;> rfl) cfR swo_cf 49 #[] blk 0 cap d w
    (enters_of Try.func49 (by kernel_rfl) rfl) (cmp_lays blk 0 d.size w) hH hblk hsz
end Go.Proofs.Ytejboemifncjoaa
