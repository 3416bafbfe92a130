
/- The closure of rising, and the sort of entries over it. -/
import Derived.Test.YtkpfgbcjimkfeaaHCmp
import Derived.Test.YtkpfgbcjimkfeaaHAll
namespace Go.Proofs.Ytkpfgbcjimkfeaa
open Go.RowKit Go.Lib Go.Sort Go.Shelf
instance : Inhabited H.En := ⟨H.z⟩
def encL (e : H.En) : List Value := [.int .u8 (e.l : Int), .int .u64 (e.p : Int), .int .u64 (e.v : Int), .bool e.t]
def cfE (x y : H.En) : Int := orI (Lib.compareInt x.l y.l) (Lib.compareInt x.p y.p)
set_option maxRecDepth 100000 in
set_option maxHeartbeats 1000000 in
theorem closure_any (x y : H.En) (W : World) :
    Calls Try.prog 35 #[.agg #[.int .u8 (x.l : Int), .int .u64 (x.p : Int), .int .u64 (x.v : Int), .bool x.t], .agg #[.int .u8 (y.l : Int), .int .u64 (y.p : Int), .int .u64 (y.v : Int), .bool y.t]] W fun e w' => e = .returned (.int .i64 (cfE x y)) ∧ ∃ q os', w' = grow (W.drewN q) os' := by
  unfold cfE
  have h8 := fun w => Lib.hid (cmp_u8 (x.l : Int) (y.l : Int) w)
  have h64 := fun w => Lib.hid (cmp_u64 (x.p : Int) (y.p : Int) w)
  generalize Lib.compareInt (x.l : Int) (y.l : Int) = a at *
  generalize Lib.compareInt (x.p : Int) (y.p : Int) = b at *
  go_enter Try.func35, Try.ntmps35
  go_wp2
  have hx := alloc_topI W (.cells #[.int .u8 (x.l : Int), .int .u64 (x.p : Int), .int .u64 (x.v : Int), .bool x.t] 60)
  have hy := alloc_topI (W.alloc (.cells #[.int .u8 (x.l : Int), .int .u64 (x.p : Int), .int .u64 (x.v : Int), .bool x.t] 60)) (.cells #[.int .u8 (y.l : Int), .int .u64 (y.p : Int), .int .u64 (y.v : Int), .bool y.t] 60)
  have hx2 := (Below.heap_alloc (W.alloc (.cells #[.int .u8 (x.l : Int), .int .u64 (x.p : Int), .int .u64 (x.v : Int), .bool x.t] 60)) (.cells #[.int .u8 (y.l : Int), .int .u64 (y.p : Int), .int .u64 (y.v : Int), .bool y.t] 60) W.heap.size (by simp)).trans hx
  rw [World.size_alloc] at hy
  have c0 := cell_of_row _ _ 0 _ _ (0, 0) hx2
  have c1 := cell_of_row _ _ 1 _ _ (0, 0) hx2
  have c2 := cell_of_row _ _ 0 _ _ (0, 0) hy
  have c3 := cell_of_row _ _ 1 _ _ (0, 0) hy
  clear hx hy hx2
  have hg := Lib.hid (alloc_eq_grow W (.cells #[.int .u8 (x.l : Int), .int .u64 (x.p : Int), .int .u64 (x.v : Int), .bool x.t] 60))
  have hgr : Hid (∃ os, (W.alloc (.cells #[.int .u8 (x.l : Int), .int .u64 (x.p : Int), .int .u64 (x.v : Int), .bool x.t] 60)).alloc (.cells #[.int .u8 (y.l : Int), .int .u64 (y.p : Int), .int .u64 (y.v : Int), .bool y.t] 60) = grow W os) := Lib.hid ⟨_, by rw [alloc_eq_grow, hg.out, grow_grow]⟩
  clear hg
  generalize (W.alloc (.cells #[.int .u8 (x.l : Int), .int .u64 (x.p : Int), .int .u64 (x.v : Int), .bool x.t] 60)).alloc (.cells #[.int .u8 (y.l : Int), .int .u64 (y.p : Int), .int .u64 (y.v : Int), .bool y.t] 60) = W2 at *
  simp at c0 c1 c2 c3
  go_still_tail 14, (by kernel_rfl)
  still_call ((h8 _).out.mono (by rintro e w' ⟨rfl, rfl⟩; exact ⟨rfl, rfl⟩))
  repeat still_step
  still_call ((h64 _).out.mono (by rintro e w' ⟨rfl, rfl⟩; exact ⟨rfl, rfl⟩))
  repeat still_step
  refine wpStill_nil ?_
  change wpList _ _ _ _ _ W2.drew
  clear c0 c1 c2 c3
  go_wp2_with (first
    | (go_at_call 36; refine (or_two _ a b _ (by simp) (by simp)).mono ?_; rintro e w' ⟨rfl, rfl⟩))
  go_ret
  obtain ⟨os, ho⟩ := hgr.out
  refine ⟨rfl, 1, os ++ #[.cells #[.int .i64 a, .int .i64 b] 3], ?_⟩
  rw [alloc_eq_grow, ← grow_grow]
  subst ho
  rfl
theorem cmp_lays (blk off size : Nat) (w : World) : CmpLays Try.prog 35 #[] encL 4 cfE blk off size w :=
  fun _ _ _ _ x y => closure_any x y _
/-- One key ahead of another. -/
def klt (a b : H.Key) : Prop := a.1 < b.1 ∨ (a.1 = b.1 ∧ a.2 < b.2)
theorem cf_lt (x y : H.En) : ltOf cfE x y = true ↔ klt x.k y.k := by
  unfold ltOf cfE orI Lib.compareInt klt
  rw [decide_eq_true_iff]
  show _ ↔ x.l < y.l ∨ (x.l = y.l ∧ x.p < y.p)
  by_cases h1 : (x.l : Int) < (y.l : Int)
  · rw [if_pos h1]; simp; omega
  · by_cases h2 : (x.l : Int) > (y.l : Int)
    · rw [if_neg h1, if_pos h2]; simp; omega
    · rw [if_neg h1, if_neg h2, if_pos rfl]
      by_cases h3 : (x.p : Int) < (y.p : Int)
      · rw [if_pos h3]; simp; omega
      · by_cases h4 : (x.p : Int) > (y.p : Int)
        · rw [if_neg h3, if_pos h4]; simp; omega
        · rw [if_neg h3, if_neg h4]; simp; omega
theorem cf_nlt (x y : H.En) : ltOf cfE x y = false ↔ ¬ klt x.k y.k := by
  rw [← cf_lt]; simp
theorem swo_cf : SWO (ltOf cfE) where
  irrefl x := by rw [cf_nlt]; unfold klt; omega
  trans x y z h1 h2 := by rw [cf_lt] at *; unfold klt at *; omega
  ntrans x y z h1 h2 := by rw [cf_nlt] at *; unfold klt at *; omega
theorem agg_entry (w : World) : (isAgg 60).run Try.prog w = .ok true w := Try.isAgg60 w
theorem size_entry (w : World) : (Go.sizeOf 60).run Try.prog w = .ok 4 w := Try.sizeOf60 w
theorem sort_entries (blk cap : Nat) (d : Array H.En) (w : World) (hH : HoldsK encL 4 w blk 0 d) (hblk : blk < w.heap.size) (hsz : d.size < 4611686018427387904) :
    Calls Try.prog 34 #[.slice (some ⟨blk, 0, none⟩) d.size cap, .func (.func 35) #[] #[]] w fun e w' =>
      e = .returned (.tuple #[]) ∧ ∃ d' n os, PermIn 0 d.size d d' ∧ SortedIn (ltOf cfE) 0 d.size d' ∧ w' = sortWorldK encL 4 w blk 0 n d' os :=
  AnyQ.slices_SortFunc Try.sortE 4 agg_entry size_entry encL (fun _ => rfl) (fun x v hv => by simp [encL] at hv; rcases hv with rfl | rfl | rfl | rfl <;> rfl) cfE swo_cf 35 #[] blk 0 cap d w
    (enters_of Try.func35 (by kernel_rfl) rfl) (cmp_lays blk 0 d.size w) hH hblk hsz
end Go.Proofs.Ytkpfgbcjimkfeaa
