/- Links are joined: what becomes of a link, where it is changed; the texts walked. -/
import Derived.Deep.RegionHeld3
import Derived.Test.YtiinefdpaiincaaMgL
namespace Go.Proofs.Ytiinefdpaiincaa
open Go.RowKit
theorem nd_res1 {fn : Func} {u : Tmp} (h : fn.results = #[.cell u 97]) (tmps : Array Value) (w : World) (g : Nat) (a b c : Value) (hu : tmps.getD u undef = .pointer (some ⟨g, 0, none⟩))
    (hc : w.heap[g]? = some (.cells #[a, b, c] 97 (0, 0))) : (results fn tmps).run Try.prog w = .ok (.agg #[a, b, c]) w := by
  have hp' : tmps[u]?.getD undef = .pointer (some ⟨g, 0, none⟩) := by simpa using hu
  have hr := run_loadVar_row (P := Try.prog) w g 97 97 _ (0, 0) _ hc Try.underlying97 (by kernel_rfl) (by kernel_rfl)
  simp [results, h, hp', asAddr, hr]
theorem c_clos1 (w : World) (key : Nat) (ah be : Int) (B : Nat) (b : Int) (hb : w.cell? ⟨B, 0, none⟩ = some (.int .i64 b)) (hB : B < w.heap.size) :
    Calls Try.prog 93 #[ndv key ah be, .pointer (some ⟨B, 0, none⟩)] w fun e w' => e = .returned (ndv key ah b) ∧ Below w.heap.size w w' := by
  have hb2 : ((w.alloc (ndo key ah be)).alloc ndzo).cell? ⟨B, 0, none⟩ = some (.int .i64 b) := by
    rw [World.cell?_alloc_lt _ _ _ (by simp; omega), World.cell?_alloc_lt _ _ _ (by simpa using hB)]; exact hb
  go_enter Try.func93, Try.ntmps93
  go_wp2
  refine bodyPost_ret (nd_res1 rfl _ _ (w.heap.size + 1) _ _ _ rfl ?_) rfl ⟨rfl, ((Below.refl _ w).alloc (Nat.le_refl _) _).alloc (by simp) _⟩
  have := K.alloc_top (w.alloc (ndo key ah b)) (ndo key ah b)
  rw [World.size_alloc] at this
  exact this
theorem c_clos2 (w : World) (key : Nat) (ah be : Int) (B : Nat) (b : Int) (hb : w.cell? ⟨B, 0, none⟩ = some (.int .i64 b)) (hB : B < w.heap.size) :
    Calls Try.prog 94 #[ndv key ah be, .pointer (some ⟨B, 0, none⟩)] w fun e w' => e = .returned (ndv key b be) ∧ Below w.heap.size w w' := by
  have hb2 : ((w.alloc (ndo key ah be)).alloc ndzo).cell? ⟨B, 0, none⟩ = some (.int .i64 b) := by
    rw [World.cell?_alloc_lt _ _ _ (by simp; omega), World.cell?_alloc_lt _ _ _ (by simpa using hB)]; exact hb
  go_enter Try.func94, Try.ntmps94
  go_wp2
  refine bodyPost_ret (nd_res1 rfl _ _ (w.heap.size + 1) _ _ _ rfl ?_) rfl ⟨rfl, ((Below.refl _ w).alloc (Nat.le_refl _) _).alloc (by simp) _⟩
  have := K.alloc_top (w.alloc (ndo key b be)) (ndo key b be)
  rw [World.size_alloc] at this
  exact this
end Go.Proofs.Ytiinefdpaiincaa
