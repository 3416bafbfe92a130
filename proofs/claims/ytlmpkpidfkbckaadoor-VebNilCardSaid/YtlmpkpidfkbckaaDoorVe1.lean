
/- A node of the first level: what it tells by itself; a new tree; the texts walked. -/
import Derived.Test.YtlmpkpidfkbckaaDoorVn4
namespace Go.Proofs.YtlmpkpidfkbckaaDoor
set_option maxRecDepth 40000
open Go.RowKit
theorem nd_res1 {fn : Func} {u : Tmp} (h : fn.results = #[.cell u 41]) (tmps : Array Value) (w : World) (g : Nat) (a b c d e : Value) (hu : tmps.getD u undef = .pointer (some ⟨g, 0, none⟩))
    (hc : w.heap[g]? = some (.cells #[a, b, c, d, e] 41 (0, 0))) : (results fn tmps).run Tryd.prog w = .ok (.agg #[a, b, c, d, e]) w := by
  have hp' : tmps[u]?.getD undef = .pointer (some ⟨g, 0, none⟩) := by simpa using hu
  have hr := run_loadVar_row (P := Tryd.prog) w g 41 41 _ (0, 0) _ hc Tryd.underlying41 (by kernel_rfl) (by kernel_rfl)
  simp [results, h, hp', asAddr, hr]
abbrev zsv : Value := .agg #[.int .i64 0, .int .u64 0, .int .u64 0, .int .u64 0, .int .i64 0, .int .i64 0]
abbrev zso : Obj := .cells #[.int .i64 0, .int .u64 0, .int .u64 0, .int .u64 0, .int .i64 0, .int .i64 0] 66
abbrev spv (a b : Nat) : Value := .agg #[.int .i64 0, .int .u64 0, .int .u64 (a : Int), .int .u64 (b : Int), .int .i64 (-1), .int .i64 0]
abbrev spo (a b : Nat) : Obj := .cells #[.int .i64 0, .int .u64 0, .int .u64 (a : Int), .int .u64 (b : Int), .int .i64 (-1), .int .i64 0] 66
theorem sp_res {fn : Func} {u t : Tmp} (h : fn.results = #[.cell u 66, .tmp t]) (tmps : Array Value) (w : World) (g : Nat) (a b c d e f : Value) (z : Value) (hu : tmps.getD u undef = .pointer (some ⟨g, 0, none⟩))
    (hc : w.heap[g]? = some (.cells #[a, b, c, d, e, f] 66 (0, 0))) (hb : tmps.getD t undef = z) : (results fn tmps).run Tryd.prog w = .ok (.tuple #[.agg #[a, b, c, d, e, f], z]) w := by
  have hp' : tmps[u]?.getD undef = .pointer (some ⟨g, 0, none⟩) := by simpa using hu
  have hb' : tmps[t]?.getD undef = z := by simpa using hb
  have hr := run_loadVar_row (P := Tryd.prog) w g 66 66 _ (0, 0) _ hc Tryd.underlying66 (by kernel_rfl) (by kernel_rfl)
  simp [results, h, hp', hb', asAddr, hr]
/-- A node of the first level that has a and b, and no clusters. -/
abbrev nd0 (a b : Nat) : Nd := ⟨0, 0, a, b, -1⟩
abbrev nv0 (a b : Nat) : Value := .agg #[.int .i64 0, .int .u64 0, .int .u64 (a : Int), .int .u64 (b : Int), .int .i64 (-1)]
theorem al_top2 (w : World) (a b : Obj) : ((w.alloc a).alloc b).heap[w.heap.size + 1]? = some b := by
  have := K.alloc_top (w.alloc a) b
  simpa only [World.size_alloc] using this
theorem al_keep {w : World} {g : Nat} {x : Obj} (h : w.heap[g]? = some x) (o : Obj) : (w.alloc o).heap[g]? = some x := (((Below.refl _ w).alloc (Nat.le_refl _) o).block g (row_lt h)).trans h
theorem below_al {B : Nat} {w w' : World} (h : Below B w w') (hB : B ≤ w.heap.size) (o : Obj) : Below B w (w'.alloc o) := h.alloc (Nat.le_trans hB h.size) o
theorem has_any (w : World) (a b k : Nat) (g1 g2 : Bool) (h1 : ((k : Int) == (a : Int)) = g1) (h2 : ((k : Int) == (b : Int)) = g2) : Calls Tryd.prog 36 #[nv0 a b, .int .u64 (k : Int)] w fun e w' => e = .returned (.bool (g1 || g2)) ∧ Below w.heap.size w w' := by
  cases g1 <;> cases g2 <;>
  · go_enter Tryd.func36, Tryd.ntmps36
    go_wp2
    go_ret
    exact ⟨rfl, (Below.refl _ w).alloc (Nat.le_refl _) _⟩
theorem takes_any (w : World) (a b : Nat) (g : Bool) (h : ((a : Int) == (b : Int)) = g) : Calls Tryd.prog 37 #[nv0 a b] w fun e w' => e = .returned (.bool g) ∧ Below w.heap.size w w' := by
  cases g <;>
  · go_enter Tryd.func37, Tryd.ntmps37
    go_wp2
    go_ret
    exact ⟨rfl, (Below.refl _ w).alloc (Nat.le_refl _) _⟩
theorem end_up (w : World) (a b : Nat) : Calls Tryd.prog 34 #[nv0 a b, .bool true] w fun e w' => e = .returned (.int .u64 (b : Int)) ∧ Below w.heap.size w w' := by
  go_enter Tryd.func34, Tryd.ntmps34
  go_wp2
  go_ret
  exact ⟨rfl, (Below.refl _ w).alloc (Nat.le_refl _) _⟩
theorem end_down (w : World) (a b : Nat) : Calls Tryd.prog 34 #[nv0 a b, .bool false] w fun e w' => e = .returned (.int .u64 (a : Int)) ∧ Below w.heap.size w w' := by
  go_enter Tryd.func34, Tryd.ntmps34
  go_wp2
  go_ret
  exact ⟨rfl, (Below.refl _ w).alloc (Nat.le_refl _) _⟩
theorem past_up (w : World) (a b : Nat) (g : Bool) (h : decide (b < a) = g) : Calls Tryd.prog 33 #[.bool true, .int .u64 (a : Int), .int .u64 (b : Int)] w fun e w' => e = .returned (.bool g) ∧ w = w' := by
  go_enter Tryd.func33, Tryd.ntmps33
  go_wp2
  go_ret
  exact ⟨by rw [← h]; rfl, rfl⟩
theorem past_down (w : World) (a b : Nat) (g : Bool) (h : decide (a < b) = g) : Calls Tryd.prog 33 #[.bool false, .int .u64 (a : Int), .int .u64 (b : Int)] w fun e w' => e = .returned (.bool g) ∧ w = w' := by
  go_enter Tryd.func33, Tryd.ntmps33
  go_wp2
  go_ret
  exact ⟨by rw [← h]; rfl, rfl⟩
theorem single_any (w : World) (k : Nat) : Calls Tryd.prog 64 #[.int .i64 0, .int .u64 (k : Int)] w fun e w' => e = .returned (nv0 k k) ∧ Below w.heap.size w w' := by
  go_enter Tryd.func64, Tryd.ntmps64
  go_wp2
  exact bodyPost_ret (nd_res1 rfl _ _ w.heap.size _ _ _ _ _ rfl (K.alloc_top _ _)) rfl ⟨rfl, (Below.refl _ w).alloc (Nat.le_refl _) _⟩
theorem with_up (w : World) (a k : Nat) (h : a < k) : Calls Tryd.prog 41 #[nv0 a a, .int .u64 (k : Int)] w fun e w' => e = .returned (nv0 a k) ∧ Below w.heap.size w w' := by
  have g1 : ¬ ((k : Int) < (a : Int)) := by omega
  have g2 : (a : Int) < (k : Int) := by omega
  have g3 : min (a : Int) (k : Int) = a := by omega
  have g4 : max (a : Int) (k : Int) = k := by omega
  go_enter Tryd.func41, Tryd.ntmps41
  go_wp2
  exact bodyPost_ret (nd_res1 rfl _ _ (w.heap.size + 1) _ _ _ _ _ rfl (al_top2 _ _ _)) rfl ⟨rfl, below_al (below_al (Below.refl _ w) (Nat.le_refl _) _) (Nat.le_refl _) _⟩
end Go.Proofs.YtlmpkpidfkbckaaDoor
