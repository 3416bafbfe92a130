
/- What the document's Do answers (stepstoneref11), and the list then: what is there behind the search. -/
import Derived.Test.YtndielncleohlaaDoorK5
import Derived.Test.YtndielncleohlaaDoorK2
namespace Go.Proofs.YtndielncleohlaaDoor
set_option maxRecDepth 4000
open Go.RowKit
abbrev kactv (d k : Nat) : Value := .agg #[.int .u8 (d : Int), .int .u64 (k : Int)]
abbrev kacto (d k : Nat) : Obj := .cells #[.int .u8 (d : Int), .int .u64 (k : Int)] 32
abbrev kansv (E K : Nat) (Y : Bool) : Value := .agg #[.int .i64 (E : Int), .int .u64 (K : Int), .bool Y]
abbrev kanso : Obj := .cells #[.int .i64 0, .int .u64 0, .bool false] 34
abbrev kw (w : World) (d k : Nat) : World := (w.alloc (kacto d k)).alloc kanso
theorem k_res {fn : Func} {t u : Tmp} (h : fn.results = #[.tmp t, .cell u 34]) (tmps : Array Value) (w : World) (g : Nat) (E K : Int) (Y : Bool) (T : TypeId) (fr : Nat × Nat) (hu : tmps.getD u undef = .pointer (some ⟨g, 0, none⟩))
    (hg : w.heap[g]? = some (.cells #[.int .i64 E, .int .u64 K, .bool Y] T fr)) :
    (results fn tmps).run Tryd.prog w = .ok (.tuple #[tmps.getD t undef, .agg #[.int .i64 E, .int .u64 K, .bool Y]]) w := by
  have hp' : tmps[u]?.getD undef = .pointer (some ⟨g, 0, none⟩) := by simpa using hu
  have hr := run_loadVar_row (P := Tryd.prog) w g T 34 _ fr _ hg Tryd.underlying34 (by kernel_rfl) (by kernel_rfl)
  simp [results, h, hp', asAddr, hr]
structure KD (w w2 : World) (v : Value) (xs : List Nat) (d k : Nat) : Prop where
  c0 : w2.cell? ⟨w.heap.size, 0, none⟩ = some (.int .u8 (d : Int))
  c1 : w2.cell? ⟨w.heap.size, 1, none⟩ = some (.int .u64 (k : Int))
  a0 : w2.heap[w.heap.size + 1]? = some kanso
  kx : KX w2 v xs
  low : Below w.heap.size w w2
  size : w.heap.size + 2 ≤ w2.heap.size
theorem k_find_do (w : World) (v : Value) (xs : List Nat) (h : KX w v xs) (hl : xs.length ≤ 4611686018427387904) (d k : Nat) :
    Calls Tryd.prog 34 #[v, .int .u64 (k : Int)] (kw w d k) fun e w' => e = .returned (.tuple #[.int .i64 (K.fi xs k : Nat), .bool (K.fo xs k)]) ∧ KD w w' v xs d k := by
  have b1 : Below w.heap.size w (kw w d k) := ((Below.refl _ w).alloc (Nat.le_refl _) _).alloc (by simp) _
  refine (k_find _ v xs (h.below b1) hl k).mono fun e w' ⟨h1, h2⟩ => ⟨h1, ?_⟩
  have hs : (kw w d k).heap.size = w.heap.size + 2 := by simp [kw]
  have h3 : w'.heap[w.heap.size]? = some (kacto d k) := (h2.block w.heap.size (by rw [hs]; omega)).trans ((Below.heap_alloc _ _ _ (by simp)).trans (K.alloc_top w _))
  have h4 : w'.heap[w.heap.size + 1]? = some kanso := (h2.block (w.heap.size + 1) (by rw [hs]; omega)).trans (by have := K.alloc_top (w.alloc (kacto d k)) kanso; simpa [kw] using this)
  exact ⟨cell_of_row _ _ 0 _ _ (0, 0) h3, cell_of_row _ _ 1 _ _ (0, 0) h3, h4, (h.below b1).below h2, b1.trans (h2.mono (by rw [hs]; omega)), by have := h2.size; omega⟩
def KDo (w : World) (v0 : Value) (ys : List Nat) (E K : Nat) (Y : Bool) (e : Ending) (w' : World) : Prop :=
  ∃ v, e = .returned (.tuple #[v, kansv E K Y]) ∧ KX w' v ys ∧ Below w.heap.size w w' ∧ (v = v0 ∨ ∀ g, v.ownBlock = some g → w.heap.size ≤ g)
theorem mod9 (d : Nat) (hd : d < 256) (k : Nat) (hk : d % 9 = k) : (d : Int).tmod 9 = (k : Int) ∧ (d : Int) % 9 = (k : Int) := by
  constructor
  · rw [Int.tmod_eq_emod_of_nonneg (by omega)]; omega
  · omega
end Go.Proofs.YtndielncleohlaaDoor
