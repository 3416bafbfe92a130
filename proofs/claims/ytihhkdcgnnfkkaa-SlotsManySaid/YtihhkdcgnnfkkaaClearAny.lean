
/- The builtin clear over a row of one's own, of elements of any size. -/
import Derived.Test.YtihhkdcgnnfkkaaAppAny
import Derived.Test.YtihhkdcgnnfkkaaPObj4
import Derived.Lib.SliceRun
namespace Go.Proofs.Ytihhkdcgnnfkkaa.Pp
open Go.RowKit
section
variable {P : Program}
theorem run_clear_any (w : World) (t e ty : TypeId) (z : Value) (ht : P.underlying t = some (.slice e)) (hv : ∀ w, (zeroValue e).run P w = .ok z w) (b n c : Nat)
    (h1 : ∀ v ∈ (Builtin.zeroCells z.cells (n + 1)).toList, v.oneCell' = true)
    (hc : ∀ j, j < (Builtin.zeroCells z.cells (n + 1)).toList.length → (w.cell? ⟨b, j, none⟩).isSome = true) (hf : ∀ j, w.frozen? ⟨b, j, none⟩ = false) :
    (Builtin.clear_ #[t] ty #[.slice (some ⟨b, 0, none⟩) (n + 1) c]).run P w = .ok (.tuple #[]) (w.setCells b 0 (Builtin.zeroCells z.cells (n + 1)).toList) := by
  have hst := run_storeCells_cells (P := P) b 0 (Builtin.zeroCells z.cells (n + 1)).toList 0 w (by simpa using hc) (by intro j _; exact hf _) h1
  simp only [Nat.add_zero] at hst
  simp [Builtin.clear_, run_underlying ht, hv, hst]
theorem wp_clear {o : Oper} {a : Act} {K : Act → World → Prop} {Q : Exit → Act → World → Prop} (w : World) (s : Operand) (t : TypeId)
    (ho : o.op = .call { callee := .builtin .clear, args := #[s], argTypes := #[t] }) (v : Value) (hs : a.eval s = v) (w' : World)
    (hrun : (Builtin.clear_ #[t] o.type #[v]).run P w = .ok (.tuple #[]) w') (h : K (a.put o.dst (.tuple #[])) w') : o.wp P a w K Q := by
  unfold Oper.wp execOp
  simp only [ho, resolve, invoke, builtin, Sem.run_bind, Sem.run_pure, Result.andThen_ok, List.map_toArray, List.map_cons, List.map_nil, hs, hrun]
  exact h
theorem wpList_clear {ops : Array Oper} {rest : List Oper} {o : Oper} {a : Act} {Q : Exit → Act → World → Prop} (w : World) (hgd : o.guard = none) (s : Operand) (t : TypeId)
    (ho : o.op = .call { callee := .builtin .clear, args := #[s], argTypes := #[t] }) (v : Value) (hs : a.eval s = v) (w' : World)
    (hrun : (Builtin.clear_ #[t] o.type #[v]).run P w = .ok (.tuple #[]) w') (h : wpList P ops Q rest (a.put o.dst (.tuple #[])) w') : wpList P ops Q (o :: rest) a w :=
  wpList_plain hgd fun _ hK => wp_clear w s t ho v hs w' hrun (hK _ _ h)
end
theorem own_cells {base : Nat} {e : TypeId} {size n c g : Nat} : ∀ (L : List Value) (o : Nat) (w : World) (xs : List Value), w.ownsRow base e size (.slice (some ⟨g, 0, none⟩) n c) n xs →
    (∃ ys, (w.setCells g o L).ownsRow base e size (.slice (some ⟨g, 0, none⟩) n c) n ys) ∧ ∀ S : Nat → Prop, S g → ButS w (w.setCells g o L) S
  | [], _, w, xs, h => ⟨⟨xs, h⟩, fun S _ => ButS.refl w S⟩
  | v :: r, o, w, xs, h => by
    have h1 := (h.stored o v).1
    obtain ⟨h2, h3⟩ := own_cells r (o + 1) (w.setCell ⟨g, o, none⟩ v) _ h1
    exact ⟨h2, fun S hS => (but_set w g o v S hS).trans (h3 S hS)⟩
end Go.Proofs.Ytihhkdcgnnfkkaa.Pp
