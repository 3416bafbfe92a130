
/- What each card's proof uses: the last step over a world of which all that was there is as it was; the bounds in their variable; a world for the witness. -/
import Derived.Test.YtagdicbakcildaaDoorCards
import Derived.Test.YtagdicbakcildaaDoorTie
import Derived.Test.YtagdicbakcildaaDoorR3
import Derived.ProofKit
import Derived.OpenShut
import Derived.Below
import Derived.ChangeSame
import Derived.Deep.DeepHandedRow
import Derived.Lib.LaidTab
import Derived.SevenTiedAt
namespace Go.Proofs.YtagdicbakcildaaDoor
open Go.ChangeShapes Go.WideShapes Go.ChangeAt Go.RowKit

section
variable {H : Type} {enc : TypeId × Value → H} {P : Program}
theorem post_of_below {f : Func} {s : ChangeSpec} {apart fresh handsOn again : Bool} {W W' : World} {args : Array Value} {v : Value} {ds gs : List (DataW H)} {before pa pv : List MemPlace}
    (hW : DataW.Whole enc P f.params.toList s.vars apart W args.toList ds gs before)
    (hres : ∀ (b : Nat) (sp : Nat → Bool) (hd : Bool), DataW.TrodAll enc P W' b sp hd f.resultTypes.toList (v.resultList f.resultTypes.size) (s.fn H (ds ++ gs)).results [])
    (hargs : ∀ sp : Nat → Bool, (∀ p ∈ before, sp p.block = true) → DataW.TrodAll enc P W' 0 sp true f.params.toList args.toList (s.fn H (ds ++ gs)).args pa)
    (hvars : ∀ sp : Nat → Bool, (∀ p ∈ before, sp p.block = true) → DataW.TrodVars enc P W' sp s.vars (s.fn H (ds ++ gs)).vars pv)
    (hps : before = pa ++ pv) (hb : Below W.heap.size W W')
    (hok : ∀ (j : Nat) (t : TypeId) (r : Value), f.resultTypes[j]? = some t → (v.resultList f.resultTypes.size)[j]? = some r → Value.okWide P W' .any 0 t r) :
    s.post enc P f apart fresh handsOn again W args v W' := by
  have hlt : ∀ p ∈ before, p.block < W.heap.size := fun p hp => hW.lt p hp
  have hold : ∀ p ∈ before, (fun b => decide (b < W.heap.size)) p.block = true := fun p hp => by simpa using hlt p hp
  refine ⟨ds, gs, before, [], pa, pv, hW, hres _ _ _, hargs _ hold, hvars _ hold, World.keptBut_mono (fun p hp => ⟨hp, ?_⟩) (hb.frame (· ∈ before)), fun _ => ?_⟩
  · rw [hps, List.mem_append] at hp
    exact Or.inr hp
  · obtain ⟨_, _, _, _, _, hz, hn⟩ := hW
    refine ⟨hok, _, _, ([] ++ pa) ++ pv, ⟨[] ++ pa, pv, trodAll_append (hargs _ (fun _ _ => rfl)) (hres _ _ _), hvars _ (fun _ _ => rfl), rfl, ?_, ?_⟩, ?_⟩
    · intro b off hp
      have hin : MemPlace.cell b off ∈ before := by rw [hps]; simpa using hp
      rw [hb.frozen (hlt _ hin)]
      exact hz b off hin
    · intro ha
      have := hn ha
      rw [hps] at this
      simpa using this
    · intro p hp _
      rw [hps]
      simpa using hp
end

theorem u64_nat {n : Int} (h : (Lit.int .u64 n).wf = true) : ∃ m : Nat, n = m ∧ m < 18446744073709551616 := by
  simp [Lit.wf, IntKind.min, IntKind.max, IntKind.signed, IntKind.bits] at h
  exact ⟨n.toNat, by omega, by omega⟩
theorem u8_nat {n : Int} (h : (Lit.int .u8 n).wf = true) : ∃ m : Nat, n = m ∧ m < 256 := by
  simp [Lit.wf, IntKind.min, IntKind.max, IntKind.signed, IntKind.bits] at h
  exact ⟨n.toNat, by omega, by omega⟩
theorem i64_bounds {n : Int} (h : (Lit.int .i64 n).wf = true) : -9223372036854775808 ≤ n ∧ n < 9223372036854775808 := by
  simp [Lit.wf, IntKind.min, IntKind.max, IntKind.signed, IntKind.bits] at h
  omega
theorem own : ownKnob Tryd.prog.godebug = none := by kernel_rfl
theorem gB : Tryd.prog.globalNamed "stepstone/room.bounds" = some 0 := by kernel_rfl
theorem gBType : (Tryd.prog.globals[0]?).map (·.type) = some 38 := by kernel_rfl
theorem cellsB : Tryd.prog.cellsOf 36 = 6 := by kernel_rfl
theorem cellsI : Tryd.prog.cellsOf 3 = 1 := by kernel_rfl
def rowsB : List (List Int) := [[0, 0, 0, 0, 0, 0], [5, 1, 9, 21, 1, 5], [66, 0, 1, 9, 1, 65], [4, 68, 11, 12, 12, 66], [11, 0, 11, 12, 1, 11], [2, 0, 66, 66, 1, 2]]
theorem rows_tb : ∀ i, i < 6 → ∀ j, j < 6 → (rowsB.getD i []).getD j 0 = ((M.tb.getD (i * 6 + j) 0 : Nat) : Int) := by decide
theorem struct_int {H : Type} {enc : TypeId × Value → H} {W : World} {sp : Nat → Bool} {hd : Bool} {fuel : Nat} {cs : List Value} {r : List Int} {p : List MemPlace}
    (hs : ∃ fs, Tryd.prog.underlying 36 = some (.struct fs) ∧ ∀ j, j < 6 → ∃ f, fs[j]? = some f ∧ f.type = 3 ∧ f.offset = j)
    (h : DataW.trod enc Tryd.prog W 0 sp hd fuel 36 cs = some (.agg (r.map fun z => .lit (.int .i64 z)), p)) (j : Nat) (hj : j < 6) : cs[j]? = some (.int .i64 (r.getD j 0)) := by
  obtain ⟨fs, hu, hf⟩ := hs
  obtain ⟨xs, m, rfl, hx, hl, hxl, hg⟩ := DataW.trod_struct hu h
  obtain ⟨f, hfj, hft, hfo⟩ := hf j hj
  have h1 := hg j f hfj
  rw [hft, hfo, cellsI] at h1
  have h2 : (r.map fun z => (DataW.lit (.int .i64 z) : DataW H)) = xs.map (·.1) := by
    have := congrArg Prod.fst hx
    simpa using this
  have hjs : j < fs.size := (Array.getElem?_eq_some_iff.1 hfj).1
  have hjx : j < xs.length := by omega
  rw [List.getElem?_eq_getElem hjx] at h1
  obtain ⟨z, hc, he, _⟩ := DataW.trod_int Tryd.underlying3 h1
  have h3 : (xs.map (·.1))[j]? = some (DataW.lit (.int .i64 z) : DataW H) := by simp [hjx, he]
  rw [← h2] at h3
  simp only [List.getElem?_map, Option.map_eq_some_iff, DataW.lit.injEq, Lit.int.injEq, true_and] at h3
  obtain ⟨z', hz', rfl⟩ := h3
  have h4 : cs[j]? = some (.int .i64 z') := by
    have := congrArg (·[0]?) hc
    simpa [List.getElem?_take, List.getElem?_drop] using this
  rw [h4, List.getD_eq_getElem?_getD, hz']
  rfl
theorem bound_fields : ∃ fs, Tryd.prog.underlying 36 = some (.struct fs) ∧ ∀ j, j < 6 → ∃ f, fs[j]? = some f ∧ f.type = 3 ∧ f.offset = j := by
  refine ⟨_, Tryd.underlying36, fun j hj => ?_⟩
  have : j = 0 ∨ j = 1 ∨ j = 2 ∨ j = 3 ∨ j = 4 ∨ j = 5 := by omega
  rcases this with rfl | rfl | rfl | rfl | rfl | rfl <;> exact ⟨_, rfl, rfl, rfl⟩
/-- What the row's list gives: the table's cells hold its numbers. -/
theorem tab_of {W : World} (h : laidMetH Tryd.prog [("stepstone/room.bounds", Rows.laid_stepstone_room_bounds)] W) : BT W := by
  obtain ⟨ps, ⟨g', t', cs, fuel, p, q, hg', ht', hvar, hd, _, _⟩, _⟩ := h
  obtain rfl := Option.some.inj (gB.symm.trans hg')
  obtain rfl := Option.some.inj (gBType.symm.trans ht')
  have hd' : DataW.trod (fun _ => ()) Tryd.prog W 0 (fun _ => true) false fuel 38 cs.toList = some (.agg (rowsB.map fun r => .agg (r.map fun z => .lit (.int .i64 z))), p) := hd
  obtain ⟨xs, m, rfl, hx, hl, hxl, hf⟩ := DataW.trod_array Tryd.underlying38 hd'
  have hx1 : (rowsB.map fun r => (DataW.agg (r.map fun z => .lit (.int .i64 z)) : DataW Unit)) = xs.map (·.1) := by
    have := congrArg Prod.fst hx
    simpa using this
  intro k hk
  have hi : k / 6 < 6 := by omega
  have hj : k % 6 < 6 := by omega
  have h1 := hf (k / 6) hi
  have hix : k / 6 < xs.length := by omega
  rw [List.getElem?_eq_getElem hix, cellsB] at h1
  have h3 : (rowsB.map fun r => (DataW.agg (r.map fun z => .lit (.int .i64 z)) : DataW Unit))[k / 6]? = some xs[k / 6].1 := by rw [hx1]; simp [hix]
  simp only [List.getElem?_map, Option.map_eq_some_iff] at h3
  obtain ⟨r, hr, he⟩ := h3
  have h5 : DataW.trod (fun _ => ()) Tryd.prog W 0 (fun _ => true) false m 36 ((cs.toList.drop (k / 6 * 6)).take 6) = some ((.agg (r.map fun z => .lit (.int .i64 z)) : DataW Unit), xs[k / 6].2) := by rw [he]; exact h1
  have h6 := struct_int bound_fields h5 (k % 6) hj
  have h7 : cs.toList[k]? = some (.int .i64 (r.getD (k % 6) 0)) := by
    rw [← h6, List.getElem?_take, if_pos hj, List.getElem?_drop]
    congr 1
    omega
  have h8 := rows_tb (k / 6) hi (k % 6) hj
  rw [List.getD_eq_getElem?_getD (l := rowsB), hr] at h8
  have h9 : k / 6 * 6 + k % 6 = k := by omega
  rw [h9] at h8
  have h10 := World.var?_cell gB hvar k
  rw [h10, ← h8]
  simpa using h7
/-- A world for the witness: the settled one, the table holding what its initialiser lays. -/
noncomputable def laidWorld (os : Os) : World :=
  { World.holding Tryd.prog os ⟨#[], #[], []⟩ with heap := (World.holding Tryd.prog os ⟨#[], #[], []⟩).heap.modify 0 fun
      | .cells _ t frozen => .cells #[.int .i64 0, .int .i64 0, .int .i64 0, .int .i64 0, .int .i64 0, .int .i64 0, .int .i64 5, .int .i64 1, .int .i64 9, .int .i64 21, .int .i64 1, .int .i64 5, .int .i64 66, .int .i64 0, .int .i64 1, .int .i64 9, .int .i64 1, .int .i64 65, .int .i64 4, .int .i64 68, .int .i64 11, .int .i64 12, .int .i64 12, .int .i64 66, .int .i64 11, .int .i64 0, .int .i64 11, .int .i64 12, .int .i64 1, .int .i64 11, .int .i64 2, .int .i64 0, .int .i64 66, .int .i64 66, .int .i64 1, .int .i64 2] t frozen
      | o => o }
end Go.Proofs.YtagdicbakcildaaDoor
