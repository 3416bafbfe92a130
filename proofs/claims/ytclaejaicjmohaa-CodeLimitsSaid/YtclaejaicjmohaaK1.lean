
/- The document's lists of keys (stepstoneref11): where a key stands, the next, the last; the texts walked. -/
import Derived.Test.YtclaejaicjmohaaRefsK
import Derived.Deep.RegionHeld3
namespace Go.Proofs.Ytclaejaicjmohaa
set_option maxRecDepth 4000
open Go.RowKit
namespace K
/-- Where a key stands, or would stand; does it? -/
def fi (xs : List Nat) (k : Nat) : Nat := (xs.takeWhile fun x => decide (x < k)).length
def fo (xs : List Nat) (k : Nat) : Bool := decide (xs[fi xs k]? = some k)
theorem fi_le (xs : List Nat) (k : Nat) : fi xs k ≤ xs.length := (List.takeWhile_prefix _).length_le
theorem fi_lt {xs : List Nat} {k j : Nat} (h : j < fi xs k) : ∃ h' : j < xs.length, xs[j] < k := by
  have h' : j < xs.length := Nat.lt_of_lt_of_le h (fi_le xs k)
  refine ⟨h', ?_⟩
  have hm : (xs.takeWhile fun x => decide (x < k))[j]'h ∈ xs.takeWhile fun x => decide (x < k) := List.getElem_mem h
  have h2 := List.all_eq_true.1 (List.all_takeWhile (l := xs) (p := fun x => decide (x < k))) _ hm
  have e : (xs.takeWhile fun x => decide (x < k))[j]'h = xs[j] := (List.takeWhile_prefix _).getElem h
  rw [e] at h2
  exact of_decide_eq_true h2
theorem fi_at {xs : List Nat} {k : Nat} (h : fi xs k < xs.length) : k ≤ xs[fi xs k] := by
  have : ∀ (l : List Nat) (h : (l.takeWhile fun x => decide (x < k)).length < l.length), k ≤ l[(l.takeWhile fun x => decide (x < k)).length] := by
    intro l
    induction l with
    | nil => intro h; simp at h
    | cons x l ih =>
      intro h
      by_cases hx : x < k
      · simp only [List.takeWhile_cons, decide_eq_true hx, if_true] at h ⊢
        simpa using ih (by simpa using h)
      · simp only [List.takeWhile_cons, decide_eq_false hx, Bool.false_eq_true, if_false]
        simp; omega
  exact this xs h
theorem fo_lt {xs : List Nat} {k : Nat} (h : fo xs k = true) : ∃ h' : fi xs k < xs.length, xs[fi xs k] = k := by
  unfold fo at h
  have h2 := of_decide_eq_true h
  exact List.getElem?_eq_some_iff.1 h2
end K
/-- The slice holds these keys, in blocks that nobody writes. -/
def KX (w : World) (v : Value) (xs : List Nat) : Prop := w.ownsRow 0 22 1 v xs.length (wv xs)
theorem KX.form {w : World} {v : Value} {xs : List Nat} (h : KX w v xs) : (v = .slice none 0 0 ∧ xs = []) ∨ ∃ g c, v = .slice (some ⟨g, 0, none⟩) xs.length c ∧ xs.length ≤ c ∧ g < w.heap.size ∧
    ∀ (k : Nat) (h : k < xs.length), w.cell? ⟨g, k, none⟩ = some (.int .u64 (xs[k] : Nat)) := by
  rcases h.2 with ⟨rfl, hn⟩ | ⟨g, cap, cur, rfl, hb, hg, hnc, _⟩
  · exact .inl ⟨rfl, by simpa using hn⟩
  · refine .inr ⟨g, cap, rfl, hnc, (Array.getElem?_eq_some_iff.1 hg).1, fun k hk => ?_⟩
    have := h.cells (g := g) rfl k (.int .u64 (xs[k] : Nat)) (by simp [hk])
    rw [add_off] at this
    exact this
theorem KX.below {w w' : World} {v : Value} {xs : List Nat} (h : KX w v xs) (hb : Below w.heap.size w w') : KX w' v xs := by
  refine ⟨h.1, ?_⟩
  rcases h.2 with hn | ⟨g, cap, cur, e, hb0, hg, rest⟩
  · exact .inl hn
  · exact .inr ⟨g, cap, cur, e, hb0, (hb.block g (Array.getElem?_eq_some_iff.1 hg).1).trans hg, rest⟩
theorem KX.nil (w : World) : KX w (.slice none 0 0) [] := ⟨by simp, .inl ⟨rfl, rfl⟩⟩
theorem kret {i : Int} {j : Nat} {a b : Bool} (h : i = (j : Int)) (h2 : a = b) : Ending.returned (.tuple #[.int .i64 i, .bool a]) = .returned (.tuple #[.int .i64 (j : Int), .bool b]) := by rw [h, h2]
set_option maxHeartbeats 2000000 in
theorem k_find (w : World) (v : Value) (xs : List Nat) (h : KX w v xs) (hl : xs.length ≤ 4611686018427387904) (k : Nat) :
    Calls Try.prog 28 #[v, .int .u64 (k : Int)] w fun e w' => e = .returned (.tuple #[.int .i64 (K.fi xs k : Nat), .bool (K.fo xs k)]) ∧ Below w.heap.size w w' := by
  rcases h.form with ⟨rfl, rfl⟩ | ⟨g, c, rfl, hc, hg, hcells⟩
  · go_enter Try.func28, Try.ntmps28
    go_wp2
    go_loop [6] (fun i => i = .int .i64 0) (fun i => 0)
    case atStart => rfl
    case round =>
      obtain rfl := hrel
      go_wp2
      go_quiet (fail)
      go_wp2
      go_ret2
      exact ⟨rfl, below_drewN (Below.refl _ _) _⟩
  · have hfl := K.fi_le xs k
    have hlo := fun j hj => Lib.hid (K.fi_lt (xs := xs) (k := k) (j := j) hj)
    have hat := Lib.hid (fun h => K.fi_at (xs := xs) (k := k) h)
    have hfo := Lib.hid (show K.fo xs k = decide (xs[K.fi xs k]? = some k) from rfl)
    have hC := Lib.hid hcells
    clear hcells h
    generalize K.fi xs k = F at *
    generalize K.fo xs k = G at *
    go_enter Try.func28, Try.ntmps28
    go_wp2
    go_loopw [6] (fun i wr => ∃ j : Nat, j ≤ F ∧ i = .int .i64 j ∧ Below w.heap.size w wr) (fun i _ => F - (intOf i).toNat)
    case atStart => exact ⟨0, by omega, rfl, Below.refl _ _⟩
    case round =>
      obtain ⟨j, hj, rfl, hb⟩ := hrel
      have hBL := Lib.hid hb
      have wj : IntKind.i64.wrap ((j : Int) + 1) = (j : Int) + 1 := IntWalk.i64_in _ (by omega)
      by_cases hjl : j < xs.length
      · have c0 := (hb.cell (p := ⟨g, j, none⟩) hg).trans (hC.out j hjl)
        have hd1 : decide ((j : Int) < (xs.length : Int)) = true := decide_eq_true (by omega)
        have hd2 : decide (j < xs.length) = true := decide_eq_true hjl
        have hjz : (j : Int) < (xs.length : Int) := by omega
        have hlt : Hid (j < F → xs[j] < k) := Lib.hid (fun h => (hlo j h).out.2)
        have hge : Hid (j = F → k ≤ xs[j] ∧ G = decide (xs[j] = k)) := Lib.hid (fun h => by
          subst h
          refine ⟨hat.out hjl, ?_⟩
          rw [hfo.out, List.getElem?_eq_getElem hjl]
          simp)
        generalize xs[j] = a at *
        clear hb hC hlo hat hfo
        by_cases hjf : j < F
        · have h1 := hlt.out hjf
          have ha1 : decide ((a : Int) < (k : Int)) = true := decide_eq_true (by omega)
          have ha2 : decide (a < k) = true := decide_eq_true h1
          go_wp2
          go_roundw
          case rel => exact ⟨j + 1, by omega, by go_num, hBL.out⟩
          case measure => simp [intOf]; omega
        · obtain ⟨h1, h2⟩ := hge.out (by omega)
          obtain rfl : j = F := by omega
          have ha1 : decide ((a : Int) < (k : Int)) = false := decide_eq_false (by omega)
          have ha2 : decide (a < k) = false := decide_eq_false (by omega)
          obtain ⟨G', hG'⟩ : ∃ G', G' = G := ⟨_, rfl⟩
          have hk1 : ((a : Int) == (k : Int)) = G := by rw [h2, Bool.eq_iff_iff, beq_iff_eq, decide_eq_true_eq]; omega
          have hk2 : (a == k) = G := by rw [h2, Bool.eq_iff_iff, beq_iff_eq, decide_eq_true_eq]
          clear h2 hG'
          go_wp2
          go_quiet (fail)
          go_wp2
          go_ret2
          exact ⟨kret rfl (by first | exact hk1 | exact hk2 | simp_all), below_drewN hBL.out _⟩
      · obtain rfl : j = F := by omega
        have hd1 : decide ((j : Int) < (xs.length : Int)) = false := decide_eq_false (by omega)
        have hd2 : decide (j < xs.length) = false := decide_eq_false hjl
        have hG : Hid (G = false) := Lib.hid (by rw [hfo.out, List.getElem?_eq_none (by omega)]; rfl)
        clear hb hC hlo hat hfo
        go_wp2
        go_quiet (fail)
        go_wp2
        go_ret2
        exact ⟨kret rfl hG.out.symm, below_drewN hBL.out _⟩
end Go.Proofs.Ytclaejaicjmohaa
