
/- Pairs in lists that nobody writes; where a key stands; the text of Find walked. -/
import Derived.Test.YtihhkdcgnnfkkaaSlo1
import Derived.Test.YtihhkdcgnnfkkaaK4
import Derived.Test.YtihhkdcgnnfkkaaQM
import Derived.Deep.RegionHeld3
namespace Go.Proofs.Ytihhkdcgnnfkkaa
open Go.RowKit
namespace Pr
abbrev L := List (Nat × Nat)
abbrev pv (rs : L) : List Value := rs.flatMap fun r => [.int .u64 (r.1 : Nat), .int .u64 (r.2 : Nat)]
theorem pv_len (rs : L) : (pv rs).length = rs.length * 2 := by
  induction rs with
  | nil => rfl
  | cons r rs ih =>
    have hc : pv (r :: rs) = Value.int .u64 (r.1 : Nat) :: Value.int .u64 (r.2 : Nat) :: pv rs := rfl
    rw [hc]; simp only [List.length_cons, ih]; omega
theorem pv_at : ∀ (rs : L) (k : Nat) (h : k < rs.length), (pv rs)[k * 2]? = some (.int .u64 (rs[k].1 : Nat)) ∧ (pv rs)[k * 2 + 1]? = some (.int .u64 (rs[k].2 : Nat))
  | r :: rs, 0, _ => by simp [pv]
  | r :: rs, k + 1, h => by
    have hc : pv (r :: rs) = Value.int .u64 (r.1 : Nat) :: Value.int .u64 (r.2 : Nat) :: pv rs := rfl
    have ih := pv_at rs k (by simpa using h)
    have e0 : (k + 1) * 2 = k * 2 + 2 := by omega
    rw [hc, e0]
    exact ih
theorem pv_app (rs qs : L) : pv (rs ++ qs) = pv rs ++ pv qs := List.flatMap_append
theorem pv_one (rs : L) : ∀ u ∈ pv rs, u.oneCell' = true := by
  intro u hu
  obtain ⟨r, _, hr⟩ := List.mem_flatMap.1 hu
  simp at hr
  rcases hr with rfl | rfl <;> rfl
/-- Where a key stands, or would stand; does it? -/
def fi (l : L) (k : Nat) : Nat := K.fi (l.map (·.1)) k
def fo (l : L) (k : Nat) : Bool := K.fo (l.map (·.1)) k
theorem fi_le (l : L) (k : Nat) : fi l k ≤ l.length := by have := K.fi_le (l.map (·.1)) k; simpa [fi] using this
theorem fi_lt {l : L} {k j : Nat} (h : j < fi l k) : ∃ h' : j < l.length, l[j].1 < k := by
  obtain ⟨h', e⟩ := K.fi_lt h
  exact ⟨by simpa using h', by simpa using e⟩
theorem fi_at {l : L} {k : Nat} (h : fi l k < l.length) : k ≤ l[fi l k].1 := by
  have := K.fi_at (xs := l.map (·.1)) (k := k) (by simpa [fi] using h)
  simpa [fi] using this
theorem fo_lt {l : L} {k : Nat} (h : fo l k = true) : ∃ h' : fi l k < l.length, l[fi l k].1 = k := by
  obtain ⟨h', e⟩ := K.fo_lt h
  exact ⟨by simpa [fi] using h', by simpa [fi] using e⟩
theorem fo_at {l : L} {k : Nat} (h : fi l k < l.length) : fo l k = decide (l[fi l k].1 = k) := by
  unfold fo K.fo
  have h2 : K.fi (l.map (·.1)) k < (l.map (·.1)).length := by simpa [fi] using h
  rw [List.getElem?_eq_getElem h2, decide_eq_decide]
  simp [fi]
theorem fo_none {l : L} {k : Nat} (h : l.length ≤ fi l k) : fo l k = false := by
  unfold fo K.fo
  rw [List.getElem?_eq_none (by simpa [fi] using h)]
  rfl
/-- A list with a pair, and without a key. -/
def put (l : L) (k v : Nat) : L := l.take (fi l k) ++ (k, v) :: l.drop (if fo l k then fi l k + 1 else fi l k)
def drop (l : L) (k : Nat) : L := if fo l k then l.take (fi l k) ++ l.drop (fi l k + 1) else l
end Pr
/-- The slice holds these pairs, in blocks that nobody writes. -/
def PX (w : World) (v : Value) (l : Pr.L) : Prop := w.ownsRow 0 39 2 v l.length (Pr.pv l)
theorem PX.form {w : World} {v : Value} {l : Pr.L} (h : PX w v l) : (v = .slice none 0 0 ∧ l = []) ∨ ∃ g c, v = .slice (some ⟨g, 0, none⟩) l.length c ∧ l.length ≤ c ∧ g < w.heap.size ∧
    ∀ (k : Nat) (h : k < l.length), w.cell? ⟨g, k * 2, none⟩ = some (.int .u64 (l[k].1 : Nat)) ∧ w.cell? ⟨g, k * 2 + 1, none⟩ = some (.int .u64 (l[k].2 : Nat)) := by
  rcases h.2 with ⟨rfl, hn⟩ | ⟨g, cap, cur, rfl, hb, hg, hnc, _⟩
  · exact .inl ⟨rfl, by simpa using hn⟩
  · refine .inr ⟨g, cap, rfl, hnc, (Array.getElem?_eq_some_iff.1 hg).1, fun k hk => ?_⟩
    obtain ⟨h0, h1⟩ := Pr.pv_at l k hk
    have f := h.cells (g := g) rfl
    have f0 := f _ _ h0
    have f1 := f _ _ h1
    simp only [add_off] at f0 f1
    exact ⟨f0, f1⟩
theorem PX.chg {w w' : World} {O : Nat → Prop} {v : Value} {l : Pr.L} (h : PX w v l) (b : K.Chg w w' O) (hv : ∀ g, v.ownBlock = some g → ¬ O g) : PX w' v l := K.Chg.own b h hv
theorem PX.below {w w' : World} {v : Value} {l : Pr.L} (h : PX w v l) (hb : Below w.heap.size w w') : PX w' v l := h.chg (K.Chg.of_below (O := fun _ => False) hb) (fun _ _ h => h)
theorem PX.nil (w : World) : PX w (.slice none 0 0) [] := ⟨by simp, .inl ⟨rfl, rfl⟩⟩
set_option maxHeartbeats 2000000 in
theorem pr_find (w : World) (v : Value) (xs : Pr.L) (h : PX w v xs) (hl : xs.length ≤ 4611686018427387904) (k : Nat) :
    Calls Try.prog 8 #[v, .int .u64 (k : Int)] w fun e w' => e = .returned (.tuple #[.int .i64 (Pr.fi xs k : Nat), .bool (Pr.fo xs k)]) ∧ Below w.heap.size w w' := by
  rcases h.form with ⟨rfl, rfl⟩ | ⟨g, c, rfl, hc, hg, hcells⟩
  · go_enter Try.func8, Try.ntmps8
    go_wp2
    go_loop [6] (fun i => i = .int .i64 0) (fun i => 0)
    case atStart => rfl
    case round =>
      obtain rfl := hrel
      go_wp2
      go_quiet (fail)
      go_wp2
      go_ret2
      exact ⟨rfl, below_drewN (Below.refl _ _) _⟩
  · have hfl := Pr.fi_le xs k
    have hlo := fun j hj => Lib.hid (Pr.fi_lt (l := xs) (k := k) (j := j) hj)
    have hat := Lib.hid (fun h => Pr.fi_at (l := xs) (k := k) h)
    have hfo := Lib.hid (fun h => Pr.fo_at (l := xs) (k := k) h)
    have hfn := Lib.hid (fun h => Pr.fo_none (l := xs) (k := k) h)
    have hC := Lib.hid hcells
    clear hcells h
    generalize Pr.fi xs k = F at *
    generalize Pr.fo xs k = G at *
    go_enter Try.func8, Try.ntmps8
    go_wp2
    go_loopw [6] (fun i wr => ∃ j : Nat, j ≤ F ∧ i = .int .i64 j ∧ Below w.heap.size w wr) (fun i _ => F - (intOf i).toNat)
    case atStart => exact ⟨0, by omega, rfl, Below.refl _ _⟩
    case round =>
      obtain ⟨j, hj, rfl, hb⟩ := hrel
      have hBL := Lib.hid hb
      have wj : IntKind.i64.wrap ((j : Int) + 1) = (j : Int) + 1 := IntWalk.i64_in _ (by omega)
      by_cases hjl : j < xs.length
      · have c0 := (hb.cell (p := ⟨g, j * 2, none⟩) hg).trans (hC.out j hjl).1
        have hd1 : decide ((j : Int) < (xs.length : Int)) = true := decide_eq_true (by omega)
        have hd2 : decide (j < xs.length) = true := decide_eq_true hjl
        have hjz : (j : Int) < (xs.length : Int) := by omega
        have hlt : Hid (j < F → xs[j].1 < k) := Lib.hid (fun h => (hlo j h).out.2)
        have hge : Hid (j = F → k ≤ xs[j].1 ∧ G = decide (xs[j].1 = k)) := Lib.hid (fun h => by
          subst h
          exact ⟨hat.out hjl, hfo.out hjl⟩)
        generalize xs[j].1 = a at *
        clear hb hC hlo hat hfo hfn
        by_cases hjf : j < F
        · have h1 := hlt.out hjf
          have ha1 : decide ((a : Int) < (k : Int)) = true := decide_eq_true (by omega)
          have ha2 : decide (a < k) = true := decide_eq_true h1
          go_wp2
          go_roundw
          case rel => exact ⟨j + 1, by omega, by go_num, hBL.out⟩
          case measure => simp [intOf]; omega
        · obtain ⟨h1, h2⟩ := hge.out (by omega)
          obtain rfl : j = F := by omega
          have ha1 : decide ((a : Int) < (k : Int)) = false := decide_eq_false (by omega)
          have ha2 : decide (a < k) = false := decide_eq_false (by omega)
          obtain ⟨G', hG'⟩ : ∃ G', G' = G := ⟨_, rfl⟩
          have hk1 : ((a : Int) == (k : Int)) = G := by rw [h2, Bool.eq_iff_iff, beq_iff_eq, decide_eq_true_eq]; omega
          have hk2 : (a == k) = G := by rw [h2, Bool.eq_iff_iff, beq_iff_eq, decide_eq_true_eq]
          clear h2 hG'
          go_wp2
          go_quiet (fail)
          go_wp2
          go_ret2
          exact ⟨kret rfl (by first | exact hk1 | exact hk2 | simp_all), below_drewN hBL.out _⟩
      · obtain rfl : j = F := by omega
        have hd1 : decide ((j : Int) < (xs.length : Int)) = false := decide_eq_false (by omega)
        have hd2 : decide (j < xs.length) = false := decide_eq_false hjl
        have hG : Hid (G = false) := Lib.hid (hfn.out (by omega))
        clear hb hC hlo hat hfo hfn
        go_wp2
        go_quiet (fail)
        go_wp2
        go_ret2
        exact ⟨kret rfl hG.out.symm, below_drewN hBL.out _⟩
end Go.Proofs.Ytihhkdcgnnfkkaa
