/- The document's lists of keys (stepstoneref11): where a key stands, the next, the last; the texts walked. The document's lists of keys (stepstoneref11): a list without a key, apart; the text walked. The document's lists of keys (stepstoneref11): a list with a key, apart; the text walked. The document's lists of keys (stepstoneref11): a list made of keys; the text walked. The document's lists of keys (stepstoneref11): the next key from a place on, the last up to there; the texts walked. What the document's Do answers (stepstoneref11), and the list then: what is there behind the search. What the document's Do answers (stepstoneref11): the answer's block behind the writing of it. What the document's Do answers (stepstoneref11): what changes nothing; the text walked. What the document's Do answers (stepstoneref11): what errs, clears, adds and drops; the text walked. -/
import Derived.Deep.RegionHeld3
import Derived.Test.YtelfacchhclgnaaGreatMu01
section
namespace Go.Proofs.YtelfacchhclgnaaGreat
set_option maxRecDepth 4000
open Go.RowKit
namespace K
/-- Where a key stands, or would stand; does it? -/
def fi (xs : List Nat) (k : Nat) : Nat := (xs.takeWhile fun x => decide (x < k)).length
def fo (xs : List Nat) (k : Nat) : Bool := decide (xs[fi xs k]? = some k)
theorem fi_le (xs : List Nat) (k : Nat) : fi xs k ≤ xs.length := (List.takeWhile_prefix _).length_le
theorem fi_lt {xs : List Nat} {k j : Nat} (h : j < fi xs k) : ∃ h' : j < xs.length, xs[j] < k := by
  have h' : j < xs.length := Nat.lt_of_lt_of_le h (fi_le xs k)
  refine ⟨h', ?_⟩
  have hm : (xs.takeWhile fun x => decide (x < k))[j]'h ∈ xs.takeWhile fun x => decide (x < k) := List.getElem_mem h
  have h2 := List.all_eq_true.1 (List.all_takeWhile (l := xs) (p := fun x => decide (x < k))) _ hm
  have e : (xs.takeWhile fun x => decide (x < k))[j]'h = xs[j] := (List.takeWhile_prefix _).getElem h
  rw [e] at h2
  exact of_decide_eq_true h2
theorem fi_at {xs : List Nat} {k : Nat} (h : fi xs k < xs.length) : k ≤ xs[fi xs k] := by
  have : ∀ (l : List Nat) (h : (l.takeWhile fun x => decide (x < k)).length < l.length), k ≤ l[(l.takeWhile fun x => decide (x < k)).length] := by
    intro l
    induction l with
    | nil => intro h; simp at h
    | cons x l ih =>
      intro h
      by_cases hx : x < k
      · simp only [List.takeWhile_cons, decide_eq_true hx, if_true] at h ⊢
        simpa using ih (by simpa using h)
      · simp only [List.takeWhile_cons, decide_eq_false hx, Bool.false_eq_true, if_false]
        simp; omega
  exact this xs h
theorem fo_lt {xs : List Nat} {k : Nat} (h : fo xs k = true) : ∃ h' : fi xs k < xs.length, xs[fi xs k] = k := by
  unfold fo at h
  have h2 := of_decide_eq_true h
  exact List.getElem?_eq_some_iff.1 h2
end K
/-- The slice holds these keys, in blocks that nobody writes. -/
def KX (w : World) (v : Value) (xs : List Nat) : Prop := w.ownsRow 0 22 1 v xs.length (wv xs)
theorem KX.form {w : World} {v : Value} {xs : List Nat} (h : KX w v xs) : (v = .slice none 0 0 ∧ xs = []) ∨ ∃ g c, v = .slice (some ⟨g, 0, none⟩) xs.length c ∧ xs.length ≤ c ∧ g < w.heap.size ∧
    ∀ (k : Nat) (h : k < xs.length), w.cell? ⟨g, k, none⟩ = some (.int .u64 (xs[k] : Nat)) := by
  rcases h.2 with ⟨rfl, hn⟩ | ⟨g, cap, cur, rfl, hb, hg, hnc, _⟩
  · exact .inl ⟨rfl, by simpa using hn⟩
  · refine .inr ⟨g, cap, rfl, hnc, (Array.getElem?_eq_some_iff.1 hg).1, fun k hk => ?_⟩
    have := h.cells (g := g) rfl k (.int .u64 (xs[k] : Nat)) (by simp [hk])
    rw [add_off] at this
    exact this
theorem KX.below {w w' : World} {v : Value} {xs : List Nat} (h : KX w v xs) (hb : Below w.heap.size w w') : KX w' v xs := by
  refine ⟨h.1, ?_⟩
  rcases h.2 with hn | ⟨g, cap, cur, e, hb0, hg, rest⟩
  · exact .inl hn
  · exact .inr ⟨g, cap, cur, e, hb0, (hb.block g (Array.getElem?_eq_some_iff.1 hg).1).trans hg, rest⟩
theorem KX.nil (w : World) : KX w (.slice none 0 0) [] := ⟨by simp, .inl ⟨rfl, rfl⟩⟩
theorem kret {i : Int} {j : Nat} {a b : Bool} (h : i = (j : Int)) (h2 : a = b) : Ending.returned (.tuple #[.int .i64 i, .bool a]) = .returned (.tuple #[.int .i64 (j : Int), .bool b]) := by rw [h, h2]
set_option maxHeartbeats 2000000 in
theorem k_find (w : World) (v : Value) (xs : List Nat) (h : KX w v xs) (hl : xs.length ≤ 4611686018427387904) (k : Nat) :
    Calls Tryz.prog 53 #[v, .int .u64 (k : Int)] w fun e w' => e = .returned (.tuple #[.int .i64 (K.fi xs k : Nat), .bool (K.fo xs k)]) ∧ Below w.heap.size w w' := by
  rcases h.form with ⟨rfl, rfl⟩ | ⟨g, c, rfl, hc, hg, hcells⟩
  · go_enter Tryz.func53, Tryz.ntmps53
    go_wp2
    go_loop [6] (fun i => i = .int .i64 0) (fun i => 0)
    case atStart => rfl
    case round =>
      obtain rfl := hrel
      go_wp2
      go_quiet (fail)
      go_wp2
      go_ret2
      exact ⟨rfl, below_drewN (Below.refl _ _) _⟩
  · have hfl := K.fi_le xs k
    have hlo := fun j hj => Lib.hid (K.fi_lt (xs := xs) (k := k) (j := j) hj)
    have hat := Lib.hid (fun h => K.fi_at (xs := xs) (k := k) h)
    have hfo := Lib.hid (show K.fo xs k = decide (xs[K.fi xs k]? = some k) from rfl)
    have hC := Lib.hid hcells
    clear hcells h
    generalize K.fi xs k = F at *
    generalize K.fo xs k = G at *
    go_enter Tryz.func53, Tryz.ntmps53
    go_wp2
    go_loopw [6] (fun i wr => ∃ j : Nat, j ≤ F ∧ i = .int .i64 j ∧ Below w.heap.size w wr) (fun i _ => F - (intOf i).toNat)
    case atStart => exact ⟨0, by omega, rfl, Below.refl _ _⟩
    case round =>
      obtain ⟨j, hj, rfl, hb⟩ := hrel
      have hBL := Lib.hid hb
      have wj : IntKind.i64.wrap ((j : Int) + 1) = (j : Int) + 1 := IntWalk.i64_in _ (by omega)
      by_cases hjl : j < xs.length
      · have c0 := (hb.cell (p := ⟨g, j, none⟩) hg).trans (hC.out j hjl)
        have hd1 : decide ((j : Int) < (xs.length : Int)) = true := decide_eq_true (by omega)
        have hd2 : decide (j < xs.length) = true := decide_eq_true hjl
        have hjz : (j : Int) < (xs.length : Int) := by omega
        have hlt : Hid (j < F → xs[j] < k) := Lib.hid (fun h => (hlo j h).out.2)
        have hge : Hid (j = F → k ≤ xs[j] ∧ G = decide (xs[j] = k)) := Lib.hid (fun h => by
          subst h
          refine ⟨hat.out hjl, ?_⟩
          rw [hfo.out, List.getElem?_eq_getElem hjl]
          simp)
        generalize xs[j] = a at *
        clear hb hC hlo hat hfo
        by_cases hjf : j < F
        · have h1 := hlt.out hjf
          have ha1 : decide ((a : Int) < (k : Int)) = true := decide_eq_true (by omega)
          have ha2 : decide (a < k) = true := decide_eq_true h1
          go_wp2
          go_roundw
          case rel => exact ⟨j + 1, by omega, by go_num, hBL.out⟩
          case measure => simp [intOf]; omega
        · obtain ⟨h1, h2⟩ := hge.out (by omega)
          obtain rfl : j = F := by omega
          have ha1 : decide ((a : Int) < (k : Int)) = false := decide_eq_false (by omega)
          have ha2 : decide (a < k) = false := decide_eq_false (by omega)
          obtain ⟨G', hG'⟩ : ∃ G', G' = G := ⟨_, rfl⟩
          have hk1 : ((a : Int) == (k : Int)) = G := by rw [h2, Bool.eq_iff_iff, beq_iff_eq, decide_eq_true_eq]; omega
          have hk2 : (a == k) = G := by rw [h2, Bool.eq_iff_iff, beq_iff_eq, decide_eq_true_eq]
          clear h2 hG'
          go_wp2
          go_quiet (fail)
          go_wp2
          go_ret2
          exact ⟨kret rfl (by first | exact hk1 | exact hk2 | simp_all), below_drewN hBL.out _⟩
      · obtain rfl : j = F := by omega
        have hd1 : decide ((j : Int) < (xs.length : Int)) = false := decide_eq_false (by omega)
        have hd2 : decide (j < xs.length) = false := decide_eq_false hjl
        have hG : Hid (G = false) := Lib.hid (by rw [hfo.out, List.getElem?_eq_none (by omega)]; rfl)
        clear hb hC hlo hat hfo
        go_wp2
        go_quiet (fail)
        go_wp2
        go_ret2
        exact ⟨kret rfl hG.out.symm, below_drewN hBL.out _⟩
end Go.Proofs.YtelfacchhclgnaaGreat
end
section
namespace Go.Proofs.YtelfacchhclgnaaGreat
set_option maxRecDepth 4000
open Go.RowKit
namespace K
/-- A list with a key, and without one. -/
def add (xs : List Nat) (k : Nat) : List Nat := if fo xs k then xs else xs.take (fi xs k) ++ k :: xs.drop (fi xs k)
def drop (xs : List Nat) (k : Nat) : List Nat := if fo xs k then xs.take (fi xs k) ++ xs.drop (fi xs k + 1) else xs
theorem alloc_top (w : World) (o : Obj) : (w.alloc o).heap[w.heap.size]? = some o := by
  show (w.heap.push o)[w.heap.size]? = some o
  simp
theorem own_form {w : World} {base : Nat} {e : TypeId} {size n : Nat} {v : Value} {xs : List Value} (h : w.ownsRow base e size v n xs) : ∃ A c, v = .slice A n c := by
  rcases h.2 with ⟨rfl, rfl⟩ | ⟨g, cap, cur, rfl, _⟩
  · exact ⟨none, 0, rfl⟩
  · exact ⟨_, _, rfl⟩
theorem own_lt {W : World} {base : Nat} {e : TypeId} {size n : Nat} {v : Value} {xs : List Value} (h : W.ownsRow base e size v n xs) {j : Nat} (hj : v.ownBlock = some j) : j < W.heap.size ∧ base ≤ j := by
  rcases h.2 with ⟨rfl, _⟩ | ⟨g, cap, cur, rfl, hb, hg, _⟩
  · simp [Value.ownBlock] at hj
  · simp [Value.ownBlock] at hj
    subst hj
    exact ⟨(Array.getElem?_eq_some_iff.1 hg).1, hb⟩
theorem own_base {w : World} {base base' : Nat} {e : TypeId} {size n : Nat} {v : Value} {xs : List Value} (h : w.ownsRow base e size v n xs) (hb : base' ≤ base) : w.ownsRow base' e size v n xs := by
  refine ⟨h.1, ?_⟩
  rcases h.2 with h | ⟨g, cap, cur, hv, hb', rest⟩
  · exact .inl h
  · exact .inr ⟨g, cap, cur, hv, by omega, rest⟩
theorem wv_one (xs : List Nat) : ∀ u ∈ wv xs, u.oneCell' = true := by
  intro u hu
  obtain ⟨x, _, rfl⟩ := List.mem_map.1 hu
  rfl
theorem wv_app (a b : List Nat) : wv (a ++ b) = wv a ++ wv b := by simp [wv]
theorem own_empty {w : World} {g : Nat} (h : w.heap[g]? = some (.cells #[] 22 (0, 0))) : w.ownsRow g 22 1 (.slice (some ⟨g, 0, none⟩) 0 0) 0 [] :=
  ⟨rfl, .inr ⟨g, 0, #[], rfl, Nat.le_refl _, h, Nat.le_refl _, by decide, rfl, rfl⟩⟩
theorem grown_next {w W W' : World} {row : Option Nat} (hb : Below w.heap.size w W) (hg : W.grownBy W' row) (h : ∀ g, row = some g → w.heap.size ≤ g) : Below w.heap.size w W' := hb.grown hg hb.size h
theorem kx_of {w : World} {base n : Nat} {v : Value} {xs : List Nat} (h : w.ownsRow base 22 1 v n (wv xs)) (hn : n = xs.length) : KX w v xs := by
  subst hn
  exact own_base h (Nat.zero_le _)
theorem one_cell (w : World) (v : Value) (t : TypeId) : ∀ (j : Nat) (u : Value), [v][j]? = some u → (w.alloc (.cells #[v] t)).cell? ((⟨w.heap.size, 0, none⟩ : Addr).add j) = some u := by
  intro j u h
  exact cell_one w v t j u h
/-- The front of a list, and its rest, as slices of it read. -/
theorem front {w : World} {g c : Nat} {xs : List Nat} (h : KX w (.slice (some ⟨g, 0, none⟩) xs.length c) xs) {k : Nat} (hk : k ≤ xs.length) : Reads w w.heap.size 1 (some ⟨g, 0, none⟩) k (wv (xs.take k)) := by
  refine ⟨by simp [wv, Nat.min_eq_left hk], fun h0 => ⟨_, rfl, ?_, fun j u hu => ?_⟩⟩
  · rcases h.form with ⟨e, _⟩ | ⟨g', c', e, _, hg, _⟩
    · simp at e
    · injection e with e; injection e with e; injection e with e; subst e; exact hg
  · refine World.ownsRow.cells h (g := g) rfl j u ?_
    have e : wv xs = wv (xs.take k) ++ wv (xs.drop k) := by rw [← wv_app, List.take_append_drop]
    rw [e]
    rw [List.getElem?_append_left]
    · exact hu
    · rcases Nat.lt_or_ge j (wv (xs.take k)).length with h1 | h1
      · exact h1
      · rw [List.getElem?_eq_none h1] at hu; cases hu
theorem rest {w : World} {g c : Nat} {xs : List Nat} (h : KX w (.slice (some ⟨g, 0, none⟩) xs.length c) xs) {k : Nat} (hk : k ≤ xs.length) (A : Option Addr) (hA : k < xs.length → A = some ⟨g, k, none⟩) : Reads w w.heap.size 1 A (xs.length - k) (wv (xs.drop k)) := by
  refine ⟨by simp [wv], fun h0 => ?_⟩
  rw [hA (by omega)]
  refine ⟨_, rfl, ?_, fun j u hu => ?_⟩
  · rcases h.form with ⟨e, _⟩ | ⟨g', c', e, _, hg, _⟩
    · simp at e
    · injection e with e; injection e with e; injection e with e; subst e; exact hg
  · have h1 : (wv xs)[k + j]? = some u := by
      have e : wv xs = wv (xs.take k) ++ wv (xs.drop k) := by rw [← wv_app, List.take_append_drop]
      have hl : (wv (xs.take k)).length = k := by simp [wv, Nat.min_eq_left hk]
      rw [e, List.getElem?_append_right (by omega), hl, Nat.add_sub_cancel_left]
      exact hu
    have h2 := World.ownsRow.cells h (g := g) rfl _ u h1
    have e2 : (⟨g, k, none⟩ : Addr).add j = ⟨g, k + j, none⟩ := by unfold Addr.add; split <;> simp_all
    rw [add_off] at h2
    rw [e2]
    exact h2
theorem slice_from (g len c k : Nat) (i : Int) (hi : i = (k : Int)) (hk : k ≤ len) (hc : len ≤ c) : ∃ A3, (k < len → A3 = some ⟨g, k, none⟩) ∧
    (∀ w, (Instr.sliceAt 47 (.slice (some ⟨g, 0, none⟩) len c) (some (.int .i64 i)) none none).run Tryz.prog w = .ok (.slice A3 (len - k) (c - k)) w) ∧
    (∀ w, (Instr.slice 47 (.slice (some ⟨g, 0, none⟩) len c) (some (.int .i64 i)) none none).run Tryz.prog w = .ok (.slice A3 (len - k) (c - k)) w) := by
  subst hi
  have hu : Tryz.prog.underlying 47 = some (.slice (Tryz.prog.elem 47)) := by kernel_rfl
  have hz : ∀ w, (Go.sizeOf (Tryz.prog.elem 47)).run Tryz.prog w = .ok 1 w := fun w => Tryz.sizeOf22 w
  have h2 : ∀ w, (Instr.slice 47 (.slice (some ⟨g, 0, none⟩) len c) (some (.int .i64 (k : Int))) none none).run Tryz.prog w = .ok (sliced (some ⟨g, 0, none⟩) k len c 1) w := fun w => by
    have h := run_slice_l (P := Tryz.prog) (w := w) (t := 47) (a := some ⟨g, 0, none⟩) (len := len) (cap := c) (ht := hu) (kl := .i64) (l := (k : Int)) (h0 := by omega) (h1 := by omega)
    rw [h, hz]
    simp [Result.andThen]
  refine ⟨if c = k then some ⟨g, 0, none⟩ else (some (⟨g, 0, none⟩ : Addr)).map (·.add (k * 1)), fun h => ?_, fun w => ?_, fun w => (h2 w).trans rfl⟩
  · rw [if_neg (by omega)]
    simp [add_off]
  · exact (run_sliceAt_slice (w := w) (h := hu) ..).trans ((h2 w).trans rfl)
end K
/-- What is answered: a list, in a block that was there or a new one. -/
def KLP (w : World) (v0 : Value) (xs : List Nat) (e : Ending) (w' : World) : Prop :=
  ∃ v, e = .returned v ∧ KX w' v xs ∧ Below w.heap.size w w' ∧ (v = v0 ∨ ∀ g, v.ownBlock = some g → w.heap.size ≤ g)
theorem k_drop_no (w : World) (v : Value) (xs : List Nat) (h : KX w v xs) (hl : xs.length ≤ 4611686018427387904) (k : Nat) (hG : K.fo xs k = false) :
    Calls Tryz.prog 25 #[v, .int .u64 (k : Int)] w (KLP w v xs) := by
  have hfd := Lib.hid (k_find w v xs h hl k)
  rw [hG] at hfd
  have hH := Lib.hid h
  clear h hG
  generalize K.fi xs k = F at *
  go_enter Tryz.func25, Tryz.ntmps25
  go_wp2_with (go_at_call 53; (with_reducible refine hfd.out.mono ?_); rintro e w2 ⟨rfl, hD⟩; have HB := Lib.hid hD; clear hD)
  go_ret
  exact ⟨v, rfl, hH.out.below HB.out, HB.out, .inl rfl⟩
set_option maxRecDepth 100000 in
set_option maxHeartbeats 1000000 in
theorem k_drop_yes (w : World) (v : Value) (xs : List Nat) (h : KX w v xs) (hl : xs.length ≤ 1000000) (k : Nat) (hG : K.fo xs k = true) :
    Calls Tryz.prog 25 #[v, .int .u64 (k : Int)] w (KLP w v (xs.take (K.fi xs k) ++ xs.drop (K.fi xs k + 1))) := by
  have hfd := Lib.hid (k_find w v xs h (by omega) k)
  obtain ⟨hF, _⟩ := K.fo_lt hG
  rw [hG] at hfd
  obtain ⟨i0, hi, hz0, hz1, hz2⟩ := info_parts u64_info
  have hH := Lib.hid h
  clear hG
  generalize K.fi xs k = F at *
  rcases h.form with ⟨rfl, rfl⟩ | ⟨g, c, rfl, hc, hg, hcells⟩
  · simp at hF
  · clear hcells h
    have hFc : (F : Int) ≤ (c : Int) := by omega
    have hFc2 : F ≤ c := by omega
    have w1 : IntKind.i64.wrap ((F : Int) + 1) = (F : Int) + 1 := by simp [IntKind.wrap, IntKind.signed, IntKind.bits]; omega
    obtain ⟨A3, hA3, hs1, hs2⟩ := K.slice_from g xs.length c (F + 1) ((F : Int) + 1) (by omega) (by omega) hc
    obtain ⟨m3, hm3⟩ : ∃ m3, xs.length - (F + 1) = m3 := ⟨_, rfl⟩
    obtain ⟨c3, hc3⟩ : ∃ c3, c - (F + 1) = c3 := ⟨_, rfl⟩
    rw [hm3, hc3] at hs1 hs2
    have HA := Lib.hid hA3
    have HM := Lib.hid hm3
    clear hA3 hm3 hc3
    have hmF : F + m3 ≤ 1000000 := by have := HM.out; omega
    have hmE : Hid (F + m3 = (xs.take F ++ xs.drop (F + 1)).length) := by
      show _ = _
      rw [List.length_append, List.length_take, List.length_drop, HM.out, Nat.min_eq_left (by omega)]
    have hap : Hid (wv (xs.take F ++ xs.drop (F + 1)) = wv (xs.take F) ++ wv (xs.drop (F + 1))) := K.wv_app _ _
    have o1 := Lib.hid (K.wv_one (xs.take F))
    have o3 := Lib.hid (K.wv_one (xs.drop (F + 1)))
    have hf1 := Lib.hid (fun (w2 X : World) (HD : KX w2 (.slice (some ⟨g, 0, none⟩) xs.length c) xs) (hX : Below w2.heap.size w2 X) => ((K.front HD (k := F) (by omega)).below hX))
    have hf3 := Lib.hid (fun (w2 X : World) (HD : KX w2 (.slice (some ⟨g, 0, none⟩) xs.length c) xs) (hX : Below w2.heap.size w2 X) => ((HM.out ▸ K.rest HD (k := F + 1) (by omega) A3 HA.out : Reads w2 w2.heap.size 1 A3 m3 (wv (xs.drop (F + 1)))).below hX))
    clear HA HM
    generalize wv (xs.take F) = x1 at *
    generalize wv (xs.drop (F + 1)) = x3 at *
    go_enter Tryz.func25, Tryz.ntmps25
    go_wp2_with (go_at_call 53; (with_reducible refine hfd.out.mono ?_); rintro e w2 ⟨rfl, hD⟩; have HB := Lib.hid hD; clear hD)
    have HX := Lib.hid (hH.out.below HB.out)
    have R1 : Hid (∀ X, Below w2.heap.size w2 X → Reads X w2.heap.size 1 (some ⟨g, 0, none⟩) F x1) := fun X hX => hf1.out w2 X HX.out hX
    have R3 : Hid (∀ X, Below w2.heap.size w2 X → Reads X w2.heap.size 1 A3 m3 x3) := fun X hX => hf3.out w2 X HX.out hX
    have hb1 : Hid (Below w2.heap.size w2 (w2.alloc (.cells #[] 22)).drew) := below_drewN ((Below.refl _ _).alloc (Nat.le_refl _) _) 1
    have ho1 := Lib.hid (K.own_empty (w := (w2.alloc (.cells #[] 22)).drew) (g := w2.heap.size) (K.alloc_top w2 _))
    go_region_held3 (fun _ => True) (trivial) (first
      | (refine step_append_any _ rfl (.tmp 16) (.tmp 19) 47 rfl w2.heap.size 22 i0 _ 1 8 Tryz.underlying47 hi hz0 hz1 hz2 rfl (by decide) (.slice (some ⟨w2.heap.size, 0, none⟩) 0 0) 0 [] (by rfl) ho1.out w2.heap.size (some ⟨g, 0, none⟩) F c x1 (by rfl) (R1.out _ hb1.out) o1.out (by unfold maxLen; omega) (by omega) hb1.out.size ?_
         intro v1 w3 hv1 hg1 _
         rw [Nat.zero_add, List.nil_append] at hv1
         obtain ⟨A1, c1, rfl⟩ := K.own_form hv1
         have hb3 : Hid (Below w2.heap.size w2 w3) := by
           exact K.grown_next hb1.out hg1 (fun g e => by simp [Value.ownBlock] at e; omega)
         have HV1 := Lib.hid hv1
         clear hv1 hg1)
      | (refine step_append_any _ rfl (.tmp 20) (.tmp 24) 47 rfl w2.heap.size 22 i0 _ 1 8 Tryz.underlying47 hi hz0 hz1 hz2 rfl (by decide) (.slice A1 F c1) F x1 (by rfl) HV1.out w2.heap.size A3 m3 c3 x3 (by rfl) (R3.out _ hb3.out) o3.out (by unfold maxLen; omega) (by omega) hb3.out.size ?_
         intro v2 w4 hv2 hg2 _
         have hb4 : Hid (Below w2.heap.size w2 w4) := by
           exact K.grown_next hb3.out hg2 (fun g e => (K.own_lt HV1.out e).2)
         have HV2 := Lib.hid hv2
         clear hv2 hg2))
    all_goals
      go_wp2
      go_ret
      exact ⟨v2, rfl, K.kx_of (by rw [hap.out]; exact HV2.out) hmE.out, HB.out.trans (hb4.out.mono HB.out.size), .inr fun g e => Nat.le_trans HB.out.size (K.own_lt HV2.out e).2⟩
theorem k_drop (w : World) (v : Value) (xs : List Nat) (h : KX w v xs) (hl : xs.length ≤ 1000000) (k : Nat) :
    Calls Tryz.prog 25 #[v, .int .u64 (k : Int)] w (KLP w v (K.drop xs k)) := by
  by_cases hG : K.fo xs k = true
  · unfold K.drop
    rw [if_pos hG]
    exact k_drop_yes w v xs h hl k hG
  · unfold K.drop
    rw [if_neg hG]
    exact k_drop_no w v xs h (by omega) k (by simpa using hG)
end Go.Proofs.YtelfacchhclgnaaGreat
end
section
namespace Go.Proofs.YtelfacchhclgnaaGreat
set_option maxRecDepth 4000
open Go.RowKit
theorem k_add_no (w : World) (v : Value) (xs : List Nat) (h : KX w v xs) (hl : xs.length ≤ 4611686018427387904) (k : Nat) (hG : K.fo xs k = true) :
    Calls Tryz.prog 45 #[v, .int .u64 (k : Int)] w (KLP w v xs) := by
  have hfd := Lib.hid (k_find w v xs h hl k)
  rw [hG] at hfd
  have hH := Lib.hid h
  clear h hG
  generalize K.fi xs k = F at *
  go_enter Tryz.func45, Tryz.ntmps45
  go_wp2_with (go_at_call 53; (with_reducible refine hfd.out.mono ?_); rintro e w2 ⟨rfl, hD⟩; have HB := Lib.hid hD; clear hD)
  go_ret
  exact ⟨v, rfl, hH.out.below HB.out, HB.out, .inl rfl⟩
set_option maxRecDepth 100000 in
set_option maxHeartbeats 2000000 in
theorem k_add_nil (w : World) (xs : List Nat) (h : KX w (.slice none 0 0) xs) (hes : xs = []) (k : Nat) :
    Calls Tryz.prog 45 #[.slice none 0 0, .int .u64 (k : Int)] w (KLP w (.slice none 0 0) [k]) := by
  subst hes
  have hfd := Lib.hid (k_find w _ [] h (by simp) k)
  obtain ⟨i0, hi, hz0, hz1, hz2⟩ := info_parts u64_info
  clear h
  go_enter Tryz.func45, Tryz.ntmps45
  go_wp2_with (first
    | (go_at_call 53; (with_reducible refine hfd.out.mono ?_); rintro e w2 ⟨rfl, hD⟩; have HB := Lib.hid hD; clear hD; have R1 : Hid (∀ X : World, Reads X w2.heap.size 1 none 0 []) := (fun X => Reads.none_); have hb1 : Hid (Below w2.heap.size w2 (w2.alloc (.cells #[] 22))) := ((Below.refl _ _).alloc (Nat.le_refl _) _); have ho1 := Lib.hid (K.own_empty (w := (w2.alloc (.cells #[] 22))) (g := w2.heap.size) (K.alloc_top w2 _)))
    | (at_builtin; refine wpList_append_any _ rfl (.tmp 16) (.tmp 19) 47 rfl w2.heap.size 22 i0 _ 1 8 Tryz.underlying47 hi hz0 hz1 hz2 rfl (by decide) (.slice (some ⟨w2.heap.size, 0, none⟩) 0 0) 0 [] (by rfl) ho1.out w2.heap.size none 0 0 [] (by rfl) (R1.out _) (by simp) (by unfold maxLen; omega) (by omega) hb1.out.size ?_; intro v1 w3 hv1 hg1 _; rw [Nat.zero_add, List.nil_append] at hv1; obtain ⟨A1, cc1, rfl⟩ := K.own_form hv1; have hb3 : Hid (Below w2.heap.size w2 w3) := (K.grown_next hb1.out hg1 (fun g e => (by simp [Value.ownBlock] at e; omega))); have HV1 := Lib.hid hv1; clear hv1 hg1; have hsz3 := hb3.out.size; have hrn : Hid (Reads (w3.alloc (.cells #[.int .u64 (k : Int)] 22)) (w3.heap.size + 1) 1 (some ⟨w3.heap.size, 0, none⟩) 1 [.int .u64 (k : Int)]) := ⟨rfl, fun _ => ⟨_, rfl, Nat.lt_succ_self _, K.one_cell w3 _ _⟩⟩)
    | (at_builtin; refine wpList_append_any _ rfl (.tmp 21) (.tmp 23) 47 rfl w2.heap.size 22 i0 _ 1 8 Tryz.underlying47 hi hz0 hz1 hz2 rfl (by decide) (.slice A1 0 cc1) 0 [] (by rfl) (HV1.out.alloc _) (w3.heap.size + 1) (some ⟨w3.heap.size, 0, none⟩) 1 1 [.int .u64 (k : Int)] (by rfl) hrn.out (by intro u hu; simp at hu; rcases hu with rfl; rfl) (by unfold maxLen; omega) (by omega) (Nat.le_trans hsz3 (by simp)) ?_; intro v2 w4 hv2 hg2 _; rw [Nat.zero_add, List.nil_append] at hv2; obtain ⟨A2, cc2, rfl⟩ := K.own_form hv2; have hb4 : Hid (Below w2.heap.size w2 w4) := (K.grown_next (hb3.out.alloc hsz3 _) hg2 (fun g e => (K.own_lt HV1.out e).2)); have HV2 := Lib.hid hv2; have hsz4 := hb4.out.size; clear hv2 hg2)
    | (at_builtin; refine wpList_append_any _ rfl (.tmp 25) (.tmp 28) 47 rfl w2.heap.size 22 i0 _ 1 8 Tryz.underlying47 hi hz0 hz1 hz2 rfl (by decide) (.slice A2 1 cc2) 1 [.int .u64 (k : Int)] (by rfl) HV2.out w2.heap.size none 0 0 [] (by rfl) (R1.out _) (by simp) (by unfold maxLen; omega) (by omega) hsz4 ?_; intro v3 w5 hv3 hg3 _; have hb5 : Hid (Below w2.heap.size w2 w5) := (K.grown_next hb4.out hg3 (fun g e => (K.own_lt HV2.out e).2)); have HV3 := Lib.hid hv3; clear hv3 hg3))
  go_ret
  exact ⟨v3, rfl, K.kx_of (n := 1) HV3.out rfl, HB.out.trans (hb5.out.mono HB.out.size), .inr fun g e => Nat.le_trans HB.out.size (K.own_lt HV3.out e).2⟩
set_option maxRecDepth 100000 in
set_option maxHeartbeats 2000000 in
theorem k_add_some (w : World) (g c : Nat) (xs : List Nat) (h : KX w (.slice (some ⟨g, 0, none⟩) xs.length c) xs) (hl : xs.length ≤ 1000000) (k : Nat) (hG : K.fo xs k = false) :
    Calls Tryz.prog 45 #[.slice (some ⟨g, 0, none⟩) xs.length c, .int .u64 (k : Int)] w (KLP w (.slice (some ⟨g, 0, none⟩) xs.length c) (xs.take (K.fi xs k) ++ k :: xs.drop (K.fi xs k))) := by
  have hfd := Lib.hid (k_find w _ xs h (by omega) k)
  have hF := K.fi_le xs k
  rw [hG] at hfd
  obtain ⟨i0, hi, hz0, hz1, hz2⟩ := info_parts u64_info
  have hH := Lib.hid h
  clear hG
  generalize K.fi xs k = F at *
  have hc : xs.length ≤ c := by
    rcases h.form with ⟨e, _⟩ | ⟨g', c', e, hc, _⟩
    · simp at e
    · injection e with _ _ e; omega
  have hFc : (F : Int) ≤ (c : Int) := by omega
  have hFc2 : F ≤ c := by omega
  obtain ⟨A3, hA3, hs1, hs2⟩ := K.slice_from g xs.length c F (F : Int) (by omega) (by omega) hc
  obtain ⟨m3, hm3⟩ : ∃ m3, xs.length - F = m3 := ⟨_, rfl⟩
  obtain ⟨c3, hc3⟩ : ∃ c3, c - F = c3 := ⟨_, rfl⟩
  rw [hm3, hc3] at hs1 hs2
  have HA := Lib.hid hA3
  have HM := Lib.hid hm3
  clear hA3 hm3 hc3 h
  have hmF : F + 1 + m3 ≤ 1000001 := by have := HM.out; omega
  have hmE : Hid (F + 1 + m3 = (xs.take F ++ k :: xs.drop F).length) := by
    show _ = _
    rw [List.length_append, List.length_cons, List.length_take, List.length_drop, HM.out, Nat.min_eq_left (by omega)]
    omega
  have hap : Hid (wv (xs.take F ++ k :: xs.drop F) = wv (xs.take F) ++ [.int .u64 (k : Int)] ++ wv (xs.drop F)) := by
    show _ = _
    simp [wv]
  have o1 := Lib.hid (K.wv_one (xs.take F))
  have o3 := Lib.hid (K.wv_one (xs.drop F))
  have hf1 := Lib.hid (fun (w2 X : World) (HD : KX w2 (.slice (some ⟨g, 0, none⟩) xs.length c) xs) (hX : Below w2.heap.size w2 X) => ((K.front HD (k := F) (by omega)).below hX))
  have hf3 := Lib.hid (fun (w2 X : World) (HD : KX w2 (.slice (some ⟨g, 0, none⟩) xs.length c) xs) (hX : Below w2.heap.size w2 X) => ((HM.out ▸ K.rest HD (k := F) (by omega) A3 HA.out : Reads w2 w2.heap.size 1 A3 m3 (wv (xs.drop F))).below hX))
  clear HA HM
  generalize wv (xs.take F) = x1 at *
  generalize wv (xs.drop F) = x3 at *
  go_enter Tryz.func45, Tryz.ntmps45
  go_wp2_with (first
    | (go_at_call 53; (with_reducible refine hfd.out.mono ?_); rintro e w2 ⟨rfl, hD⟩; have HB := Lib.hid hD; clear hD; have HX := Lib.hid (hH.out.below HB.out); have R1 : Hid (∀ X, Below w2.heap.size w2 X → Reads X w2.heap.size 1 (some ⟨g, 0, none⟩) F x1) := (fun X hX => hf1.out w2 X HX.out hX); have R3 : Hid (∀ X, Below w2.heap.size w2 X → Reads X w2.heap.size 1 A3 m3 x3) := (fun X hX => hf3.out w2 X HX.out hX); have hb1 : Hid (Below w2.heap.size w2 (w2.alloc (.cells #[] 22))) := ((Below.refl _ _).alloc (Nat.le_refl _) _); have ho1 := Lib.hid (K.own_empty (w := (w2.alloc (.cells #[] 22))) (g := w2.heap.size) (K.alloc_top w2 _)))
    | (at_builtin; refine wpList_append_any _ rfl (.tmp 16) (.tmp 19) 47 rfl w2.heap.size 22 i0 _ 1 8 Tryz.underlying47 hi hz0 hz1 hz2 rfl (by decide) (.slice (some ⟨w2.heap.size, 0, none⟩) 0 0) 0 [] (by rfl) ho1.out w2.heap.size (some ⟨g, 0, none⟩) F c x1 (by rfl) (R1.out _ hb1.out) o1.out (by unfold maxLen; omega) (by omega) hb1.out.size ?_; intro v1 w3 hv1 hg1 _; rw [Nat.zero_add, List.nil_append] at hv1; obtain ⟨A1, cc1, rfl⟩ := K.own_form hv1; have hb3 : Hid (Below w2.heap.size w2 w3) := (K.grown_next hb1.out hg1 (fun g e => (by simp [Value.ownBlock] at e; omega))); have HV1 := Lib.hid hv1; clear hv1 hg1; have hsz3 := hb3.out.size; have hrn : Hid (Reads (w3.alloc (.cells #[.int .u64 (k : Int)] 22)) (w3.heap.size + 1) 1 (some ⟨w3.heap.size, 0, none⟩) 1 [.int .u64 (k : Int)]) := ⟨rfl, fun _ => ⟨_, rfl, Nat.lt_succ_self _, K.one_cell w3 _ _⟩⟩)
    | (at_builtin; refine wpList_append_any _ rfl (.tmp 21) (.tmp 23) 47 rfl w2.heap.size 22 i0 _ 1 8 Tryz.underlying47 hi hz0 hz1 hz2 rfl (by decide) (.slice A1 F cc1) F x1 (by rfl) (HV1.out.alloc _) (w3.heap.size + 1) (some ⟨w3.heap.size, 0, none⟩) 1 1 [.int .u64 (k : Int)] (by rfl) hrn.out (by intro u hu; simp at hu; rcases hu with rfl; rfl) (by unfold maxLen; omega) (by omega) (Nat.le_trans hsz3 (by simp)) ?_; intro v2 w4 hv2 hg2 _; obtain ⟨A2, cc2, rfl⟩ := K.own_form hv2; have hb4 : Hid (Below w2.heap.size w2 w4) := (K.grown_next (hb3.out.alloc hsz3 _) hg2 (fun g e => (K.own_lt HV1.out e).2)); have HV2 := Lib.hid hv2; have hsz4 := hb4.out.size; clear hv2 hg2)
    | (at_builtin; refine wpList_append_any _ rfl (.tmp 25) (.tmp 28) 47 rfl w2.heap.size 22 i0 _ 1 8 Tryz.underlying47 hi hz0 hz1 hz2 rfl (by decide) (.slice A2 (F + 1) cc2) (F + 1) (x1 ++ [.int .u64 (k : Int)]) (by rfl) HV2.out w2.heap.size A3 m3 c3 x3 (by rfl) (R3.out _ hb4.out) (o3.out) (by unfold maxLen; omega) (by omega) hsz4 ?_; intro v3 w5 hv3 hg3 _; have hb5 : Hid (Below w2.heap.size w2 w5) := (K.grown_next hb4.out hg3 (fun g e => (K.own_lt HV2.out e).2)); have HV3 := Lib.hid hv3; clear hv3 hg3))
  go_ret
  exact ⟨v3, rfl, K.kx_of (by rw [hap.out]; exact HV3.out) hmE.out, HB.out.trans (hb5.out.mono HB.out.size), .inr fun g e => Nat.le_trans HB.out.size (K.own_lt HV3.out e).2⟩
theorem k_add (w : World) (v : Value) (xs : List Nat) (h : KX w v xs) (hl : xs.length ≤ 1000000) (k : Nat) :
    Calls Tryz.prog 45 #[v, .int .u64 (k : Int)] w (KLP w v (K.add xs k)) := by
  by_cases hG : K.fo xs k = true
  · unfold K.add
    rw [if_pos hG]
    exact k_add_no w v xs h (by omega) k hG
  · unfold K.add
    rw [if_neg hG]
    rcases h.form with ⟨rfl, rfl⟩ | ⟨g, c, rfl, _⟩
    · exact k_add_nil w [] h rfl k
    · exact k_add_some w g c xs h hl k (by simpa using hG)
end Go.Proofs.YtelfacchhclgnaaGreat
end
section
namespace Go.Proofs.YtelfacchhclgnaaGreat
set_option maxRecDepth 4000
open Go.RowKit
namespace K
def off (xs : List Nat) : List Nat := xs.foldl add []
theorem add_len (xs : List Nat) (k : Nat) : (add xs k).length ≤ xs.length + 1 := by
  unfold add
  split
  · omega
  · rw [List.length_append, List.length_cons, List.length_take, List.length_drop]
    have := fi_le xs k
    omega
theorem off_snoc (xs : List Nat) (k : Nat) (h : k < xs.length) : off (xs.take (k + 1)) = add (off (xs.take k)) xs[k] := by
  unfold off
  rw [List.take_succ_eq_append_getElem h, List.foldl_append]
  rfl
theorem off_len (xs : List Nat) : ∀ k, (off (xs.take k)).length ≤ k
  | 0 => by simp [off]
  | k + 1 => by
    rcases Nat.lt_or_ge k xs.length with h | h
    · rw [off_snoc xs k h]
      have := add_len (off (xs.take k)) xs[k]
      have := off_len xs k
      omega
    · rw [List.take_of_length_le (by omega), ← List.take_of_length_le h]
      have := off_len xs k
      omega
end K
set_option maxHeartbeats 2000000 in
theorem k_of (w : World) (v : Value) (xs : List Nat) (h : KX w v xs) (hl : xs.length ≤ 1000000) :
    Calls Tryz.prog 22 #[v] w (KLP w (.slice none 0 0) (K.off xs)) := by
  have hL := Lib.hid (K.off_len xs)
  have hS := Lib.hid (K.off_snoc xs)
  have hE := Lib.hid (show K.off xs = K.off (xs.take xs.length) by rw [List.take_length])
  rcases h.form with ⟨rfl, rfl⟩ | ⟨g, c, rfl, hc, hg, hcells⟩
  · clear h
    go_enter Tryz.func22, Tryz.ntmps22
    go_wp2
    go_loop [3, 8] (fun v i => v = .slice none 0 0 ∧ i = .int .i64 0) (fun _ _ => 0)
    case atStart => exact ⟨rfl, rfl⟩
    case round =>
      obtain ⟨rfl, rfl⟩ := hrel
      go_wp2
      go_ret
      exact ⟨_, rfl, KX.nil _, Below.refl _ _, .inl rfl⟩
  · have hC := Lib.hid hcells
    clear hcells h
    go_enter Tryz.func22, Tryz.ntmps22
    go_wp2
    go_loopw [3, 8] (fun v i wr => ∃ j : Nat, j ≤ xs.length ∧ i = .int .i64 j ∧ KX wr v (K.off (xs.take j)) ∧ Below w.heap.size w wr ∧ (v = .slice none 0 0 ∨ ∀ g, v.ownBlock = some g → w.heap.size ≤ g)) (fun _ i _ => xs.length - (intOf i).toNat)
    case atStart => exact ⟨0, by omega, rfl, by simpa [K.off] using KX.nil w, Below.refl _ _, .inl rfl⟩
    case round =>
      obtain ⟨j, hj, rfl, hK, hb, hv⟩ := hrel
      by_cases hlt : j < xs.length
      · have c0 := (hb.cell (p := ⟨g, j, none⟩) hg).trans (hC.out j hlt)
        have hjz : (j : Int) < (xs.length : Int) := by omega
        have hs := Lib.hid (hS.out j hlt)
        have hadd := Lib.hid (k_add wr _ _ hK (by have := hL.out j; omega) xs[j])
        rw [← hs.out] at hadd
        have hB := Lib.hid hb
        have hV := Lib.hid hv
        clear hK hb hv hs
        obtain ⟨ys, hys⟩ : ∃ ys, K.off (xs.take (j + 1)) = ys := ⟨_, rfl⟩
        rw [hys] at hadd
        have hY := Lib.hid hys
        clear hys
        generalize xs[j] = a at *
        go_wp2_with (go_at_call 45; (with_reducible refine hadd.out.mono ?_); rintro e w2 ⟨v2, rfl, hK2, hb2, hv2⟩; have HK2 := Lib.hid hK2; have HB2 := Lib.hid hb2; have HV2 := Lib.hid hv2; clear hK2 hb2 hv2)
        go_roundw
        case rel => exact ⟨j + 1, by omega, by go_num, hY.out ▸ HK2.out, hB.out.trans (HB2.out.mono hB.out.size), HV2.out.elim (fun e => e ▸ hV.out) (fun h => .inr fun g e => Nat.le_trans hB.out.size (h g e))⟩
        case measure => simp [intOf]; omega
      · obtain rfl : j = xs.length := by omega
        rw [← hE.out] at hK
        go_wp2
        go_ret
        exact ⟨_, rfl, hK, hb, hv⟩
end Go.Proofs.YtelfacchhclgnaaGreat
end
section
namespace Go.Proofs.YtelfacchhclgnaaGreat
set_option maxRecDepth 4000
open Go.RowKit
namespace K
/-- The least key from k on; the greatest up to k; 0: none. -/
def nx (xs : List Nat) (k : Nat) : Nat := (xs[fi xs k]?).getD 0
def nxb (xs : List Nat) (k : Nat) : Bool := decide (fi xs k < xs.length)
def pv (xs : List Nat) (k : Nat) : Nat := if fo xs k then k else if fi xs k = 0 then 0 else (xs[fi xs k - 1]?).getD 0
def pvb (xs : List Nat) (k : Nat) : Bool := fo xs k || !decide (fi xs k = 0)
end K
end Go.Proofs.YtelfacchhclgnaaGreat
end
section
namespace Go.Proofs.YtelfacchhclgnaaGreat
set_option maxRecDepth 4000
open Go.RowKit
abbrev kactv (d k : Nat) : Value := .agg #[.int .u8 (d : Int), .int .u64 (k : Int)]
abbrev kacto (d k : Nat) : Obj := .cells #[.int .u8 (d : Int), .int .u64 (k : Int)] 32
abbrev kansv (E K : Nat) (Y : Bool) : Value := .agg #[.int .i64 (E : Int), .int .u64 (K : Int), .bool Y]
abbrev kanso : Obj := .cells #[.int .i64 0, .int .u64 0, .bool false] 34
abbrev kw (w : World) (d k : Nat) : World := (w.alloc (kacto d k)).alloc kanso
structure KD (w w2 : World) (v : Value) (xs : List Nat) (d k : Nat) : Prop where
  c0 : w2.cell? ⟨w.heap.size, 0, none⟩ = some (.int .u8 (d : Int))
  c1 : w2.cell? ⟨w.heap.size, 1, none⟩ = some (.int .u64 (k : Int))
  a0 : w2.heap[w.heap.size + 1]? = some kanso
  kx : KX w2 v xs
  low : Below w.heap.size w w2
  size : w.heap.size + 2 ≤ w2.heap.size
def KDo (w : World) (v0 : Value) (ys : List Nat) (E K : Nat) (Y : Bool) (e : Ending) (w' : World) : Prop :=
  ∃ v, e = .returned (.tuple #[v, kansv E K Y]) ∧ KX w' v ys ∧ Below w.heap.size w w' ∧ (v = v0 ∨ ∀ g, v.ownBlock = some g → w.heap.size ≤ g)
end Go.Proofs.YtelfacchhclgnaaGreat
end
section
namespace Go.Proofs.YtelfacchhclgnaaGreat
set_option maxRecDepth 4000
open Go.RowKit
namespace K
end K
structure KE (w w2 w4 : World) (v : Value) (xs : List Nat) : Prop where
  a0 : w4.heap[w.heap.size + 1]? = some kanso
  x0 : w4.heap[w2.heap.size]? = some kanso
  kx : KX w4 v xs
  low : Below w.heap.size w w4
  size : w.heap.size + 2 ≤ w2.heap.size
theorem KE.of {w w2 w4 : World} {v : Value} {xs : List Nat} {d k : Nat} (h : KD w w2 v xs d k) (hb : Below (w2.alloc kanso).heap.size (w2.alloc kanso) w4) : KE w w2 w4 v xs := by
  have hs : (w2.alloc kanso).heap.size = w2.heap.size + 1 := by simp
  have b2 : Below w2.heap.size w2 w4 := ((Below.refl _ _).alloc (Nat.le_refl _) _).trans (hb.mono (by rw [hs]; omega))
  refine ⟨(b2.block _ (by have := h.size; omega)).trans h.a0, (hb.block _ (by rw [hs]; omega)).trans (K.alloc_top w2 _), h.kx.below b2, h.low.trans (b2.mono h.low.size), h.size⟩
end Go.Proofs.YtelfacchhclgnaaGreat
end
section
namespace Go.Proofs.YtelfacchhclgnaaGreat
set_option maxRecDepth 4000
open Go.RowKit
end Go.Proofs.YtelfacchhclgnaaGreat
end
section
namespace Go.Proofs.YtelfacchhclgnaaGreat
set_option maxRecDepth 4000
open Go.RowKit
end Go.Proofs.YtelfacchhclgnaaGreat
end
