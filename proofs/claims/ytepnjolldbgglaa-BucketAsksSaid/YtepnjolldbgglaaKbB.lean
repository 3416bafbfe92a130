
/- A bucket's functions (Has, Add, Drop, Next, Prev, Split, Merge, Of, Is), told by the document's lists of keys; the texts walked. -/
import Derived.Test.YtepnjolldbgglaaKbArrI
import Derived.Test.YtepnjolldbgglaaK2
import Derived.Test.YtepnjolldbgglaaK10
namespace Go.Proofs.Ytepnjolldbgglaa.Kb
open Go.RowKit Go.Shelf
abbrev iz (xs : List Nat) : List Int := xs.map fun x : Nat => (x : Int)
instance upDec (xs : List Nat) : Decidable (K.Up xs) := inferInstanceAs (Decidable (xs.Pairwise (· < ·)))
theorem iz_len (xs : List Nat) : (iz xs).length = xs.length := by simp
theorem hv_iz (xs : List Nat) : hv (iz xs) = wv xs := by simp [hv, wv]
theorem iz_up {xs : List Nat} (h : K.Up xs) : (iz xs).Pairwise (· < ·) := by
  unfold K.Up at h
  rw [List.pairwise_map]
  exact h.imp fun hab => by omega
theorem iz_up' {xs : List Nat} (h : (iz xs).Pairwise (· < ·)) : K.Up xs := by
  rw [List.pairwise_map] at h
  exact h.imp fun hab => by omega
theorem iz_mem {xs : List Nat} {x : Int} : x ∈ iz xs ↔ ∃ k : Nat, k ∈ xs ∧ (k : Int) = x := by simp [iz]
theorem iz_mem' {xs : List Nat} {k : Nat} : (k : Int) ∈ iz xs ↔ k ∈ xs := by
  rw [iz_mem]
  exact ⟨fun ⟨j, hj, e⟩ => (by omega : j = k) ▸ hj, fun h => ⟨k, h, rfl⟩⟩
theorem iz_back {zs : List Int} {ys : List Nat} (hz : zs.Pairwise (· < ·)) (hy : K.Up ys) (h : ∀ x, x ∈ zs ↔ x ∈ iz ys) : zs = iz ys := M.sorted_ext hz (iz_up hy) h
theorem rank_fi {xs : List Nat} (h : K.Up xs) (k : Nat) : M.rRank (iz xs) (k : Int) = K.fi xs k := by
  refine rank_at (by rw [iz_len]; exact K.fi_le xs k) (fun j hj hlt => ?_) (fun j hj hle => ?_)
  · obtain ⟨h1, h2⟩ := K.fi_lt hlt
    simp only [List.getElem_map]
    omega
  · have hj' : j < xs.length := by simpa using hj
    have h1 := K.fi_at (xs := xs) (k := k) (by omega)
    simp only [List.getElem_map]
    rcases Nat.lt_or_eq_of_le hle with e | e
    · have := K.up_lt h e hj'; omega
    · simp only [e] at h1; omega
theorem mem_fo {xs : List Nat} (h : K.Up xs) (k : Nat) : decide ((k : Int) ∈ iz xs) = K.fo xs k := by
  rw [Bool.eq_iff_iff, decide_eq_true_iff, iz_mem', K.fo_mem h]
theorem kx_rh {w : World} {v : Value} {xs : List Nat} (h : KX w v xs) : ∃ A c, v = .slice A xs.length c ∧ Rh w w.heap.size A (iz xs) ∧ xs.length ≤ c := by
  have h2 : w.ownsRow 0 23 1 v (iz xs).length (hv (iz xs)) := by rw [hv_iz, iz_len]; exact h
  obtain ⟨A, c, h3, h4, h5⟩ := own_reads h2
  rw [iz_len] at h3 h5
  exact ⟨A, c, h3, h4, h5⟩
/-- A new row with these keys. -/
def KN (w w' : World) (v : Value) (xs : List Nat) : Prop := w'.ownsRow w.heap.size 23 1 v xs.length (wv xs)
theorem KN.kx {w w' : World} {v : Value} {xs : List Nat} (h : KN w w' v xs) : KX w' v xs := own_low h (Nat.zero_le _)
theorem KN.new {w w' : World} {v : Value} {xs : List Nat} (h : KN w w' v xs) {g : Nat} (hg : v.ownBlock = some g) : w.heap.size ≤ g ∧ g < w'.heap.size := h.lt g hg
theorem KN.of {w w' : World} {v : Value} {zs : List Int} {xs : List Nat} (h : w'.ownsRow w.heap.size 23 1 v zs.length (hv zs)) (e : zs = iz xs) : KN w w' v xs := by
  subst e
  rw [hv_iz, iz_len] at h
  exact h
section
variable (w : World) (v : Value) (xs : List Nat) (h : KX w v xs) (hu : K.Up xs) (few : xs.length ≤ 1000000) (k : Nat)
include h hu few
theorem b_search : Calls Try.prog 24 #[v, .int .u64 (k : Int)] w fun e w' => e = .returned (.tuple #[.int .i64 (K.fi xs k : Nat), .bool (K.fo xs k)]) ∧ w = w' := by
  obtain ⟨A, c, rfl, hr, hc⟩ := kx_rh h
  have H := a_search w w.heap.size xs.length c A (iz xs) (k : Int) (iz_len xs).symm hr (iz_up hu) few
  rw [rank_fi hu, mem_fo hu] at H
  exact H
set_option maxHeartbeats 2000000 in
theorem b_has : Calls Try.prog 19 #[v, .int .u64 (k : Int)] w fun e w' => e = .returned (.bool (K.fo xs k)) ∧ w = w' := by
  have H := Lib.hid (b_search w v xs h hu few k)
  clear h hu few
  go_enter Try.func19, Try.ntmps19
  go_wp2_with (go_at_call 24; (with_reducible refine H.out.mono ?_); rintro e w' ⟨rfl, rfl⟩)
  go_ret
  exact ⟨rfl, rfl⟩
theorem b_add : Calls Try.prog 11 #[v, .int .u64 (k : Int)] w fun e w' => ∃ v', e = .returned (.tuple #[v', .bool (!K.fo xs k)]) ∧ KN w w' v' (K.add xs k) ∧ Below w.heap.size w w' := by
  obtain ⟨A, c, rfl, hr, hc⟩ := kx_rh h
  refine (a_add w w.heap.size xs.length c A (iz xs) (k : Int) (iz_len xs).symm hr (iz_up hu) (Nat.le_refl _) hc few).mono ?_
  rintro e w' ⟨val, zs, rfl, h1, h2, h3, h4, h5⟩
  rw [mem_fo hu]
  refine ⟨val, rfl, KN.of h4 (iz_back h1 (K.add_up hu k) fun x => ?_), h5⟩
  rw [h2 x, iz_mem, iz_mem]
  constructor
  · rintro (⟨j, hj, rfl⟩ | rfl)
    · exact ⟨j, (K.add_mem hu k j).2 (.inr hj), rfl⟩
    · exact ⟨k, (K.add_mem hu k k).2 (.inl rfl), rfl⟩
  · rintro ⟨j, hj, rfl⟩
    rcases (K.add_mem hu k j).1 hj with rfl | hj
    · exact .inr rfl
    · exact .inl ⟨j, hj, rfl⟩
theorem b_drop : Calls Try.prog 12 #[v, .int .u64 (k : Int)] w fun e w' => ∃ v', e = .returned (.tuple #[v', .bool (K.fo xs k)]) ∧ KN w w' v' (K.drop xs k) ∧ Below w.heap.size w w' := by
  obtain ⟨A, c, rfl, hr, hc⟩ := kx_rh h
  refine (a_drop w w.heap.size xs.length c A (iz xs) (k : Int) (iz_len xs).symm hr (iz_up hu) (Nat.le_refl _) hc few).mono ?_
  rintro e w' ⟨val, zs, rfl, h1, h2, h3, h4, h5⟩
  rw [mem_fo hu]
  refine ⟨val, rfl, KN.of h4 (iz_back h1 (K.drop_up hu k) fun x => ?_), h5⟩
  rw [h2 x, iz_mem, iz_mem]
  constructor
  · rintro ⟨⟨j, hj, rfl⟩, hne⟩
    exact ⟨j, (K.drop_mem hu k j).2 ⟨fun e => hne (by rw [e]), hj⟩, rfl⟩
  · rintro ⟨j, hj, rfl⟩
    obtain ⟨a, b⟩ := (K.drop_mem hu k j).1 hj
    exact ⟨⟨j, b, rfl⟩, fun e => a (by omega)⟩
end
set_option maxHeartbeats 2000000 in
theorem b_at_no (w : World) (v : Value) (xs : List Nat) (h : KX w v xs) (i : Int) (hi : i < 0 ∨ (xs.length : Int) ≤ i) :
    Calls Try.prog 26 #[v, .int .i64 i] w fun e w' => e = .returned (.tuple #[.int .u64 0, .bool false]) ∧ w = w' := by
  obtain ⟨A, c, rfl, hr, hc⟩ := kx_rh h
  clear h hr
  rcases Int.lt_or_le i 0 with h0 | h0
  · have hd : decide (i < 0) = true := decide_eq_true h0
    go_enter Try.func26, Try.ntmps26
    go_wp2
    go_ret2
    exact ⟨rfl, rfl⟩
  · obtain ⟨j, rfl⟩ : ∃ j : Nat, i = (j : Int) := ⟨i.toNat, by omega⟩
    have hd : decide ((j : Int) < 0) = false := decide_eq_false (by omega)
    have hd2 : decide ((xs.length : Int) ≤ (j : Int)) = true := decide_eq_true (by omega)
    have hd3 : decide (xs.length ≤ j) = true := decide_eq_true (by omega)
    go_enter Try.func26, Try.ntmps26
    go_wp2
    go_ret2
    exact ⟨rfl, rfl⟩
set_option maxHeartbeats 2000000 in
theorem b_at_yes (w : World) (v : Value) (xs : List Nat) (h : KX w v xs) (j : Nat) (hj : j < xs.length) :
    Calls Try.prog 26 #[v, .int .i64 (j : Int)] w fun e w' => e = .returned (.tuple #[.int .u64 (xs[j] : Nat), .bool true]) ∧ w = w' := by
  rcases h.form with ⟨rfl, rfl⟩ | ⟨g, c, rfl, hc, hg, hcells⟩
  · simp at hj
  · have c0 := hcells j hj
    generalize xs[j] = a at *
    clear hcells h
    generalize xs.length = n at *
    have hd : decide ((j : Int) < 0) = false := decide_eq_false (by omega)
    have hd2 : decide ((n : Int) ≤ (j : Int)) = false := decide_eq_false (by omega)
    have hd3 : decide (n ≤ j) = false := decide_eq_false (by omega)
    go_enter Try.func26, Try.ntmps26
    go_wp2
    go_ret2
    exact ⟨rfl, rfl⟩
section
variable (w : World) (v : Value) (xs : List Nat) (h : KX w v xs) (hu : K.Up xs) (few : xs.length ≤ 1000000) (k : Nat)
include h hu few
set_option maxHeartbeats 2000000 in
theorem b_next : Calls Try.prog 13 #[v, .int .u64 (k : Int)] w fun e w' => e = .returned (.tuple #[.int .u64 (K.nx xs k : Nat), .bool (K.nxb xs k)]) ∧ w = w' := by
  have H := Lib.hid (b_search w v xs h hu few k)
  have H2 : Hid (Calls Try.prog 26 #[v, .int .i64 (K.fi xs k : Nat)] w fun e w' => e = .returned (.tuple #[.int .u64 (K.nx xs k : Nat), .bool (K.nxb xs k)]) ∧ w = w') := Lib.hid (by
    unfold K.nx K.nxb
    by_cases hF : K.fi xs k < xs.length
    · rw [decide_eq_true hF, List.getElem?_eq_getElem hF]
      exact b_at_yes w v xs h _ hF
    · rw [decide_eq_false hF, List.getElem?_eq_none (by omega)]
      exact b_at_no w v xs h _ (.inr (by omega)))
  clear h hu few
  generalize K.fi xs k = F at *
  go_enter Try.func13, Try.ntmps13
  go_wp2_with (first
    | (go_at_call 24; (with_reducible refine H.out.mono ?_); rintro e w' ⟨rfl, rfl⟩)
    | (go_at_call 26; (with_reducible refine H2.out.mono ?_); rintro e w' ⟨rfl, rfl⟩))
  go_ret2
  exact ⟨rfl, rfl⟩
set_option maxHeartbeats 2000000 in
theorem b_prev : Calls Try.prog 15 #[v, .int .u64 (k : Int)] w fun e w' => e = .returned (.tuple #[.int .u64 (K.pv xs k : Nat), .bool (K.pvb xs k)]) ∧ w = w' := by
  have H := Lib.hid (b_search w v xs h hu few k)
  cases hG : K.fo xs k with
  | true =>
    obtain ⟨hF, hk⟩ := K.fo_lt hG
    have H2 : Hid (Calls Try.prog 26 #[v, .int .i64 (K.fi xs k : Nat)] w fun e w' => e = .returned (.tuple #[.int .u64 (K.pv xs k : Nat), .bool (K.pvb xs k)]) ∧ w = w') := Lib.hid (by
      have e1 : K.pv xs k = xs[K.fi xs k] := by unfold K.pv; rw [hG, if_pos rfl, hk]
      have e2 : K.pvb xs k = true := by unfold K.pvb; rw [hG]; rfl
      rw [e1, e2]
      exact b_at_yes w v xs h _ hF)
    rw [hG] at H
    clear h hu few hk hF hG
    generalize K.fi xs k = F at *
    go_enter Try.func15, Try.ntmps15
    go_wp2_with (first
      | (go_at_call 24; (with_reducible refine H.out.mono ?_); rintro e w' ⟨rfl, rfl⟩)
      | (go_at_call 26; (with_reducible refine H2.out.mono ?_); rintro e w' ⟨rfl, rfl⟩))
    go_ret2
    exact ⟨rfl, rfl⟩
  | false =>
    have hle := K.fi_le xs k
    obtain ⟨q, hq⟩ : ∃ q : Int, ((K.fi xs k : Nat) : Int) - 1 = q := ⟨_, rfl⟩
    have H2 : Hid (Calls Try.prog 26 #[v, .int .i64 q] w fun e w' => e = .returned (.tuple #[.int .u64 (K.pv xs k : Nat), .bool (K.pvb xs k)]) ∧ w = w') := Lib.hid (by
      unfold K.pv K.pvb
      rw [hG]
      by_cases hF : K.fi xs k = 0
      · rw [if_neg (by decide), if_pos hF, decide_eq_true hF]
        exact b_at_no w v xs h _ (.inl (by omega))
      · rw [if_neg (by decide), if_neg hF, decide_eq_false hF, List.getElem?_eq_getElem (show K.fi xs k - 1 < xs.length by omega)]
        obtain rfl : q = ((K.fi xs k - 1 : Nat) : Int) := by omega
        exact b_at_yes w v xs h _ (by omega))
    rw [hG] at H
    have hw : IntKind.i64.wrap (((K.fi xs k : Nat) : Int) - 1) = q := by rw [hq]; exact IntWalk.i64_in _ (by omega)
    clear h hu few hG hq hle
    generalize K.fi xs k = F at *
    go_enter Try.func15, Try.ntmps15
    go_wp2_with (first
      | (go_at_call 24; (with_reducible refine H.out.mono ?_); rintro e w' ⟨rfl, rfl⟩)
      | (go_at_call 26; (with_reducible refine H2.out.mono ?_); rintro e w' ⟨rfl, rfl⟩))
    go_ret2
    exact ⟨rfl, rfl⟩
end
end Go.Proofs.Ytepnjolldbgglaa.Kb
