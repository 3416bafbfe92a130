/- slices.IndexFunc and slices.DeleteFunc over a row of 16-bit numbers of one's own, for the functions that join hands over. slices.MinFunc and ContainsFunc over pointers, by what the functions answer; cmp.Compare of ints. -/
import Derived.Lib.SliceRun
import Derived.Lib.Small
import Derived.Test.YtkehehfphccpbaaGreatDoorMgBr
import Derived.Test.YtkehehfphccpbaaGreatDoorMgBu
import Derived.Test.YtkehehfphccpbaaGreatDoorMgAb
section
namespace Go.Proofs.YtkehehfphccpbaaGreatDoor
set_option maxRecDepth 40000
open Go.RowKit
/-- The first that is met, or none. -/
def Idx (p : Int → Bool) (xs : List Int) (i : Int) : Prop := (i = -1 ∧ ∀ x ∈ xs, p x = false) ∨ ∃ k, ∃ h : k < xs.length, i = (k : Int) ∧ p xs[k] = true ∧ ∀ x ∈ xs.take k, p x = false
theorem own_setH {w : World} {base g n cap j : Nat} {xs : List Value} {u : Value} (h : w.ownsRow base 35 1 (.slice (some ⟨g, 0, none⟩) n cap) n xs) : (w.setCell ⟨g, j, none⟩ u).ownsRow base 35 1 (.slice (some ⟨g, 0, none⟩) n cap) n (xs.set j u) := by
  rcases h.2 with ⟨h1, _⟩ | ⟨g', cap', cur, h1, h2, h3, h4, h5, h6, h7⟩
  · cases h1
  · cases h1
    refine ⟨by rw [List.length_set]; exact h.1, .inr ⟨g, cap, cur.setIfInBounds j u, rfl, h2, ?_, h4, h5, by rw [Array.size_setIfInBounds]; exact h6, ?_⟩⟩
    · simp [World.setCell, Array.getElem?_modify, h3]
    · rw [Array.toList_setIfInBounds, List.take_set, h7]
theorem hv_set (xs : List Int) (j : Nat) (x : Int) : (hv xs).set j (.int .u16 x) = hv (xs.set j x) := by
  unfold hv
  rw [List.map_set]
theorem own_atH {w : World} {base g n cap : Nat} {xs : List Int} (h : w.ownsRow base 35 1 (.slice (some ⟨g, 0, none⟩) n cap) n (hv xs)) {j : Nat} (hj : j < xs.length) : w.cell? ⟨g, j, none⟩ = some (.int .u16 xs[j]) ∧ w.frozen? ⟨g, j, none⟩ = false := by
  rcases h.2 with ⟨h1, _⟩ | ⟨g', cap', cur, h1, h2, h3, h4, h5, h6, h7⟩
  · cases h1
  · cases h1
    refine ⟨?_, by simp [World.frozen?, h3]⟩
    have hl : xs.length = n * 1 := by have := h.1; simpa [hv] using this
    have e : cur.toList[j]? = (hv xs)[j]? := by rw [← h7, List.getElem?_take, if_pos (by omega)]
    rw [cell_of_row _ _ _ _ _ (0, 0) h3]
    rw [Array.getElem?_toList] at e
    rw [e]
    simp [hv, hj]
theorem own_clearH {base g cap n : Nat} : ∀ (zs : List Value) (i : Nat) (w : World) (xs : List Value), w.ownsRow base 35 1 (.slice (some ⟨g, 0, none⟩) n cap) n xs →
    (∃ ys, (w.setCells g i zs).ownsRow base 35 1 (.slice (some ⟨g, 0, none⟩) n cap) n ys ∧ ys.take i = xs.take i) ∧ ButS w (w.setCells g i zs) (fun j => j = g)
  | [], i, w, xs, h => ⟨⟨xs, h, rfl⟩, ButS.refl _ _⟩
  | v :: r, i, w, xs, h => by
    obtain ⟨⟨ys, h1, h2⟩, h3⟩ := own_clearH r (i + 1) _ _ (own_setH (j := i) (u := v) h)
    refine ⟨⟨ys, h1, ?_⟩, (but_set' w g i v (fun j => j = g) rfl).trans h3⟩
    have h4 : ys.take i = (ys.take (i + 1)).take i := by rw [List.take_take, Nat.min_eq_left (Nat.le_succ i)]
    rw [h4, h2, List.take_take, Nat.min_eq_left (Nat.le_succ i), List.take_set_of_le (Nat.le_refl i)]
/-- What DeleteFunc keeps as it goes. -/
structure DI (p : Int → Bool) (xs cs : List Int) (i j : Nat) : Prop where
  len : cs.length = xs.length
  front : cs.take i = (xs.take j).filter (fun x => !p x)
  rest : ∀ t, j ≤ t → cs[t]? = xs[t]?
  lt : i < j
  le : j ≤ xs.length
theorem DI.start {p : Int → Bool} {xs : List Int} {k : Nat} (hk : k < xs.length) (h1 : p xs[k] = true) (h2 : ∀ x ∈ xs.take k, p x = false) : DI p xs xs k (k + 1) := by
  refine ⟨rfl, ?_, fun _ _ => rfl, by omega, hk⟩
  rw [List.take_succ_eq_append_getElem hk, List.filter_append, List.filter_eq_self.2 (fun x hx => by rw [h2 x hx]; rfl)]
  simp [h1]
theorem DI.at {p : Int → Bool} {xs cs : List Int} {i j : Nat} (d : DI p xs cs i j) (hj : j < xs.length) : ∃ h : j < cs.length, cs[j] = xs[j] := by
  have hl : j < cs.length := by rw [d.len]; exact hj
  refine ⟨hl, ?_⟩
  have := d.rest j (Nat.le_refl j)
  rw [List.getElem?_eq_getElem hl, List.getElem?_eq_getElem hj] at this
  exact Option.some.inj this
theorem DI.skip {p : Int → Bool} {xs cs : List Int} {i j : Nat} (d : DI p xs cs i j) (hj : j < xs.length) (h : p xs[j] = true) : DI p xs cs i (j + 1) := by
  refine ⟨d.len, ?_, fun t ht => d.rest t (by omega), by have := d.lt; omega, hj⟩
  rw [List.take_succ_eq_append_getElem hj, List.filter_append, d.front]
  simp [h]
theorem DI.keep {p : Int → Bool} {xs cs : List Int} {i j : Nat} (d : DI p xs cs i j) (hj : j < xs.length) (h : p xs[j] = false) : DI p xs (cs.set i xs[j]) (i + 1) (j + 1) := by
  have hlt := d.lt
  have hil : i < cs.length := by rw [d.len]; omega
  refine ⟨by rw [List.length_set]; exact d.len, ?_, fun t ht => by rw [List.getElem?_set_ne (by omega)]; exact d.rest t (by omega), by omega, hj⟩
  have hil2 : i < (cs.set i xs[j]).length := by rw [List.length_set]; exact hil
  rw [List.take_succ_eq_append_getElem hil2, List.take_set_of_le (Nat.le_refl i), d.front, List.getElem_set_self, List.take_succ_eq_append_getElem hj, List.filter_append]
  simp [h]
theorem DI.len_i {p : Int → Bool} {xs cs : List Int} {i j : Nat} (d : DI p xs cs i j) : i ≤ cs.length := by have := d.lt; have := d.le; rw [d.len]; omega
theorem filter_none {p : Int → Bool} {xs : List Int} (h : ∀ x ∈ xs, p x = false) : xs.filter (fun x => !p x) = xs := List.filter_eq_self.2 (fun x hx => by rw [h x hx]; rfl)
set_option maxHeartbeats 4000000 in
theorem idx_has (w : World) (B n c : Nat) (U : Option Addr) (xs : List Int) (p : Int → Bool) (hn : n = xs.length) (hr : Rh w B U xs) (hB : B ≤ w.heap.size) (hx : ∀ y ∈ xs, 0 ≤ y ∧ y ≤ 65535) (few : n ≤ 1000000) (po : Option Addr)
    (hp : ∀ W (x : Int), Below w.heap.size w W → 0 ≤ x → x ≤ 65535 → Calls Tryz.prog 27 #[.pointer po, .int .u16 x] W fun e w' => e = .returned (.bool (p x)) ∧ Below W.heap.size W w') :
    Calls Tryz.prog 68 #[.slice U n c, .func (.func 27) #[.pointer po] #[]] w fun e w' => ∃ i : Int, e = .returned (.int .i64 i) ∧ Idx p xs i ∧ Below w.heap.size w w' := by
  have HP := Lib.hid hp
  have HR := Lib.hid hr
  have HX := Lib.hid hx
  subst hn
  clear hp hr hx
  go_enter Tryz.func68, Tryz.ntmps68
  go_wp2
  go_loopw [8] (fun vi wr => ∃ k : Nat, k ≤ xs.length ∧ vi = .int .i64 (k : Int) ∧ Hid (∀ x ∈ xs.take k, p x = false) ∧ Hid (Below w.heap.size w wr)) (fun vi _ => xs.length - (intOf vi).toNat)
  case atStart => exact ⟨0, Nat.zero_le _, rfl, Lib.hid (by simp), Lib.hid (Below.refl _ _)⟩
  case round =>
    obtain ⟨k, hk, rfl, HN, HW⟩ := hrel
    by_cases hlt : k < xs.length
    · have hT2 : decide (k < xs.length) = true := decide_eq_true hlt
      have hT3 : decide ((k : Int) < (xs.length : Int)) = true := decide_eq_true (by omega)
      obtain ⟨b, off, rfl, hb, hc⟩ := (HR.out.below HW.out hB).at hlt
      have hxk := HX.out xs[k] (List.getElem_mem hlt)
      have HT : Hid (xs.take (k + 1) = xs.take k ++ [xs[k]]) := Lib.hid (List.take_succ_eq_append_getElem hlt)
      have HKE := Lib.hid (⟨hlt, rfl⟩ : ∃ h : k < xs.length, xs[k] = xs[k])
      obtain ⟨x, hxe⟩ : ∃ x, xs[k] = x := ⟨_, rfl⟩
      have HE : Hid (∃ h : k < xs.length, xs[k] = x) := Lib.hid ⟨hlt, hxe⟩
      rw [hxe] at hc hxk HT
      clear hxe HKE
      have hcall := HP.out wr x HW.out hxk.1 hxk.2
      cases hq : p x
      · rw [hq] at hcall
        have HC := Lib.hid hcall
        have HQ := Lib.hid hq
        clear hcall hq
        go_wp2_with (go_at_call 27; (with_reducible refine HC.out.mono ?_); rintro e w1 ⟨rfl, hb1⟩; have HB1 := Lib.hid hb1; clear hb1)
        go_roundw
        case rel => exact ⟨k + 1, by omega, by go_num, Lib.hid (fun y hy => by
          rw [HT.out] at hy
          rcases List.mem_append.1 hy with h | h
          · exact HN.out y h
          · rw [List.mem_singleton.1 h]; exact HQ.out), Lib.hid (HW.out.trans (HB1.out.mono HW.out.size))⟩
        case measure => simp [intOf]; omega
      · rw [hq] at hcall
        have HC := Lib.hid hcall
        have HQ := Lib.hid hq
        clear hcall hq
        go_wp2_with (go_at_call 27; (with_reducible refine HC.out.mono ?_); rintro e w1 ⟨rfl, hb1⟩; have HB1 := Lib.hid hb1; clear hb1)
        go_ret
        obtain ⟨h, he⟩ := HE.out
        exact ⟨(k : Int), rfl, .inr ⟨k, h, rfl, by rw [he]; exact HQ.out, HN.out⟩, HW.out.trans (HB1.out.mono HW.out.size)⟩
    · have hT2 : decide (k < xs.length) = false := decide_eq_false hlt
      have hT3 : decide ((k : Int) < (xs.length : Int)) = false := decide_eq_false (by omega)
      have hall : Hid (∀ x ∈ xs, p x = false) := Lib.hid (by have h := HN.out; rw [List.take_of_length_le (by omega)] at h; exact h)
      go_wp2
      go_ret
      exact ⟨-1, rfl, .inl ⟨rfl, hall.out⟩, HW.out⟩
set_option maxHeartbeats 8000000 in
theorem del_has (w : World) (base : Nat) (v0 : Value) (xs : List Int) (p : Int → Bool) (ho : w.ownsRow base 35 1 v0 xs.length (hv xs)) (hx : ∀ y ∈ xs, 0 ≤ y ∧ y ≤ 65535) (few : xs.length ≤ 1000000) (po : Option Addr)
    (hp : ∀ W (x : Int), ButS w W (fun j => v0.ownBlock = some j) → 0 ≤ x → x ≤ 65535 → Calls Tryz.prog 27 #[.pointer po, .int .u16 x] W fun e w' => e = .returned (.bool (p x)) ∧ Below W.heap.size W w') :
    Calls Tryz.prog 40 #[v0, .func (.func 27) #[.pointer po] #[]] w fun e w' => ∃ u, e = .returned u ∧ w'.ownsRow base 35 1 u (xs.filter (fun x => !p x)).length (hv (xs.filter (fun x => !p x))) ∧ ButS w w' (fun j => v0.ownBlock = some j) := by
  obtain ⟨U, c, rfl, hr, _⟩ := Rh.of_own ho
  have HI := Lib.hid (idx_has w w.heap.size xs.length c U xs p rfl hr (Nat.le_refl _) hx few po (fun W x hW h1 h2 => hp W x (ButS.of_below hW (Nat.le_refl _)) h1 h2))
  have HP := Lib.hid hp
  have HO := Lib.hid ho
  have HX := Lib.hid hx
  have hcap := own_cap ho U c rfl
  have hnil : Hid (0 < xs.length → ∃ g, U = some ⟨g, 0, none⟩) := Lib.hid (fun h => own_some ho h)
  clear hp ho hx hr
  go_enter Tryz.func40, Tryz.ntmps40
  go_wp2_with (go_at_call 68; (with_reducible refine HI.out.mono ?_); rintro e w1 ⟨i, rfl, hi, hb1⟩; have HI1 := Lib.hid hi; have HB1 := Lib.hid hb1; clear hi hb1 HI)
  · rcases HI1.out with ⟨_, h⟩ | ⟨k, hk, e, _⟩
    · have hB := ButS.of_below (S := fun j => (Value.slice U xs.length c).ownBlock = some j) HB1.out (Nat.le_refl _)
      go_ret
      refine ⟨_, rfl, ?_, hB⟩
      rw [filter_none h]
      exact (ButS.of_below (S := fun _ => False) HB1.out (Nat.le_refl _)).own HO.out (fun _ _ h => h)
    · exfalso
      subst e
      simp at *
  · rcases HI1.out with ⟨e, h⟩ | ⟨k0, hk0, e, h1, h2⟩
    · exfalso
      subst e
      simp at *
    · subst e
      have hDI := Lib.hid (DI.start hk0 h1 h2)
      clear h1 h2 HI1
      obtain ⟨g, rfl⟩ := hnil.out (by omega)
      have HO1 : Hid (w1.ownsRow base 35 1 (.slice (some ⟨g, 0, none⟩) xs.length c) xs.length (hv xs)) := Lib.hid ((ButS.of_below (S := fun _ => False) HB1.out (Nat.le_refl _)).own HO.out (fun _ _ h => h))
      have HBU1 : Hid (ButS w w1 (fun j => j = g)) := Lib.hid (ButS.of_below HB1.out (Nat.le_refl _))
      have HP2 : Hid (∀ W (x : Int), ButS w W (fun j => j = g) → 0 ≤ x → x ≤ 65535 → Calls Tryz.prog 27 #[.pointer po, .int .u16 x] W fun e w' => e = .returned (.bool (p x)) ∧ Below W.heap.size W w') := Lib.hid (fun W x hW h1 h2 => HP.out W x (hW.mono (fun j _ e => by rw [e]; rfl)) h1 h2)
      clear HP HB1 hnil
      have hne1 : ((k0 : Int) == -1) = false := beq_eq_false_iff_ne.2 (by omega)
      have wk1 : wrap64 ((k0 : Int) + 1) = (k0 : Int) + 1 := by unfold wrap64; omega
      simp only [hne1, wk1]
      go_loopw [5, 6, 7] (fun vi vj _ wr => ∃ (i j : Nat) (cs : List Int), vi = .int .i64 (i : Int) ∧ vj = .int .i64 (j : Int) ∧ i < j ∧ j ≤ xs.length ∧ Hid (DI p xs cs i j) ∧ Hid (wr.ownsRow base 35 1 (.slice (some ⟨g, 0, none⟩) xs.length c) xs.length (hv cs)) ∧ Hid (ButS w wr (fun j => j = g))) (fun _ vj _ _ => xs.length - (intOf vj).toNat)
      case atStart => exact ⟨k0, k0 + 1, xs, rfl, by go_num, by omega, by omega, hDI, HO1, HBU1⟩
      case round =>
        obtain ⟨i, j, cs, rfl, rfl, hij, hjn, HD, HOW, HBU⟩ := hrel
        by_cases hlt : j < xs.length
        · have hT2 : decide (j < xs.length) = true := decide_eq_true hlt
          have hT3 : decide ((j : Int) < (xs.length : Int)) = true := decide_eq_true (by omega)
          obtain ⟨hjl, hje⟩ := HD.out.at hlt
          have hcj := (own_atH HOW.out hjl).1
          have hil : i < cs.length := by rw [HD.out.len]; omega
          obtain ⟨hci, hfi⟩ := own_atH HOW.out hil
          have hxj := HX.out xs[j] (List.getElem_mem hlt)
          obtain ⟨x, hxe⟩ : ∃ x, xs[j] = x := ⟨_, rfl⟩
          have HXE : Hid (∃ h : j < xs.length, xs[j] = x) := Lib.hid ⟨hlt, hxe⟩
          rw [hje, hxe] at hcj
          rw [hxe] at hxj
          obtain ⟨ci, hcie⟩ : ∃ ci, cs[i] = ci := ⟨_, rfl⟩
          rw [hcie] at hci
          clear hxe hje hcie hjl hil
          have hcall := HP2.out wr x HBU.out hxj.1 hxj.2
          have wi : IntKind.i64.wrap ((i : Int) + 1) = (i : Int) + 1 := IntWalk.i64_in _ (by omega)
          have wj : IntKind.i64.wrap ((j : Int) + 1) = (j : Int) + 1 := IntWalk.i64_in _ (by omega)
          have hin : i < xs.length := by omega
          have hin2 : (i : Int) < (xs.length : Int) := by omega
          cases hq : p x
          · rw [hq] at hcall
            have HC := Lib.hid hcall
            have HQ := Lib.hid hq
            clear hcall hq
            go_wp2_with (go_at_call 27; (with_reducible refine HC.out.mono ?_); rintro e w2 ⟨rfl, hb2⟩
                         have HB2 := Lib.hid hb2
                         have HO2 : Hid (w2.ownsRow base 35 1 (.slice (some ⟨g, 0, none⟩) xs.length c) xs.length (hv cs)) := Lib.hid ((ButS.of_below (S := fun _ => False) hb2 (Nat.le_refl _)).own HOW.out (fun _ _ h => h))
                         have hci2 := (own_atH HO2.out (j := i) (by rw [HD.out.len]; omega)).1
                         have hfi2 := (own_atH HO2.out (j := i) (by rw [HD.out.len]; omega)).2
                         clear hb2 hci hfi hcj)
            go_roundw
            case rel =>
              obtain ⟨h5, h6⟩ := HXE.out
              refine ⟨i + 1, j + 1, cs.set i x, by go_num, by go_num, by omega, by omega, Lib.hid (by have := HD.out.keep h5 (by rw [h6]; exact HQ.out); rw [h6] at this; exact this), Lib.hid (by rw [← hv_set]; exact own_setH HO2.out), Lib.hid ((HBU.out.trans (ButS.of_below HB2.out (Nat.le_refl _))).trans (but_set' _ g i _ _ rfl))⟩
            case measure => simp [intOf]; omega
          · rw [hq] at hcall
            have HC := Lib.hid hcall
            have HQ := Lib.hid hq
            clear hcall hq
            go_wp2_with (go_at_call 27; (with_reducible refine HC.out.mono ?_); rintro e w2 ⟨rfl, hb2⟩
                         have HB2 := Lib.hid hb2
                         have HO2 : Hid (w2.ownsRow base 35 1 (.slice (some ⟨g, 0, none⟩) xs.length c) xs.length (hv cs)) := Lib.hid ((ButS.of_below (S := fun _ => False) hb2 (Nat.le_refl _)).own HOW.out (fun _ _ h => h))
                         clear hb2 hci hfi hcj)
            go_roundw
            case rel =>
              obtain ⟨h5, h6⟩ := HXE.out
              exact ⟨i, j + 1, cs, rfl, by go_num, by omega, by omega, Lib.hid (HD.out.skip h5 (by rw [h6]; exact HQ.out)), HO2, Lib.hid (HBU.out.trans (ButS.of_below HB2.out (Nat.le_refl _)))⟩
            case measure => simp [intOf]; omega
        · obtain rfl : j = xs.length := by omega
          have hT2 : decide (xs.length < xs.length) = false := decide_eq_false hlt
          have hT3 : decide ((xs.length : Int) < (xs.length : Int)) = false := decide_eq_false (by omega)
          have hcl : ∀ ty, (Builtin.clear_ #[37] ty #[.slice (some ⟨g, i, none⟩) (xs.length - i) (c - i)]).run Tryz.prog wr = .ok (.tuple #[]) (wr.setCells g i (List.replicate (xs.length - i) (.int .u16 0))) := fun ty =>
            Lib.run_clear_slice wr 37 35 ty (.int .u16 0) Tryz.underlying37 Tryz.zeroValue35 rfl rfl g i _ _ (by omega)
              (fun t ht => by rw [(own_atH HOW.out (j := i + t) (by rw [HD.out.len]; omega)).1]; rfl) (fun t ht => (own_atH HOW.out (j := i + t) (by rw [HD.out.len]; omega)).2)
          have hcA : A.cutA (some ⟨g, 0, none⟩) i c = some ⟨g, i, none⟩ := by
            unfold A.cutA
            first
              | (rw [if_neg (by omega)]; simp [add_offB])
              | simp [add_offB]
          obtain ⟨l1, l2⟩ := A.cut_l (some ⟨g, 0, none⟩) xs.length c i (i : Int) rfl (by omega)
          rw [hcA] at l1 l2
          obtain ⟨h1, h2⟩ := A.cut_h (some ⟨g, 0, none⟩) xs.length c i (i : Int) rfl (by omega) hcap
          obtain ⟨⟨ys, hy1, hy2⟩, hy3⟩ := own_clearH (List.replicate (xs.length - i) (.int .u16 0)) i wr (hv cs) HOW.out
          have HY := Lib.hid (And.intro hy1 (And.intro hy2 hy3))
          clear hy1 hy2 hy3
          generalize List.replicate (xs.length - i) (Value.int .u16 0) = zz at *
          go_wp2
          go_ret
          obtain ⟨hy1, hy2, hy3⟩ := HY.out
          have hF := HD.out.front
          rw [List.take_of_length_le (Nat.le_refl xs.length)] at hF
          have hlen : (xs.filter (fun x => !p x)).length = i := by rw [← hF, List.length_take, Nat.min_eq_left HD.out.len_i]
          refine ⟨_, rfl, ?_, (HBU.out.trans hy3).mono (fun j _ e => by rw [e]; rfl)⟩
          rw [hlen, ← hF]
          have h9 := own_cut hy1 (k := i) (by omega)
          rw [Nat.mul_one, hy2] at h9
          have e9 : hv (cs.take i) = (hv cs).take i := by unfold hv; rw [List.map_take]
          rw [e9]
          exact h9
set_option maxHeartbeats 4000000 in
theorem idx_com (w : World) (B n c : Nat) (U : Option Addr) (xs : List Int) (p : Int → Bool) (hn : n = xs.length) (hr : Rh w B U xs) (hB : B ≤ w.heap.size) (hx : ∀ y ∈ xs, 0 ≤ y ∧ y ≤ 65535) (few : n ≤ 1000000) (pl pf : Option Addr)
    (hp : ∀ W (x : Int), Below w.heap.size w W → 0 ≤ x → x ≤ 65535 → Calls Tryz.prog 65 #[.int .u16 x, .pointer pl, .pointer pf] W fun e w' => e = .returned (.bool (p x)) ∧ Below W.heap.size W w') :
    Calls Tryz.prog 68 #[.slice U n c, .func (.func 65) #[] #[.pointer pl, .pointer pf]] w fun e w' => ∃ i : Int, e = .returned (.int .i64 i) ∧ Idx p xs i ∧ Below w.heap.size w w' := by
  have HP := Lib.hid hp
  have HR := Lib.hid hr
  have HX := Lib.hid hx
  subst hn
  clear hp hr hx
  go_enter Tryz.func68, Tryz.ntmps68
  go_wp2
  go_loopw [8] (fun vi wr => ∃ k : Nat, k ≤ xs.length ∧ vi = .int .i64 (k : Int) ∧ Hid (∀ x ∈ xs.take k, p x = false) ∧ Hid (Below w.heap.size w wr)) (fun vi _ => xs.length - (intOf vi).toNat)
  case atStart => exact ⟨0, Nat.zero_le _, rfl, Lib.hid (by simp), Lib.hid (Below.refl _ _)⟩
  case round =>
    obtain ⟨k, hk, rfl, HN, HW⟩ := hrel
    by_cases hlt : k < xs.length
    · have hT2 : decide (k < xs.length) = true := decide_eq_true hlt
      have hT3 : decide ((k : Int) < (xs.length : Int)) = true := decide_eq_true (by omega)
      obtain ⟨b, off, rfl, hb, hc⟩ := (HR.out.below HW.out hB).at hlt
      have hxk := HX.out xs[k] (List.getElem_mem hlt)
      have HT : Hid (xs.take (k + 1) = xs.take k ++ [xs[k]]) := Lib.hid (List.take_succ_eq_append_getElem hlt)
      have HKE := Lib.hid (⟨hlt, rfl⟩ : ∃ h : k < xs.length, xs[k] = xs[k])
      obtain ⟨x, hxe⟩ : ∃ x, xs[k] = x := ⟨_, rfl⟩
      have HE : Hid (∃ h : k < xs.length, xs[k] = x) := Lib.hid ⟨hlt, hxe⟩
      rw [hxe] at hc hxk HT
      clear hxe HKE
      have hcall := HP.out wr x HW.out hxk.1 hxk.2
      cases hq : p x
      · rw [hq] at hcall
        have HC := Lib.hid hcall
        have HQ := Lib.hid hq
        clear hcall hq
        go_wp2_with (go_at_call 65; (with_reducible refine HC.out.mono ?_); rintro e w1 ⟨rfl, hb1⟩; have HB1 := Lib.hid hb1; clear hb1)
        go_roundw
        case rel => exact ⟨k + 1, by omega, by go_num, Lib.hid (fun y hy => by
          rw [HT.out] at hy
          rcases List.mem_append.1 hy with h | h
          · exact HN.out y h
          · rw [List.mem_singleton.1 h]; exact HQ.out), Lib.hid (HW.out.trans (HB1.out.mono HW.out.size))⟩
        case measure => simp [intOf]; omega
      · rw [hq] at hcall
        have HC := Lib.hid hcall
        have HQ := Lib.hid hq
        clear hcall hq
        go_wp2_with (go_at_call 65; (with_reducible refine HC.out.mono ?_); rintro e w1 ⟨rfl, hb1⟩; have HB1 := Lib.hid hb1; clear hb1)
        go_ret
        obtain ⟨h, he⟩ := HE.out
        exact ⟨(k : Int), rfl, .inr ⟨k, h, rfl, by rw [he]; exact HQ.out, HN.out⟩, HW.out.trans (HB1.out.mono HW.out.size)⟩
    · have hT2 : decide (k < xs.length) = false := decide_eq_false hlt
      have hT3 : decide ((k : Int) < (xs.length : Int)) = false := decide_eq_false (by omega)
      have hall : Hid (∀ x ∈ xs, p x = false) := Lib.hid (by have h := HN.out; rw [List.take_of_length_le (by omega)] at h; exact h)
      go_wp2
      go_ret
      exact ⟨-1, rfl, .inl ⟨rfl, hall.out⟩, HW.out⟩
set_option maxHeartbeats 8000000 in
theorem del_com (w : World) (base : Nat) (v0 : Value) (xs : List Int) (p : Int → Bool) (ho : w.ownsRow base 35 1 v0 xs.length (hv xs)) (hx : ∀ y ∈ xs, 0 ≤ y ∧ y ≤ 65535) (few : xs.length ≤ 1000000) (pl pf : Option Addr)
    (hp : ∀ W (x : Int), ButS w W (fun j => v0.ownBlock = some j) → 0 ≤ x → x ≤ 65535 → Calls Tryz.prog 65 #[.int .u16 x, .pointer pl, .pointer pf] W fun e w' => e = .returned (.bool (p x)) ∧ Below W.heap.size W w') :
    Calls Tryz.prog 40 #[v0, .func (.func 65) #[] #[.pointer pl, .pointer pf]] w fun e w' => ∃ u, e = .returned u ∧ w'.ownsRow base 35 1 u (xs.filter (fun x => !p x)).length (hv (xs.filter (fun x => !p x))) ∧ ButS w w' (fun j => v0.ownBlock = some j) := by
  obtain ⟨U, c, rfl, hr, _⟩ := Rh.of_own ho
  have HI := Lib.hid (idx_com w w.heap.size xs.length c U xs p rfl hr (Nat.le_refl _) hx few pl pf (fun W x hW h1 h2 => hp W x (ButS.of_below hW (Nat.le_refl _)) h1 h2))
  have HP := Lib.hid hp
  have HO := Lib.hid ho
  have HX := Lib.hid hx
  have hcap := own_cap ho U c rfl
  have hnil : Hid (0 < xs.length → ∃ g, U = some ⟨g, 0, none⟩) := Lib.hid (fun h => own_some ho h)
  clear hp ho hx hr
  go_enter Tryz.func40, Tryz.ntmps40
  go_wp2_with (go_at_call 68; (with_reducible refine HI.out.mono ?_); rintro e w1 ⟨i, rfl, hi, hb1⟩; have HI1 := Lib.hid hi; have HB1 := Lib.hid hb1; clear hi hb1 HI)
  · rcases HI1.out with ⟨_, h⟩ | ⟨k, hk, e, _⟩
    · have hB := ButS.of_below (S := fun j => (Value.slice U xs.length c).ownBlock = some j) HB1.out (Nat.le_refl _)
      go_ret
      refine ⟨_, rfl, ?_, hB⟩
      rw [filter_none h]
      exact (ButS.of_below (S := fun _ => False) HB1.out (Nat.le_refl _)).own HO.out (fun _ _ h => h)
    · exfalso
      subst e
      simp at *
  · rcases HI1.out with ⟨e, h⟩ | ⟨k0, hk0, e, h1, h2⟩
    · exfalso
      subst e
      simp at *
    · subst e
      have hDI := Lib.hid (DI.start hk0 h1 h2)
      clear h1 h2 HI1
      obtain ⟨g, rfl⟩ := hnil.out (by omega)
      have HO1 : Hid (w1.ownsRow base 35 1 (.slice (some ⟨g, 0, none⟩) xs.length c) xs.length (hv xs)) := Lib.hid ((ButS.of_below (S := fun _ => False) HB1.out (Nat.le_refl _)).own HO.out (fun _ _ h => h))
      have HBU1 : Hid (ButS w w1 (fun j => j = g)) := Lib.hid (ButS.of_below HB1.out (Nat.le_refl _))
      have HP2 : Hid (∀ W (x : Int), ButS w W (fun j => j = g) → 0 ≤ x → x ≤ 65535 → Calls Tryz.prog 65 #[.int .u16 x, .pointer pl, .pointer pf] W fun e w' => e = .returned (.bool (p x)) ∧ Below W.heap.size W w') := Lib.hid (fun W x hW h1 h2 => HP.out W x (hW.mono (fun j _ e => by rw [e]; rfl)) h1 h2)
      clear HP HB1 hnil
      have hne1 : ((k0 : Int) == -1) = false := beq_eq_false_iff_ne.2 (by omega)
      have wk1 : wrap64 ((k0 : Int) + 1) = (k0 : Int) + 1 := by unfold wrap64; omega
      simp only [hne1, wk1]
      go_loopw [5, 6, 7] (fun vi vj _ wr => ∃ (i j : Nat) (cs : List Int), vi = .int .i64 (i : Int) ∧ vj = .int .i64 (j : Int) ∧ i < j ∧ j ≤ xs.length ∧ Hid (DI p xs cs i j) ∧ Hid (wr.ownsRow base 35 1 (.slice (some ⟨g, 0, none⟩) xs.length c) xs.length (hv cs)) ∧ Hid (ButS w wr (fun j => j = g))) (fun _ vj _ _ => xs.length - (intOf vj).toNat)
      case atStart => exact ⟨k0, k0 + 1, xs, rfl, by go_num, by omega, by omega, hDI, HO1, HBU1⟩
      case round =>
        obtain ⟨i, j, cs, rfl, rfl, hij, hjn, HD, HOW, HBU⟩ := hrel
        by_cases hlt : j < xs.length
        · have hT2 : decide (j < xs.length) = true := decide_eq_true hlt
          have hT3 : decide ((j : Int) < (xs.length : Int)) = true := decide_eq_true (by omega)
          obtain ⟨hjl, hje⟩ := HD.out.at hlt
          have hcj := (own_atH HOW.out hjl).1
          have hil : i < cs.length := by rw [HD.out.len]; omega
          obtain ⟨hci, hfi⟩ := own_atH HOW.out hil
          have hxj := HX.out xs[j] (List.getElem_mem hlt)
          obtain ⟨x, hxe⟩ : ∃ x, xs[j] = x := ⟨_, rfl⟩
          have HXE : Hid (∃ h : j < xs.length, xs[j] = x) := Lib.hid ⟨hlt, hxe⟩
          rw [hje, hxe] at hcj
          rw [hxe] at hxj
          obtain ⟨ci, hcie⟩ : ∃ ci, cs[i] = ci := ⟨_, rfl⟩
          rw [hcie] at hci
          clear hxe hje hcie hjl hil
          have hcall := HP2.out wr x HBU.out hxj.1 hxj.2
          have wi : IntKind.i64.wrap ((i : Int) + 1) = (i : Int) + 1 := IntWalk.i64_in _ (by omega)
          have wj : IntKind.i64.wrap ((j : Int) + 1) = (j : Int) + 1 := IntWalk.i64_in _ (by omega)
          have hin : i < xs.length := by omega
          have hin2 : (i : Int) < (xs.length : Int) := by omega
          cases hq : p x
          · rw [hq] at hcall
            have HC := Lib.hid hcall
            have HQ := Lib.hid hq
            clear hcall hq
            go_wp2_with (go_at_call 65; (with_reducible refine HC.out.mono ?_); rintro e w2 ⟨rfl, hb2⟩
                         have HB2 := Lib.hid hb2
                         have HO2 : Hid (w2.ownsRow base 35 1 (.slice (some ⟨g, 0, none⟩) xs.length c) xs.length (hv cs)) := Lib.hid ((ButS.of_below (S := fun _ => False) hb2 (Nat.le_refl _)).own HOW.out (fun _ _ h => h))
                         have hci2 := (own_atH HO2.out (j := i) (by rw [HD.out.len]; omega)).1
                         have hfi2 := (own_atH HO2.out (j := i) (by rw [HD.out.len]; omega)).2
                         clear hb2 hci hfi hcj)
            go_roundw
            case rel =>
              obtain ⟨h5, h6⟩ := HXE.out
              refine ⟨i + 1, j + 1, cs.set i x, by go_num, by go_num, by omega, by omega, Lib.hid (by have := HD.out.keep h5 (by rw [h6]; exact HQ.out); rw [h6] at this; exact this), Lib.hid (by rw [← hv_set]; exact own_setH HO2.out), Lib.hid ((HBU.out.trans (ButS.of_below HB2.out (Nat.le_refl _))).trans (but_set' _ g i _ _ rfl))⟩
            case measure => simp [intOf]; omega
          · rw [hq] at hcall
            have HC := Lib.hid hcall
            have HQ := Lib.hid hq
            clear hcall hq
            go_wp2_with (go_at_call 65; (with_reducible refine HC.out.mono ?_); rintro e w2 ⟨rfl, hb2⟩
                         have HB2 := Lib.hid hb2
                         have HO2 : Hid (w2.ownsRow base 35 1 (.slice (some ⟨g, 0, none⟩) xs.length c) xs.length (hv cs)) := Lib.hid ((ButS.of_below (S := fun _ => False) hb2 (Nat.le_refl _)).own HOW.out (fun _ _ h => h))
                         clear hb2 hci hfi hcj)
            go_roundw
            case rel =>
              obtain ⟨h5, h6⟩ := HXE.out
              exact ⟨i, j + 1, cs, rfl, by go_num, by omega, by omega, Lib.hid (HD.out.skip h5 (by rw [h6]; exact HQ.out)), HO2, Lib.hid (HBU.out.trans (ButS.of_below HB2.out (Nat.le_refl _)))⟩
            case measure => simp [intOf]; omega
        · obtain rfl : j = xs.length := by omega
          have hT2 : decide (xs.length < xs.length) = false := decide_eq_false hlt
          have hT3 : decide ((xs.length : Int) < (xs.length : Int)) = false := decide_eq_false (by omega)
          have hcl : ∀ ty, (Builtin.clear_ #[37] ty #[.slice (some ⟨g, i, none⟩) (xs.length - i) (c - i)]).run Tryz.prog wr = .ok (.tuple #[]) (wr.setCells g i (List.replicate (xs.length - i) (.int .u16 0))) := fun ty =>
            Lib.run_clear_slice wr 37 35 ty (.int .u16 0) Tryz.underlying37 Tryz.zeroValue35 rfl rfl g i _ _ (by omega)
              (fun t ht => by rw [(own_atH HOW.out (j := i + t) (by rw [HD.out.len]; omega)).1]; rfl) (fun t ht => (own_atH HOW.out (j := i + t) (by rw [HD.out.len]; omega)).2)
          have hcA : A.cutA (some ⟨g, 0, none⟩) i c = some ⟨g, i, none⟩ := by
            unfold A.cutA
            first
              | (rw [if_neg (by omega)]; simp [add_offB])
              | simp [add_offB]
          obtain ⟨l1, l2⟩ := A.cut_l (some ⟨g, 0, none⟩) xs.length c i (i : Int) rfl (by omega)
          rw [hcA] at l1 l2
          obtain ⟨h1, h2⟩ := A.cut_h (some ⟨g, 0, none⟩) xs.length c i (i : Int) rfl (by omega) hcap
          obtain ⟨⟨ys, hy1, hy2⟩, hy3⟩ := own_clearH (List.replicate (xs.length - i) (.int .u16 0)) i wr (hv cs) HOW.out
          have HY := Lib.hid (And.intro hy1 (And.intro hy2 hy3))
          clear hy1 hy2 hy3
          generalize List.replicate (xs.length - i) (Value.int .u16 0) = zz at *
          go_wp2
          go_ret
          obtain ⟨hy1, hy2, hy3⟩ := HY.out
          have hF := HD.out.front
          rw [List.take_of_length_le (Nat.le_refl xs.length)] at hF
          have hlen : (xs.filter (fun x => !p x)).length = i := by rw [← hF, List.length_take, Nat.min_eq_left HD.out.len_i]
          refine ⟨_, rfl, ?_, (HBU.out.trans hy3).mono (fun j _ e => by rw [e]; rfl)⟩
          rw [hlen, ← hF]
          have h9 := own_cut hy1 (k := i) (by omega)
          rw [Nat.mul_one, hy2] at h9
          have e9 : hv (cs.take i) = (hv cs).take i := by unfold hv; rw [List.map_take]
          rw [e9]
          exact h9
end Go.Proofs.YtkehehfphccpbaaGreatDoor
end
section
namespace Go.Proofs.YtkehehfphccpbaaGreatDoor
set_option maxRecDepth 40000
open Go.RowKit
/-- The slice at U reads as these pointers. -/
def Pps (w : World) (U : Option Addr) (ps : List (Option Addr)) : Prop := ps ≠ [] → ∃ b off, U = some ⟨b, off, none⟩ ∧ b < w.heap.size ∧ ∀ (k : Nat) (h : k < ps.length), w.cell? ⟨b, off + k, none⟩ = some (.pointer ps[k])
theorem Pps.below {w w' : World} {U : Option Addr} {ps : List (Option Addr)} (h : Pps w U ps) (hb : Below w.heap.size w w') : Pps w' U ps := fun hne => by
  obtain ⟨b, off, rfl, hlt, hc⟩ := h hne
  exact ⟨b, off, rfl, Nat.lt_of_lt_of_le hlt hb.size, fun k hk => (hb.cell (p := ⟨b, off + k, none⟩) hlt).trans (hc k hk)⟩
theorem Pps.at {w : World} {U : Option Addr} {ps : List (Option Addr)} (h : Pps w U ps) {k : Nat} (hk : k < ps.length) : ∃ b off, U = some ⟨b, off, none⟩ ∧ b < w.heap.size ∧ w.cell? ⟨b, off + k, none⟩ = some (.pointer ps[k]) := by
  obtain ⟨b, off, rfl, hb, hc⟩ := h (by intro e; subst e; simp at hk)
  exact ⟨b, off, rfl, hb, hc k hk⟩
theorem nan_int (x : Int) (w : World) : Calls Tryz.prog 85 #[.int .i64 x] w fun e w' => e = .returned (.bool false) ∧ w = w' := by
  go_enter Tryz.func85, Tryz.ntmps85
  go_wp2
  go_ret
  exact ⟨by first | rfl | simp, rfl⟩
theorem cmp_int (x y : Int) (w : World) : Calls Tryz.prog 64 #[.int .i64 x, .int .i64 y] w fun e w' => (∃ c : Int, e = .returned (.int .i64 c)) ∧ w = w' := by
  rcases Int.lt_trichotomy x y with h | h | h
  · have d1 : decide (x < y) = true := decide_eq_true h
    clear h
    go_enter Tryz.func64, Tryz.ntmps64
    go_wp2_with (go_at_call 85; (with_reducible refine (nan_int _ _).mono ?_); rintro e w' ⟨rfl, rfl⟩)
    refine bodyPost_ret (results_tmp (t := 4) rfl _ _ _) rfl ?_
    exact ⟨⟨_, rfl⟩, rfl⟩
  · subst h
    have d1 : decide (x < x) = false := decide_eq_false (by omega)
    go_enter Tryz.func64, Tryz.ntmps64
    go_wp2_with (go_at_call 85; (with_reducible refine (nan_int _ _).mono ?_); rintro e w' ⟨rfl, rfl⟩)
    refine bodyPost_ret (results_tmp (t := 4) rfl _ _ _) rfl ?_
    exact ⟨⟨_, rfl⟩, rfl⟩
  · have d1 : decide (x < y) = false := decide_eq_false (by omega)
    have d2 : decide (y < x) = true := decide_eq_true h
    clear h
    go_enter Tryz.func64, Tryz.ntmps64
    go_wp2_with (go_at_call 85; (with_reducible refine (nan_int _ _).mono ?_); rintro e w' ⟨rfl, rfl⟩)
    refine bodyPost_ret (results_tmp (t := 4) rfl _ _ _) rfl ?_
    exact ⟨⟨_, rfl⟩, rfl⟩
set_option maxHeartbeats 4000000 in
theorem min_any (w : World) (U : Option Addr) (c : Nat) (ps : List (Option Addr)) (hr : Pps w U ps) (h0 : 0 < ps.length) (few : ps.length ≤ 1000000)
    (hp : ∀ W p q, Below w.heap.size w W → p ∈ ps → q ∈ ps → Calls Tryz.prog 63 #[.pointer p, .pointer q] W fun e w' => ∃ c : Int, e = .returned (.int .i64 c) ∧ Below W.heap.size W w') :
    Calls Tryz.prog 62 #[.slice U ps.length c, .func (.func 63) #[] #[]] w fun e w' => ∃ p, p ∈ ps ∧ e = .returned (.pointer p) ∧ Below w.heap.size w w' := by
  have HP := Lib.hid hp
  have HR := Lib.hid hr
  obtain ⟨b, off, rfl, hb, hc0⟩ := hr.at h0
  rw [Nat.add_zero] at hc0
  have hm0 := List.getElem_mem h0
  obtain ⟨p0, hp0⟩ : ∃ p0, ps[0] = p0 := ⟨_, rfl⟩
  rw [hp0] at hc0 hm0
  have HM0 := Lib.hid hm0
  have hd1 : decide ((ps.length : Int) < 1) = false := decide_eq_false (by omega)
  have hd2 : decide (ps.length < 1) = false := decide_eq_false (by omega)
  have hi0 : (0 : Int) < (ps.length : Int) := by omega
  clear hp hr hp0 hm0
  go_enter Tryz.func62, Tryz.ntmps62
  go_wp2
  go_loopw [5, 6] (fun vm vi wr => ∃ (p : Option Addr) (k : Nat), vm = .pointer p ∧ vi = .int .i64 (k : Int) ∧ 1 ≤ k ∧ k ≤ ps.length ∧ Hid (p ∈ ps) ∧ Hid (Below w.heap.size w wr)) (fun _ vi _ => ps.length - (intOf vi).toNat)
  case atStart => exact ⟨p0, 1, rfl, rfl, Nat.le_refl _, h0, HM0, Lib.hid (Below.refl _ _)⟩
  case round =>
    obtain ⟨p, k, rfl, rfl, hk1, hk, HM, HW⟩ := hrel
    by_cases hlt : k < ps.length
    · have hT2 : decide (k < ps.length) = true := decide_eq_true hlt
      have hT3 : decide ((k : Int) < (ps.length : Int)) = true := decide_eq_true (by omega)
      obtain ⟨b', off', e, hbk, hck⟩ := (HR.out.below HW.out).at hlt
      cases e
      have hmk := List.getElem_mem hlt
      obtain ⟨q, hq⟩ : ∃ q, ps[k] = q := ⟨_, rfl⟩
      rw [hq] at hck hmk
      have HMK := Lib.hid hmk
      have HC := Lib.hid (HP.out wr q p HW.out hmk HM.out)
      have wk : IntKind.i64.wrap ((k : Int) + 1) = (k : Int) + 1 := IntWalk.i64_in _ (by omega)
      clear hq hmk hc0
      go_wp2_with (go_at_call 63; (with_reducible refine HC.out.mono ?_); rintro e w2 ⟨cc, rfl, hb2⟩
                   have HB2 := Lib.hid (HW.out.trans (hb2.mono HW.out.size))
                   have hck2 := (hb2.cell (p := ⟨b, off + k, none⟩) hbk).trans hck
                   clear hb2 hck)
      · go_roundw
        case rel => exact ⟨q, k + 1, rfl, by go_num, by omega, by omega, HMK, HB2⟩
        case measure => simp [intOf]; omega
      · go_roundw
        case rel => exact ⟨p, k + 1, rfl, by go_num, by omega, by omega, HM, HB2⟩
        case measure => simp [intOf]; omega
    · have hT2 : decide (k < ps.length) = false := decide_eq_false hlt
      have hT3 : decide ((k : Int) < (ps.length : Int)) = false := decide_eq_false (by omega)
      go_wp2
      go_ret
      exact ⟨p, HM.out, rfl, HW.out⟩
set_option maxHeartbeats 4000000 in
theorem idxp_any (w : World) (U : Option Addr) (c : Nat) (ps : List (Option Addr)) (f : Option Addr → Bool) (hr : Pps w U ps) (few : ps.length ≤ 1000000) (pf pv : Option Addr)
    (hp : ∀ W p, Below w.heap.size w W → p ∈ ps → Calls Tryz.prog 67 #[.pointer p, .pointer pf, .pointer pv] W fun e w' => e = .returned (.bool (f p)) ∧ Below W.heap.size W w') :
    Calls Tryz.prog 86 #[.slice U ps.length c, .func (.func 67) #[] #[.pointer pf, .pointer pv]] w fun e w' => ∃ i : Int, e = .returned (.int .i64 i) ∧ decide (0 ≤ i) = ps.any f ∧ Below w.heap.size w w' := by
  have HP := Lib.hid hp
  have HR := Lib.hid hr
  clear hp hr
  go_enter Tryz.func86, Tryz.ntmps86
  go_wp2
  go_loopw [5, 8] (fun _ vi wr => ∃ k : Nat, k ≤ ps.length ∧ vi = .int .i64 (k : Int) ∧ Hid (∀ p ∈ ps.take k, f p = false) ∧ Hid (Below w.heap.size w wr)) (fun _ vi _ => ps.length - (intOf vi).toNat)
  case atStart => exact ⟨0, Nat.zero_le _, rfl, Lib.hid (by simp), Lib.hid (Below.refl _ _)⟩
  case round =>
    obtain ⟨k, hk, rfl, HN, HW⟩ := hrel
    by_cases hlt : k < ps.length
    · have hT2 : decide (k < ps.length) = true := decide_eq_true hlt
      have hT3 : decide ((k : Int) < (ps.length : Int)) = true := decide_eq_true (by omega)
      obtain ⟨b, off, rfl, hbk, hck⟩ := (HR.out.below HW.out).at hlt
      have hmk := List.getElem_mem hlt
      have HT : Hid (ps.take (k + 1) = ps.take k ++ [ps[k]]) := Lib.hid (List.take_succ_eq_append_getElem hlt)
      obtain ⟨q, hq⟩ : ∃ q, ps[k] = q := ⟨_, rfl⟩
      rw [hq] at hck hmk HT
      have HMK := Lib.hid hmk
      have hcall := HP.out wr q HW.out hmk
      clear hq hmk
      cases hb : f q
      · rw [hb] at hcall
        have HC := Lib.hid hcall
        have HQ := Lib.hid hb
        clear hcall hb
        go_wp2_with (go_at_call 67; (with_reducible refine HC.out.mono ?_); rintro e w2 ⟨rfl, hb2⟩; have HB2 := Lib.hid (HW.out.trans (hb2.mono HW.out.size)); clear hb2)
        go_roundw
        case rel => exact ⟨k + 1, by omega, by go_num, Lib.hid (fun y hy => by
          rw [HT.out] at hy
          rcases List.mem_append.1 hy with h | h
          · exact HN.out y h
          · rw [List.mem_singleton.1 h]; exact HQ.out), HB2⟩
        case measure => simp [intOf]; omega
      · rw [hb] at hcall
        have HC := Lib.hid hcall
        have HQ := Lib.hid hb
        clear hcall hb
        go_wp2_with (go_at_call 67; (with_reducible refine HC.out.mono ?_); rintro e w2 ⟨rfl, hb2⟩; have HB2 := Lib.hid (HW.out.trans (hb2.mono HW.out.size)); clear hb2)
        go_ret
        exact ⟨(k : Int), rfl, by rw [decide_eq_true (by omega)]; exact (List.any_eq_true.2 ⟨q, HMK.out, HQ.out⟩).symm, HB2.out⟩
    · have hT2 : decide (k < ps.length) = false := decide_eq_false hlt
      have hT3 : decide ((k : Int) < (ps.length : Int)) = false := decide_eq_false (by omega)
      have hall : Hid (∀ p ∈ ps, f p = false) := Lib.hid (by have h := HN.out; rw [List.take_of_length_le (by omega)] at h; exact h)
      go_wp2
      go_ret
      exact ⟨-1, rfl, by
        have e : ps.any f = false := List.any_eq_false.2 (fun p hp => by rw [hall.out p hp]; decide)
        rw [e]; rfl, HW.out⟩
theorem cont_any (w : World) (U : Option Addr) (c : Nat) (ps : List (Option Addr)) (f : Option Addr → Bool) (hr : Pps w U ps) (few : ps.length ≤ 1000000) (pf pv : Option Addr)
    (hp : ∀ W p, Below w.heap.size w W → p ∈ ps → Calls Tryz.prog 67 #[.pointer p, .pointer pf, .pointer pv] W fun e w' => e = .returned (.bool (f p)) ∧ Below W.heap.size W w') :
    Calls Tryz.prog 66 #[.slice U ps.length c, .func (.func 67) #[] #[.pointer pf, .pointer pv]] w fun e w' => e = .returned (.bool (ps.any f)) ∧ Below w.heap.size w w' := by
  have H := Lib.hid (idxp_any w U c ps f hr few pf pv hp)
  obtain ⟨n, hn⟩ : ∃ n, ps.length = n := ⟨_, rfl⟩
  rw [hn] at H ⊢
  clear hr few hp hn
  go_enter Tryz.func66, Tryz.ntmps66
  go_wp2_with (go_at_call 86; (with_reducible refine H.out.mono ?_); rintro e w2 ⟨i, rfl, hi, hb2⟩; have HI := Lib.hid hi; have HB2 := Lib.hid hb2; clear hi hb2 H)
  go_ret
  exact ⟨by rw [← HI.out]; rfl, HB2.out⟩
end Go.Proofs.YtkehehfphccpbaaGreatDoor
end
