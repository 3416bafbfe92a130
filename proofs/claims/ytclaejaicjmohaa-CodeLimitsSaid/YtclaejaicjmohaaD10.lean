
/- How much keys are above one another: above; the text walked. -/
import Derived.Test.YtclaejaicjmohaaD9
namespace Go.Proofs.Ytclaejaicjmohaa
set_option maxRecDepth 20000
open Go.RowKit
namespace E
/-- The numbers that stand for keys. -/
def gp : Nat → List Nat → List Nat
  | _, [] => []
  | a, k :: t => (k - a) :: gp (k + 1) t
theorem gp_len : ∀ (xs : List Nat) (a : Nat), (gp a xs).length = xs.length
  | [], _ => rfl
  | k :: t, _ => by
    show (gp (k + 1) t).length + 1 = t.length + 1
    rw [gp_len t]
theorem gp_snoc : ∀ (xs : List Nat) (a z : Nat), gp a (xs ++ [z]) = gp a xs ++ [z - (match xs.getLast? with | none => a | some y => y + 1)]
  | [], _, _ => rfl
  | [x], _, _ => rfl
  | x :: y :: t, a, z => by
    have ih := gp_snoc (y :: t) (x + 1) z
    show (x - a) :: gp (x + 1) ((y :: t) ++ [z]) = (x - a) :: (gp (x + 1) (y :: t) ++ _)
    obtain ⟨u, hu⟩ : ∃ u, (y :: t).getLast? = some u := ⟨_, List.getLast?_eq_some_getLast (by simp)⟩
    rw [ih, List.getLast?_cons_cons, hu]
theorem gp_first (z : Nat) : gp 0 [z] = [z] := rfl
theorem gp_next {xs : List Nat} {k : Nat} (h : k + 1 < xs.length) : gp 0 (xs.take (k + 2)) = gp 0 (xs.take (k + 1)) ++ [xs[k + 1] - (xs[k] + 1)] := by
  have h1 : xs.take (k + 2) = xs.take (k + 1) ++ [xs[k + 1]] := take_snocN h
  have h2 : (xs.take (k + 1)).getLast? = some xs[k] := by
    rw [take_snocN (show k < xs.length by omega)]
    exact List.getLast?_concat
  rw [h1, gp_snoc, h2]
theorem up_takeE {xs : List Nat} (h : K.Up xs) (n : Nat) : K.Up (xs.take n) := List.Pairwise.sublist (List.take_sublist _ _) h
theorem up_next {xs : List Nat} {k : Nat} (h : k + 1 < xs.length) (hu : K.Up (xs.take (k + 1))) (hlt : xs[k] < xs[k + 1]) : K.Up (xs.take (k + 2)) := by
  rw [show xs.take (k + 2) = xs.take (k + 1) ++ [xs[k + 1]] from take_snocN h]
  refine List.pairwise_append.2 ⟨hu, by simp, fun x hx y hy => ?_⟩
  rcases List.mem_singleton.1 hy with rfl
  obtain ⟨j, hj, rfl⟩ := List.getElem_of_mem hx
  rw [List.length_take] at hj
  rcases Nat.lt_or_ge j k with h1 | h1
  · have h3 := K.up_lt hu (i := j) (j := k) h1 (by rw [List.length_take]; omega)
    rw [List.getElem_take, List.getElem_take] at h3
    rw [List.getElem_take]
    omega
  · have : j = k := by omega
    subst this
    rw [List.getElem_take]
    exact hlt
theorem own_putN {B : Nat} {w w0 w1 : World} {xs : List Nat} {y : Nat} {v v' : Value} {t : TypeId} (hB : B ≤ w0.heap.size) (hb : Below B w w0) (hown : w0.ownsRow B 22 1 v xs.length (wv xs))
    (hown' : w1.ownsRow B 22 1 v' (xs.length + 1) (wv xs ++ [.int .u64 (y : Int)])) (hgrow : (w0.alloc (.cells #[.int .u64 (y : Int)] t)).grownBy w1 v.ownBlock) :
    w1.ownsRow B 22 1 v' (xs ++ [y]).length (wv (xs ++ [y])) ∧ Below B w w1 :=
  ⟨by rw [wv, List.map_append, List.length_append]; exact hown', (hb.alloc hB _).grown hgrow (by simp; omega) (fun g hg => (hown.lt g hg).1)⟩
theorem mk_words (n : Nat) (hn : n ≤ 1000000000) (w : World) : ∃ cur, (Instr.makeSlice 24 (.int .i64 0) (.int .i64 (n : Int))).run Try.prog w = .ok (.slice (some ⟨w.heap.size, 0, none⟩) 0 n) (w.alloc (.cells cur 22)) ∧ cur.size = n := by
  obtain ⟨ti, hi, hb, hz, hsz⟩ : ∃ ti, Try.prog.info? 22 = some ti ∧ ti.bytes = 8 ∧ ti.zero = some (.int .u64 0) ∧ ti.size = 1 := ⟨_, rfl, rfl, rfl, rfl⟩
  have := run_make (P := Try.prog) w 24 22 ti _ (by kernel_rfl) hi hz .i64 .i64 0 (n : Int) (by omega) (by omega) (by rw [hb]; omega) (by omega)
  exact ⟨_, this, by simp [madeCells, hsz]⟩
theorem up_not {xs : List Nat} {k : Nat} (h : k + 1 < xs.length) (hle : xs[k + 1] ≤ xs[k]) : ¬ K.Up xs := fun hu => by
  have := K.up_lt hu (i := k) (j := k + 1) (by omega) h
  omega
/-- What above answers. -/
def AB (w : World) (xs : List Nat) (l : Nat) (e : Ending) (w' : World) : Prop := Below w.heap.size w w' ∧
  ((K.Up xs ∧ l ≤ 262144 ∧ ∃ A c, e = .returned (.tuple #[.slice A l c, .int .i64 0]) ∧ w'.ownsRow w.heap.size 22 1 (.slice A l c) l (wv (gp 0 xs))) ∨
   (K.Up xs ∧ 262144 < l ∧ e = .returned (.tuple #[.slice none 0 0, .int .i64 1])) ∨
   (¬ K.Up xs ∧ e = .returned (.tuple #[.slice none 0 0, .int .i64 8])))
theorem own_formW {w : World} {base n : Nat} {v : Value} {xs : List Value} (h : w.ownsRow base 22 1 v n xs) : ∃ A c, v = .slice A n c := by
  rcases h.2 with ⟨rfl, rfl⟩ | ⟨g, cap, cur, rfl, _⟩
  · exact ⟨none, 0, rfl⟩
  · exact ⟨_, _, rfl⟩
set_option maxRecDepth 100000 in
set_option maxHeartbeats 8000000 in
theorem above_any (w : World) (A : Option Addr) (c : Nat) (xs : List Nat) (l : Nat) (hl : xs.length = l) (hl2 : l ≤ 10000000) (hx : ∀ x ∈ xs, x < 18446744073709551616) (hr : Rw w w.heap.size A xs) :
    Calls Try.prog 29 #[.slice A l c] w (AB w xs l) := by
  obtain ⟨i0, hi, hz0, hz1, hz2⟩ := info_parts u64_info
  have HL := Lib.hid hl
  have HX := Lib.hid hx
  obtain ⟨cur, hmk, hcur⟩ := mk_words l (by omega) w
  have hb : Below w.heap.size w (w.alloc (.cells cur 22)) := (Below.refl _ w).alloc (Nat.le_refl _) _
  have hown : (w.alloc (.cells cur 22)).ownsRow w.heap.size 22 1 (.slice (some ⟨w.heap.size, 0, none⟩) 0 l) 0 [] := World.ownsRow_made w cur l (Nat.le_refl _) (by unfold maxLen; omega) (by omega)
  have HB := Lib.hid hb
  have HO := Lib.hid hown
  clear hb hown hcur hl hx
  go_enter Try.func29, Try.ntmps29
  go_wp2
  go_loopw [4, 5, 13] (fun v a i wr => ∃ (k ah : Nat), k ≤ l ∧ i = .int .i64 k ∧ a = .int .u64 ah ∧ Hid (wr.ownsRow w.heap.size 22 1 v (gp 0 (xs.take k)).length (wv (gp 0 (xs.take k)))) ∧ Hid (Below w.heap.size w wr) ∧ Hid (K.Up (xs.take k)) ∧ Hid ((k = 0 → ah = 18446744073709551615) ∧ ∀ j, k = j + 1 → xs[j]? = some ah)) (fun _ _ i _ => l - (intOf i).toNat)
  case atStart => exact ⟨0, 18446744073709551615, by omega, rfl, rfl, HO, HB, Lib.hid (by simp [K.Up]), Lib.hid ⟨fun _ => rfl, fun j h => by omega⟩⟩
  case round =>
    obtain ⟨k, ah, hk, rfl, rfl, HW, HBL, HU, HA⟩ := hrel
    by_cases hlt : k < l
    · have hlt' : k < xs.length := by rw [HL.out]; exact hlt
      obtain ⟨b, off, rfl, _, hc⟩ := (hr.below HBL.out (Nat.le_refl _)).at hlt'
      have d0 : decide ((k : Int) < (l : Int)) = true := decide_eq_true (by omega)
      have wk : IntKind.i64.wrap ((k : Int) + 1) = (k : Int) + 1 := IntWalk.i64_in _ (by omega)
      have hxk := HX.out xs[k] (List.getElem_mem hlt')
      have HG := Lib.hid (gp_len (xs.take k) 0)
      have hsz := HBL.out.size
      cases k with
      | zero =>
        have hah := HA.out.1 rfl
        subst hah
        have HN : Hid (gp 0 (xs.take (0 + 1)) = gp 0 (xs.take 0) ++ [xs[0]] ∧ K.Up (xs.take (0 + 1)) ∧ xs[0]? = some xs[0]) := Lib.hid (by
          rcases xs with _ | ⟨x, t⟩
          · simp at hlt'
          · exact ⟨by simp [gp], by simp [K.Up], by simp⟩)
        obtain ⟨z, hz⟩ : ∃ z, xs[0] = z := ⟨_, rfl⟩
        rw [hz] at hc hxk HN
        simp only [Nat.add_zero] at hc
        obtain ⟨y, hy⟩ : ∃ y, (z + 1) % 18446744073709551616 = y := ⟨_, rfl⟩
        have x1 : IntKind.u64.wrap ((z : Int) - 18446744073709551615) = (y : Int) := by rw [IntKind.wrap_u64]; omega
        have x2 : IntKind.u64.wrap ((y : Int) - 1) = (z : Int) := by rw [IntKind.wrap_u64]; omega
        clear hy hz
        have hlen : (gp 0 (xs.take 0)).length ≤ 10 := by simp [gp]
        have hlen2 : (gp 0 ([] : List Nat)).length = 0 := rfl
        go_wp2_with (at_builtin; refine wpList_append_own _ rfl _ _ 24 rfl w.heap.size 22 i0 (.int .u64 0) 1 8 Try.underlying24 hi hz0 hz1 hz2 rfl (by decide) _ _ _ rfl (HW.out.alloc _) ⟨wr.heap.size, 0, none⟩ 1 1 [.int .u64 (z : Int)] rfl rfl ?a1 ?a2 ?a3 ?a4 ?a5 ?_)
        case a2 => first | exact one_int _ _ | rfl
        case a3 => unfold maxLen; omega
        case a5 => first | omega | exact hsz | (simp; omega) | trace_state
        intro v' w1 hown' hgrow _
        obtain ⟨hown2, hb2⟩ := own_putN hsz HBL.out HW.out hown' hgrow
        have HW2 := Lib.hid hown2
        have HB2 := Lib.hid hb2
        clear hown' hgrow hown2 hb2
        go_wp2
        go_roundw
        case rel => exact ⟨1, z, by omega, by go_num, rfl, Lib.hid (by rw [HN.out.1]; exact HW2.out), HB2, Lib.hid HN.out.2.1, Lib.hid ⟨fun h => by omega, fun j hj => by obtain rfl : j = 0 := (by omega); exact HN.out.2.2⟩⟩
        case measure => simp [intOf]; omega
      | succ k =>
        have hah := HA.out.2 k rfl
        have hkl : k < xs.length := by omega
        rw [List.getElem?_eq_getElem hkl] at hah
        injection hah with hah
        have hza := HX.out xs[k] (List.getElem_mem hkl)
        have e1 : decide ((0 : Int) < ((k + 1 : Nat) : Int)) = true := decide_eq_true (by omega)
        have e2 : decide ((0 : Int) < (k : Int) + 1) = true := decide_eq_true (by omega)
        have e3 : decide (0 < k + 1) = true := decide_eq_true (by omega)
        obtain ⟨z, hz⟩ : ∃ z, xs[k + 1] = z := ⟨_, rfl⟩
        by_cases hle : z ≤ ah
        · have e4 : decide ((z : Int) ≤ (ah : Int)) = true := decide_eq_true (by omega)
          have e5 : decide (z ≤ ah) = true := decide_eq_true hle
          have HR := Lib.hid (up_not hlt' (by rw [hz, hah]; exact hle))
          rw [hz] at hc
          clear hz hah hza hxk HG HA
          go_wp2
          go_ret2
          exact ⟨HBL.out, .inr (.inr ⟨HR.out, rfl⟩)⟩
        · have e4 : decide ((z : Int) ≤ (ah : Int)) = false := decide_eq_false (by omega)
          have e5 : decide (z ≤ ah) = false := decide_eq_false hle
          obtain ⟨y, hy⟩ : ∃ y, z - (ah + 1) = y := ⟨_, rfl⟩
          obtain ⟨y1, hy1⟩ : ∃ y, z - ah = y := ⟨_, rfl⟩
          have HN : Hid (gp 0 (xs.take (k + 2)) = gp 0 (xs.take (k + 1)) ++ [y] ∧ K.Up (xs.take (k + 2)) ∧ xs[k + 1]? = some z) := Lib.hid (by
            refine ⟨?_, up_next hlt' HU.out (by rw [hz, hah]; omega), by rw [List.getElem?_eq_getElem hlt', hz]⟩
            rw [gp_next hlt', hz, hah, hy])
          rw [hz] at hc hxk
          rw [hah] at hza
          have x1 : IntKind.u64.wrap ((z : Int) - (ah : Int)) = (y1 : Int) := by rw [IntKind.wrap_u64]; omega
          have x2 : IntKind.u64.wrap ((y1 : Int) - 1) = (y : Int) := by rw [IntKind.wrap_u64]; omega
          have hlen : (gp 0 (xs.take (k + 1))).length ≤ 100000000 := by rw [HG.out, List.length_take]; omega
          clear hz hah hza hxk HA hy hy1
          go_wp2_with (at_builtin; refine wpList_append_own _ rfl _ _ 24 rfl w.heap.size 22 i0 (.int .u64 0) 1 8 Try.underlying24 hi hz0 hz1 hz2 rfl (by decide) _ _ _ rfl (HW.out.alloc _) ⟨wr.heap.size, 0, none⟩ 1 1 [.int .u64 (y : Int)] rfl rfl ?b1 ?b2 ?b3 ?b4 ?b5 ?_)
          case b1 => exact cell_one _ _ _
          case b2 => first | exact one_int _ _ | rfl
          case b3 => unfold maxLen; omega
          case b4 => omega
          case b5 => simp; omega
          intro v' w1 hown' hgrow _
          obtain ⟨hown2, hb2⟩ := own_putN hsz HBL.out HW.out hown' hgrow
          have HW2 := Lib.hid hown2
          have HB2 := Lib.hid hb2
          clear hown' hgrow hown2 hb2
          go_wp2
          go_roundw
          case rel => exact ⟨k + 2, z, by omega, by go_num, rfl, Lib.hid (by rw [HN.out.1]; exact HW2.out), HB2, Lib.hid HN.out.2.1, Lib.hid ⟨fun h => by omega, fun j hj => by obtain rfl : j = k + 1 := (by omega); exact HN.out.2.2⟩⟩
          case measure => simp [intOf]; omega
    · have hkl : k = l := by omega
      have e1 : xs.take k = xs := List.take_of_length_le (by rw [HL.out]; omega)
      have hW := HW.out
      have hU := HU.out
      rw [e1, gp_len, HL.out] at hW
      rw [e1] at hU
      obtain ⟨A2, c2, rfl⟩ := own_formW hW
      have HW2 := Lib.hid hW
      have HU2 := Lib.hid hU
      rw [hkl]
      have d0 : decide ((l : Int) < (l : Int)) = false := by simp
      clear hW hU e1 hkl hlt hk HW HU HA
      by_cases hm : 262144 < l
      · have g1 : decide ((262144 : Int) < (l : Int)) = true := decide_eq_true (by omega)
        have g2 : decide (262144 < l) = true := decide_eq_true hm
        go_wp2
        go_ret2
        exact ⟨HBL.out, .inr (.inl ⟨HU2.out, hm, rfl⟩)⟩
      · have g1 : decide ((262144 : Int) < (l : Int)) = false := decide_eq_false (by omega)
        have g2 : decide (262144 < l) = false := decide_eq_false hm
        go_wp2
        go_ret2
        exact ⟨HBL.out, .inl ⟨HU2.out, by omega, A2, c2, rfl, HW2.out⟩⟩
end E
end Go.Proofs.Ytclaejaicjmohaa
