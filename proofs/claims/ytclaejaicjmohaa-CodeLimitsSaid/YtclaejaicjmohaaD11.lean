
/- The bytes of numbers, told; Keys: the texts walked. -/
import Derived.Test.YtclaejaicjmohaaD10
namespace Go.Proofs.Ytclaejaicjmohaa
set_option maxRecDepth 20000
open Go.RowKit
namespace E
def ebs (xs : List Nat) : List Nat := (xs.map enc).flatten
theorem ebs_snoc (xs : List Nat) (x : Nat) : ebs (xs ++ [x]) = ebs xs ++ enc x := by simp [ebs]
theorem ebs_len (xs : List Nat) : (ebs xs).length = szs xs := by simp [ebs, szs, List.length_flatten, List.map_map, Function.comp_def]
theorem mk_bytesA (n : Nat) (hn : n ≤ 1000000000) : ∃ cur, (∀ w, (Instr.makeSlice 23 (.int .i64 0) (.int .i64 (n : Int))).run Try.prog w = .ok (.slice (some ⟨w.heap.size, 0, none⟩) 0 n) (w.alloc (.cells cur 5))) ∧ cur.size = n := by
  obtain ⟨ti, hi, hb, hz, hsz⟩ : ∃ ti, Try.prog.info? 5 = some ti ∧ ti.bytes = 1 ∧ ti.zero = some (.int .u8 0) ∧ ti.size = 1 := ⟨_, rfl, rfl, rfl, rfl⟩
  exact ⟨_, fun w => run_make (P := Try.prog) w 23 5 ti _ (by kernel_rfl) hi hz .i64 .i64 0 (n : Int) (by omega) (by omega) (by rw [hb]; omega) (by omega), by simp [madeCells, hsz]⟩
theorem one_rw (w : World) (n : Nat) : Rw (w.alloc (.cells #[.int .u64 (n : Int)] 22)) (w.alloc (.cells #[.int .u64 (n : Int)] 22)).heap.size (some ⟨w.heap.size, 0, none⟩) [n] := fun _ => by
  refine ⟨w.heap.size, 0, rfl, by simp, fun k hk => ?_⟩
  obtain rfl : k = 0 := by simpa using hk
  simp
set_option maxRecDepth 100000 in
set_option maxHeartbeats 8000000 in
theorem tell_any (w : World) (f n : Nat) (hf : f < 256) (A : Option Addr) (c : Nat) (xs : List Nat) (l : Nat) (hn : n ≤ 10000000) (hl : xs.length = l) (hl2 : l ≤ 1000000) (hx : ∀ x ∈ xs, x < 18446744073709551616) (hr : Rw w w.heap.size A xs) :
    Calls Try.prog 30 #[.int .u8 (f : Int), .int .i64 (n : Int), .slice A l c] w fun e w' => ∃ v, e = .returned v ∧ w'.ownsRow w.heap.size 5 1 v (f :: (enc n ++ ebs xs)).length (bv (f :: (enc n ++ ebs xs))) ∧ Below w.heap.size w w' := by
  obtain ⟨i0, hi, hz0, hz1, hz2⟩ := info_parts byte_info
  have HL := Lib.hid hl
  have HX := Lib.hid hx
  have HR := Lib.hid hr
  have h10 := enc_ten (n := n) (by omega)
  have hsz := szs_le hx
  rw [hl] at hsz
  obtain ⟨W1, hW1⟩ : ∃ W, w.alloc (.cells #[.int .u64 (n : Int)] 22) = W := ⟨_, rfl⟩
  have hb1 : Below w.heap.size w W1 := by rw [← hW1]; exact (Below.refl _ w).alloc (Nat.le_refl _) _
  have hW1s : W1.heap.size = w.heap.size + 1 := by rw [← hW1]; simp
  have HS1 := Lib.hid (Size_any W1 W1.heap.size (some ⟨w.heap.size, 0, none⟩) 1 [n] 1 rfl (by omega) (by simp; omega) (by rw [← hW1]; exact one_rw w n))
  have hs1 : szs [n] = (enc n).length := by simp [szs]
  rw [hs1] at HS1
  have HS2 : Hid (∀ q, Calls Try.prog 16 #[.slice A l c] (W1.drewN q) fun e w' => e = .returned (.int .i64 (szs xs : Nat)) ∧ ∃ q', w' = (W1.drewN q).drewN q') := Lib.hid fun q => Size_any (W1.drewN q) W1.heap.size A c xs l hl (by omega) hx (((hr.below hb1 (Nat.le_refl _)).more hb1.size).drew q)
  obtain ⟨m, hm⟩ : ∃ m, (enc n).length = m := ⟨_, rfl⟩
  obtain ⟨s, hs⟩ : ∃ m, szs xs = m := ⟨_, rfl⟩
  rw [hm] at HS1 h10
  rw [hs] at HS2 hsz
  have x1 : IntKind.u64.wrap (n : Int) = (n : Int) := wrap_u64_small (by omega) (by omega)
  have x2 : IntKind.i64.wrap (1 + (m : Int)) = 1 + (m : Int) := IntWalk.i64_in _ (by omega)
  obtain ⟨T, hT⟩ : ∃ T, 1 + m + s = T := ⟨_, rfl⟩
  have x3 : IntKind.i64.wrap (1 + (m : Int) + (s : Int)) = (T : Int) := by rw [show 1 + (m : Int) + (s : Int) = (T : Int) by omega]; exact IntWalk.i64_in _ (by omega)
  have hTl : T ≤ 1000000000 := by omega
  obtain ⟨cur, hmk, hcur⟩ := mk_bytesA T hTl
  have HT := Lib.hid (And.intro hcur (show T ≤ maxLen by unfold maxLen; omega))
  have HB1 := Lib.hid hb1
  have HW1 := Lib.hid hW1s
  have hpf : f ≤ 255 := by omega
  have HMS : Hid (s ≤ 10 * l ∧ m ≤ 10) := Lib.hid ⟨hsz, h10⟩
  have HM := Lib.hid hm
  have HLN : Hid ((ebs xs).length = s) := Lib.hid (by rw [ebs_len, hs])
  clear hl hx hr hsz hs1 hm hs hT hcur hb1 hW1s h10 hf
  go_enter Try.func30, Try.ntmps30
  have HO : Hid (∀ q, ((W1.drewN q).alloc (.cells cur 5)).ownsRow w.heap.size 5 1 (.slice (some ⟨W1.heap.size, 0, none⟩) 0 T) 0 []) := Lib.hid (fun q => World.ownsRow_made (W1.drewN q) cur T (show w.heap.size ≤ W1.heap.size from HB1.out.size) HT.out.2 (by have := HT.out.1; omega))
  have HBA : Hid (∀ q, Below w.heap.size w ((W1.drewN q).alloc (.cells cur 5)) ∧ w.heap.size ≤ ((W1.drewN q).alloc (.cells cur 5)).heap.size) := Lib.hid (fun q => ⟨(below_drewN HB1.out q).alloc (show w.heap.size ≤ W1.heap.size from HB1.out.size) _, by have := HB1.out.size; simp; omega⟩)
  go_wp2_with (first
    | (at_builtin; refine wpList_append_own _ rfl _ _ 23 rfl w.heap.size 5 i0 (.int .u8 0) 1 1 Try.underlying23 hi hz0 hz1 hz2 rfl (by decide) _ _ _ rfl ((HO.out _).alloc _) ⟨W1.heap.size + 1, 0, none⟩ 1 1 [.int .u8 (f : Int)] rfl rfl ?c1 ?c2 ?c3 ?c4 ?c5 ?_)
    | (go_at_call 16; (with_reducible refine (HS2.out _).mono ?_); rintro e w3 ⟨rfl, q2, rfl⟩)
    | (go_at_call 16; (with_reducible refine HS1.out.mono ?_); rintro e w2 ⟨rfl, q1, rfl⟩))
  case c1 =>
    intro j u h
    have := cell_one ((W1.drewN (q1 + q2)).alloc (.cells cur 5)) _ 5 j u h
    simpa using this
  case c2 => first | exact one_int _ _ | rfl
  case c3 => unfold maxLen; omega
  case c4 => omega
  case c5 => have := (HBA.out (q1 + q2)).2; simp at this ⊢; omega
  intro v' w4 hown' hgrow _
  obtain ⟨hown2, hb2⟩ := own_put (xs := []) (HBA.out (q1 + q2)).2 (HBA.out (q1 + q2)).1 (HO.out (q1 + q2)) hown' hgrow
  have hsz4 : w.heap.size ≤ w4.heap.size := by have h1 := hgrow.size; have h2 := (HBA.out (q1 + q2)).2; simp at h1 h2; omega
  have HP := Lib.hid (put_any w4 w.heap.size hsz4 v' [f] n (by omega) hown2 (by simp))
  have HB2 := Lib.hid hb2
  clear hown' hgrow hown2 hb2
  go_wp2_with (go_at_call 24; (with_reducible refine HP.out.mono ?_); rintro e w5 ⟨v5, rfl, ho, hb⟩; have HO5 := Lib.hid ho; have HB5 := Lib.hid (HB2.out.trans hb); clear ho hb)
  have hsz5 : w.heap.size ≤ w5.heap.size := HB5.out.size
  clear HP HB2 hmk HO HBA HS1 HS2 hW1
  go_loopw [7, 28] (fun v i wr => ∃ k : Nat, k ≤ l ∧ i = .int .i64 k ∧ Hid (wr.ownsRow w.heap.size 5 1 v (f :: (enc n ++ ebs (xs.take k))).length (bv (f :: (enc n ++ ebs (xs.take k))))) ∧ Hid (Below w.heap.size w wr)) (fun _ i _ => l - (intOf i).toNat)
  case atStart => exact ⟨0, by omega, rfl, Lib.hid (by simpa [ebs] using HO5.out), HB5⟩
  case round =>
    obtain ⟨k, hk, rfl, HW, HBL⟩ := hrel
    by_cases hlt : k < l
    · have hlt' : k < xs.length := by rw [HL.out]; exact hlt
      obtain ⟨b, off, rfl, _, hc⟩ := (HR.out.below HBL.out (Nat.le_refl _)).at hlt'
      have d0 : decide ((k : Int) < (l : Int)) = true := decide_eq_true (by omega)
      have wk : IntKind.i64.wrap ((k : Int) + 1) = (k : Int) + 1 := IntWalk.i64_in _ (by omega)
      have hxk := HX.out xs[k] (List.getElem_mem hlt')
      have HN : Hid (f :: (enc n ++ ebs (xs.take (k + 1))) = (f :: (enc n ++ ebs (xs.take k))) ++ enc xs[k]) := Lib.hid (by rw [take_snocN hlt', ebs_snoc]; simp)
      have hlen : (f :: (enc n ++ ebs (xs.take k))).length ≤ 100000000 := by
        have h1 := szs_le (xs := xs.take k) (fun x h => HX.out x (List.mem_of_mem_take h))
        have h2 := HM.out
        have h3 := HMS.out
        rw [List.length_take] at h1
        rw [List.length_cons, List.length_append, ebs_len]
        omega
      have HP := Lib.hid (put_any wr w.heap.size HBL.out.size _ _ xs[k] hxk HW.out hlen)
      generalize xs[k] = z at *
      clear hlen hxk
      generalize f :: (enc n ++ ebs (xs.take k)) = cs at *
      go_wp2_with (go_at_call 24; (with_reducible refine HP.out.mono ?_); rintro e w6 ⟨v6, rfl, ho, hb⟩; have HO6 := Lib.hid ho; have HB6 := Lib.hid (HBL.out.trans hb); clear ho hb)
      go_roundw
      case rel => exact ⟨k + 1, by omega, by go_num, Lib.hid (by rw [HN.out]; exact HO6.out), HB6⟩
      case measure => simp [intOf]; omega
    · have hkl : k = l := by omega
      have e1 : xs.take k = xs := List.take_of_length_le (by rw [HL.out]; omega)
      have hW := HW.out
      rw [e1] at hW
      have HW2 := Lib.hid hW
      have d0 : decide ((k : Int) < (l : Int)) = false := decide_eq_false (by omega)
      clear hW e1
      go_wp2
      go_ret
      exact ⟨_, rfl, HW2.out, HBL.out⟩
/-- What Keys and Pairs answer. -/
def KB (w : World) (ks : List Nat) (l : Nat) (bs : List Nat) (e : Ending) (w' : World) : Prop := Below w.heap.size w w' ∧
  ((K.Up ks ∧ l ≤ 262144 ∧ ∃ A c, e = .returned (.tuple #[.slice A bs.length c, .int .i64 0]) ∧ w'.ownsRow w.heap.size 5 1 (.slice A bs.length c) bs.length (bv bs)) ∨
   (K.Up ks ∧ 262144 < l ∧ e = .returned (.tuple #[.slice none 0 0, .int .i64 1])) ∨
   (¬ K.Up ks ∧ e = .returned (.tuple #[.slice none 0 0, .int .i64 8])))
theorem gp_lt : ∀ (xs : List Nat) (a : Nat), (∀ x ∈ xs, x < 18446744073709551616) → ∀ y ∈ gp a xs, y < 18446744073709551616
  | [], _, _, _, h => by cases h
  | k :: t, a, h, y, hy => by
    rcases List.mem_cons.1 hy with rfl | hy
    · have := h k (by simp)
      omega
    · exact gp_lt t (k + 1) (fun x hx => h x (List.mem_cons_of_mem _ hx)) y hy
theorem own_rwB {w : World} {base n c : Nat} {A : Option Addr} {xs : List Nat} (h : w.ownsRow base 22 1 (.slice A n c) n (wv xs)) : xs.length = n ∧ Rw w w.heap.size A xs := by
  have hn : xs.length = n := by have := h.1; simpa [wv] using this
  subst hn
  obtain ⟨A', c', e, hr, _⟩ := Rw.of_own h
  injection e with e1 _ _
  subst e1
  exact ⟨rfl, hr⟩
set_option maxRecDepth 100000 in
set_option maxHeartbeats 8000000 in
theorem Keys_any (w : World) (A : Option Addr) (c : Nat) (xs : List Nat) (l : Nat) (hl : xs.length = l) (hl2 : l ≤ 1000000) (hx : ∀ x ∈ xs, x < 18446744073709551616) (hr : Rw w w.heap.size A xs) :
    Calls Try.prog 18 #[.slice A l c] w (KB w xs l (0 :: (enc l ++ ebs (gp 0 xs)))) := by
  have HA := Lib.hid (above_any w A c xs l hl (by omega) hx hr)
  have HG := Lib.hid (gp_lt xs 0 hx)
  clear hl hx hr
  go_enter Try.func18, Try.ntmps18
  go_wp2_with (fail)
  refine HA.out.mono ?_
  rintro e w1 ⟨hb1, ⟨hu, hle, A1, c1, rfl, ho⟩ | ⟨hu, hgt, rfl⟩ | ⟨hu, rfl⟩⟩
  · obtain ⟨hgl, hrw⟩ := own_rwB ho
    have hT0 := tell_any w1 0 l (by omega) A1 c1 (gp 0 xs) l (by omega) hgl (by omega) HG.out hrw
    have HB := Lib.hid hb1
    have HU := Lib.hid hu
    clear ho hrw hgl hb1 hu
    generalize hbs : 0 :: (enc l ++ ebs (gp 0 xs)) = bs at *
    have HT : Hid (Calls Try.prog 30 #[.int .u8 0, .int .i64 (l : Int), .slice A1 l c1] w1 fun e w' => ∃ v, e = .returned v ∧ w'.ownsRow w1.heap.size 5 1 v bs.length (bv bs) ∧ Below w1.heap.size w1 w') := Lib.hid hT0
    clear hbs hT0
    go_wp2_with (go_at_call 30; (with_reducible refine HT.out.mono ?_); rintro e w2 ⟨v2, rfl, ho, hb⟩; have HO := Lib.hid ho; have HB2 := Lib.hid (HB.out.trans (hb.mono HB.out.size)); clear ho hb)
    go_ret2
    obtain ⟨A2, c2, hv⟩ := own_formB HO.out
    subst hv
    exact ⟨HB2.out, .inl ⟨HU.out, hle, A2, c2, rfl, own_less HO.out HB.out.size⟩⟩
  · have HB := Lib.hid hb1
    have HU := Lib.hid hu
    clear hb1 hu
    go_wp2
    go_ret2
    exact ⟨HB.out, .inr (.inl ⟨HU.out, hgt, rfl⟩)⟩
  · have HB := Lib.hid hb1
    have HU := Lib.hid hu
    clear hb1 hu
    go_wp2
    go_ret2
    exact ⟨HB.out, .inr (.inr ⟨HU.out, rfl⟩)⟩
end E
end Go.Proofs.Ytclaejaicjmohaa
