
/- The law HashHoles: of many keys some are dropped; all others are found; the text walked. -/
import Derived.Test.YtmlidbmpnhfffaaHKeys
namespace Go.Proofs.Ytmlidbmpnhfffaa
open Go.RowKit
/-- Block b is a row of bools. -/
def BB (w : World) (b : Nat) (bs : List Bool) : Prop := w.heap[b]? = some (.cells (bs.map Value.bool).toArray 4 (0, 0))
theorem BB.cell {w : World} {b : Nat} {bs : List Bool} (h : BB w b bs) (k : Nat) (hk : k < bs.length) : w.cell? ⟨b, k, none⟩ = some (.bool bs[k]) := by
  rw [cell_of_row w b k _ _ (0, 0) h]
  simp [hk]
theorem BB.fr {w : World} {b : Nat} {bs : List Bool} (h : BB w b bs) (k : Nat) : w.frozen? ⟨b, k, none⟩ = false := by
  unfold BB at h; simp [World.frozen?, h]
theorem BB.lt {w : World} {b : Nat} {bs : List Bool} (h : BB w b bs) : b < w.heap.size := by
  rcases Nat.lt_or_ge b w.heap.size with hlt | hge
  · exact hlt
  · unfold BB at h; rw [Array.getElem?_eq_none hge] at h; cases h
theorem BB.but {w w' : World} {b : Nat} {bs : List Bool} {S : Nat → Prop} (h : BB w b bs) (hb : ButS w w' S) (hs : ¬ S b) : BB w' b bs := (hb.block b h.lt hs).trans h
theorem BB.set {w : World} {b : Nat} {bs : List Bool} (h : BB w b bs) (k : Nat) (v : Bool) : BB (w.setCell ⟨b, k, none⟩ (.bool v)) b (bs.set k v) := by
  have := set_heap h k (.bool v)
  unfold BB
  rw [List.map_set]
  simpa using this
theorem mk_bools (n : Nat) (hn : n ≤ 1000000) (w : World) : (Instr.makeSlice 51 (.int .i64 (n : Int)) (.int .i64 (n : Int))).run Try.prog w = .ok (.slice (some ⟨w.heap.size, 0, none⟩) n n) (w.alloc (.cells ((List.replicate n false).map Value.bool).toArray 4)) := by
  obtain ⟨ti, hi, hb, hz, hsz⟩ : ∃ ti, Try.prog.info? 4 = some ti ∧ ti.bytes = 1 ∧ ti.zero = some (.bool false) ∧ ti.size = 1 := ⟨_, rfl, rfl, rfl, rfl⟩
  have := run_make (P := Try.prog) w 51 4 ti _ (by kernel_rfl) hi hz .i64 .i64 (n : Int) (n : Int) (by omega) (by omega) (by rw [hb]; omega) (by omega)
  have e : madeCells #[.bool false] n = ((List.replicate n false).map Value.bool).toArray := by
    apply Array.ext
    · simp [madeCells]
    · intro i h1 h2
      simp [madeCells, Nat.mod_one]
  rw [← e]
  simpa [hsz, Value.cells] using this
theorem mod_step (x q : Nat) : (x : Int) % (1 + (q : Int)) = ((x % (q + 1) : Nat) : Int) ∧ (x : Int).tmod (1 + (q : Int)) = ((x % (q + 1) : Nat) : Int) := by
  have h : ((q + 1 : Nat) : Int) = 1 + (q : Int) := by omega
  have e : (x : Int) % (1 + (q : Int)) = ((x % (q + 1) : Nat) : Int) := by rw [Int.natCast_emod, h]
  exact ⟨e, by rw [Int.tmod_eq_emod_of_nonneg (by omega)]; exact e⟩
set_option maxRecDepth 100000 in
set_option maxHeartbeats 4000000 in
theorem law_holes (seed f st q : Nat) (hst : st < 18446744073709551616) (hq : q < 256) (Ad : Option Addr) (cp : Nat) (xs : List Nat) (w : World) (hr : Rb w w.heap.size Ad xs) (hx : ∀ x ∈ xs, x < 256) (hl : xs.length ≤ 9223372036854775807) :
    Calls Try.prog 7 #[.int .u64 (seed : Int), .int .u64 (f : Int), .int .u64 (st : Int), .int .u8 (q : Int), .slice Ad xs.length cp] w fun e w' => e = .returned (.bool true) ∧ Below w.heap.size w w' := by
  have hor := u64_or_one st hst
  have hodd := H.or_one st
  have hslt := H.or_lt st hst
  generalize st ||| 1 = s at *
  have HO := Lib.hid hodd
  clear hodd
  have w1 : IntKind.i64.wrap (q : Int) = (q : Int) := IntWalk.i64_in _ (by omega)
  have w2 : IntKind.i64.wrap (1 + (q : Int)) = 1 + (q : Int) := IntWalk.i64_in _ (by omega)
  have hmk := mk_bools (q + 1) (by omega)
  have hq1 : ((q + 1 : Nat) : Int) = 1 + (q : Int) := by omega
  rw [hq1] at hmk
  clear hq1
  go_enter Try.func7, Try.ntmps7
  go_wp2_with (first
    | (go_at_call 8; (with_reducible refine (awake_any _).mono ?_); rintro e w1 ⟨rfl, hb1⟩; have HB1 := Lib.hid hb1; clear hb1)
    | (go_at_call 10; (with_reducible refine (tx_new_nil w1 w1.heap.size (Nat.le_refl _) seed _ rfl).mono ?_); rintro e w2 ⟨P, M, rfl, ht, hb⟩
       have T2 := Lib.hid ht
       have B2 := Lib.hid hb
       clear ht hb))
  have hz2 := B2.out.size
  have b3 := (Below.refl w2.heap.size w2).alloc (Nat.le_refl _) (.cells (Array.replicate (q + 1) (Value.bool false)) 4)
  have hsz3 : w2.heap.size < (w2.alloc (.cells (Array.replicate (q + 1) (Value.bool false)) 4)).heap.size := by simp
  have t3 : TX (w2.alloc (.cells (Array.replicate (q + 1) (Value.bool false)) 4)) (fun j => w1.heap.size ≤ j ∧ j ≠ w2.heap.size) P M seed 8 [] 0 0 :=
    (T2.out.mono (fun j hj h => ⟨h, by omega⟩)).but (ButS.of_below b3 (Nat.le_refl _) (S := fun _ => False)) (fun _ _ h => h)
  have d3 : BB (w2.alloc (.cells (Array.replicate (q + 1) (Value.bool false)) 4)) w2.heap.size (List.replicate (q + 1) false) := by
    have := alloc_topI w2 (.cells (Array.replicate (q + 1) (Value.bool false)) 4)
    unfold BB
    rw [this]
    simp
  have hB3 : Below w1.heap.size w1 (w2.alloc (.cells (Array.replicate (q + 1) (Value.bool false)) 4)) := B2.out.trans (b3.mono hz2)
  generalize w2.alloc (.cells (Array.replicate (q + 1) (Value.bool false)) 4) = W3 at *
  generalize w2.heap.size = D at *
  have HB3 := Lib.hid hB3
  have T3 := Lib.hid t3
  have D3 := Lib.hid d3
  clear b3 t3 d3 T2 B2 hB3 hmk
  have hN : ∀ wr : World, W3.heap.size ≤ wr.heap.size → ∀ j, wr.heap.size ≤ j → (fun j => w1.heap.size ≤ j ∧ j ≠ D) j := fun wr h j hj => ⟨by omega, by omega⟩
  have HNH := Lib.hid hN
  clear hN
  go_loopw [33] (fun u wr => ∃ j n pr : Nat, u = .int .i64 (j : Int) ∧ j ≤ q + 1 ∧ Hid (TX wr (fun j => w1.heap.size ≤ j ∧ j ≠ D) P M seed n (H.kept j (fun _ => true) (fun i => ((7, H.px f s i), i * 3))) pr 0) ∧ Hid (ButS W3 wr (fun j => w1.heap.size ≤ j ∧ j ≠ D)))
    (fun u _ => q + 1 - (intOf u).toNat)
  case atStart => exact ⟨0, 8, 0, rfl, by omega, T3, Lib.hid (ButS.refl _ _)⟩
  case round =>
    obtain ⟨j, n, pr, rfl, hj, HT, HB⟩ := hrel
    by_cases hlt : j < q + 1
    · have hT1 : decide ((j : Int) < 1 + (q : Int)) = true := decide_eq_true (by omega)
      obtain ⟨p1, p2⟩ := px_int f s j
      have wj : IntKind.u64.wrap (j : Int) = (j : Int) := u64_in _ (by omega) (by omega)
      have wj3 : IntKind.u64.wrap ((j : Int) * 3) = (j : Int) * 3 := u64_in _ (by omega) (by omega)
      have hput := Lib.hid (tx_put_no HT.out (HNH.out wr HB.out.size) (7, H.px f s j) 7 (H.px f s j : Int) ((j : Int) * 3) rfl rfl (j * 3) (by omega) (show 7 < 256 by decide) (H.px_lt f s j) (by omega) (by
        intro x hx
        obtain ⟨i, hi, _, rfl⟩ := H.kept_mem.1 hx
        intro e
        have := H.px_inj HO.out (by omega) (by omega) (Prod.mk.inj e).2
        omega) (by have := H.kept_len j (fun _ => true) (fun i => ((7, H.px f s i), i * 3)); omega))
      have hks : (((7, H.px f s j), j * 3) :: H.kept j (fun _ => true) (fun i => ((7, H.px f s i), i * 3))).Perm (H.kept (j + 1) (fun _ => true) (fun i => ((7, H.px f s i), i * 3))) := H.kept_succ j (fun _ => true) (fun i => ((7, H.px f s i), i * 3)) rfl
      have HKS := Lib.hid hks
      clear hks
      generalize H.px f s j = px at *
      go_wp2_with (first
        | (go_at_call 17; (with_reducible refine hput.out.mono ?_); rintro e w4 ⟨n4, p4, rfl, ht, hb, _, _⟩
           have T4 := Lib.hid ht
           have B4 := Lib.hid hb
           clear ht hb))
      exact ⟨⟨j + 1, n4, p4, by go_num, by omega, Lib.hid (T4.out.perm HKS.out), Lib.hid (HB.out.trans B4.out)⟩, by simp [intOf]; omega⟩
    · obtain rfl : j = q + 1 := by omega
      have hT1 : decide (((q + 1 : Nat) : Int) < 1 + (q : Int)) = false := decide_eq_false (by omega)
      have hT2 : decide ((q : Int) + 1 < 1 + (q : Int)) = false := decide_eq_false (by omega)
      have T4 := Lib.hid (show TX wr (fun j => w1.heap.size ≤ j ∧ j ≠ D) P M seed n (H.kept (q + 1) (fun i => !((List.replicate (q + 1) false)[i]?.getD false)) (fun i => ((7, H.px f s i), i * 3))) pr 0 by
        rw [H.kept_congr (q + 1) _ (fun _ => true) _ (fun i hi => by simp [hi])]
        exact HT.out)
      have D4 := Lib.hid (D3.out.but HB.out (fun h => h.2 rfl))
      have HB4 := HB
      clear HT HB hT1 T3 D3 hj
      go_wp2
      clear hT2
      go_loopw [51] (fun u wr => ∃ (j n pr : Nat) (dr : List Bool), u = .int .i64 (j : Int) ∧ j ≤ xs.length ∧ Hid (dr.length = q + 1) ∧ Hid (TX wr (fun j => w1.heap.size ≤ j ∧ j ≠ D) P M seed n (H.kept (q + 1) (fun i => !(dr[i]?.getD false)) (fun i => ((7, H.px f s i), i * 3))) pr 0) ∧ Hid (BB wr D dr) ∧ Hid (ButS W3 wr (fun j => w1.heap.size ≤ j)))
        (fun u _ => xs.length - (intOf u).toNat)
      case atStart => exact ⟨0, n, pr, _, rfl, by omega, Lib.hid (by simp), T4, D4, Lib.hid (HB4.out.mono (fun j _ h => h.1))⟩
      case round =>
        obtain ⟨j, n, pr, dr, rfl, hj, HL, HT, HD, HB⟩ := hrel
        clear T4 D4 HB4
        by_cases hend : j < xs.length ∧ j < 200
        · obtain ⟨hlt, h200⟩ := hend
          have hrx := hr.below (HB1.out.trans ((HB3.out.mono HB1.out.size).trans (HB.out.below (B := w.heap.size) (by have := HB1.out.size; have := HB3.out.size; omega) (fun j h => by have := HB1.out.size; omega)))) (Nat.le_refl _)
          obtain ⟨b, off, rfl, _, hc⟩ := hrx.at hlt
          have hxb := hx _ (List.getElem_mem hlt)
          generalize xs[j] = x at *
          obtain ⟨a, ha⟩ : ∃ a, a = x % (q + 1) := ⟨_, rfl⟩
          obtain ⟨e1, e2⟩ := mod_step x q
          rw [← ha] at e1 e2
          have hal : a < q + 1 := by rw [ha]; exact Nat.mod_lt _ (by omega)
          have HA := Lib.hid ha
          clear ha hrx
          have hadr : a < dr.length := by rw [HL.out]; exact hal
          have hcd := HD.out.cell a hadr
          have hfd := HD.out.fr a
          obtain ⟨p1, p2⟩ := px_int f s a
          have wa : IntKind.u64.wrap (a : Int) = (a : Int) := u64_in _ (by omega) (by omega)
          have wx : IntKind.i64.wrap (x : Int) = (x : Int) := IntWalk.i64_in _ (by omega)
          have T1 : decide ((j : Int) < (xs.length : Int)) = true := decide_eq_true (by omega)
          have T2 : decide (200 ≤ (j : Int)) = false := decide_eq_false (by omega)
          have T3 : decide (200 ≤ j) = false := decide_eq_false (by omega)
          have hgd : dr[a]?.getD false = dr[a] := by rw [List.getElem?_eq_getElem hadr]; rfl
          have hb0 := Below.refl wr.heap.size wr
          have hND := HNH.out wr (by have := HB.out.size; omega)
          have hDlt := HD.out.lt
          have ai0 : (0 : Int) ≤ (a : Int) := by omega
          have ai1 : (a : Int) < (q : Int) + 1 := by omega
          cases hb : dr[a] with
          | false =>
            rw [hb] at hcd hgd
            have hkd : (H.kept (q + 1) (fun i => !(dr[i]?.getD false)) (fun i => ((7, H.px f s i), i * 3))).Perm (((7, H.px f s a), a * 3) :: H.kept (q + 1) (fun i => !((dr.set a true)[i]?.getD false)) (fun i => ((7, H.px f s i), i * 3))) :=
              H.kept_drop (q + 1) (fun i => !(dr[i]?.getD false)) (fun i => !((dr.set a true)[i]?.getD false)) (fun i => ((7, H.px f s i), i * 3)) a hal (by simp [hgd]) (by simp [hadr]) (fun i hi => by simp [List.getElem?_set_ne (Ne.symm hi)])
            have hdr := Lib.hid (tx_drop_yes (HT.out.drewN 1) (fun j hj => hND j hj) (7, H.px f s a) 7 (H.px f s a : Int) rfl rfl (a * 3) (show 7 < 256 by decide) _ hkd (by have := H.kept_len (q + 1) (fun i => !((dr.set a true)[i]?.getD false)) (fun i => ((7, H.px f s i), i * 3)); omega))
            clear hkd hgd hb
            generalize H.px f s a = px at *
            go_wp2
            go_region_held3 (fun w' => w'.cell? ⟨D, a, none⟩ = some (.bool false))
              (first | exact hcd4 | go_keep)
              (first
                | (go_at_call 19; refine hdr.out.mono ?_; rintro e w4 ⟨n4, p4, rfl, ht, hb, _, _⟩
                   have T4 := Lib.hid ht
                   have B4 := Lib.hid hb
                   have D4 := Lib.hid (BB.but (w := wr.drewN 1) HD.out hb (fun h => h.2 rfl))
                   have hcd4 : w4.cell? ⟨D, a, none⟩ = some (.bool false) := (by (have := B4.out.cell (b := D) (w := wr.drewN 1) hDlt (fun h => h.2 rfl) a; rw [this]; exact hcd))
                   have hfd4 := D4.out.fr a
                   clear ht hb))
            go_wp2
            exact ⟨⟨j + 1, n4, p4, dr.set a true, by go_num, by omega, Lib.hid (by rw [List.length_set]; exact HL.out), Lib.hid (T4.out.but (but_set' w4 D a (.bool true) (· = D) rfl) (fun j h => h.2)), Lib.hid (D4.out.set a true),
              Lib.hid ((HB.out.trans (((ButS.refl wr _).drewN 1).trans (B4.out.mono (fun j _ h => h.1)))).trans (but_set' w4 D a (.bool true) _ hz2))⟩, by simp [intOf]; omega⟩
          | true =>
            rw [hb] at hcd hgd
            have hkd : ∀ x ∈ H.kept (q + 1) (fun i => !(dr[i]?.getD false)) (fun i => ((7, H.px f s i), i * 3)), x.1 ≠ (7, H.px f s a) := by
              intro y hy e
              obtain ⟨i, hi, hd, rfl⟩ := H.kept_mem.1 hy
              have := H.px_inj HO.out (by omega) (by omega) (Prod.mk.inj e).2
              subst this
              simp [hgd] at hd
            have hdr := Lib.hid (tx_drop_no (HT.out.drewN 1) (fun j hj => hND j hj) (7, H.px f s a) 7 (H.px f s a : Int) rfl rfl (show 7 < 256 by decide) hkd)
            have hks : H.kept (q + 1) (fun i => !(dr[i]?.getD false)) (fun i => ((7, H.px f s i), i * 3)) = H.kept (q + 1) (fun i => !((dr.set a true)[i]?.getD false)) (fun i => ((7, H.px f s i), i * 3)) := by
              refine H.kept_congr _ _ _ _ (fun i _ => ?_)
              by_cases e : a = i
              · subst e; simp [hadr, hb]
              · simp [List.getElem?_set_ne e]
            have HKS := Lib.hid hks
            clear hkd hgd hb hks
            generalize H.px f s a = px at *
            go_wp2
            go_region_held3 (fun w' => w'.cell? ⟨D, a, none⟩ = some (.bool true))
              (first | exact hcd4 | go_keep)
              (first
                | (go_at_call 19; refine hdr.out.mono ?_; rintro e w4 ⟨n4, p4, rfl, ht, hb, _, _⟩
                   have T4 := Lib.hid ht
                   have B4 := Lib.hid hb
                   have D4 := Lib.hid (BB.but (w := wr.drewN 1) HD.out hb (fun h => h.2 rfl))
                   have hcd4 : w4.cell? ⟨D, a, none⟩ = some (.bool true) := (by (have := B4.out.cell (b := D) (w := wr.drewN 1) hDlt (fun h => h.2 rfl) a; rw [this]; exact hcd))
                   have hfd4 := D4.out.fr a
                   clear ht hb))
            go_wp2
            exact ⟨⟨j + 1, n4, p4, dr.set a true, by go_num, by omega, Lib.hid (by rw [List.length_set]; exact HL.out), Lib.hid (by rw [← HKS.out]; exact T4.out.but (but_set' w4 D a (.bool true) (· = D) rfl) (fun j h => h.2)), Lib.hid (D4.out.set a true),
              Lib.hid ((HB.out.trans (((ButS.refl wr _).drewN 1).trans (B4.out.mono (fun j _ h => h.1)))).trans (but_set' w4 D a (.bool true) _ hz2))⟩, by simp [intOf]; omega⟩
        · have hends : (∃ b off, j < xs.length ∧ Ad = some ⟨b, off, none⟩ ∧ wr.cell? ⟨b, off + j, none⟩ = some (.int .u8 ((xs[j]?.getD 0 : Nat) : Int)) ∧ 200 ≤ j) ∨ j = xs.length := by
            by_cases hlt : j < xs.length
            · left
              have hrx := hr.below (HB1.out.trans ((HB3.out.mono HB1.out.size).trans (HB.out.below (B := w.heap.size) (by have := HB1.out.size; have := HB3.out.size; omega) (fun j h => by have := HB1.out.size; omega)))) (Nat.le_refl _)
              obtain ⟨b, off, h1, _, hc⟩ := hrx.at hlt
              exact ⟨b, off, hlt, h1, by rw [hc, List.getElem?_eq_getElem hlt]; rfl, by omega⟩
            · right; omega
          have HW := Lib.hid (HB1.out.trans ((HB3.out.mono HB1.out.size).trans (HB.out.below (B := w.heap.size) (by have := HB1.out.size; have := HB3.out.size; omega) (fun j h => by have := HB1.out.size; omega))))
          clear hr hend
          have hND := HNH.out
          rcases hends with ⟨b, off, hlt, rfl, hc, h200⟩ | rfl
          · have T1 : decide ((j : Int) < (xs.length : Int)) = true := decide_eq_true (by omega)
            have T2 : decide (200 ≤ (j : Int)) = true := decide_eq_true (by omega)
            have T3 : decide (200 ≤ j) = true := decide_eq_true (by omega)
            clear hND
            go_wp2
            go_loopw [81] (fun u wr => ∃ (j n pr : Nat), u = .int .i64 (j : Int) ∧ j ≤ q + 1 ∧ Hid (TX wr (fun j => w1.heap.size ≤ j ∧ j ≠ D) P M seed n (H.kept (q + 1) (fun i => !(dr[i]?.getD false)) (fun i => ((7, H.px f s i), i * 3))) pr j) ∧ Hid (BB wr D dr) ∧ Hid (Below w.heap.size w wr) ∧ W3.heap.size ≤ wr.heap.size)
              (fun u _ => q + 1 - (intOf u).toNat)
            case atStart => exact ⟨0, n, pr, rfl, by omega, HT, HD, HW, HB.out.size⟩
            case round =>
              clear HT HD HW HB
              obtain ⟨j, n, pr, rfl, hj, HT, HD, HW, hsz⟩ := hrel
              by_cases hlt3 : j < q + 1
              · have hT1 : decide ((j : Int) < 1 + (q : Int)) = true := decide_eq_true (by omega)
                obtain ⟨p1, p2⟩ := px_int f s j
                have wj : IntKind.u64.wrap (j : Int) = (j : Int) := u64_in _ (by omega) (by omega)
                have wj3 : IntKind.u64.wrap ((j : Int) * 3) = (j : Int) * 3 := u64_in _ (by omega) (by omega)
                have hjdr : j < dr.length := by rw [HL.out]; exact hlt3
                have hcd := HD.out.cell j hjdr
                have hgd : dr[j]?.getD false = dr[j] := by rw [List.getElem?_eq_getElem hjdr]; rfl
                have hND := HNH.out wr hsz
                have hDlt := HD.out.lt
                have ai1 : (j : Int) < (q : Int) + 1 := by omega
                cases hb : dr[j] with
                | false =>
                  rw [hb] at hcd hgd
                  have hge := Lib.hid (tx_get_yes HT.out (fun j hj => hND j hj) (7, H.px f s j) 7 (H.px f s j : Int) ((j : Int) * 3) rfl rfl (j * 3) (by omega) (show 7 < 256 by decide) (H.kept_mem.2 ⟨j, hlt3, by simp [hgd], rfl⟩) (by omega))
                  clear hgd hb hND
                  generalize H.px f s j = px at *
                  go_wp2_with (first
                    | (go_at_call 18; (with_reducible refine hge.out.mono ?_); rintro e w4 ⟨n4, p4, rfl, ht, hb, _, _⟩
                       have T4 := Lib.hid ht
                       have B4 := Lib.hid hb
                       have D4 := Lib.hid (HD.out.but hb (fun h => h.2 rfl))
                       have hcd4 : w4.cell? ⟨D, j, none⟩ = some (.bool false) := (by (have := B4.out.cell (b := D) hDlt (fun h => h.2 rfl) j; rw [this]; exact hcd))
                       clear ht hb))
                  exact ⟨⟨j + 1, n4, p4, by go_num, by omega, T4, D4, Lib.hid (HW.out.trans (B4.out.below (B := w.heap.size) (by have := HW.out.size; omega) (fun j h => by have := HB1.out.size; omega))), by have := B4.out.size; omega⟩, by simp [intOf]; omega⟩
                | true =>
                  rw [hb] at hcd hgd
                  have hkd : ∀ x ∈ H.kept (q + 1) (fun i => !(dr[i]?.getD false)) (fun i => ((7, H.px f s i), i * 3)), x.1 ≠ (7, H.px f s j) := by
                    intro y hy e
                    obtain ⟨i, hi, hd, rfl⟩ := H.kept_mem.1 hy
                    have := H.px_inj HO.out (by omega) (by omega) (Prod.mk.inj e).2
                    subst this
                    simp [hgd] at hd
                  have hge := Lib.hid (tx_get_no HT.out (fun j hj => hND j hj) (7, H.px f s j) 7 (H.px f s j : Int) rfl rfl (show 7 < 256 by decide) hkd (by omega))
                  clear hgd hb hkd hND
                  generalize H.px f s j = px at *
                  go_wp2_with (first
                    | (go_at_call 18; (with_reducible refine hge.out.mono ?_); rintro e w4 ⟨n4, p4, rfl, ht, hb, _, _⟩
                       have T4 := Lib.hid ht
                       have B4 := Lib.hid hb
                       have D4 := Lib.hid (HD.out.but hb (fun h => h.2 rfl))
                       have hcd4 : w4.cell? ⟨D, j, none⟩ = some (.bool true) := (by (have := B4.out.cell (b := D) hDlt (fun h => h.2 rfl) j; rw [this]; exact hcd))
                       clear ht hb))
                  exact ⟨⟨j + 1, n4, p4, by go_num, by omega, T4, D4, Lib.hid (HW.out.trans (B4.out.below (B := w.heap.size) (by have := HW.out.size; omega) (fun j h => by have := HB1.out.size; omega))), by have := B4.out.size; omega⟩, by simp [intOf]; omega⟩
              · obtain rfl : j = q + 1 := by omega
                have hT1 : decide (((q + 1 : Nat) : Int) < 1 + (q : Int)) = false := decide_eq_false (by omega)
                have hT2 : decide ((q : Int) + 1 < 1 + (q : Int)) = false := decide_eq_false (by omega)
                go_wp2
                refine bodyPost_ret (results_tmp (t := 10) rfl _ _ _) rfl ?_
                exact ⟨rfl, HW.out⟩
          · have T1 : decide ((xs.length : Int) < (xs.length : Int)) = false := decide_eq_false (by omega)
            clear hND
            go_wp2
            go_loopw [81] (fun u wr => ∃ (j n pr : Nat), u = .int .i64 (j : Int) ∧ j ≤ q + 1 ∧ Hid (TX wr (fun j => w1.heap.size ≤ j ∧ j ≠ D) P M seed n (H.kept (q + 1) (fun i => !(dr[i]?.getD false)) (fun i => ((7, H.px f s i), i * 3))) pr j) ∧ Hid (BB wr D dr) ∧ Hid (Below w.heap.size w wr) ∧ W3.heap.size ≤ wr.heap.size)
              (fun u _ => q + 1 - (intOf u).toNat)
            case atStart => exact ⟨0, n, pr, rfl, by omega, HT, HD, HW, HB.out.size⟩
            case round =>
              clear HT HD HW HB
              obtain ⟨j, n, pr, rfl, hj, HT, HD, HW, hsz⟩ := hrel
              by_cases hlt3 : j < q + 1
              · have hT1 : decide ((j : Int) < 1 + (q : Int)) = true := decide_eq_true (by omega)
                obtain ⟨p1, p2⟩ := px_int f s j
                have wj : IntKind.u64.wrap (j : Int) = (j : Int) := u64_in _ (by omega) (by omega)
                have wj3 : IntKind.u64.wrap ((j : Int) * 3) = (j : Int) * 3 := u64_in _ (by omega) (by omega)
                have hjdr : j < dr.length := by rw [HL.out]; exact hlt3
                have hcd := HD.out.cell j hjdr
                have hgd : dr[j]?.getD false = dr[j] := by rw [List.getElem?_eq_getElem hjdr]; rfl
                have hND := HNH.out wr hsz
                have hDlt := HD.out.lt
                have ai1 : (j : Int) < (q : Int) + 1 := by omega
                cases hb : dr[j] with
                | false =>
                  rw [hb] at hcd hgd
                  have hge := Lib.hid (tx_get_yes HT.out (fun j hj => hND j hj) (7, H.px f s j) 7 (H.px f s j : Int) ((j : Int) * 3) rfl rfl (j * 3) (by omega) (show 7 < 256 by decide) (H.kept_mem.2 ⟨j, hlt3, by simp [hgd], rfl⟩) (by omega))
                  clear hgd hb hND
                  generalize H.px f s j = px at *
                  go_wp2_with (first
                    | (go_at_call 18; (with_reducible refine hge.out.mono ?_); rintro e w4 ⟨n4, p4, rfl, ht, hb, _, _⟩
                       have T4 := Lib.hid ht
                       have B4 := Lib.hid hb
                       have D4 := Lib.hid (HD.out.but hb (fun h => h.2 rfl))
                       have hcd4 : w4.cell? ⟨D, j, none⟩ = some (.bool false) := (by (have := B4.out.cell (b := D) hDlt (fun h => h.2 rfl) j; rw [this]; exact hcd))
                       clear ht hb))
                  exact ⟨⟨j + 1, n4, p4, by go_num, by omega, T4, D4, Lib.hid (HW.out.trans (B4.out.below (B := w.heap.size) (by have := HW.out.size; omega) (fun j h => by have := HB1.out.size; omega))), by have := B4.out.size; omega⟩, by simp [intOf]; omega⟩
                | true =>
                  rw [hb] at hcd hgd
                  have hkd : ∀ x ∈ H.kept (q + 1) (fun i => !(dr[i]?.getD false)) (fun i => ((7, H.px f s i), i * 3)), x.1 ≠ (7, H.px f s j) := by
                    intro y hy e
                    obtain ⟨i, hi, hd, rfl⟩ := H.kept_mem.1 hy
                    have := H.px_inj HO.out (by omega) (by omega) (Prod.mk.inj e).2
                    subst this
                    simp [hgd] at hd
                  have hge := Lib.hid (tx_get_no HT.out (fun j hj => hND j hj) (7, H.px f s j) 7 (H.px f s j : Int) rfl rfl (show 7 < 256 by decide) hkd (by omega))
                  clear hgd hb hkd hND
                  generalize H.px f s j = px at *
                  go_wp2_with (first
                    | (go_at_call 18; (with_reducible refine hge.out.mono ?_); rintro e w4 ⟨n4, p4, rfl, ht, hb, _, _⟩
                       have T4 := Lib.hid ht
                       have B4 := Lib.hid hb
                       have D4 := Lib.hid (HD.out.but hb (fun h => h.2 rfl))
                       have hcd4 : w4.cell? ⟨D, j, none⟩ = some (.bool true) := (by (have := B4.out.cell (b := D) hDlt (fun h => h.2 rfl) j; rw [this]; exact hcd))
                       clear ht hb))
                  exact ⟨⟨j + 1, n4, p4, by go_num, by omega, T4, D4, Lib.hid (HW.out.trans (B4.out.below (B := w.heap.size) (by have := HW.out.size; omega) (fun j h => by have := HB1.out.size; omega))), by have := B4.out.size; omega⟩, by simp [intOf]; omega⟩
              · obtain rfl : j = q + 1 := by omega
                have hT1 : decide (((q + 1 : Nat) : Int) < 1 + (q : Int)) = false := decide_eq_false (by omega)
                have hT2 : decide ((q : Int) + 1 < 1 + (q : Int)) = false := decide_eq_false (by omega)
                go_wp2
                refine bodyPost_ret (results_tmp (t := 10) rfl _ _ _) rfl ?_
                exact ⟨rfl, HW.out⟩
end Go.Proofs.Ytmlidbmpnhfffaa
