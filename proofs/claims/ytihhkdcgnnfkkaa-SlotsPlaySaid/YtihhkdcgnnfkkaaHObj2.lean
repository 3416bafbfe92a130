
/- Where an entry would stand: free; the text walked. -/
import Derived.Test.YtihhkdcgnnfkkaaHObj
namespace Go.Proofs.Ytihhkdcgnnfkkaa.Hs
set_option maxRecDepth 4000
open Go.RowKit
theorem Tb.below {w w' : World} {P Q M seed c pr B : Nat} {ps : List H.En} (a : Tb w P Q M seed c pr ps) (hb : Below B w w') (h : w.heap.size ≤ B) : Tb w' P Q M seed c pr ps :=
  a.but (ButS.of_below hb h (S := fun _ => False)) (fun h => h) (fun h => h)
def FreeP (w : World) (n seed : Nat) (ps : List H.En) (k : H.Key) (e : Ending) (w' : World) : Prop :=
  ∃ i d : Nat, e = .returned (.int .i64 (i : Int)) ∧ H.Scan n (hmN seed n k) ps i d ∧ (H.ge ps i).t = false ∧ Below w.heap.size w w'
set_option maxHeartbeats 1000000 in
theorem t_free (w : World) (P Q M seed c pr : Nat) (ps : List H.En) (a : Tb w P Q M seed c pr ps) (k : H.Key) (k1 : k.1 < 256)
    (hf : ∃ f, f < ps.length ∧ (H.ge ps f).t = false) :
    Calls Try.prog 43 #[.pointer (some ⟨P, 0, none⟩), .agg #[.int .u8 (k.1 : Int), .int .u64 (k.2 : Int)]] w (FreeP w ps.length seed ps k) := by
  obtain ⟨q, hq, hq3, hn⟩ := a.pw
  have hl8 := a.len
  have b0 : Below w.heap.size w (w.alloc (.cells #[.int .u8 (k.1 : Int), .int .u64 (k.2 : Int)] 66)) := (Below.refl _ w).alloc (Nat.le_refl _) _
  have a1 := a.below b0 (Nat.le_refl _)
  have kb : KB (w.alloc (.cells #[.int .u8 (k.1 : Int), .int .u64 (k.2 : Int)] 66)) w.heap.size k := alloc_topI _ _
  have kc0 := kb.c0
  have kc1 := kb.c1
  have hh := Lib.hid (t_home _ P Q M seed ps.length c pr q a1.row hn (by omega) k k1)
  have HA := Lib.hid a1
  have HB := Lib.hid b0
  have HN := Lib.hid hn
  have HF := Lib.hid hf
  have hpos := hmN_lt seed ps.length k (by omega)
  clear a a1 b0 kb hn hf
  go_enter Try.func43, Try.ntmps43
  go_wp2_with (go_at_call 45; (with_reducible refine hh.out.mono ?_); rintro e w1 ⟨rfl, hb1⟩; have HB1 := Lib.hid (HB.out.trans (hb1.mono (by have := HB.out.size; omega))); have HA1 := Lib.hid (HA.out.below hb1 (Nat.le_refl _)); clear hb1)
  clear hh HA HB kc0 kc1
  go_loop [5] (fun u => ∃ i d : Nat, u = .int .i64 (i : Int) ∧ Hid (H.Scan ps.length (hmN seed ps.length k) ps i d))
    (fun u => ps.length - H.wy ps.length (hmN seed ps.length k) (intOf u).toNat)
  case atStart => exact ⟨hmN seed ps.length k, 0, rfl, Lib.hid (H.scan_start hpos)⟩
  case round =>
    obtain ⟨i, d, rfl, HS⟩ := hrel
    have hi := HS.out.lt
    obtain ⟨x0, x1, x2, x3⟩ := HA1.out.cellg i hi
    have p2 := HA1.out.row.c2
    clear x0 x1 x2
    cases ht : (H.ge ps i).t with
    | false =>
      rw [ht] at x3
      have HTt := Lib.hid ht
      clear ht
      generalize ps.length = n at *
      go_wp2
      go_ret
      exact ⟨i, d, rfl, HS.out, HTt.out, HB1.out⟩
    | true =>
      rw [ht] at x3
      have hm1 := H.scan_more hpos HS.out ht HF.out
      have hbe := Lib.hid (t_behind w1 P Q M seed ps.length c pr q HA1.out.row HN.out (by omega) i hi)
      have HS2 := Lib.hid (H.scan_step hpos HS.out ht hm1)
      have hms := Lib.hid (show ps.length - H.wy ps.length (hmN seed ps.length k) (H.nx ps.length i) < ps.length - H.wy ps.length (hmN seed ps.length k) i by
        rw [HS2.out.way, HS.out.way]; omega)
      clear ht
      generalize ps.length = n at *
      go_wp2_with (go_at_call 46; (with_reducible refine hbe.out.mono ?_); rintro e w' ⟨rfl, rfl⟩)
      go_round
      case rel => exact ⟨H.nx n i, d + 1, rfl, HS2⟩
      case measure => exact hms.out
end Go.Proofs.Ytihhkdcgnnfkkaa.Hs
