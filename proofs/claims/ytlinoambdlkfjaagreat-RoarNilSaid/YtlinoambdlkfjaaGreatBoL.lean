
/- A number is added to a box of few; the text walked. -/
import Derived.Test.YtlinoambdlkfjaaGreatBoM
namespace Go.Proofs.YtlinoambdlkfjaaGreat
set_option maxRecDepth 40000
open Go.RowKit
set_option maxHeartbeats 8000000 in
theorem ba_Add (w : World) (q : Nat) (xs : List Int) (b : Ba w q xs) (x : Nat) (hx : x ≤ 65535) (hv : ¬ (x : Int) ∈ xs) (few : xs.length + 1 ≤ 4096) :
    Calls Tryz.prog 37 #[.pointer (some ⟨q, 0, none⟩), .int .u16 (x : Int)] w fun e w' => e = .returned (.bool true) ∧ ∃ zs, Bd w' q zs (fun j => j < w.heap.size) ∧ (∀ y, y ∈ zs ↔ y ∈ xs ∨ y = (x : Int)) ∧ zs.length ≤ xs.length + 1 ∧ ButS w w' (fun j => j = q) := by
  have hH := ba_Has w q xs b x
  rw [has_eq, decide_eq_false hv] at hH
  have HH := Lib.hid hH
  have HBA := Lib.hid b
  obtain ⟨h1, h2, h3, U, c, a, r, hc⟩ := b
  have HAD := Lib.hid (fun W (hW : Below w.heap.size w W) => A.a_add W w.heap.size xs.length c U xs (x : Int) rfl (r.below hW (Nat.le_refl _)) h1 hW.size hc (by omega))
  have hA := fun w => isAA w U xs.length c
  have HA := Lib.hid a
  have HF := Lib.hid few
  have HX := Lib.hid hx
  have HP := fun W V n d hn => Lib.hid (plain_few W V n d hn)
  clear hH h1 h2 h3 a r hc hv few hx
  unfold vA at *
  have c0 := HA.out.c0
  go_enter Tryz.func37, Tryz.ntmps37
  go_wp2_with (first
    | (go_at_call 32; (with_reducible refine HH.out.mono ?_); rintro e w1 ⟨rfl, hb⟩; have HB1 := Lib.hid hb; have c01 := (HA.out.all_below hb).c0; clear hb c0)
    | (go_at_call 51; (with_reducible refine (HAD.out _ HB1.out).mono ?_); rintro e w2 ⟨val, zs, rfl, hz1, hz2, hz3, ho, hb⟩
       obtain ⟨U2, c2, rfl, hr2, _⟩ := Rh.of_own ho
       have hbw : Below w.heap.size w w2 := HB1.out.trans (hb.mono HB1.out.size)
       have HB2 := Lib.hid hbw
       have HZ1 := Lib.hid hz1
       have HZ2 := Lib.hid hz2
       have HZ3 := Lib.hid hz3
       have HC2 := Lib.hid (own_cap ho U2 c2 rfl)
       have HR2 := Lib.hid hr2
       have HG : Hid (∀ g off, U2 = some ⟨g, off, none⟩ → w.heap.size ≤ g) := Lib.hid (fun g off e => by
         subst e
         rcases A.own_two ho with ⟨h, _⟩ | ⟨g', c', h, hg⟩
         · cases h
         · cases h; exact Nat.le_trans HB1.out.size hg)
       have c02 := (HA.out.all_below hbw).c0
       have fz2 : w2.frozen? ⟨q, 0, none⟩ = false := by simp [World.frozen?, (HA.out.all_below hbw).row]
       have HPP := HP w2 U2 zs.length c2 (by have := HF.out; omega)
       have hd1 : Hid (true = true) := Lib.hid rfl
       clear hb hbw hz1 hz2 hz3 ho hr2 c01)
    | (go_at_call 52; (with_reducible refine HPP.out.mono ?_); rintro e w3 ⟨rfl, hb3⟩
       have HB3 : Hid (Below w.heap.size w w3) := Lib.hid (HB2.out.trans (hb3.mono HB2.out.size))
       have HB23 := Lib.hid hb3
       have c03 := (HA.out.all_below HB3.out).c0
       have fz3 : w3.frozen? ⟨q, 0, none⟩ = false := by simp [World.frozen?, (HA.out.all_below HB3.out).row]
       clear hb3 c02 fz2))
  go_ret
  have hA3 := HA.out.all_below HB3.out
  refine ⟨rfl, zs, ⟨HZ1.out, fun y hy => ?_, by have := HZ3.out; have := HF.out; omega, U2, c2, ⟨?_⟩, ?_, HC2.out, fun g off e ha => by have := HG.out g off e; omega⟩, HZ2.out, HZ3.out, (ButS.of_below HB3.out (Nat.le_refl _)).trans (but_set' _ q 0 _ _ rfl)⟩
  · rcases (HZ2.out y).1 hy with h | h
    · exact HBA.out.range y h
    · have := HX.out; omega
  · simp [World.setCell, Array.getElem?_modify, hA3.row, vA]
  · intro hne
    have hr3 := HR2.out.below HB23.out (Nat.le_refl _)
    obtain ⟨g, off, e, hlt, hcl⟩ := hr3 hne
    have hgq : g ≠ q := by have := HG.out g off e; have := HA.out.lt; omega
    refine ⟨g, off, e, by simp [World.setCell]; exact Nat.lt_of_lt_of_le hlt HB23.out.size, fun k hk => ?_⟩
    rw [← hcl k hk]
    simp [World.cell?, World.setCell, Array.getElem?_modify, Ne.symm hgq]
end Go.Proofs.YtlinoambdlkfjaaGreat
