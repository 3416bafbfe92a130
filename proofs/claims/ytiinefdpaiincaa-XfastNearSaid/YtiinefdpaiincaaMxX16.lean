/- A new trie; the texts walked. -/
import Derived.Test.YtiinefdpaiincaaMxX15
namespace Go.Proofs.Ytiinefdpaiincaa
open Go.RowKit
theorem cell_more {w : World} {p : Addr} {v : Value} (h : w.cell? p = some v) (o : Obj) : (w.alloc o).cell? p = some v := by
  have hlt : p.block < w.heap.size := Classical.byContradiction fun hn => by
    have : w.heap[p.block]? = none := Array.getElem?_eq_none (by omega)
    simp [World.cell?, this] at h
  have e : (w.alloc o).heap[p.block]? = w.heap[p.block]? := Below.heap_alloc _ _ _ hlt
  simp only [World.cell?] at h ⊢
  rw [e]
  exact h
set_option maxHeartbeats 1000000 in
theorem xf_new (w : World) (sd n : Nat) (hn : n ≤ 500000) : Calls Try.prog 8 #[.int .u64 (sd : Int), .int .i64 (n : Int)] w fun e w' => ∃ Xb tk O, e = .returned (.tuple #[.pointer (some ⟨Xb, 0, none⟩), .int .i64 0]) ∧ XZ w' Xb [] n tk O ∧ Below w.heap.size w w' ∧ ∀ j, O j → w.heap.size ≤ j := by
  have hc := Lib.hid (c_new w n (by omega))
  have HNN := Lib.hid hn
  clear hn
  go_enter Try.func8, Try.ntmps8
  go_wp2_with (first
    | (go_at_call 35; (with_reducible refine hc.out.mono ?_); rintro e w1 ⟨C, Q, M, rfl, hch, hmx, a1, a2, a3, hb1⟩
       have hd : CW w1.drew C Q M n none 0 none 0 [] [] [] := hch.chg ((chg_refl w1 (fun _ => False)).drewN 1) (fun _ _ h => h)
       have hmd : Mx w1.drew M 0 := hmx.chg ((chg_refl w1 (fun _ => False)).drewN 1) (fun h => h)
       have HS1 := Lib.hid hd.cb.c0
       have HD := Lib.hid hd
       have HMD := Lib.hid hmd
       have HB1 : Hid (Below w.heap.size w w1.drew) := Lib.hid hb1.drew
       have HA := Lib.hid (And.intro a1 (And.intro a2 a3))
       have HN := Lib.hid (Hs.tab_new_nil w1.drew sd)
       clear hch hmx a1 a2 a3 hb1 hd hmd))
  go_region_held3 (fun Y => Y.cell? ⟨C, 0, none⟩ = some (.pointer (some ⟨M, 0, none⟩))) (first | (with_reducible exact HS1.out) | (with_reducible exact HS2.out) | (with_reducible exact HS3.out _) | go_keep)
    ((go_at_call 36; (with_reducible refine HN.out.mono ?_); rintro e w2 ⟨Pt, Qt, Mt, rfl, ht, hb2, p1, p2, p3⟩
      have hs2 : w2.cell? ⟨C, 0, none⟩ = some (.pointer (some ⟨M, 0, none⟩)) := (HD.out.chg (K.Chg.of_below (O := fun _ => False) hb2) (fun _ _ h => h)).cb.c0
      have HS2 := Lib.hid hs2
      have HS3 := Lib.hid (fun o => cell_more hs2 o)
      have HT := Lib.hid ht
      have HB2 := Lib.hid hb2
      have HP := Lib.hid (And.intro p1 (And.intro p2 p3))
      clear ht hb2 p1 p2 p3 hs2))
  all_goals
    go_wp2
    go_ret2
    have hb3 : Below w1.drew.heap.size w1.drew (w2.alloc (.cells #[.pointer (some ⟨M, 0, none⟩), .pointer (some ⟨C, 0, none⟩), .pointer (some ⟨Pt, 0, none⟩), .int .i64 (n : Int)] 44)) := HB2.out.alloc HB2.out.size _
    have hc3 := K.Chg.of_below (O := fun _ => False) hb3
    have hca := chg_alloc w2 (.cells #[.pointer (some ⟨M, 0, none⟩), .pointer (some ⟨C, 0, none⟩), .pointer (some ⟨Pt, 0, none⟩), .int .i64 (n : Int)] 44) (fun _ => False)
    obtain ⟨a1, a2, a3⟩ := HA.out
    obtain ⟨p1, p2, p3⟩ := HP.out
    have hz1 := HB1.out.size
    have hz2 := HB2.out.size
    have hM := HMD.out.lt
    have hMt : w1.drew.heap.size ≤ Mt := by
      rcases p3 with p3 | p3
      · cases p3
      · exact p3.2
    have hb4 : Below w.heap.size w (w2.alloc (.cells #[.pointer (some ⟨M, 0, none⟩), .pointer (some ⟨C, 0, none⟩), .pointer (some ⟨Pt, 0, none⟩), .int .i64 (n : Int)] 44)) := HB1.out.trans (hb3.mono hz1)
    refine ⟨w2.heap.size, 0, _, rfl, ⟨C, Q, M, Pt, [], [], ⟨⟨sd, none, 0, none, 0, [], [], Qt, Mt, 8, 0, ⟨K.alloc_top _ _, HMD.out.chg hc3 (fun h => h), HD.out.chg hc3 (fun _ _ h => h), HT.out.but (ButS.of_chg hca) (fun _ _ h => h), by omega⟩, rfl⟩, X.TE.zero, rfl, List.Pairwise.nil, rfl, Nat.zero_le _, HNN.out, by omega⟩⟩, hb4, fun j hj => ?_⟩
    rcases hj with h | h | (h | h | h | h) | (h | h | h)
    · omega
    · omega
    · omega
    · omega
    · cases h
    · cases h
    · omega
    · omega
    · omega
end Go.Proofs.Ytiinefdpaiincaa
