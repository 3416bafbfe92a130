
/- All entries are moved to other places; the text walked. -/
import Derived.Test.YtihhkdcgnnfkkaaHObj3
import Derived.Test.YtihhkdcgnnfkkaaHMath2
import Derived.Deep.RegionHeld3
namespace Go.Proofs.Ytihhkdcgnnfkkaa.Hs
set_option maxRecDepth 4000
open Go.RowKit
theorem made_ev (n : Nat) : madeCells #[.int .u8 0, .int .u64 0, .int .u64 0, .bool false] (n * 4) = (ev (List.replicate n H.z)).toArray := by
  apply Array.ext
  · simp [madeCells, ev_len]
  · intro i h1 h2
    have hn : i < n * 4 := by simpa [madeCells] using h1
    have hk : i / 4 < (List.replicate n H.z).length := by rw [List.length_replicate]; omega
    have h := ev_at (List.replicate n H.z) (i / 4) hk
    have hz : (List.replicate n H.z)[i / 4] = H.z := by simp
    rw [hz] at h
    have hm : i % 4 = 0 ∨ i % 4 = 1 ∨ i % 4 = 2 ∨ i % 4 = 3 := by omega
    have hL : some ((madeCells #[.int .u8 0, .int .u64 0, .int .u64 0, .bool false] (n * 4))[i]) = (ev (List.replicate n H.z))[i]? → (madeCells #[.int .u8 0, .int .u64 0, .int .u64 0, .bool false] (n * 4))[i] = (ev (List.replicate n H.z)).toArray[i] := by
      intro e
      have h2' : i < (ev (List.replicate n H.z)).length := by simpa using h2
      rw [List.getElem?_eq_getElem h2'] at e
      injection e
    apply hL
    rcases hm with e | e | e | e
    · have ei : i = i / 4 * 4 := by omega
      conv => rhs; rw [ei]
      rw [h.1]; simp [madeCells, e, H.z]
    · have ei : i = i / 4 * 4 + 1 := by omega
      conv => rhs; rw [ei]
      rw [h.2.1]; simp [madeCells, e, H.z]
    · have ei : i = i / 4 * 4 + 2 := by omega
      conv => rhs; rw [ei]
      rw [h.2.2.1]; simp [madeCells, e, H.z]
    · have ei : i = i / 4 * 4 + 3 := by omega
      conv => rhs; rw [ei]
      rw [h.2.2.2]; simp [madeCells, e, H.z]
theorem mk_entries (n : Nat) (hn : n ≤ 2199023255552) (w : World) : (Instr.makeSlice 77 (.int .i64 (n : Int)) (.int .i64 (n : Int))).run Try.prog w = .ok (.slice (some ⟨w.heap.size, 0, none⟩) n n) (w.alloc (.cells (ev (List.replicate n H.z)).toArray 86)) := by
  obtain ⟨ti, hi, hb, hz, hsz⟩ : ∃ ti, Try.prog.info? 86 = some ti ∧ ti.bytes = 32 ∧ ti.zero = some (.agg #[.int .u8 0, .int .u64 0, .int .u64 0, .bool false]) ∧ ti.size = 4 := ⟨_, rfl, rfl, rfl, rfl⟩
  have := run_make (P := Try.prog) w 77 86 ti _ (by kernel_rfl) hi hz .i64 .i64 (n : Int) (n : Int) (by omega) (by omega) (by rw [hb]; omega) (by omega)
  rw [← made_ev]
  simpa [hsz, Value.cells] using this
/-- Block b is an entry. -/
def EB (w : World) (b : Nat) (e : H.En) : Prop := w.heap[b]? = some (.cells #[.int .u8 (e.l : Int), .int .u64 (e.p : Int), .int .u64 (e.v : Int), .bool e.t] 86 (0, 0))
theorem EB.cells {w : World} {b : Nat} {e : H.En} (h : EB w b e) : w.cell? ⟨b, 0, none⟩ = some (.int .u8 (e.l : Int)) ∧ w.cell? ⟨b, 1, none⟩ = some (.int .u64 (e.p : Int)) ∧ w.cell? ⟨b, 2, none⟩ = some (.int .u64 (e.v : Int)) ∧ w.cell? ⟨b, 3, none⟩ = some (.bool e.t) :=
  ⟨cell_of_row w b 0 _ _ (0, 0) h, cell_of_row w b 1 _ _ (0, 0) h, cell_of_row w b 2 _ _ (0, 0) h, cell_of_row w b 3 _ _ (0, 0) h⟩
theorem mvS {w : World} {P Q M seed c pr b size : Nat} {ts : List H.En} {e : H.En} (hT : Tb w P Q M seed c pr ts) (hE : EB w b e) (ht : e.t = true) (hl : ts.length = size) :
    w.cell? ⟨P, 2, none⟩ = some (.slice (some ⟨Q, 0, none⟩) size size) ∧ w.cell? ⟨b, 0, none⟩ = some (.int .u8 (e.l : Int)) ∧ w.cell? ⟨b, 1, none⟩ = some (.int .u64 (e.p : Int)) ∧ w.cell? ⟨b, 2, none⟩ = some (.int .u64 (e.v : Int)) ∧ w.cell? ⟨b, 3, none⟩ = some (.bool true) := by
  have h := hE.cells
  rw [ht] at h
  have hc := hT.row.c2
  rw [hl] at hc
  exact ⟨hc, h.1, h.2.1, h.2.2.1, h.2.2.2⟩
theorem EB.but {w w' : World} {b : Nat} {e : H.En} {S : Nat → Prop} (h : EB w b e) (hb : ButS w w' S) (hs : ¬ S b) : EB w' b e := by
  have hlt : b < w.heap.size := by
    rcases Nat.lt_or_ge b w.heap.size with hlt | hge
    · exact hlt
    · unfold EB at h; rw [Array.getElem?_eq_none hge] at h; cases h
  exact (hb.block b hlt hs).trans h
theorem EB.below {w w' : World} {b B : Nat} {e : H.En} (h : EB w b e) (hb : Below B w w') (hlt : b < B) : EB w' b e := (hb.block b hlt).trans h
def MovedP (w : World) (P M seed c pr size : Nat) (ps : List H.En) (e : Ending) (w' : World) : Prop :=
  ∃ (qs : List H.En) (Q : Nat), e = .returned (.tuple #[]) ∧ Tb w' P Q M seed c pr qs ∧ qs.length = size ∧ H.Inv size (hmN seed size) qs ∧ (H.ents qs).Perm (H.ents ps) ∧ w.heap.size ≤ Q ∧ ButS w w' (· = P)
set_option maxHeartbeats 2000000 in
theorem t_move (w : World) (P Q M seed c pr : Nat) (ps : List H.En) (a : Tb w P Q M seed c pr ps) (I : H.Inv ps.length (hmN seed ps.length) ps) (size q : Nat) (hs : size = 2 ^ q) (hq : q ≤ 40) (hq3 : 3 ≤ q) (hlt : (H.ents ps).length < size) :
    Calls Try.prog 38 #[.pointer (some ⟨P, 0, none⟩), .int .i64 (size : Int)] w (MovedP w P M seed c pr size ps) := by
  have hl8 := a.len
  have hs8 : 8 ≤ size ∧ size ≤ 1099511627776 := by
    rw [hs]; exact ⟨Nat.pow_le_pow_right (n := 2) (by decide) hq3, Nat.pow_le_pow_right (n := 2) (by decide) hq⟩
  have hmk := mk_entries size (by omega)
  have hc2 := a.row.c2
  have hf2 := a.row.fr 2
  have hPl := a.row.lt
  have hQl := a.qlt
  have hPQ := a.ne
  have HA := Lib.hid a
  have HI := Lib.hid I
  have HS := Lib.hid hs
  clear a I hs
  generalize hL : ps.length = n at *
  have HL := Lib.hid hL
  clear hL
  go_enter Try.func38, Try.ntmps38
  go_wp2
  have hsz : (w.setCell ⟨P, 2, none⟩ (.slice (some ⟨w.heap.size, 0, none⟩) size size)).heap.size = w.heap.size := by simp
  have hb1 := Lib.hid ((but_set' w P 2 (.slice (some ⟨w.heap.size, 0, none⟩) size size) (· = P) rfl).trans (but_alloc' _ (.cells (ev (List.replicate size H.z)).toArray 86) _))
  have hT1 : Hid (Tb ((w.setCell ⟨P, 2, none⟩ (.slice (some ⟨w.heap.size, 0, none⟩) size size)).alloc (.cells (ev (List.replicate size H.z)).toArray 86)) P w.heap.size M seed c pr (List.replicate size H.z)) := by
    refine Lib.hid ⟨?_, ?_, ?_, ?_⟩
    · have h0 := HA.out.row
      unfold TRow at h0 ⊢
      have := set_heap h0 2 (.slice (some ⟨w.heap.size, 0, none⟩) size size)
      rw [List.length_replicate]
      refine (Below.heap_alloc _ _ _ (by rw [hsz]; exact hPl)).trans ?_
      simpa using this
    · have := alloc_topI (w.setCell ⟨P, 2, none⟩ (.slice (some ⟨w.heap.size, 0, none⟩) size size)) (.cells (ev (List.replicate size H.z)).toArray 86)
      rw [hsz] at this
      exact this
    · exact ⟨q, hq, hq3, by rw [List.length_replicate]; exact HS.out⟩
    · intro e he
      rw [List.eq_of_mem_replicate he]; decide
  clear hsz
  go_loopw [18] (fun u wr => ∃ (k : Nat) (ts : List H.En), u = .int .i64 (k : Int) ∧ k ≤ n ∧ Hid (Tb wr P w.heap.size M seed c pr ts) ∧ Hid (ts.length = size) ∧ Hid (H.Inv size (hmN seed size) ts) ∧ Hid ((H.ents ts).Perm (H.ents (ps.take k))) ∧ Hid (ButS w wr (· = P)))
    (fun u _ => n - (intOf u).toNat)
  case atStart => exact ⟨0, _, rfl, by omega, hT1, Lib.hid List.length_replicate, Lib.hid (H.inv_rep _ _), Lib.hid (by rw [List.take_zero, H.ents_rep, H.ents_nil]), hb1⟩
  case round =>
    obtain ⟨k, ts, rfl, hk, HT, HTL, HTI, HP, HB⟩ := hrel
    clear hT1 hb1
    by_cases hlt2 : k < n
    · have hTk : decide ((k : Int) < (n : Int)) = true := decide_eq_true (by omega)
      have hTk2 : decide (k < n) = true := decide_eq_true hlt2
      obtain ⟨x0, x1, x2, x3⟩ := HA.out.cellg k (by rw [HL.out]; exact hlt2)
      have hbc := fun o => HB.out.cell (b := Q) hQl (fun h => hPQ h.symm) o
      rw [← hbc] at x0 x1 x2 x3
      clear hbc
      have hkl : k < ps.length := by rw [HL.out]; exact hlt2
      cases ht : (H.ge ps k).t with
      | false =>
        rw [ht] at x3
        have HTs := Lib.hid (H.move_skip hkl ht HP.out)
        clear ht
        go_wp2
        have hbe := (Below.refl wr.heap.size wr).alloc (Nat.le_refl _) (.cells #[.int .u8 ((H.ge ps k).l : Int), .int .u64 ((H.ge ps k).p : Int), .int .u64 ((H.ge ps k).v : Int), .bool false] 86)
        exact ⟨⟨k + 1, ts, by go_num, by omega, Lib.hid (HT.out.below hbe (Nat.le_refl _)), HTL, HTI, HTs, Lib.hid (HB.out.trans (ButS.of_below hbe (Nat.le_refl _)))⟩, by simp [intOf]; omega⟩
      | true =>
        rw [ht] at x3
        have hrr : (H.ge ps k).l < 256 ∧ (H.ge ps k).p < 18446744073709551616 ∧ (H.ge ps k).v < 18446744073709551616 := HA.out.rngg k hkl
        have HF := Lib.hid (H.move_free HP.out hlt HTL.out)
        have HAb := Lib.hid (H.move_absent HI.out hlt2 ht HP.out)
        have HMv := fun i hi hf => Lib.hid (H.move_put (i := i) hkl ht HP.out hi hf)
        generalize hee : H.ge ps k = ee at *
        have HEE := Lib.hid hee
        have HTt := Lib.hid ht
        clear hee
        have hbe := (Below.refl wr.heap.size wr).alloc (Nat.le_refl _) (.cells #[.int .u8 (ee.l : Int), .int .u64 (ee.p : Int), .int .u64 (ee.v : Int), .bool true] 86)
        have hT2 := Lib.hid (HT.out.below hbe (Nat.le_refl _))
        have hE2 : Hid (EB (wr.alloc (.cells #[.int .u8 (ee.l : Int), .int .u64 (ee.p : Int), .int .u64 (ee.v : Int), .bool true] 86)) wr.heap.size ee) := Lib.hid (by unfold EB; rw [ht]; exact alloc_topI _ _)
        have hB2 := Lib.hid hbe
        clear hbe ht
        have hfc := fun w0 (a : Tb w0 P w.heap.size M seed c pr ts) => Lib.hid (t_free w0 P w.heap.size M seed c pr ts a ee.k hrr.1 (by rw [HTL.out]; exact HF.out))
        go_wp2
        have hbW : wr.heap.size < (wr.alloc (.cells #[.int .u8 (ee.l : Int), .int .u64 (ee.p : Int), .int .u64 (ee.v : Int), .bool true] 86)).heap.size := by simp
        generalize hW2 : wr.alloc (.cells #[.int .u8 (ee.l : Int), .int .u64 (ee.p : Int), .int .u64 (ee.v : Int), .bool true] 86) = W2 at *
        generalize hb : wr.heap.size = b at *
        have hb0 := Below.refl W2.heap.size W2
        have hbQ : b ≠ w.heap.size := by
          have := HT.out.qlt
          omega
        have HBb := Lib.hid hb
        clear hb
        go_region_held3 (fun w' => w'.cell? ⟨P, 2, none⟩ = some (.slice (some ⟨w.heap.size, 0, none⟩) size size) ∧ w'.cell? ⟨b, 0, none⟩ = some (.int .u8 (ee.l : Int)) ∧ w'.cell? ⟨b, 1, none⟩ = some (.int .u64 (ee.p : Int)) ∧ w'.cell? ⟨b, 2, none⟩ = some (.int .u64 (ee.v : Int)) ∧ w'.cell? ⟨b, 3, none⟩ = some (.bool true))
          (first
            | exact mvS (hT2.out.drewN 1) hE2.out HTt.out HTL.out
            | exact mvS hT3 hE3 HTt.out HTL.out
            | exact mvS hT4 hE4 HTt.out hL4
            | go_keep)
          (first
            | (go_at_call 43; refine (hfc W2.drew (hT2.out.drewN 1)).out.mono ?_; rintro e w3 ⟨i, d, rfl, sc, hft, hb3⟩; have hT3 : Tb w3 P w.heap.size M seed c pr ts := (hT2.out.drewN 1).below hb3 (Nat.le_refl _); have hE3 : EB w3 b ee := EB.below (w := W2.drew) hE2.out hb3 hbW; have hB3 : Below W2.heap.size W2 w3 := (below_drewN hb0 1).trans hb3; have hil : i < size := by (rw [← HTL.out]; exact sc.lt)
               obtain ⟨m0, m1, m2, m3⟩ := hT3.cellg i sc.lt
               have n0 := hT3.qfr (i * 4)
               have n1 := hT3.qfr (i * 4 + 1)
               have n2 := hT3.qfr (i * 4 + 2)
               have n3 := hT3.qfr (i * 4 + 3)
               have hT4 := hT3.store i sc.lt ee hrr
               have hE4 := hE3.but (put4_but w3 w.heap.size i ee (· = w.heap.size) rfl) hbQ
               have hB4 := put4_but w3 w.heap.size i ee (· = w.heap.size) rfl
               unfold put4 at hT4 hE4 hB4
               rw [HTt.out] at hT4 hE4 hB4
               have hL4 : (ts.set i ee).length = size := (by (rw [List.length_set]; exact HTL.out))))
        go_wp2
        have sc' := sc
        rw [HTL.out] at sc'
        have hI4 := H.inv_put HTI.out (hmN_lt seed size ee.k (by omega)) sc' HAb.out ee.v
        have he : (⟨ee.k.1, ee.k.2, ee.v, true⟩ : H.En) = ee := H.en_eta ee HTt.out
        rw [he] at hI4
        have hp4 := (HMv i sc.lt hft).out
        have hbw : ButS w w3 (· = P) := HB.out.trans (ButS.trans (ButS.of_below hB2.out (by rw [HBb.out]; exact Nat.le_refl _)) (ButS.of_below hB3 (Nat.le_refl _)))
        exact ⟨⟨k + 1, ts.set i ee, by go_num, by omega, Lib.hid hT4, Lib.hid hL4, Lib.hid hI4, Lib.hid hp4, Lib.hid (hbw.then hB4 (fun j hj => .inr (Nat.le_of_eq hj.symm)))⟩, by simp [intOf]; omega⟩
    · obtain rfl : k = n := by omega
      have hTk : decide ((k : Int) < (k : Int)) = false := decide_eq_false (by omega)
      have hTk2 : decide (k < k) = false := decide_eq_false (by omega)
      go_wp2
      refine bodyPost_ret (results_none rfl _ _ _) rfl ?_
      have hp := HP.out
      rw [List.take_of_length_le (Nat.le_of_eq HL.out)] at hp
      exact ⟨ts, _, rfl, HT.out, HTL.out, HTI.out, hp, Nat.le_refl _, HB.out⟩
end Go.Proofs.Ytihhkdcgnnfkkaa.Hs
