/- All entries are moved to other places; the text walked. A table whole: what it keeps, told as a list of entries; Get; the text walked. A table is changed: Put; the text walked. -/
import Derived.Deep.RegionHeld3
import Derived.Test.YtelfacchhclgnaaGreatMu10
section
namespace Go.Proofs.YtelfacchhclgnaaGreat.Hs
set_option maxRecDepth 4000
open Go.RowKit
theorem made_ev (n : Nat) : madeCells #[.int .u8 0, .int .u64 0, .int .u64 0, .bool false] (n * 4) = (ev (List.replicate n H.z)).toArray := by
  apply Array.ext
  · simp [madeCells, ev_len]
  · intro i h1 h2
    have hn : i < n * 4 := by simpa [madeCells] using h1
    have hk : i / 4 < (List.replicate n H.z).length := by rw [List.length_replicate]; omega
    have h := ev_at (List.replicate n H.z) (i / 4) hk
    have hz : (List.replicate n H.z)[i / 4] = H.z := by simp
    rw [hz] at h
    have hm : i % 4 = 0 ∨ i % 4 = 1 ∨ i % 4 = 2 ∨ i % 4 = 3 := by omega
    have hL : some ((madeCells #[.int .u8 0, .int .u64 0, .int .u64 0, .bool false] (n * 4))[i]) = (ev (List.replicate n H.z))[i]? → (madeCells #[.int .u8 0, .int .u64 0, .int .u64 0, .bool false] (n * 4))[i] = (ev (List.replicate n H.z)).toArray[i] := by
      intro e
      have h2' : i < (ev (List.replicate n H.z)).length := by simpa using h2
      rw [List.getElem?_eq_getElem h2'] at e
      injection e
    apply hL
    rcases hm with e | e | e | e
    · have ei : i = i / 4 * 4 := by omega
      conv => rhs; rw [ei]
      rw [h.1]; simp [madeCells, e, H.z]
    · have ei : i = i / 4 * 4 + 1 := by omega
      conv => rhs; rw [ei]
      rw [h.2.1]; simp [madeCells, e, H.z]
    · have ei : i = i / 4 * 4 + 2 := by omega
      conv => rhs; rw [ei]
      rw [h.2.2.1]; simp [madeCells, e, H.z]
    · have ei : i = i / 4 * 4 + 3 := by omega
      conv => rhs; rw [ei]
      rw [h.2.2.2]; simp [madeCells, e, H.z]
theorem mk_entries (n : Nat) (hn : n ≤ 2199023255552) (w : World) : (Instr.makeSlice 116 (.int .i64 (n : Int)) (.int .i64 (n : Int))).run Tryz.prog w = .ok (.slice (some ⟨w.heap.size, 0, none⟩) n n) (w.alloc (.cells (ev (List.replicate n H.z)).toArray 169)) := by
  obtain ⟨ti, hi, hb, hz, hsz⟩ : ∃ ti, Tryz.prog.info? 169 = some ti ∧ ti.bytes = 32 ∧ ti.zero = some (.agg #[.int .u8 0, .int .u64 0, .int .u64 0, .bool false]) ∧ ti.size = 4 := ⟨_, rfl, rfl, rfl, rfl⟩
  have := run_make (P := Tryz.prog) w 116 169 ti _ (by kernel_rfl) hi hz .i64 .i64 (n : Int) (n : Int) (by omega) (by omega) (by rw [hb]; omega) (by omega)
  rw [← made_ev]
  simpa [hsz, Value.cells] using this
/-- Block b is an entry. -/
def EB (w : World) (b : Nat) (e : H.En) : Prop := w.heap[b]? = some (.cells #[.int .u8 (e.l : Int), .int .u64 (e.p : Int), .int .u64 (e.v : Int), .bool e.t] 169 (0, 0))
theorem EB.cells {w : World} {b : Nat} {e : H.En} (h : EB w b e) : w.cell? ⟨b, 0, none⟩ = some (.int .u8 (e.l : Int)) ∧ w.cell? ⟨b, 1, none⟩ = some (.int .u64 (e.p : Int)) ∧ w.cell? ⟨b, 2, none⟩ = some (.int .u64 (e.v : Int)) ∧ w.cell? ⟨b, 3, none⟩ = some (.bool e.t) :=
  ⟨cell_of_row w b 0 _ _ (0, 0) h, cell_of_row w b 1 _ _ (0, 0) h, cell_of_row w b 2 _ _ (0, 0) h, cell_of_row w b 3 _ _ (0, 0) h⟩
theorem mvS {w : World} {P Q M seed c pr b size : Nat} {ts : List H.En} {e : H.En} (hT : Tb w P Q M seed c pr ts) (hE : EB w b e) (ht : e.t = true) (hl : ts.length = size) :
    w.cell? ⟨P, 2, none⟩ = some (.slice (some ⟨Q, 0, none⟩) size size) ∧ w.cell? ⟨b, 0, none⟩ = some (.int .u8 (e.l : Int)) ∧ w.cell? ⟨b, 1, none⟩ = some (.int .u64 (e.p : Int)) ∧ w.cell? ⟨b, 2, none⟩ = some (.int .u64 (e.v : Int)) ∧ w.cell? ⟨b, 3, none⟩ = some (.bool true) := by
  have h := hE.cells
  rw [ht] at h
  have hc := hT.row.c2
  rw [hl] at hc
  exact ⟨hc, h.1, h.2.1, h.2.2.1, h.2.2.2⟩
theorem EB.but {w w' : World} {b : Nat} {e : H.En} {S : Nat → Prop} (h : EB w b e) (hb : ButS w w' S) (hs : ¬ S b) : EB w' b e := by
  have hlt : b < w.heap.size := by
    rcases Nat.lt_or_ge b w.heap.size with hlt | hge
    · exact hlt
    · unfold EB at h; rw [Array.getElem?_eq_none hge] at h; cases h
  exact (hb.block b hlt hs).trans h
theorem EB.below {w w' : World} {b B : Nat} {e : H.En} (h : EB w b e) (hb : Below B w w') (hlt : b < B) : EB w' b e := (hb.block b hlt).trans h
def MovedP (w : World) (P M seed c pr size : Nat) (ps : List H.En) (e : Ending) (w' : World) : Prop :=
  ∃ (qs : List H.En) (Q : Nat), e = .returned (.tuple #[]) ∧ Tb w' P Q M seed c pr qs ∧ qs.length = size ∧ H.Inv size (hmN seed size) qs ∧ (H.ents qs).Perm (H.ents ps) ∧ w.heap.size ≤ Q ∧ ButS w w' (· = P)
set_option maxHeartbeats 2000000 in
theorem t_move (w : World) (P Q M seed c pr : Nat) (ps : List H.En) (a : Tb w P Q M seed c pr ps) (I : H.Inv ps.length (hmN seed ps.length) ps) (size q : Nat) (hs : size = 2 ^ q) (hq : q ≤ 40) (hq3 : 3 ≤ q) (hlt : (H.ents ps).length < size) :
    Calls Tryz.prog 130 #[.pointer (some ⟨P, 0, none⟩), .int .i64 (size : Int)] w (MovedP w P M seed c pr size ps) := by
  have hl8 := a.len
  have hs8 : 8 ≤ size ∧ size ≤ 1099511627776 := by
    rw [hs]; exact ⟨Nat.pow_le_pow_right (n := 2) (by decide) hq3, Nat.pow_le_pow_right (n := 2) (by decide) hq⟩
  have hmk := mk_entries size (by omega)
  have hc2 := a.row.c2
  have hf2 := a.row.fr 2
  have hPl := a.row.lt
  have hQl := a.qlt
  have hPQ := a.ne
  have HA := Lib.hid a
  have HI := Lib.hid I
  have HS := Lib.hid hs
  clear a I hs
  generalize hL : ps.length = n at *
  have HL := Lib.hid hL
  clear hL
  go_enter Tryz.func130, Tryz.ntmps130
  go_wp2
  have hsz : (w.setCell ⟨P, 2, none⟩ (.slice (some ⟨w.heap.size, 0, none⟩) size size)).heap.size = w.heap.size := by simp
  have hb1 := Lib.hid ((but_set' w P 2 (.slice (some ⟨w.heap.size, 0, none⟩) size size) (· = P) rfl).trans (but_alloc' _ (.cells (ev (List.replicate size H.z)).toArray 169) _))
  have hT1 : Hid (Tb ((w.setCell ⟨P, 2, none⟩ (.slice (some ⟨w.heap.size, 0, none⟩) size size)).alloc (.cells (ev (List.replicate size H.z)).toArray 169)) P w.heap.size M seed c pr (List.replicate size H.z)) := by
    refine Lib.hid ⟨?_, ?_, ?_, ?_⟩
    · have h0 := HA.out.row
      unfold TRow at h0 ⊢
      have := set_heap h0 2 (.slice (some ⟨w.heap.size, 0, none⟩) size size)
      rw [List.length_replicate]
      refine (Below.heap_alloc _ _ _ (by rw [hsz]; exact hPl)).trans ?_
      simpa using this
    · have := alloc_topI (w.setCell ⟨P, 2, none⟩ (.slice (some ⟨w.heap.size, 0, none⟩) size size)) (.cells (ev (List.replicate size H.z)).toArray 169)
      rw [hsz] at this
      exact this
    · exact ⟨q, hq, hq3, by rw [List.length_replicate]; exact HS.out⟩
    · intro e he
      rw [List.eq_of_mem_replicate he]; decide
  clear hsz
  go_loopw [18] (fun u wr => ∃ (k : Nat) (ts : List H.En), u = .int .i64 (k : Int) ∧ k ≤ n ∧ Hid (Tb wr P w.heap.size M seed c pr ts) ∧ Hid (ts.length = size) ∧ Hid (H.Inv size (hmN seed size) ts) ∧ Hid ((H.ents ts).Perm (H.ents (ps.take k))) ∧ Hid (ButS w wr (· = P)))
    (fun u _ => n - (intOf u).toNat)
  case atStart => exact ⟨0, _, rfl, by omega, hT1, Lib.hid List.length_replicate, Lib.hid (H.inv_rep _ _), Lib.hid (by rw [List.take_zero, H.ents_rep, H.ents_nil]), hb1⟩
  case round =>
    obtain ⟨k, ts, rfl, hk, HT, HTL, HTI, HP, HB⟩ := hrel
    clear hT1 hb1
    by_cases hlt2 : k < n
    · have hTk : decide ((k : Int) < (n : Int)) = true := decide_eq_true (by omega)
      have hTk2 : decide (k < n) = true := decide_eq_true hlt2
      obtain ⟨x0, x1, x2, x3⟩ := HA.out.cellg k (by rw [HL.out]; exact hlt2)
      have hbc := fun o => HB.out.cell (b := Q) hQl (fun h => hPQ h.symm) o
      rw [← hbc] at x0 x1 x2 x3
      clear hbc
      have hkl : k < ps.length := by rw [HL.out]; exact hlt2
      cases ht : (H.ge ps k).t with
      | false =>
        rw [ht] at x3
        have HTs := Lib.hid (H.move_skip hkl ht HP.out)
        clear ht
        go_wp2
        have hbe := (Below.refl wr.heap.size wr).alloc (Nat.le_refl _) (.cells #[.int .u8 ((H.ge ps k).l : Int), .int .u64 ((H.ge ps k).p : Int), .int .u64 ((H.ge ps k).v : Int), .bool false] 169)
        exact ⟨⟨k + 1, ts, by go_num, by omega, Lib.hid (HT.out.below hbe (Nat.le_refl _)), HTL, HTI, HTs, Lib.hid (HB.out.trans (ButS.of_below hbe (Nat.le_refl _)))⟩, by simp [intOf]; omega⟩
      | true =>
        rw [ht] at x3
        have hrr : (H.ge ps k).l < 256 ∧ (H.ge ps k).p < 18446744073709551616 ∧ (H.ge ps k).v < 18446744073709551616 := HA.out.rngg k hkl
        have HF := Lib.hid (H.move_free HP.out hlt HTL.out)
        have HAb := Lib.hid (H.move_absent HI.out hlt2 ht HP.out)
        have HMv := fun i hi hf => Lib.hid (H.move_put (i := i) hkl ht HP.out hi hf)
        generalize hee : H.ge ps k = ee at *
        have HEE := Lib.hid hee
        have HTt := Lib.hid ht
        clear hee
        have hbe := (Below.refl wr.heap.size wr).alloc (Nat.le_refl _) (.cells #[.int .u8 (ee.l : Int), .int .u64 (ee.p : Int), .int .u64 (ee.v : Int), .bool true] 169)
        have hT2 := Lib.hid (HT.out.below hbe (Nat.le_refl _))
        have hE2 : Hid (EB (wr.alloc (.cells #[.int .u8 (ee.l : Int), .int .u64 (ee.p : Int), .int .u64 (ee.v : Int), .bool true] 169)) wr.heap.size ee) := Lib.hid (by unfold EB; rw [ht]; exact alloc_topI _ _)
        have hB2 := Lib.hid hbe
        clear hbe ht
        have hfc := fun w0 (a : Tb w0 P w.heap.size M seed c pr ts) => Lib.hid (t_free w0 P w.heap.size M seed c pr ts a ee.k hrr.1 (by rw [HTL.out]; exact HF.out))
        go_wp2
        have hbW : wr.heap.size < (wr.alloc (.cells #[.int .u8 (ee.l : Int), .int .u64 (ee.p : Int), .int .u64 (ee.v : Int), .bool true] 169)).heap.size := by simp
        generalize hW2 : wr.alloc (.cells #[.int .u8 (ee.l : Int), .int .u64 (ee.p : Int), .int .u64 (ee.v : Int), .bool true] 169) = W2 at *
        generalize hb : wr.heap.size = b at *
        have hb0 := Below.refl W2.heap.size W2
        have hbQ : b ≠ w.heap.size := by
          have := HT.out.qlt
          omega
        have HBb := Lib.hid hb
        clear hb
        go_region_held3 (fun w' => w'.cell? ⟨P, 2, none⟩ = some (.slice (some ⟨w.heap.size, 0, none⟩) size size) ∧ w'.cell? ⟨b, 0, none⟩ = some (.int .u8 (ee.l : Int)) ∧ w'.cell? ⟨b, 1, none⟩ = some (.int .u64 (ee.p : Int)) ∧ w'.cell? ⟨b, 2, none⟩ = some (.int .u64 (ee.v : Int)) ∧ w'.cell? ⟨b, 3, none⟩ = some (.bool true))
          (first
            | exact mvS (hT2.out.drewN 1) hE2.out HTt.out HTL.out
            | exact mvS hT3 hE3 HTt.out HTL.out
            | exact mvS hT4 hE4 HTt.out hL4
            | go_keep)
          (first
            | (go_at_call 131; refine (hfc W2.drew (hT2.out.drewN 1)).out.mono ?_; rintro e w3 ⟨i, d, rfl, sc, hft, hb3⟩; have hT3 : Tb w3 P w.heap.size M seed c pr ts := (hT2.out.drewN 1).below hb3 (Nat.le_refl _); have hE3 : EB w3 b ee := EB.below (w := W2.drew) hE2.out hb3 hbW; have hB3 : Below W2.heap.size W2 w3 := (below_drewN hb0 1).trans hb3; have hil : i < size := by (rw [← HTL.out]; exact sc.lt)
               obtain ⟨m0, m1, m2, m3⟩ := hT3.cellg i sc.lt
               have n0 := hT3.qfr (i * 4)
               have n1 := hT3.qfr (i * 4 + 1)
               have n2 := hT3.qfr (i * 4 + 2)
               have n3 := hT3.qfr (i * 4 + 3)
               have hT4 := hT3.store i sc.lt ee hrr
               have hE4 := hE3.but (put4_but w3 w.heap.size i ee (· = w.heap.size) rfl) hbQ
               have hB4 := put4_but w3 w.heap.size i ee (· = w.heap.size) rfl
               unfold put4 at hT4 hE4 hB4
               rw [HTt.out] at hT4 hE4 hB4
               have hL4 : (ts.set i ee).length = size := (by (rw [List.length_set]; exact HTL.out))))
        go_wp2
        have sc' := sc
        rw [HTL.out] at sc'
        have hI4 := H.inv_put HTI.out (hmN_lt seed size ee.k (by omega)) sc' HAb.out ee.v
        have he : (⟨ee.k.1, ee.k.2, ee.v, true⟩ : H.En) = ee := H.en_eta ee HTt.out
        rw [he] at hI4
        have hp4 := (HMv i sc.lt hft).out
        have hbw : ButS w w3 (· = P) := HB.out.trans (ButS.trans (ButS.of_below hB2.out (by rw [HBb.out]; exact Nat.le_refl _)) (ButS.of_below hB3 (Nat.le_refl _)))
        exact ⟨⟨k + 1, ts.set i ee, by go_num, by omega, Lib.hid hT4, Lib.hid hL4, Lib.hid hI4, Lib.hid hp4, Lib.hid (hbw.then hB4 (fun j hj => .inr (Nat.le_of_eq hj.symm)))⟩, by simp [intOf]; omega⟩
    · obtain rfl : k = n := by omega
      have hTk : decide ((k : Int) < (k : Int)) = false := decide_eq_false (by omega)
      have hTk2 : decide (k < k) = false := decide_eq_false (by omega)
      go_wp2
      refine bodyPost_ret (results_none rfl _ _ _) rfl ?_
      have hp := HP.out
      rw [List.take_of_length_le (Nat.le_of_eq HL.out)] at hp
      exact ⟨ts, _, rfl, HT.out, HTL.out, HTI.out, hp, Nat.le_refl _, HB.out⟩
end Go.Proofs.YtelfacchhclgnaaGreat.Hs
end
section
namespace Go.Proofs.YtelfacchhclgnaaGreat.Hs
set_option maxRecDepth 4000
open Go.RowKit
namespace H
theorem found_yes {n : Nat} {hm : Key → Nat} {ps : List En} {k : Key} {v i d : Nat} {es : List (Key × Nat)} (I : Inv n hm ps) (s : Seek n hm ps k i d) (hk : (ge ps i).t = true → (ge ps i).k = k) (hp : (ents ps).Perm es) (hm : (k, v) ∈ es) :
    (ge ps i).t = true ∧ (ge ps i).k = k ∧ (ge ps i).v = v := by
  obtain ⟨j, hj, hjt, he⟩ := ents_mem.1 (hp.mem_iff.2 hm)
  have e1 : (ge ps j).k = k := (Prod.mk.inj he).1
  have e2 : (ge ps j).v = v := (Prod.mk.inj he).2
  cases ht : (ge ps i).t with
  | false => exact absurd e1 (seek_absent I s ht j hj hjt)
  | true =>
    have hj' : j < n := by rw [← I.len]; exact hj
    have := I.key i j s.scan.lt hj' ht hjt ((hk ht).trans e1.symm)
    subst this
    exact ⟨rfl, e1, e2⟩
theorem found_no {n : Nat} {ps : List En} {k : Key} {i : Nat} {es : List (Key × Nat)} (hl : ps.length = n) (hi : i < n) (hk : (ge ps i).t = true → (ge ps i).k = k) (hp : (ents ps).Perm es) (hm : ∀ x ∈ es, x.1 ≠ k) :
    (ge ps i).t = false := by
  cases ht : (ge ps i).t with
  | false => rfl
  | true => exact absurd (hk ht) (hm _ (hp.mem_iff.1 (ents_mem.2 ⟨i, by rw [hl]; exact hi, ht, rfl⟩)))
theorem tab_free {n : Nat} {ps : List En} {es : List (Key × Nat)} (hl : ps.length = n) (hp : (ents ps).Perm es) (h2 : 2 * es.length ≤ n) (h8 : 8 ≤ n) : ∃ f, f < n ∧ (ge ps f).t = false := by
  have := hp.length_eq
  obtain ⟨f, hf, ht⟩ := free_of (ps := ps) (by omega)
  exact ⟨f, by omega, ht⟩
theorem seek_probes {n : Nat} {hm : Key → Nat} {ps : List En} {k : Key} {i d : Nat} (hh : hm k < n) (s : Seek n hm ps k i d) : d + 1 ≤ n := by
  have := wy_lt hh s.scan.lt
  rw [s.scan.way] at this; omega
end H
/-- A table: its entries es, n places, its meter's calls cl. -/
def Tab (w : World) (P Q M seed n : Nat) (es : List (H.Key × Nat)) (pr cl : Nat) : Prop :=
  ∃ (ps : List H.En) (t p : Nat), Tb w P Q M seed es.length pr ps ∧ ps.length = n ∧ H.Inv n (hmN seed n) ps ∧ (H.ents ps).Perm es ∧ 2 * es.length ≤ n ∧ (8 < n → n < 8 * es.length) ∧ Mt w M 0 cl 0 t p ∧ t ≤ cl
/-- The blocks of a table. -/
def TF (P Q M j : Nat) : Prop := j = P ∨ j = Q ∨ j = M
theorem tb_ne_m {w : World} {P Q M seed c pr r cl s t p : Nat} {ps : List H.En} (a : Tb w P Q M seed c pr ps) (m : Mt w M r cl s t p) : P ≠ M ∧ Q ≠ M := by
  obtain ⟨_, _, _, _, _, m⟩ := m
  constructor
  · rintro rfl
    have h1 := a.row
    unfold TRow at h1
    exact row_ne h1 m (by decide) rfl
  · rintro rfl
    exact row_ne a.pl m (by decide) rfl
theorem Mt.but {w w' : World} {g r c s t p : Nat} {S : Nat → Prop} (h : Mt w g r c s t p) (hb : ButS w w' S) (hs : ¬ S g) : Mt w' g r c s t p := by
  have hl := h.lt
  obtain ⟨a1, a2, a3, a4, a5, h⟩ := h
  exact ⟨a1, a2, a3, a4, a5, (hb.block g hl hs).trans h⟩
theorem Tab.but {w w' : World} {P Q M seed n pr cl : Nat} {es : List (H.Key × Nat)} {S : Nat → Prop} (a : Tab w P Q M seed n es pr cl) (hb : ButS w w' S) (hs : ∀ j, TF P Q M j → ¬ S j) : Tab w' P Q M seed n es pr cl := by
  obtain ⟨ps, t, p, h1, h2, h3, h4, h5, h6, h7, h8⟩ := a
  exact ⟨ps, t, p, h1.but hb (hs _ (.inl rfl)) (hs _ (.inr (.inl rfl))), h2, h3, h4, h5, h6, h7.but hb (hs _ (.inr (.inr rfl))), h8⟩
theorem Tab.perm {w : World} {P Q M seed n pr cl : Nat} {es es' : List (H.Key × Nat)} (a : Tab w P Q M seed n es pr cl) (h : es.Perm es') : Tab w P Q M seed n es' pr cl := by
  obtain ⟨ps, t, p, h1, h2, h3, h4, h5, h6, h7, h8⟩ := a
  have hl := h.length_eq
  rw [hl] at h1 h5 h6
  exact ⟨ps, t, p, h1, h2, h3, h4.trans h, h5, h6, h7, h8⟩
theorem Tab.any {w : World} {P Q M seed n pr cl : Nat} {es : List (H.Key × Nat)} (a : Tab w P Q M seed n es pr cl) (cl' : Nat) : Tab w P Q M seed n es pr cl' := by
  obtain ⟨ps, t, p, h1, h2, h3, h4, h5, h6, h7, _⟩ := a
  exact ⟨ps, 0, p, h1, h2, h3, h4, h5, h6, h7.any, Nat.zero_le _⟩
/-- What a call leaves of a table. -/
def TStep (w : World) (P Q M seed n : Nat) (es' : List (H.Key × Nat)) (cl' : Nat) (w' : World) : Prop :=
  ∃ Q' n' pr', Tab w' P Q' M seed n' es' pr' cl' ∧ ButS w w' (TF P Q M) ∧ (Q' = Q ∨ w.heap.size ≤ Q') ∧ 1 ≤ pr' ∧ pr' ≤ n
def GotP (w : World) (P Q M seed n : Nat) (es : List (H.Key × Nat)) (cl v : Nat) (b : Bool) (e : Ending) (w' : World) : Prop :=
  e = .returned (.tuple #[.int .u64 (v : Int), .bool b]) ∧ TStep w P Q M seed n es (cl + 1) w'
set_option maxHeartbeats 1000000 in
theorem tab_get (w : World) (P Q M seed n pr cl : Nat) (es : List (H.Key × Nat)) (a : Tab w P Q M seed n es pr cl) (k : H.Key) (k1 : k.1 < 256) (hc : cl < 1000000) (v : Nat) (b : Bool) (hv : (b = true ∧ (k, v) ∈ es) ∨ (b = false ∧ v = 0 ∧ ∀ x ∈ es, x.1 ≠ k)) :
    Calls Tryz.prog 111 #[.pointer (some ⟨P, 0, none⟩), .agg #[.int .u8 (k.1 : Int), .int .u64 (k.2 : Int)]] w (GotP w P Q M seed n es cl v b) := by
  obtain ⟨ps, t, p, h1, h2, h3, h4, h5, h6, h7, h8⟩ := a
  have hl8 := h1.len
  have HF := Lib.hid (H.tab_free h2 h4 h5 (by omega))
  have hne := tb_ne_m h1 h7
  have b0 : Below w.heap.size w (w.alloc (.cells #[.int .u8 (k.1 : Int), .int .u64 (k.2 : Int)] 137)) := (Below.refl _ w).alloc (Nat.le_refl _) _
  have kb : KB (w.alloc (.cells #[.int .u8 (k.1 : Int), .int .u64 (k.2 : Int)] 137)) w.heap.size k := alloc_topI _ _
  have hMl := h7.lt
  have m1 := h7.below b0 hMl
  have t1 := h1.below b0 (Nat.le_refl _)
  have hmc := Lib.hid (m_call _ M 0 cl 0 t p m1 hc (by omega))
  have hc0 := t1.row.c0
  have hfi := fun w0 (a : Tb w0 P Q M seed es.length pr ps) => Lib.hid (t_find w0 P Q M seed es.length pr ps a k k1 (by rw [h2]; exact HF.out))
  have H1 := Lib.hid t1
  have HK := Lib.hid kb
  have HB := Lib.hid b0
  have H2 := Lib.hid h2
  have H3 := Lib.hid h3
  have H4 := Lib.hid h4
  have H56 := Lib.hid (And.intro h5 h6)
  have HV := Lib.hid hv
  have H8 := Lib.hid h8
  clear h1 h2 h3 h4 h5 h6 h7 h8 b0 kb m1 t1 hv HF
  rcases HV.out with ⟨rfl, hv⟩ | ⟨rfl, rfl, hv⟩
  · have hvH := Lib.hid hv
    clear hv
    go_enter Tryz.func111, Tryz.ntmps111
    go_wp2_with (first
      | (go_at_call 83; (with_reducible refine hmc.out.mono ?_); rintro e w2 ⟨rfl, hm2, hg2⟩
         have bM := ButS.of_grown (S := (· = M)) hg2 (fun j e => by cases e; rfl)
         have T2 := Lib.hid (H1.out.but bM hne.1 hne.2)
         have hK2 := HK.out.but bM (by omega)
         have kc0 := hK2.c0
         have kc1 := hK2.c1
         have HM2 := Lib.hid hm2
         have HB2 := Lib.hid bM
         clear hm2 hg2 bM hK2)
      | (go_at_call 129; (with_reducible refine (hfi _ T2.out).out.mono ?_); rintro e w3 ⟨i, d, rfl, ht3, hs3, hk3, hb3⟩
         have hfd := H.found_yes (by (rw [H2.out]; exact H3.out)) hs3 hk3 H4.out hvH.out
         have hil : i < ps.length := (by (rw [H2.out]; have := hs3.scan.lt; rw [H2.out] at this; exact this))
         obtain ⟨x0, x1, x2, x3⟩ := ht3.cellg i hil
         have q2 := ht3.row.c2
         rw [H2.out] at q2 hil
         obtain ⟨hft, hfk, hfv⟩ := hfd; rw [hfv] at x2; clear x0 x1 x3 hfk hfv
         have T3 := Lib.hid ht3
         have S3 := Lib.hid hs3
         have B3 := Lib.hid hb3
         clear ht3 hs3 hk3 hb3
         clear kc0 kc1))
    go_ret2
    have hpr := H.seek_probes (hmN_lt seed ps.length k (by omega)) S3.out
    rw [H2.out] at hpr
    refine ⟨rfl, Q, n, d + 1, ⟨ps, t + 1, _, T3.out, H2.out, H3.out, H4.out, H56.out.1, H56.out.2, HM2.out.but B3.out (Ne.symm hne.1), by have := H8.out; omega⟩, ?_, .inl rfl, by omega, hpr⟩
    exact ((ButS.of_below HB.out (Nat.le_refl _)).trans (HB2.out.mono (fun j _ h => .inr (.inr h)))).trans (B3.out.mono (fun j _ h => .inl h))

  · have hvH := Lib.hid hv
    clear hv
    go_enter Tryz.func111, Tryz.ntmps111
    go_wp2_with (first
      | (go_at_call 83; (with_reducible refine hmc.out.mono ?_); rintro e w2 ⟨rfl, hm2, hg2⟩
         have bM := ButS.of_grown (S := (· = M)) hg2 (fun j e => by cases e; rfl)
         have T2 := Lib.hid (H1.out.but bM hne.1 hne.2)
         have hK2 := HK.out.but bM (by omega)
         have kc0 := hK2.c0
         have kc1 := hK2.c1
         have HM2 := Lib.hid hm2
         have HB2 := Lib.hid bM
         clear hm2 hg2 bM hK2)
      | (go_at_call 129; (with_reducible refine (hfi _ T2.out).out.mono ?_); rintro e w3 ⟨i, d, rfl, ht3, hs3, hk3, hb3⟩
         have hfd := H.found_no H2.out (by (have := hs3.scan.lt; rw [H2.out] at this; exact this)) hk3 H4.out hvH.out
         have hil : i < ps.length := (by (rw [H2.out]; have := hs3.scan.lt; rw [H2.out] at this; exact this))
         obtain ⟨x0, x1, x2, x3⟩ := ht3.cellg i hil
         have q2 := ht3.row.c2
         rw [H2.out] at q2 hil
         clear x0 x1 x2 x3
         have T3 := Lib.hid ht3
         have S3 := Lib.hid hs3
         have B3 := Lib.hid hb3
         clear ht3 hs3 hk3 hb3
         clear kc0 kc1))
    go_ret2
    have hpr := H.seek_probes (hmN_lt seed ps.length k (by omega)) S3.out
    rw [H2.out] at hpr
    refine ⟨rfl, Q, n, d + 1, ⟨ps, t + 1, _, T3.out, H2.out, H3.out, H4.out, H56.out.1, H56.out.2, HM2.out.but B3.out (Ne.symm hne.1), by have := H8.out; omega⟩, ?_, .inl rfl, by omega, hpr⟩
    exact ((ButS.of_below HB.out (Nat.le_refl _)).trans (HB2.out.mono (fun j _ h => .inr (.inr h)))).trans (B3.out.mono (fun j _ h => .inl h))

end Go.Proofs.YtelfacchhclgnaaGreat.Hs
end
section
namespace Go.Proofs.YtelfacchhclgnaaGreat.Hs
set_option maxRecDepth 4000
open Go.RowKit
theorem Tb.setc {w : World} {P Q M seed c pr : Nat} {ps : List H.En} (a : Tb w P Q M seed c pr ps) (c' : Nat) : Tb (w.setCell ⟨P, 3, none⟩ (.int .i64 (c' : Int))) P Q M seed c' pr ps := by
  refine ⟨?_, ?_, a.pw, a.rng⟩
  · have := a.row
    unfold TRow at *
    have := set_heap this 3 (.int .i64 (c' : Int))
    simpa using this
  · exact (Below.heap_setCell w ⟨P, 3, none⟩ _ Q (fun e => a.ne e.symm)).trans a.pl
theorem Tb.storev {w : World} {P Q M seed c pr : Nat} {ps : List H.En} (a : Tb w P Q M seed c pr ps) (i : Nat) (hi : i < ps.length) (k : H.Key) (v : Nat) (hv : v < 18446744073709551616) (hk : (H.ge ps i).k = k) (ht : (H.ge ps i).t = true) :
    Tb (w.setCell ⟨Q, i * 4 + 2, none⟩ (.int .u64 (v : Int))) P Q M seed c pr (ps.set i ⟨k.1, k.2, v, true⟩) := by
  have hg := H.ge_get hi
  have he : (⟨ps[i].l, ps[i].p, v, ps[i].t⟩ : H.En) = ⟨k.1, k.2, v, true⟩ := by rw [← hg, ht, ← hk]
  refine ⟨by rw [List.length_set]; exact (Below.heap_setCell w ⟨Q, i * 4 + 2, none⟩ _ P a.ne).trans a.row, ?_, by rw [List.length_set]; exact a.pw, fun x hx => ?_⟩
  · have h := set_heap a.pl (i * 4 + 2) (.int .u64 (v : Int))
    rw [← he, ← ev_val ps i v hi]
    simpa using h
  · rcases List.mem_or_eq_of_mem_set hx with hx | rfl
    · exact a.rng x hx
    · have := a.rngg i hi
      rw [← hk]
      exact ⟨this.1, this.2.1, hv⟩
def PutP (w : World) (P Q M seed n : Nat) (es' : List (H.Key × Nat)) (cl : Nat) (b : Bool) (e : Ending) (w' : World) : Prop :=
  e = .returned (.bool b) ∧ TStep w P Q M seed n es' cl w'
set_option maxHeartbeats 1000000 in
theorem tab_put_yes (w : World) (P Q M seed n pr cl : Nat) (es r : List (H.Key × Nat)) (a : Tab w P Q M seed n es pr cl) (k : H.Key) (k1 : k.1 < 256) (v v0 : Nat) (hv : v < 18446744073709551616) (he : es.Perm ((k, v0) :: r)) :
    Calls Tryz.prog 94 #[.pointer (some ⟨P, 0, none⟩), .agg #[.int .u8 (k.1 : Int), .int .u64 (k.2 : Int)], .int .u64 (v : Int)] w (PutP w P Q M seed n ((k, v) :: r) cl false) := by
  replace a := a.perm he
  have hmem : (k, v0) ∈ (k, v0) :: r := List.mem_cons_self
  clear he
  obtain ⟨ps, t, p, h1, h2, h3, h4, h5, h6, h7, h8⟩ := a
  have hl8 := h1.len
  have HF := Lib.hid (H.tab_free h2 h4 h5 (by omega))
  have hne := tb_ne_m h1 h7
  have b0 : Below w.heap.size w (w.alloc (.cells #[.int .u8 (k.1 : Int), .int .u64 (k.2 : Int)] 137)) := (Below.refl _ w).alloc (Nat.le_refl _) _
  have kb : KB (w.alloc (.cells #[.int .u8 (k.1 : Int), .int .u64 (k.2 : Int)] 137)) w.heap.size k := alloc_topI _ _
  have kc0 := kb.c0
  have kc1 := kb.c1
  have hMl := h7.lt
  have t1 := h1.below b0 (Nat.le_refl _)
  have hfi := Lib.hid (t_find _ P Q M seed _ pr ps t1 k k1 (by rw [h2]; exact HF.out))
  have HM := Lib.hid (h7.below b0 hMl)
  have HB := Lib.hid b0
  have H2 := Lib.hid h2
  have H3 := Lib.hid h3
  have H4 := Lib.hid h4
  have H56 := Lib.hid (And.intro h5 h6)
  have H8 := Lib.hid h8
  have hmH := Lib.hid hmem
  clear h1 h2 h3 h4 h5 h6 h7 h8 b0 kb t1 HF hmem
  go_enter Tryz.func94, Tryz.ntmps94
  go_wp2_with (first
    | (go_at_call 129; (with_reducible refine hfi.out.mono ?_); rintro e w3 ⟨i, d, rfl, ht3, hs3, hk3, hb3⟩
       obtain ⟨hft, hfk, hfv⟩ := H.found_yes (by (rw [H2.out]; exact H3.out)) hs3 hk3 H4.out hmH.out
       have hil : i < ps.length := hs3.scan.lt
       obtain ⟨x0, x1, x2, x3⟩ := ht3.cellg i hil
       have f2 := ht3.qfr (i * 4 + 2)
       have q2 := ht3.row.c2
       rw [H2.out] at q2
       have hin : i < n := (by (rw [← H2.out]; exact hil))
       have HFK := Lib.hid hfk
       have HFV := Lib.hid hfv
       have T3 := Lib.hid ht3
       have S3 := Lib.hid hs3
       have B3 := Lib.hid hb3
       clear ht3 hs3 hk3 hb3 hfk hfv x0 x1 x3))
  go_ret
  have hpr := H.seek_probes (hmN_lt seed ps.length k (by omega)) S3.out
  rw [H2.out] at hpr
  have T4 := T3.out.storev i hil k v hv HFK.out hft
  have I4 := H.inv_over H3.out hin hft HFK.out v
  have hov := H.ents_over (⟨k.1, k.2, v, true⟩ : H.En) hil hft rfl
  rw [HFK.out, HFV.out] at hov
  have hp4 : (H.ents (ps.set i ⟨k.1, k.2, v, true⟩)).Perm ((k, v) :: r) := by
    have h1 := hov.trans (H4.out.cons _)
    exact List.Perm.cons_inv (h1.trans (List.Perm.swap _ _ _))
  have B4 := but_set' w3 Q (i * 4 + 2) (.int .u64 (v : Int)) (TF P Q M) (.inr (.inl rfl))
  refine ⟨rfl, Q, n, d + 1, ⟨_, t, p, T4, by rw [List.length_set]; exact H2.out, I4, hp4, H56.out.1, H56.out.2, (HM.out.but B3.out (Ne.symm hne.1)).but (but_set' w3 Q (i * 4 + 2) (.int .u64 (v : Int)) (· = Q) rfl) (Ne.symm hne.2), H8.out⟩, ?_, .inl rfl, by omega, hpr⟩
  exact ((ButS.of_below HB.out (Nat.le_refl _)).trans (B3.out.mono (fun j _ h => .inl h))).trans B4
/-- One entry more, at a free place behind its home. -/
theorem tab_put_end {w : World} {P Q M seed c pr n i d : Nat} {ts : List H.En} {es : List (H.Key × Nat)} {k : H.Key} {v cl t p : Nat} (T : Tb w P Q M seed c pr ts) (hl : ts.length = n) (I : H.Inv n (hmN seed n) ts) (hp : (H.ents ts).Perm es)
    (hm : Mt w M 0 cl 0 t p) (ht : t ≤ cl) (sc : H.Scan n (hmN seed n k) ts i d) (hf : (H.ge ts i).t = false) (hab : H.Absent ts k) (k1 : k.1 < 256) (k2 : k.2 < 18446744073709551616) (hv : v < 18446744073709551616)
    (hc : es.length = c) (h2 : 2 * (c + 1) ≤ n) (h8 : 8 < n → n < 8 * (c + 1)) :
    Tab ((put4 w Q i ⟨k.1, k.2, v, true⟩).drew.setCell ⟨P, 3, none⟩ (.int .i64 ((c + 1 : Nat) : Int))) P Q M seed n ((k, v) :: es) pr cl ∧ ButS w ((put4 w Q i ⟨k.1, k.2, v, true⟩).drew.setCell ⟨P, 3, none⟩ (.int .i64 ((c + 1 : Nat) : Int))) (fun x => x = P ∨ x = Q) := by
  have hil : i < ts.length := by rw [hl]; exact sc.lt
  have T2 := ((T.store i hil ⟨k.1, k.2, v, true⟩ ⟨k1, k2, hv⟩).drewN 1).setc (c + 1)
  have hne := tb_ne_m T hm
  have B2 : ButS w ((put4 w Q i ⟨k.1, k.2, v, true⟩).drew.setCell ⟨P, 3, none⟩ (.int .i64 ((c + 1 : Nat) : Int))) (fun x => x = P ∨ x = Q) :=
    ((put4_but w Q i ⟨k.1, k.2, v, true⟩ _ (.inr rfl)).drewN 1).trans (but_set' _ P 3 _ _ (.inl rfl))
  have hput := H.ents_put (⟨k.1, k.2, v, true⟩ : H.En) hil hf rfl
  refine ⟨⟨_, t, p, ?_, by rw [List.length_set]; exact hl, H.inv_put I (hmN_lt seed n k (by have := sc.lt; omega)) sc hab v, hput.trans (hp.cons _), ?_, ?_, hm.but B2 (fun h => by rcases h with h | h; exact hne.1 h.symm; exact hne.2 h.symm), ht⟩, B2⟩
  · rw [List.length_cons, hc]; exact T2
  · rw [List.length_cons, hc]; exact h2
  · rw [List.length_cons, hc]; exact h8
set_option maxHeartbeats 2000000 in
theorem tab_put_no (w : World) (P Q M seed n pr cl : Nat) (es : List (H.Key × Nat)) (a : Tab w P Q M seed n es pr cl) (k : H.Key) (k1 : k.1 < 256) (k2 : k.2 < 18446744073709551616) (v : Nat) (hv : v < 18446744073709551616) (he : ∀ x ∈ es, x.1 ≠ k) (hes : es.length < 1000000) :
    Calls Tryz.prog 94 #[.pointer (some ⟨P, 0, none⟩), .agg #[.int .u8 (k.1 : Int), .int .u64 (k.2 : Int)], .int .u64 (v : Int)] w (PutP w P Q M seed n ((k, v) :: es) cl true) := by
  obtain ⟨ps, t, p, h1, h2, h3, h4, h5, h6, h7, h8⟩ := a
  have hl8 := h1.len
  obtain ⟨q, hq, hq3, hqn⟩ := h1.pw
  have HF := Lib.hid (H.tab_free h2 h4 h5 (by omega))
  have hne := tb_ne_m h1 h7
  have hPl := h1.row.lt
  have hQl := h1.qlt
  have hPQ := h1.ne
  have b0 : Below w.heap.size w (w.alloc (.cells #[.int .u8 (k.1 : Int), .int .u64 (k.2 : Int)] 137)) := (Below.refl _ w).alloc (Nat.le_refl _) _
  have kb : KB (w.alloc (.cells #[.int .u8 (k.1 : Int), .int .u64 (k.2 : Int)] 137)) w.heap.size k := alloc_topI _ _
  have kc0 := kb.c0
  have kc1 := kb.c1
  have hMl := h7.lt
  have t1 := h1.below b0 (Nat.le_refl _)
  have hfi := Lib.hid (t_find _ P Q M seed _ pr ps t1 k k1 (by rw [h2]; exact HF.out))
  have HM := Lib.hid (h7.below b0 hMl)
  have HB := Lib.hid b0
  have HK := Lib.hid kb
  have H2 := Lib.hid h2
  have H3 := Lib.hid h3
  have H4 := Lib.hid h4
  have h5' := h5
  have H56 := Lib.hid (And.intro h5 h6)
  have H8 := Lib.hid h8
  have hmH := Lib.hid he
  have hqN := Lib.hid hqn
  have hn30 : n ≤ 8000008 := by omega
  have hn8 : 8 ≤ n := by omega
  clear h1 h2 h3 h4 h5 h6 h7 h8 b0 kb t1 HF he hqn
  generalize hcl : es.length = c at *
  have HC := Lib.hid hcl
  clear hcl
  have wc : IntKind.i64.wrap ((c : Int) + 1) = (c : Int) + 1 := IntWalk.i64_in _ (by omega)
  have wc2 : IntKind.i64.wrap (2 * ((c : Int) + 1)) = 2 * ((c : Int) + 1) := IntWalk.i64_in _ (by omega)
  by_cases hgr : n < 2 * (c + 1)
  · have d1 : decide ((n : Int) < 2 * ((c : Int) + 1)) = true := decide_eq_true (by omega)
    have hpw : 2 * n = 2 ^ (q + 1) := by rw [Nat.pow_succ, ← hqN.out, H2.out]; omega
    have hq30 : q + 1 ≤ 40 := by
      rcases Nat.lt_or_ge q 39 with h | h
      · omega
      · exfalso
        have : 2 ^ 39 ≤ 2 ^ q := Nat.pow_le_pow_right (by decide) h
        rw [← hqN.out, H2.out] at this
        omega
    have hmv := fun w0 pr0 (a : Tb w0 P Q M seed c pr0 ps) => Lib.hid (t_move w0 P Q M seed c pr0 ps a (by rw [H2.out]; exact H3.out) (2 * n) (q + 1) hpw hq30 (by omega) (by rw [H4.out.length_eq, HC.out]; omega))
    have hsz : ((2 * n : Nat) : Int) = 2 * (n : Int) := by omega
    rw [hsz] at hmv
    clear hsz
    have HPW := Lib.hid hpw
    clear hpw
    have wn2 : IntKind.i64.wrap (2 * (n : Int)) = 2 * (n : Int) := IntWalk.i64_in _ (by omega)
    go_enter Tryz.func94, Tryz.ntmps94
    go_wp2_with (first
      | (go_at_call 129; (with_reducible refine hfi.out.mono ?_); rintro e w3 ⟨i, d, rfl, ht3, hs3, hk3, hb3⟩
         have hft := H.found_no H2.out (by (have := hs3.scan.lt; rw [H2.out] at this; exact this)) hk3 H4.out hmH.out
         have q2 := ht3.row.c2
         have q3 := ht3.row.c3
         rw [H2.out] at q2
         have HAb := Lib.hid (H.seek_absent (by (rw [H2.out]; exact H3.out)) hs3 hft)
         have T3 := Lib.hid ht3
         have S3 := Lib.hid hs3
         have B3 := Lib.hid hb3
         have hK3 := HK.out.but hb3 (by omega)
         have K3 := Lib.hid hK3
         clear ht3 hs3 hk3 hb3 hK3))
    go_quiet (fail)
    go_wp2_with (first
      | (go_at_call 130; (with_reducible refine (hmv _ _ (T3.out.drewN _)).out.mono ?_); rintro e w4 ⟨ts, Q4, rfl, ht4, hl4, hi4, hp4, hQ4, hb4⟩
         have K4 := Lib.hid (KB.but (w := w3.drewN nq) K3.out hb4 (by omega))
         have kd0 := K4.out.c0
         have kd1 := K4.out.c1
         have T4 := Lib.hid ht4
         have L4 := Lib.hid hl4
         have I4 := Lib.hid hi4
         have P4 := Lib.hid hp4
         have B4 := Lib.hid hb4
         have hfr := Lib.hid (t_free w4 P Q4 M seed c _ ts ht4 k k1 (H.tab_free (es := H.ents ts) rfl (List.Perm.refl _) (by (rw [hp4.length_eq, H4.out.length_eq, HC.out, hl4]; omega)) (by omega)))
         clear ht4 hl4 hi4 hp4 hb4)
      | (go_at_call 131; (with_reducible refine hfr.out.mono ?_); rintro e w5 ⟨i5, d5, rfl, sc5, hf5, hb5⟩
         have T5 := Lib.hid (T4.out.below hb5 (Nat.le_refl _))
         have B5 := Lib.hid hb5
         obtain ⟨m0, m1, m2, m3⟩ := T5.out.cellg i5 sc5.lt
         have n0 := T5.out.qfr (i5 * 4)
         have n1 := T5.out.qfr (i5 * 4 + 1)
         have n2 := T5.out.qfr (i5 * 4 + 2)
         have n3 := T5.out.qfr (i5 * 4 + 3)
         have u2 := T5.out.row.c2
         have u3 := T5.out.row.c3
         have v3 := T5.out.row.fr 3
         rw [L4.out] at u2
         have hi5 : i5 < 2 * n := (by (rw [← L4.out]; exact sc5.lt))
         have hPQ5 := T5.out.ne
         have hK5 : KB w5 w.heap.size k := (hb5.block _ K4.out.lt).trans K4.out
         have ke0 := hK5.c0
         have ke1 := hK5.c1
         have SC5 := Lib.hid sc5
         clear hb5 sc5 hK5 kd0 kd1))
    go_region
    go_wp2
    go_ret
    have hM3 := HM.out.but B3.out (Ne.symm hne.1)
    have hM4 : Mt w4 M 0 cl 0 t p := Mt.but (w := w3.drewN nq) hM3 B4.out (Ne.symm hne.1)
    have hM5 := hM4.below B5.out hM4.lt
    have hAb4 : H.Absent ts k := by
      rw [H.absent_iff]
      intro x hx
      exact hmH.out x (H4.out.mem_iff.1 (P4.out.mem_iff.1 hx))
    have sc := SC5.out
    rw [L4.out] at sc
    have hend := tab_put_end T5.out L4.out I4.out (P4.out.trans H4.out) hM5 H8.out sc hf5 hAb4 k1 k2 hv HC.out (by omega) (by omega)
    have hpr := H.seek_probes (hmN_lt seed ps.length k (by omega)) S3.out
    rw [H2.out] at hpr
    have hBB : ButS w w5 (TF P Q M) := ((ButS.of_below HB.out (Nat.le_refl _)).trans (((B3.out.drewN nq).trans B4.out).mono (fun j _ h => .inl h))).trans (ButS.of_below B5.out (Nat.le_refl _))
    refine ⟨rfl, Q4, 2 * n, d + 1, hend.1, hBB.then hend.2 (fun j hj => ?_), ?_, by omega, hpr⟩
    · rcases hj with h | h
      · exact .inl (.inl h)
      · right
        have h1 : w3.heap.size ≤ Q4 := hQ4
        have h2 := B3.out.size
        have h3 := HB.out.size
        omega
    · right
      have h1 : w3.heap.size ≤ Q4 := hQ4
      have h2 := B3.out.size
      have h3 := HB.out.size
      omega
  · have d1 : decide ((n : Int) < 2 * ((c : Int) + 1)) = false := decide_eq_false (by omega)
    go_enter Tryz.func94, Tryz.ntmps94
    go_wp2_with (first
      | (go_at_call 129; (with_reducible refine hfi.out.mono ?_); rintro e w3 ⟨i, d, rfl, ht3, hs3, hk3, hb3⟩
         have hft := H.found_no H2.out (by (have := hs3.scan.lt; rw [H2.out] at this; exact this)) hk3 H4.out hmH.out
         have q2 := ht3.row.c2
         have q3 := ht3.row.c3
         have v3 := ht3.row.fr 3
         rw [H2.out] at q2
         obtain ⟨m0, m1, m2, m3⟩ := ht3.cellg i hs3.scan.lt
         have n0 := ht3.qfr (i * 4)
         have n1 := ht3.qfr (i * 4 + 1)
         have n2 := ht3.qfr (i * 4 + 2)
         have n3 := ht3.qfr (i * 4 + 3)
         have hin : i < n := (by (have := hs3.scan.lt; rw [H2.out] at this; exact this))
         have HAb := Lib.hid (H.seek_absent (by (rw [H2.out]; exact H3.out)) hs3 hft)
         have hK3 := HK.out.but hb3 (by omega)
         have ke0 := hK3.c0
         have ke1 := hK3.c1
         have T3 := Lib.hid ht3
         have S3 := Lib.hid hs3
         have B3 := Lib.hid hb3
         clear ht3 hs3 hk3 hb3 hK3 kc0 kc1))
    go_quiet (fail)
    go_wp2
    go_region
    go_wp2
    go_ret
    have hM3 := HM.out.but B3.out (Ne.symm hne.1)
    have hM4 : Mt (w3.drewN nq) M 0 cl 0 t p := hM3
    have sc := S3.out.scan
    rw [H2.out] at sc
    have hend := tab_put_end (T3.out.drewN nq) H2.out H3.out H4.out hM4 H8.out sc hft HAb.out k1 k2 hv HC.out (by omega) (fun h => by have := H56.out.2 h; omega)
    have hpr := H.seek_probes (hmN_lt seed ps.length k (by omega)) S3.out
    rw [H2.out] at hpr
    have hBB : ButS w (w3.drewN nq) (TF P Q M) := ((ButS.of_below HB.out (Nat.le_refl _)).trans ((B3.out.drewN nq).mono (fun j _ h => .inl h)))
    refine ⟨rfl, Q, n, d + 1, hend.1, hBB.trans (hend.2.mono (fun j _ hj => ?_)), .inl rfl, by omega, hpr⟩
    rcases hj with h | h
    · exact .inl h
    · exact .inr (.inl h)
end Go.Proofs.YtelfacchhclgnaaGreat.Hs
end
