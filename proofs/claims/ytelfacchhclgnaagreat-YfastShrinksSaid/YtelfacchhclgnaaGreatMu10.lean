/- A table in memory; an entry is looked for; the texts walked. Where an entry would stand: free; the text walked. A gap is closed; the text walked. Plain facts on moving all entries to other places. -/
import Derived.Laws.StructEq
import Derived.Test.YtelfacchhclgnaaGreatMu09
section
namespace Go.Proofs.YtelfacchhclgnaaGreat.Hs
set_option maxRecDepth 4000
open Go.RowKit
/-- The cells of places. -/
def ev (ps : List H.En) : List Value := ps.flatMap fun e => [Value.int .u8 (e.l : Int), Value.int .u64 (e.p : Int), Value.int .u64 (e.v : Int), Value.bool e.t]
theorem ev_cons (x : H.En) (ps : List H.En) : ev (x :: ps) = Value.int .u8 (x.l : Int) :: Value.int .u64 (x.p : Int) :: Value.int .u64 (x.v : Int) :: Value.bool x.t :: ev ps := rfl
theorem ev_len (ps : List H.En) : (ev ps).length = ps.length * 4 := by
  induction ps with
  | nil => rfl
  | cons x ps ih => rw [ev_cons]; simp only [List.length_cons, ih]; omega
theorem ev_at : ∀ (ps : List H.En) (k : Nat) (h : k < ps.length), (ev ps)[k * 4]? = some (.int .u8 (ps[k].l : Int)) ∧ (ev ps)[k * 4 + 1]? = some (.int .u64 (ps[k].p : Int)) ∧ (ev ps)[k * 4 + 2]? = some (.int .u64 (ps[k].v : Int)) ∧ (ev ps)[k * 4 + 3]? = some (.bool ps[k].t)
  | x :: ps, 0, _ => ⟨rfl, rfl, rfl, rfl⟩
  | x :: ps, k + 1, h => by
    have ih := ev_at ps k (by simpa using h)
    have e : ∀ c, (ev (x :: ps))[(k + 1) * 4 + c]? = (ev ps)[k * 4 + c]? := by
      intro c
      have e1 : (k + 1) * 4 + c = (k * 4 + c) + 1 + 1 + 1 + 1 := by omega
      rw [e1, ev_cons]
      simp only [List.getElem?_cons_succ]
    exact ⟨(e 0).trans ih.1, (e 1).trans ih.2.1, (e 2).trans ih.2.2.1, (e 3).trans ih.2.2.2⟩
theorem ev_set : ∀ (ps : List H.En) (k : Nat) (e : H.En), k < ps.length → ((((ev ps).set (k * 4) (.int .u8 (e.l : Int))).set (k * 4 + 1) (.int .u64 (e.p : Int))).set (k * 4 + 2) (.int .u64 (e.v : Int))).set (k * 4 + 3) (.bool e.t) = ev (ps.set k e)
  | x :: ps, 0, e, _ => rfl
  | x :: ps, k + 1, e, h => by
    have ih := ev_set ps k e (by simpa using h)
    have e1 : (k + 1) * 4 = k * 4 + 1 + 1 + 1 + 1 := by omega
    have e2 : (k + 1) * 4 + 1 = (k * 4 + 1) + 1 + 1 + 1 + 1 := by omega
    have e3 : (k + 1) * 4 + 2 = (k * 4 + 2) + 1 + 1 + 1 + 1 := by omega
    have e4 : (k + 1) * 4 + 3 = (k * 4 + 3) + 1 + 1 + 1 + 1 := by omega
    rw [e2, e3, e4, e1, List.set_cons_succ, ev_cons, ev_cons]
    simp only [List.set_cons_succ]
    rw [ih]
theorem ev_val : ∀ (ps : List H.En) (k : Nat) (v : Nat) (h : k < ps.length), (ev ps).set (k * 4 + 2) (.int .u64 (v : Int)) = ev (ps.set k ⟨ps[k].l, ps[k].p, v, ps[k].t⟩)
  | x :: ps, 0, v, _ => rfl
  | x :: ps, k + 1, v, h => by
    have ih := ev_val ps k v (by simpa using h)
    have e3 : (k + 1) * 4 + 2 = (k * 4 + 2) + 1 + 1 + 1 + 1 := by omega
    rw [e3, ev_cons]
    simp only [List.set_cons_succ]
    rw [ih]
    rfl
/-- Block P is a table's struct, block Q its places. -/
structure Tb (w : World) (P Q M seed c pr : Nat) (ps : List H.En) : Prop where
  row : TRow w P Q M seed ps.length c pr
  pl : w.heap[Q]? = some (.cells (ev ps).toArray 169 (0, 0))
  pw : ∃ q, q ≤ 40 ∧ 3 ≤ q ∧ ps.length = 2 ^ q
  rng : ∀ e ∈ ps, e.l < 256 ∧ e.p < 18446744073709551616 ∧ e.v < 18446744073709551616
section
variable {w w' : World} {P Q M seed c pr : Nat} {ps : List H.En}
theorem Tb.cell (a : Tb w P Q M seed c pr ps) (k : Nat) (hk : k < ps.length) : w.cell? ⟨Q, k * 4, none⟩ = some (.int .u8 (ps[k].l : Int)) ∧ w.cell? ⟨Q, k * 4 + 1, none⟩ = some (.int .u64 (ps[k].p : Int)) ∧ w.cell? ⟨Q, k * 4 + 2, none⟩ = some (.int .u64 (ps[k].v : Int)) ∧ w.cell? ⟨Q, k * 4 + 3, none⟩ = some (.bool ps[k].t) := by
  have h := ev_at ps k hk
  have e : ∀ i, w.cell? ⟨Q, i, none⟩ = (ev ps)[i]? := fun i => by rw [cell_of_row w Q i _ _ (0, 0) a.pl]; simp
  exact ⟨(e _).trans h.1, (e _).trans h.2.1, (e _).trans h.2.2.1, (e _).trans h.2.2.2⟩
theorem Tb.qfr (a : Tb w P Q M seed c pr ps) (k : Nat) : w.frozen? ⟨Q, k, none⟩ = false := by
  have := a.pl
  simp [World.frozen?, this]
theorem Tb.qlt (a : Tb w P Q M seed c pr ps) : Q < w.heap.size := by
  rcases Nat.lt_or_ge Q w.heap.size with hlt | hge
  · exact hlt
  · have := a.pl; rw [Array.getElem?_eq_none hge] at this; cases this
theorem Tb.ne (a : Tb w P Q M seed c pr ps) : P ≠ Q := by
  rintro rfl
  have h1 := a.row
  unfold TRow at h1
  rw [a.pl] at h1
  injection h1 with h1
  injection h1 with _ ht
  exact absurd ht (by decide)
theorem Tb.len (a : Tb w P Q M seed c pr ps) : 8 ≤ ps.length ∧ ps.length ≤ 1099511627776 := by
  obtain ⟨q, h1, h2, h3⟩ := a.pw
  rw [h3]
  exact ⟨Nat.pow_le_pow_right (n := 2) (by decide) h2, Nat.pow_le_pow_right (n := 2) (by decide) h1⟩
theorem Tb.but {S : Nat → Prop} (a : Tb w P Q M seed c pr ps) (hb : ButS w w' S) (hP : ¬ S P) (hQ : ¬ S Q) : Tb w' P Q M seed c pr ps :=
  ⟨(hb.block P a.row.lt hP).trans a.row, (hb.block Q a.qlt hQ).trans a.pl, a.pw, a.rng⟩
theorem Tb.drewN (a : Tb w P Q M seed c pr ps) (N : Nat) : Tb (w.drewN N) P Q M seed c pr ps := ⟨a.row, a.pl, a.pw, a.rng⟩
theorem Tb.setp (a : Tb w P Q M seed c pr ps) (pr' : Nat) : Tb (w.setCell ⟨P, 4, none⟩ (.int .i64 (pr' : Int))) P Q M seed c pr' ps := by
  refine ⟨?_, ?_, a.pw, a.rng⟩
  · have := a.row
    unfold TRow at *
    have := set_heap this 4 (.int .i64 (pr' : Int))
    simpa using this
  · exact (Below.heap_setCell w ⟨P, 4, none⟩ _ Q (fun e => a.ne e.symm)).trans a.pl
end
/-- Block b is a key. -/
def KB (w : World) (b : Nat) (k : H.Key) : Prop := w.heap[b]? = some (.cells #[.int .u8 (k.1 : Int), .int .u64 (k.2 : Int)] 137 (0, 0))
theorem KB.c0 {w : World} {b : Nat} {k : H.Key} (h : KB w b k) : w.cell? ⟨b, 0, none⟩ = some (.int .u8 (k.1 : Int)) := cell_of_row w b 0 _ _ (0, 0) h
theorem KB.c1 {w : World} {b : Nat} {k : H.Key} (h : KB w b k) : w.cell? ⟨b, 1, none⟩ = some (.int .u64 (k.2 : Int)) := cell_of_row w b 1 _ _ (0, 0) h
theorem KB.lt {w : World} {b : Nat} {k : H.Key} (h : KB w b k) : b < w.heap.size := by
  rcases Nat.lt_or_ge b w.heap.size with hlt | hge
  · exact hlt
  · unfold KB at h; rw [Array.getElem?_eq_none hge] at h; cases h
theorem alloc_topI (w : World) (o : Obj) : (w.alloc o).heap[w.heap.size]? = some o := by
  show (w.heap.push o)[w.heap.size]? = some o
  simp
theorem Tb.cellg {w : World} {P Q M seed c pr : Nat} {ps : List H.En} (a : Tb w P Q M seed c pr ps) (k : Nat) (hk : k < ps.length) : w.cell? ⟨Q, k * 4, none⟩ = some (.int .u8 ((H.ge ps k).l : Int)) ∧ w.cell? ⟨Q, k * 4 + 1, none⟩ = some (.int .u64 ((H.ge ps k).p : Int)) ∧ w.cell? ⟨Q, k * 4 + 2, none⟩ = some (.int .u64 ((H.ge ps k).v : Int)) ∧ w.cell? ⟨Q, k * 4 + 3, none⟩ = some (.bool (H.ge ps k).t) := by
  rw [H.ge_get hk]; exact a.cell k hk
theorem Tb.rngg {w : World} {P Q M seed c pr : Nat} {ps : List H.En} (a : Tb w P Q M seed c pr ps) (k : Nat) (hk : k < ps.length) : (H.ge ps k).l < 256 ∧ (H.ge ps k).p < 18446744073709551616 ∧ (H.ge ps k).v < 18446744073709551616 := by
  rw [H.ge_get hk]; exact a.rng _ (List.getElem_mem hk)
theorem KB.but {w w' : World} {b : Nat} {k : H.Key} {S : Nat → Prop} (h : KB w b k) (hb : ButS w w' S) (hs : ¬ S b) : KB w' b k := (hb.block b h.lt hs).trans h
def FoundP (w : World) (P Q M seed c : Nat) (ps : List H.En) (k : H.Key) (e : Ending) (w' : World) : Prop :=
  ∃ i d : Nat, e = .returned (.tuple #[.int .i64 (i : Int), .bool (H.ge ps i).t]) ∧ Tb w' P Q M seed c (d + 1) ps ∧ H.Seek ps.length (hmN seed ps.length) ps k i d ∧ ((H.ge ps i).t = true → (H.ge ps i).k = k) ∧ ButS w w' (· = P)
set_option maxHeartbeats 1000000 in
theorem t_find (w : World) (P Q M seed c pr : Nat) (ps : List H.En) (a : Tb w P Q M seed c pr ps) (k : H.Key) (k1 : k.1 < 256)
    (hf : ∃ f, f < ps.length ∧ (H.ge ps f).t = false) :
    Calls Tryz.prog 129 #[.pointer (some ⟨P, 0, none⟩), .agg #[.int .u8 (k.1 : Int), .int .u64 (k.2 : Int)]] w (FoundP w P Q M seed c ps k) := by
  obtain ⟨q, hq, hq3, hn⟩ := a.pw
  have hl8 := a.len
  have hPb : P < w.heap.size := a.row.lt
  have b0 := but_alloc' w (.cells #[.int .u8 (k.1 : Int), .int .u64 (k.2 : Int)] 137) (fun _ => False)
  have a1 := a.but b0 (fun h => h) (fun h => h)
  have kb : KB (w.alloc (.cells #[.int .u8 (k.1 : Int), .int .u64 (k.2 : Int)] 137)) w.heap.size k := alloc_topI _ _
  have kc0 := kb.c0
  have kc1 := kb.c1
  have hh := Lib.hid (t_home _ P Q M seed ps.length c pr q a1.row hn (by omega) k k1)
  have HA := Lib.hid a1
  have HB := Lib.hid b0
  have HK := Lib.hid kb
  have HN := Lib.hid hn
  have HF := Lib.hid hf
  have hpos := hmN_lt seed ps.length k (by omega)
  clear a a1 b0 kb hn hf
  go_enter Tryz.func129, Tryz.ntmps129
  go_wp2_with (go_at_call 147; (with_reducible refine hh.out.mono ?_); rintro e w1 ⟨rfl, hb1⟩; have HB1 := Lib.hid (HB.out.trans (ButS.of_below hb1 (Nat.le_refl _))); have HA1 := Lib.hid (HA.out.but (ButS.of_below hb1 (Nat.le_refl _) (S := fun _ => False)) (fun h => h) (fun h => h)); have HK1 := Lib.hid (HK.out.but (ButS.of_below hb1 (Nat.le_refl _) (S := fun _ => False)) (fun h => h)); have fr1 := HA1.out.row.fr 4; have fc1 := HA1.out.row.c4; clear hb1)
  have HA2 := Lib.hid (HA1.out.setp 1)
  have HB2 := Lib.hid ((HB1.out.mono (T := (· = P)) (fun j _ h => h.elim)).trans (but_set' w1 P 4 (.int .i64 ((1 : Nat) : Int)) (· = P) rfl))
  have HK2 := Lib.hid (HK1.out.but (but_set' w1 P 4 (.int .i64 ((1 : Nat) : Int)) (· = P) rfl) (by omega))
  clear HA1 HB1 HK1 fr1 fc1 hh HA HB HK kc0 kc1
  go_loopw [6] (fun u wr => ∃ i d : Nat, u = .int .i64 (i : Int) ∧ Hid (Tb wr P Q M seed c (d + 1) ps) ∧ Hid (H.Seek ps.length (hmN seed ps.length) ps k i d) ∧ Hid (ButS w wr (· = P)) ∧ Hid (KB wr w.heap.size k))
    (fun u _ => ps.length - H.wy ps.length (hmN seed ps.length k) (intOf u).toNat)
  case atStart => exact ⟨hmN seed ps.length k, 0, rfl, HA2, Lib.hid (H.seek_start hpos), HB2, HK2⟩
  case round =>
    obtain ⟨i, d, rfl, HT, HS, HW, HQ⟩ := hrel
    clear HA2 HB2 HK2
    have hi := HS.out.scan.lt
    obtain ⟨x0, x1, x2, x3⟩ := HT.out.cellg i hi
    have p2 := HT.out.row.c2
    have y0 := HQ.out.c0
    have y1 := HQ.out.c1
    cases ht : (H.ge ps i).t with
    | false =>
      rw [ht] at x3
      clear x0 x1 x2
      have HTt := Lib.hid ht
      clear ht
      generalize hL : ps.length = n at *
      have HL := Lib.hid hL
      clear hL
      go_wp2
      go_quiet (fail)
      go_wp2
      go_quiet (fail)
      go_wp2
      go_ret2
      obtain rfl := HL.out
      exact ⟨i, d, by rw [HTt.out]; rfl, (HT.out.drewN _).drewN _, HS.out, fun h => absurd h (by simp [HTt.out]), (HW.out.drewN _).drewN _⟩
    | true =>
      rw [ht] at x3
      by_cases hk : (H.ge ps i).k = k
      · have hk1 : (H.ge ps i).l = k.1 := by rw [← hk]
        have hk2 : (H.ge ps i).p = k.2 := by rw [← hk]
        rw [hk1] at x0
        rw [hk2] at x1
        have HKE := Lib.hid hk
        have HTt := Lib.hid ht
        clear hk ht hk1 hk2
        generalize hL : ps.length = n at *
        have HL := Lib.hid hL
        clear hL
        go_wp2
        go_quiet (fail)
        go_wp2
        go_quiet (fail)
        go_wp2
        go_ret2
        obtain rfl := HL.out
        exact ⟨i, d, by rw [HTt.out]; rfl, (HT.out.drewN _).drewN _, HS.out, fun _ => HKE.out, (HW.out.drewN _).drewN _⟩
      · have HKE := Lib.hid hk
        have HTt := Lib.hid ht
        clear hk ht
        have hm1 := H.scan_more hpos HS.out.scan HTt.out HF.out
        have hwd := Lib.hid HS.out.scan.way
        have hbe := fun N => Lib.hid (t_behind (wr.drewN N) P Q M seed ps.length c (d + 1) q HT.out.row HN.out (by omega) i hi)
        have p4 := HT.out.row.c4
        have f4 := HT.out.row.fr 4
        have HS2 := Lib.hid (H.seek_step hpos HS.out HTt.out HKE.out hm1)
        have HT2 := fun N => Lib.hid ((HT.out.drewN N).setp (d + 1 + 1))
        have HW2 := fun N => Lib.hid ((HW.out.drewN N).trans (but_set' (wr.drewN N) P 4 (.int .i64 ((d + 1 + 1 : Nat) : Int)) (· = P) rfl))
        have HQ2 := fun N => Lib.hid (KB.but (w := wr.drewN N) HQ.out (but_set' (wr.drewN N) P 4 (.int .i64 ((d + 1 + 1 : Nat) : Int)) (· = P) rfl) (by omega))
        have hms := Lib.hid (show ps.length - H.wy ps.length (hmN seed ps.length k) (H.nx ps.length i) < ps.length - H.wy ps.length (hmN seed ps.length k) i by
          rw [HS2.out.scan.way, hwd.out]; omega)
        have hcmp : ((H.ge ps i).l ≠ k.1 ∨ ((H.ge ps i).l = k.1 ∧ (H.ge ps i).p ≠ k.2)) := by
          by_cases h1 : (H.ge ps i).l = k.1
          · right; refine ⟨h1, fun h2 => HKE.out ?_⟩
            exact Prod.ext h1 h2
          · exact .inl h1
        have wd1 : IntKind.i64.wrap (((d + 1 : Nat) : Int) + 1) = ((d + 1 + 1 : Nat) : Int) := by rw [IntWalk.i64_in _ (by omega)]; omega
        generalize (H.ge ps i).l = l at *
        generalize (H.ge ps i).p = p at *
        generalize hL : ps.length = n at *
        have HL := Lib.hid hL
        clear hL
        rcases hcmp with hcmp | ⟨hcmp1, hcmp⟩
        · have e1 : ((l : Int) == (k.1 : Int)) = false := by simp; omega
          clear hcmp
          go_wp2
          go_quiet (fail)
          go_wp2_with (go_at_call 148; (with_reducible refine (hbe _).out.mono ?_); rintro e w' ⟨rfl, rfl⟩)
          go_roundw
          case rel => exact ⟨H.nx n i, d + 1, rfl, HT2 _, HS2, HW2 _, HQ2 _⟩
          case measure => exact hms.out
        · subst hcmp1
          have e1 : ((p : Int) == (k.2 : Int)) = false := by simp; omega
          clear hcmp
          go_wp2
          go_quiet (fail)
          go_wp2_with (go_at_call 148; (with_reducible refine (hbe _).out.mono ?_); rintro e w' ⟨rfl, rfl⟩)
          go_roundw
          case rel => exact ⟨H.nx n i, d + 1, rfl, HT2 _, HS2, HW2 _, HQ2 _⟩
          case measure => exact hms.out
end Go.Proofs.YtelfacchhclgnaaGreat.Hs
end
section
namespace Go.Proofs.YtelfacchhclgnaaGreat.Hs
set_option maxRecDepth 4000
open Go.RowKit
theorem Tb.below {w w' : World} {P Q M seed c pr B : Nat} {ps : List H.En} (a : Tb w P Q M seed c pr ps) (hb : Below B w w') (h : w.heap.size ≤ B) : Tb w' P Q M seed c pr ps :=
  a.but (ButS.of_below hb h (S := fun _ => False)) (fun h => h) (fun h => h)
def FreeP (w : World) (n seed : Nat) (ps : List H.En) (k : H.Key) (e : Ending) (w' : World) : Prop :=
  ∃ i d : Nat, e = .returned (.int .i64 (i : Int)) ∧ H.Scan n (hmN seed n k) ps i d ∧ (H.ge ps i).t = false ∧ Below w.heap.size w w'
set_option maxHeartbeats 1000000 in
theorem t_free (w : World) (P Q M seed c pr : Nat) (ps : List H.En) (a : Tb w P Q M seed c pr ps) (k : H.Key) (k1 : k.1 < 256)
    (hf : ∃ f, f < ps.length ∧ (H.ge ps f).t = false) :
    Calls Tryz.prog 131 #[.pointer (some ⟨P, 0, none⟩), .agg #[.int .u8 (k.1 : Int), .int .u64 (k.2 : Int)]] w (FreeP w ps.length seed ps k) := by
  obtain ⟨q, hq, hq3, hn⟩ := a.pw
  have hl8 := a.len
  have b0 : Below w.heap.size w (w.alloc (.cells #[.int .u8 (k.1 : Int), .int .u64 (k.2 : Int)] 137)) := (Below.refl _ w).alloc (Nat.le_refl _) _
  have a1 := a.below b0 (Nat.le_refl _)
  have kb : KB (w.alloc (.cells #[.int .u8 (k.1 : Int), .int .u64 (k.2 : Int)] 137)) w.heap.size k := alloc_topI _ _
  have kc0 := kb.c0
  have kc1 := kb.c1
  have hh := Lib.hid (t_home _ P Q M seed ps.length c pr q a1.row hn (by omega) k k1)
  have HA := Lib.hid a1
  have HB := Lib.hid b0
  have HN := Lib.hid hn
  have HF := Lib.hid hf
  have hpos := hmN_lt seed ps.length k (by omega)
  clear a a1 b0 kb hn hf
  go_enter Tryz.func131, Tryz.ntmps131
  go_wp2_with (go_at_call 147; (with_reducible refine hh.out.mono ?_); rintro e w1 ⟨rfl, hb1⟩; have HB1 := Lib.hid (HB.out.trans (hb1.mono (by have := HB.out.size; omega))); have HA1 := Lib.hid (HA.out.below hb1 (Nat.le_refl _)); clear hb1)
  clear hh HA HB kc0 kc1
  go_loop [5] (fun u => ∃ i d : Nat, u = .int .i64 (i : Int) ∧ Hid (H.Scan ps.length (hmN seed ps.length k) ps i d))
    (fun u => ps.length - H.wy ps.length (hmN seed ps.length k) (intOf u).toNat)
  case atStart => exact ⟨hmN seed ps.length k, 0, rfl, Lib.hid (H.scan_start hpos)⟩
  case round =>
    obtain ⟨i, d, rfl, HS⟩ := hrel
    have hi := HS.out.lt
    obtain ⟨x0, x1, x2, x3⟩ := HA1.out.cellg i hi
    have p2 := HA1.out.row.c2
    clear x0 x1 x2
    cases ht : (H.ge ps i).t with
    | false =>
      rw [ht] at x3
      have HTt := Lib.hid ht
      clear ht
      generalize ps.length = n at *
      go_wp2
      go_ret
      exact ⟨i, d, rfl, HS.out, HTt.out, HB1.out⟩
    | true =>
      rw [ht] at x3
      have hm1 := H.scan_more hpos HS.out ht HF.out
      have hbe := Lib.hid (t_behind w1 P Q M seed ps.length c pr q HA1.out.row HN.out (by omega) i hi)
      have HS2 := Lib.hid (H.scan_step hpos HS.out ht hm1)
      have hms := Lib.hid (show ps.length - H.wy ps.length (hmN seed ps.length k) (H.nx ps.length i) < ps.length - H.wy ps.length (hmN seed ps.length k) i by
        rw [HS2.out.way, HS.out.way]; omega)
      clear ht
      generalize ps.length = n at *
      go_wp2_with (go_at_call 148; (with_reducible refine hbe.out.mono ?_); rintro e w' ⟨rfl, rfl⟩)
      go_round
      case rel => exact ⟨H.nx n i, d + 1, rfl, HS2⟩
      case measure => exact hms.out
end Go.Proofs.YtelfacchhclgnaaGreat.Hs
end
section
namespace Go.Proofs.YtelfacchhclgnaaGreat.Hs
set_option maxRecDepth 4000
open Go.RowKit
/-- An entry is laid into place i. -/
def put4 (w : World) (Q i : Nat) (e : H.En) : World :=
  (((w.setCell ⟨Q, i * 4, none⟩ (.int .u8 (e.l : Int))).setCell ⟨Q, i * 4 + 1, none⟩ (.int .u64 (e.p : Int))).setCell ⟨Q, i * 4 + 2, none⟩ (.int .u64 (e.v : Int))).setCell ⟨Q, i * 4 + 3, none⟩ (.bool e.t)
theorem put4_but (w : World) (Q i : Nat) (e : H.En) (S : Nat → Prop) (h : S Q) : ButS w (put4 w Q i e) S :=
  (((but_set' w Q _ _ S h).trans (but_set' _ Q _ _ S h)).trans (but_set' _ Q _ _ S h)).trans (but_set' _ Q _ _ S h)
theorem Tb.store {w : World} {P Q M seed c pr : Nat} {ps : List H.En} (a : Tb w P Q M seed c pr ps) (i : Nat) (hi : i < ps.length) (e : H.En) (he : e.l < 256 ∧ e.p < 18446744073709551616 ∧ e.v < 18446744073709551616) : Tb (put4 w Q i e) P Q M seed c pr (ps.set i e) := by
  have hb := put4_but w Q i e (· = Q) rfl
  refine ⟨by rw [List.length_set]; exact (hb.block P a.row.lt a.ne).trans a.row, ?_, by rw [List.length_set]; exact a.pw, fun x hx => ?_⟩
  · have h := set_heap (set_heap (set_heap (set_heap a.pl (i * 4) (.int .u8 (e.l : Int))) (i * 4 + 1) (.int .u64 (e.p : Int))) (i * 4 + 2) (.int .u64 (e.v : Int))) (i * 4 + 3) (.bool e.t)
    have hs := ev_set ps i e hi
    rw [← hs]
    simpa [put4] using h
  · rcases List.mem_or_eq_of_mem_set hx with hx | rfl
    · exact a.rng x hx
    · exact he
def ClosedP (w : World) (P Q M seed c pr : Nat) (ps : List H.En) (s : Nat) (e : Ending) (w' : World) : Prop :=
  ∃ (qs : List H.En) (j : Nat), e = .returned (.tuple #[]) ∧ Tb w' P Q M seed c (pr + j + 1) qs ∧ H.Inv ps.length (hmN seed ps.length) qs ∧ (H.ents qs).Perm (H.ents (ps.set s H.z)) ∧
    (∀ h d, h < ps.length → H.Scan ps.length h ps s d → d + (j + 1) + 1 ≤ ps.length) ∧ ButS w w' (fun x => x = P ∨ x = Q)
set_option maxHeartbeats 2000000 in
theorem t_close (w : World) (P Q M seed c pr : Nat) (ps : List H.En) (a : Tb w P Q M seed c pr ps) (I : H.Inv ps.length (hmN seed ps.length) ps) (s : Nat) (hs : s < ps.length) (hst : (H.ge ps s).t = true)
    (hf : ∃ f, f < ps.length ∧ (H.ge ps f).t = false) (hpr : pr ≤ ps.length) :
    Calls Tryz.prog 136 #[.pointer (some ⟨P, 0, none⟩), .int .i64 (s : Int)] w (ClosedP w P Q M seed c pr ps s) := by
  obtain ⟨q, hq, hq3, hn⟩ := a.pw
  have hl8 := a.len
  have hh : ∀ k, hmN seed ps.length k < ps.length := fun k => hmN_lt seed ps.length k (by omega)
  have hG := Lib.hid (H.gap_start I (by omega) hs hst)
  have hbe := Lib.hid (t_behind w P Q M seed ps.length c pr q a.row hn (by omega) s hs)
  have HA := Lib.hid a
  have HN := Lib.hid hn
  have HF := Lib.hid hf
  have HH := Lib.hid hh
  clear a hn hf I hst hh
  go_enter Tryz.func136, Tryz.ntmps136
  go_wp2_with (go_at_call 148; (with_reducible refine hbe.out.mono ?_); rintro e w' ⟨rfl, rfl⟩)
  go_loopw [1, 4] (fun ug ui wr => ∃ (g i j : Nat) (qs : List H.En), ug = .int .i64 (g : Int) ∧ ui = .int .i64 (i : Int) ∧ Hid (qs.length = ps.length) ∧ Hid (Tb wr P Q M seed c (pr + j) qs) ∧ Hid (H.Gap ps.length (hmN seed ps.length) ps s (qs.set g H.z) g i (j + 1)) ∧ Hid ((H.ents (qs.set g H.z)).Perm (H.ents (ps.set s H.z))) ∧ Hid (ButS w wr (fun x => x = P ∨ x = Q)))
    (fun _ ui _ => ps.length - H.wy ps.length s (intOf ui).toNat)
  case atStart => exact ⟨s, H.nx ps.length s, 0, ps, rfl, rfl, Lib.hid rfl, HA, hG, Lib.hid (List.Perm.refl _), Lib.hid (ButS.refl _ _)⟩
  case round =>
    obtain ⟨g, i, j, qs, rfl, rfl, HL, HT, HG, HP, HW⟩ := hrel
    clear hG hbe
    have hi := HG.out.ilt
    have hg := HG.out.glt
    have hne := HG.out.ne
    have hgi : H.ge (qs.set g H.z) i = H.ge qs i := H.ge_set_ne hne
    have hiq : i < qs.length := by rw [HL.out]; exact hi
    have hgq : g < qs.length := by rw [HL.out]; exact hg
    obtain ⟨x0, x1, x2, x3⟩ := HT.out.cellg i hiq
    have p2 := HT.out.row.c2
    obtain ⟨z0, z1, z2, z3⟩ := HT.out.cellg g hgq
    have g0 := HT.out.qfr (g * 4)
    have g1 := HT.out.qfr (g * 4 + 1)
    have g2 := HT.out.qfr (g * 4 + 2)
    have g3 := HT.out.qfr (g * 4 + 3)
    have hPQ := HT.out.ne
    have p4 := HT.out.row.c4
    have f4 := HT.out.row.fr 4
    have hjn : j + 1 < ps.length := by have := HG.out.way; have := H.wy_lt hs hi; omega
    have wd1 : IntKind.i64.wrap (((pr + j : Nat) : Int) + 1) = ((pr + j + 1 : Nat) : Int) := by rw [IntWalk.i64_in _ (by omega)]; omega
    rw [HL.out] at p2
    have HGI := Lib.hid hgi
    clear hgi
    cases ht : (H.ge qs i).t with
    | false =>
      rw [ht] at x3
      have HTt := Lib.hid ht
      clear ht x0 x1 x2
      generalize hL : ps.length = n at *
      have HLn := Lib.hid hL
      clear hL
      go_wp2
      refine bodyPost_ret (results_none rfl _ _ _) rfl ?_
      have T1 := HT.out.setp (pr + j + 1)
      rw [show ((pr + j + 1 : Nat) : Int) = (pr : Int) + (j : Int) + 1 by omega] at T1
      have T2 := T1.store g hgq H.z (by decide)
      have hfr : (H.ge (qs.set g H.z) i).t = false := by rw [HGI.out]; exact HTt.out
      refine ⟨qs.set g H.z, j, rfl, T2, ?_, HP.out, ?_, ?_⟩
      · rw [HLn.out]; exact HG.out.done HH.out hfr
      · rw [HLn.out]; exact fun h d hh sc => H.gap_probes HG.out hs hh sc hfr
      · exact (HW.out.trans (but_set' _ P _ _ _ (.inl rfl))).trans (put4_but _ Q g H.z _ (.inr rfl))
    | true =>
      rw [ht] at x3
      have HTt := Lib.hid ht
      have T1 := HT.out.setp (pr + j + 1)
      have hrng := HT.out.rngg i hiq
      have hqe : (H.ge qs i).t = (H.ge (qs.set g H.z) i).t := by rw [HGI.out]
      have hm1 := HG.out.more hs (by rw [HGI.out]; exact ht) HF.out
      have hms := Lib.hid (show ps.length - H.wy ps.length s (H.nx ps.length i) < ps.length - H.wy ps.length s i by
        rw [H.wy_nx hs (by rw [HG.out.way]; exact hm1)]; have := H.wy_lt hs hi; omega)
      have HE := Lib.hid (rfl : H.ge qs i = H.ge qs i)
      have r1 := hrng.1
      have hwg : H.wy ps.length g i < ps.length := H.wy_lt hg hi
      have hho := Lib.hid (t_home _ P Q M seed qs.length c (pr + j + 1) q T1.row (HL.out.trans HN.out) (by omega) (H.ge qs i).k hrng.1)
      have hwh : H.wy ps.length (hmN seed ps.length (H.ge qs i).k) i < ps.length := H.wy_lt (HH.out _) hi
      rw [show ((pr + j + 1 : Nat) : Int) = (pr : Int) + (j : Int) + 1 by omega] at T1 hho
      rw [HL.out] at hho
      have HT1 := Lib.hid T1
      have hrr : (H.ge qs i).l < 256 ∧ (H.ge qs i).p < 18446744073709551616 ∧ (H.ge qs i).v < 18446744073709551616 := hrng
      clear ht T1 hqe hrng
      have hst : (H.ge qs i).t = true := HTt.out
      have HST := Lib.hid hst
      clear hst
      generalize hee : H.ge qs i = ee at *
      have HEE := Lib.hid hee
      clear hee
      have HHk := Lib.hid (HH.out ee.k)
      by_cases hw : H.wy ps.length g i ≤ H.wy ps.length (hmN seed ps.length ee.k) i
      · have d1 : decide (H.wy ps.length g i ≤ H.wy ps.length (hmN seed ps.length ee.k) i) = true := decide_eq_true hw
        have d2 : decide ((H.wy ps.length g i : Int) ≤ (H.wy ps.length (hmN seed ps.length ee.k) i : Int)) = true := decide_eq_true (by omega)
        have HWy := Lib.hid hw
        clear hw
        generalize hL : ps.length = n at *
        have HLn := Lib.hid hL
        clear hL
        go_wp2_with (first
          | (go_at_call 147; (with_reducible refine hho.out.mono ?_); rintro e w2 ⟨rfl, hb2⟩
             have HT2 := Lib.hid (HT1.out.below hb2 (Nat.le_refl _))
             have HB2 := Lib.hid ((but_set' wr P 4 (.int .i64 ((pr : Int) + (j : Int) + 1)) (fun x => x = P ∨ x = Q) (.inl rfl)).trans (ButS.of_below hb2 (Nat.le_refl _)))
             have hwa := Lib.hid (t_way w2 P Q M seed qs.length c (pr + j + 1) q HT2.out.row (HL.out.trans HN.out) (by omega) (hmN seed n ee.k) i (by rw [HL.out]; exact HHk.out) hiq)
             have hwb := Lib.hid (t_way w2 P Q M seed qs.length c (pr + j + 1) q HT2.out.row (HL.out.trans HN.out) (by omega) g i hgq hiq)
             rw [HL.out] at hwa hwb
             obtain ⟨v0, v1, v2, v3⟩ := HT2.out.cellg i hiq
             rw [HEE.out] at v0 v1 v2 v3
             rw [HST.out] at v3
             obtain ⟨y0, y1, y2, y3⟩ := HT2.out.cellg g hgq
             have k0 := HT2.out.qfr (g * 4)
             have k1 := HT2.out.qfr (g * 4 + 1)
             have k2 := HT2.out.qfr (g * 4 + 2)
             have k3 := HT2.out.qfr (g * 4 + 3)
             have q2 := HT2.out.row.c2
             rw [HL.out] at q2
             have t3 := HT2.out.store g hgq ee hrr
             have hl3 : (qs.set g ee).length = n := by rw [List.length_set]; exact HL.out
             have hb3 := Lib.hid (t_behind (World.drew (put4 w2 Q g ee)) P Q M seed (qs.set g ee).length c (pr + j + 1) q t3.row (hl3.trans HN.out) (by omega) i (by omega))
             rw [hl3] at hb3
             have B3 := put4_but w2 Q g ee (fun x => x = P ∨ x = Q) (.inr rfl)
             unfold put4 at t3 hb3 B3
             rw [HST.out] at t3 hb3 B3
             have HT3 := Lib.hid t3
             have HB3 := Lib.hid B3
             have HL3 := Lib.hid hl3
             clear t3 hl3 B3
             clear hb2)
          | (go_at_call 148; (with_reducible refine hb3.out.mono ?_); rintro e w4 ⟨rfl, rfl⟩)
          | (go_at_call 154; (with_reducible refine hwa.out.mono ?_); rintro e w3 ⟨rfl, rfl⟩; clear hwa)
          | (go_at_call 154; (with_reducible refine hwb.out.mono ?_); rintro e w3 ⟨rfl, rfl⟩; clear hwb))
        go_region
        go_wp2_with (go_at_call 148; (with_reducible refine hb3.out.mono ?_); rintro e w4 ⟨rfl, rfl⟩)
        go_roundw
        case rel =>
          have hgm := HG.out.move hs HH.out (by rw [HGI.out]; exact HST.out) (by omega) (by rw [HGI.out]; exact HWy.out)
          have hge := H.gap_move_ents HG.out (by rw [HGI.out]; exact HST.out)
          rw [HGI.out, List.set_set] at hgm hge
          exact ⟨i, H.nx n i, j + 1, qs.set g ee, rfl, rfl, HL3, Lib.hid (HT3.out.drewN 1), Lib.hid hgm, Lib.hid (hge.trans HP.out), Lib.hid ((HW.out.trans (HB2.out.trans HB3.out)).drewN 1)⟩
        case measure => exact hms.out
      · have d1 : decide (H.wy ps.length g i ≤ H.wy ps.length (hmN seed ps.length ee.k) i) = false := decide_eq_false hw
        have d2 : decide ((H.wy ps.length g i : Int) ≤ (H.wy ps.length (hmN seed ps.length ee.k) i : Int)) = false := decide_eq_false (by omega)
        have HWy := Lib.hid hw
        clear hw
        generalize hL : ps.length = n at *
        have HLn := Lib.hid hL
        clear hL
        go_wp2_with (first
          | (go_at_call 147; (with_reducible refine hho.out.mono ?_); rintro e w2 ⟨rfl, hb2⟩
             have HT2 := Lib.hid (HT1.out.below hb2 (Nat.le_refl _))
             have HB2 := Lib.hid ((but_set' wr P 4 (.int .i64 ((pr : Int) + (j : Int) + 1)) (fun x => x = P ∨ x = Q) (.inl rfl)).trans (ButS.of_below hb2 (Nat.le_refl _)))
             have hwa := Lib.hid (t_way w2 P Q M seed qs.length c (pr + j + 1) q HT2.out.row (HL.out.trans HN.out) (by omega) (hmN seed n ee.k) i (by rw [HL.out]; exact HHk.out) hiq)
             have hwb := Lib.hid (t_way w2 P Q M seed qs.length c (pr + j + 1) q HT2.out.row (HL.out.trans HN.out) (by omega) g i hgq hiq)
             have hb3 := Lib.hid (t_behind w2 P Q M seed qs.length c (pr + j + 1) q HT2.out.row (HL.out.trans HN.out) (by omega) i hiq)
             rw [HL.out] at hwa hwb hb3
             clear hb2)
          | (go_at_call 154; (with_reducible refine hwa.out.mono ?_); rintro e w3 ⟨rfl, rfl⟩; clear hwa)
          | (go_at_call 154; (with_reducible refine hwb.out.mono ?_); rintro e w3 ⟨rfl, rfl⟩; clear hwb)
          | (go_at_call 148; (with_reducible refine hb3.out.mono ?_); rintro e w4 ⟨rfl, rfl⟩))
        go_roundw
        case rel =>
          have hgm := HG.out.stay hs HH.out (by rw [HGI.out]; exact HST.out) (by omega) (by rw [HGI.out]; exact HWy.out)
          exact ⟨g, H.nx n i, j + 1, qs, rfl, rfl, HL, HT2, Lib.hid hgm, HP, Lib.hid (HW.out.trans HB2.out)⟩
        case measure => exact hms.out
end Go.Proofs.YtelfacchhclgnaaGreat.Hs
end
section
namespace Go.Proofs.YtelfacchhclgnaaGreat.Hs.H
set_option maxRecDepth 4000
theorem ge_take {ps : List En} {k j : Nat} (h : j < k) : ge (ps.take k) j = ge ps j := by
  unfold ge; rw [List.getElem?_take_of_lt h]
theorem ents_take_succ {ps : List En} {k : Nat} (h : k < ps.length) : ents (ps.take (k + 1)) = ents (ps.take k) ++ (if (ge ps k).t = true then [((ge ps k).k, (ge ps k).v)] else []) := by
  rw [List.take_succ_eq_append_getElem h, ents_append, ents_cons, ents_nil, List.append_nil, ge_get h]
theorem ents_take_le (ps : List En) (k : Nat) : (ents (ps.take k)).length ≤ (ents ps).length := by
  have : ents ps = ents (ps.take k) ++ ents (ps.drop k) := by rw [← ents_append, List.take_append_drop]
  rw [this, List.length_append]; omega
theorem move_absent {n : Nat} {hm : Key → Nat} {ps ts : List En} {k : Nat} (I : Inv n hm ps) (hk : k < n) (ht : (ge ps k).t = true) (hp : (ents ts).Perm (ents (ps.take k))) : Absent ts (ge ps k).k := by
  rw [absent_iff]
  intro x hx e
  obtain ⟨j, hj, hjt, rfl⟩ := ents_mem.1 (hp.mem_iff.1 hx)
  have hjk : j < k := by rw [List.length_take] at hj; omega
  rw [ge_take hjk] at hjt e
  have := I.key j k (by omega) hk hjt ht e
  omega
theorem move_put {ps ts : List En} {k i : Nat} (hk : k < ps.length) (ht : (ge ps k).t = true) (hp : (ents ts).Perm (ents (ps.take k))) (hi : i < ts.length) (hf : (ge ts i).t = false) :
    (ents (ts.set i (ge ps k))).Perm (ents (ps.take (k + 1))) := by
  have h1 := ents_put (ge ps k) hi hf ht
  rw [ents_take_succ hk, if_pos ht]
  exact h1.trans ((hp.cons _).trans (List.perm_append_comm (l₁ := [((ge ps k).k, (ge ps k).v)])))
theorem move_skip {ps ts : List En} {k : Nat} (hk : k < ps.length) (ht : (ge ps k).t = false) (hp : (ents ts).Perm (ents (ps.take k))) : (ents ts).Perm (ents (ps.take (k + 1))) := by
  rw [ents_take_succ hk, ht]
  simpa using hp
theorem move_free {ps ts : List En} {k n : Nat} (hp : (ents ts).Perm (ents (ps.take k))) (h : (ents ps).length < n) (hl : ts.length = n) : ∃ f, f < n ∧ (ge ts f).t = false := by
  have := ents_take_le ps k
  have h2 := hp.length_eq
  obtain ⟨f, hf, ht⟩ := free_of (ps := ts) (by omega)
  exact ⟨f, by omega, ht⟩
theorem en_eta (e : En) (h : e.t = true) : (⟨e.k.1, e.k.2, e.v, true⟩ : En) = e := by
  cases e; simp at h; simp [h]
end Go.Proofs.YtelfacchhclgnaaGreat.Hs.H
end
