
/- A table in memory; an entry is looked for; the texts walked. -/
import Derived.Test.YtihhkdcgnnfkkaaHWords
import Derived.Laws.StructEq
namespace Go.Proofs.Ytihhkdcgnnfkkaa.Hs
set_option maxRecDepth 4000
open Go.RowKit
/-- The cells of places. -/
def ev (ps : List H.En) : List Value := ps.flatMap fun e => [Value.int .u8 (e.l : Int), Value.int .u64 (e.p : Int), Value.int .u64 (e.v : Int), Value.bool e.t]
theorem ev_cons (x : H.En) (ps : List H.En) : ev (x :: ps) = Value.int .u8 (x.l : Int) :: Value.int .u64 (x.p : Int) :: Value.int .u64 (x.v : Int) :: Value.bool x.t :: ev ps := rfl
theorem ev_len (ps : List H.En) : (ev ps).length = ps.length * 4 := by
  induction ps with
  | nil => rfl
  | cons x ps ih => rw [ev_cons]; simp only [List.length_cons, ih]; omega
theorem ev_at : ∀ (ps : List H.En) (k : Nat) (h : k < ps.length), (ev ps)[k * 4]? = some (.int .u8 (ps[k].l : Int)) ∧ (ev ps)[k * 4 + 1]? = some (.int .u64 (ps[k].p : Int)) ∧ (ev ps)[k * 4 + 2]? = some (.int .u64 (ps[k].v : Int)) ∧ (ev ps)[k * 4 + 3]? = some (.bool ps[k].t)
  | x :: ps, 0, _ => ⟨rfl, rfl, rfl, rfl⟩
  | x :: ps, k + 1, h => by
    have ih := ev_at ps k (by simpa using h)
    have e : ∀ c, (ev (x :: ps))[(k + 1) * 4 + c]? = (ev ps)[k * 4 + c]? := by
      intro c
      have e1 : (k + 1) * 4 + c = (k * 4 + c) + 1 + 1 + 1 + 1 := by omega
      rw [e1, ev_cons]
      simp only [List.getElem?_cons_succ]
    exact ⟨(e 0).trans ih.1, (e 1).trans ih.2.1, (e 2).trans ih.2.2.1, (e 3).trans ih.2.2.2⟩
theorem ev_set : ∀ (ps : List H.En) (k : Nat) (e : H.En), k < ps.length → ((((ev ps).set (k * 4) (.int .u8 (e.l : Int))).set (k * 4 + 1) (.int .u64 (e.p : Int))).set (k * 4 + 2) (.int .u64 (e.v : Int))).set (k * 4 + 3) (.bool e.t) = ev (ps.set k e)
  | x :: ps, 0, e, _ => rfl
  | x :: ps, k + 1, e, h => by
    have ih := ev_set ps k e (by simpa using h)
    have e1 : (k + 1) * 4 = k * 4 + 1 + 1 + 1 + 1 := by omega
    have e2 : (k + 1) * 4 + 1 = (k * 4 + 1) + 1 + 1 + 1 + 1 := by omega
    have e3 : (k + 1) * 4 + 2 = (k * 4 + 2) + 1 + 1 + 1 + 1 := by omega
    have e4 : (k + 1) * 4 + 3 = (k * 4 + 3) + 1 + 1 + 1 + 1 := by omega
    rw [e2, e3, e4, e1, List.set_cons_succ, ev_cons, ev_cons]
    simp only [List.set_cons_succ]
    rw [ih]
theorem ev_val : ∀ (ps : List H.En) (k : Nat) (v : Nat) (h : k < ps.length), (ev ps).set (k * 4 + 2) (.int .u64 (v : Int)) = ev (ps.set k ⟨ps[k].l, ps[k].p, v, ps[k].t⟩)
  | x :: ps, 0, v, _ => rfl
  | x :: ps, k + 1, v, h => by
    have ih := ev_val ps k v (by simpa using h)
    have e3 : (k + 1) * 4 + 2 = (k * 4 + 2) + 1 + 1 + 1 + 1 := by omega
    rw [e3, ev_cons]
    simp only [List.set_cons_succ]
    rw [ih]
    rfl
/-- Block P is a table's struct, block Q its places. -/
structure Tb (w : World) (P Q M seed c pr : Nat) (ps : List H.En) : Prop where
  row : TRow w P Q M seed ps.length c pr
  pl : w.heap[Q]? = some (.cells (ev ps).toArray 86 (0, 0))
  pw : ∃ q, q ≤ 40 ∧ 3 ≤ q ∧ ps.length = 2 ^ q
  rng : ∀ e ∈ ps, e.l < 256 ∧ e.p < 18446744073709551616 ∧ e.v < 18446744073709551616
section
variable {w w' : World} {P Q M seed c pr : Nat} {ps : List H.En}
theorem Tb.cell (a : Tb w P Q M seed c pr ps) (k : Nat) (hk : k < ps.length) : w.cell? ⟨Q, k * 4, none⟩ = some (.int .u8 (ps[k].l : Int)) ∧ w.cell? ⟨Q, k * 4 + 1, none⟩ = some (.int .u64 (ps[k].p : Int)) ∧ w.cell? ⟨Q, k * 4 + 2, none⟩ = some (.int .u64 (ps[k].v : Int)) ∧ w.cell? ⟨Q, k * 4 + 3, none⟩ = some (.bool ps[k].t) := by
  have h := ev_at ps k hk
  have e : ∀ i, w.cell? ⟨Q, i, none⟩ = (ev ps)[i]? := fun i => by rw [cell_of_row w Q i _ _ (0, 0) a.pl]; simp
  exact ⟨(e _).trans h.1, (e _).trans h.2.1, (e _).trans h.2.2.1, (e _).trans h.2.2.2⟩
theorem Tb.qfr (a : Tb w P Q M seed c pr ps) (k : Nat) : w.frozen? ⟨Q, k, none⟩ = false := by
  have := a.pl
  simp [World.frozen?, this]
theorem Tb.qlt (a : Tb w P Q M seed c pr ps) : Q < w.heap.size := by
  rcases Nat.lt_or_ge Q w.heap.size with hlt | hge
  · exact hlt
  · have := a.pl; rw [Array.getElem?_eq_none hge] at this; cases this
theorem Tb.ne (a : Tb w P Q M seed c pr ps) : P ≠ Q := by
  rintro rfl
  have h1 := a.row
  unfold TRow at h1
  rw [a.pl] at h1
  injection h1 with h1
  injection h1 with _ ht
  exact absurd ht (by decide)
theorem Tb.len (a : Tb w P Q M seed c pr ps) : 8 ≤ ps.length ∧ ps.length ≤ 1099511627776 := by
  obtain ⟨q, h1, h2, h3⟩ := a.pw
  rw [h3]
  exact ⟨Nat.pow_le_pow_right (n := 2) (by decide) h2, Nat.pow_le_pow_right (n := 2) (by decide) h1⟩
theorem Tb.but {S : Nat → Prop} (a : Tb w P Q M seed c pr ps) (hb : ButS w w' S) (hP : ¬ S P) (hQ : ¬ S Q) : Tb w' P Q M seed c pr ps :=
  ⟨(hb.block P a.row.lt hP).trans a.row, (hb.block Q a.qlt hQ).trans a.pl, a.pw, a.rng⟩
theorem Tb.drewN (a : Tb w P Q M seed c pr ps) (N : Nat) : Tb (w.drewN N) P Q M seed c pr ps := ⟨a.row, a.pl, a.pw, a.rng⟩
theorem Tb.setp (a : Tb w P Q M seed c pr ps) (pr' : Nat) : Tb (w.setCell ⟨P, 4, none⟩ (.int .i64 (pr' : Int))) P Q M seed c pr' ps := by
  refine ⟨?_, ?_, a.pw, a.rng⟩
  · have := a.row
    unfold TRow at *
    have := set_heap this 4 (.int .i64 (pr' : Int))
    simpa using this
  · exact (Below.heap_setCell w ⟨P, 4, none⟩ _ Q (fun e => a.ne e.symm)).trans a.pl
end
/-- Block b is a key. -/
def KB (w : World) (b : Nat) (k : H.Key) : Prop := w.heap[b]? = some (.cells #[.int .u8 (k.1 : Int), .int .u64 (k.2 : Int)] 66 (0, 0))
theorem KB.c0 {w : World} {b : Nat} {k : H.Key} (h : KB w b k) : w.cell? ⟨b, 0, none⟩ = some (.int .u8 (k.1 : Int)) := cell_of_row w b 0 _ _ (0, 0) h
theorem KB.c1 {w : World} {b : Nat} {k : H.Key} (h : KB w b k) : w.cell? ⟨b, 1, none⟩ = some (.int .u64 (k.2 : Int)) := cell_of_row w b 1 _ _ (0, 0) h
theorem KB.lt {w : World} {b : Nat} {k : H.Key} (h : KB w b k) : b < w.heap.size := by
  rcases Nat.lt_or_ge b w.heap.size with hlt | hge
  · exact hlt
  · unfold KB at h; rw [Array.getElem?_eq_none hge] at h; cases h
theorem alloc_topI (w : World) (o : Obj) : (w.alloc o).heap[w.heap.size]? = some o := by
  show (w.heap.push o)[w.heap.size]? = some o
  simp
theorem Tb.cellg {w : World} {P Q M seed c pr : Nat} {ps : List H.En} (a : Tb w P Q M seed c pr ps) (k : Nat) (hk : k < ps.length) : w.cell? ⟨Q, k * 4, none⟩ = some (.int .u8 ((H.ge ps k).l : Int)) ∧ w.cell? ⟨Q, k * 4 + 1, none⟩ = some (.int .u64 ((H.ge ps k).p : Int)) ∧ w.cell? ⟨Q, k * 4 + 2, none⟩ = some (.int .u64 ((H.ge ps k).v : Int)) ∧ w.cell? ⟨Q, k * 4 + 3, none⟩ = some (.bool (H.ge ps k).t) := by
  rw [H.ge_get hk]; exact a.cell k hk
theorem Tb.rngg {w : World} {P Q M seed c pr : Nat} {ps : List H.En} (a : Tb w P Q M seed c pr ps) (k : Nat) (hk : k < ps.length) : (H.ge ps k).l < 256 ∧ (H.ge ps k).p < 18446744073709551616 ∧ (H.ge ps k).v < 18446744073709551616 := by
  rw [H.ge_get hk]; exact a.rng _ (List.getElem_mem hk)
theorem KB.but {w w' : World} {b : Nat} {k : H.Key} {S : Nat → Prop} (h : KB w b k) (hb : ButS w w' S) (hs : ¬ S b) : KB w' b k := (hb.block b h.lt hs).trans h
def FoundP (w : World) (P Q M seed c : Nat) (ps : List H.En) (k : H.Key) (e : Ending) (w' : World) : Prop :=
  ∃ i d : Nat, e = .returned (.tuple #[.int .i64 (i : Int), .bool (H.ge ps i).t]) ∧ Tb w' P Q M seed c (d + 1) ps ∧ H.Seek ps.length (hmN seed ps.length) ps k i d ∧ ((H.ge ps i).t = true → (H.ge ps i).k = k) ∧ ButS w w' (· = P)
set_option maxHeartbeats 1000000 in
theorem t_find (w : World) (P Q M seed c pr : Nat) (ps : List H.En) (a : Tb w P Q M seed c pr ps) (k : H.Key) (k1 : k.1 < 256)
    (hf : ∃ f, f < ps.length ∧ (H.ge ps f).t = false) :
    Calls Try.prog 36 #[.pointer (some ⟨P, 0, none⟩), .agg #[.int .u8 (k.1 : Int), .int .u64 (k.2 : Int)]] w (FoundP w P Q M seed c ps k) := by
  obtain ⟨q, hq, hq3, hn⟩ := a.pw
  have hl8 := a.len
  have hPb : P < w.heap.size := a.row.lt
  have b0 := but_alloc' w (.cells #[.int .u8 (k.1 : Int), .int .u64 (k.2 : Int)] 66) (fun _ => False)
  have a1 := a.but b0 (fun h => h) (fun h => h)
  have kb : KB (w.alloc (.cells #[.int .u8 (k.1 : Int), .int .u64 (k.2 : Int)] 66)) w.heap.size k := alloc_topI _ _
  have kc0 := kb.c0
  have kc1 := kb.c1
  have hh := Lib.hid (t_home _ P Q M seed ps.length c pr q a1.row hn (by omega) k k1)
  have HA := Lib.hid a1
  have HB := Lib.hid b0
  have HK := Lib.hid kb
  have HN := Lib.hid hn
  have HF := Lib.hid hf
  have hpos := hmN_lt seed ps.length k (by omega)
  clear a a1 b0 kb hn hf
  go_enter Try.func36, Try.ntmps36
  go_wp2_with (go_at_call 45; (with_reducible refine hh.out.mono ?_); rintro e w1 ⟨rfl, hb1⟩; have HB1 := Lib.hid (HB.out.trans (ButS.of_below hb1 (Nat.le_refl _))); have HA1 := Lib.hid (HA.out.but (ButS.of_below hb1 (Nat.le_refl _) (S := fun _ => False)) (fun h => h) (fun h => h)); have HK1 := Lib.hid (HK.out.but (ButS.of_below hb1 (Nat.le_refl _) (S := fun _ => False)) (fun h => h)); have fr1 := HA1.out.row.fr 4; have fc1 := HA1.out.row.c4; clear hb1)
  have HA2 := Lib.hid (HA1.out.setp 1)
  have HB2 := Lib.hid ((HB1.out.mono (T := (· = P)) (fun j _ h => h.elim)).trans (but_set' w1 P 4 (.int .i64 ((1 : Nat) : Int)) (· = P) rfl))
  have HK2 := Lib.hid (HK1.out.but (but_set' w1 P 4 (.int .i64 ((1 : Nat) : Int)) (· = P) rfl) (by omega))
  clear HA1 HB1 HK1 fr1 fc1 hh HA HB HK kc0 kc1
  go_loopw [6] (fun u wr => ∃ i d : Nat, u = .int .i64 (i : Int) ∧ Hid (Tb wr P Q M seed c (d + 1) ps) ∧ Hid (H.Seek ps.length (hmN seed ps.length) ps k i d) ∧ Hid (ButS w wr (· = P)) ∧ Hid (KB wr w.heap.size k))
    (fun u _ => ps.length - H.wy ps.length (hmN seed ps.length k) (intOf u).toNat)
  case atStart => exact ⟨hmN seed ps.length k, 0, rfl, HA2, Lib.hid (H.seek_start hpos), HB2, HK2⟩
  case round =>
    obtain ⟨i, d, rfl, HT, HS, HW, HQ⟩ := hrel
    clear HA2 HB2 HK2
    have hi := HS.out.scan.lt
    obtain ⟨x0, x1, x2, x3⟩ := HT.out.cellg i hi
    have p2 := HT.out.row.c2
    have y0 := HQ.out.c0
    have y1 := HQ.out.c1
    cases ht : (H.ge ps i).t with
    | false =>
      rw [ht] at x3
      clear x0 x1 x2
      have HTt := Lib.hid ht
      clear ht
      generalize hL : ps.length = n at *
      have HL := Lib.hid hL
      clear hL
      go_wp2
      go_quiet (fail)
      go_wp2
      go_quiet (fail)
      go_wp2
      go_ret2
      obtain rfl := HL.out
      exact ⟨i, d, by rw [HTt.out]; rfl, (HT.out.drewN _).drewN _, HS.out, fun h => absurd h (by simp [HTt.out]), (HW.out.drewN _).drewN _⟩
    | true =>
      rw [ht] at x3
      by_cases hk : (H.ge ps i).k = k
      · have hk1 : (H.ge ps i).l = k.1 := by rw [← hk]
        have hk2 : (H.ge ps i).p = k.2 := by rw [← hk]
        rw [hk1] at x0
        rw [hk2] at x1
        have HKE := Lib.hid hk
        have HTt := Lib.hid ht
        clear hk ht hk1 hk2
        generalize hL : ps.length = n at *
        have HL := Lib.hid hL
        clear hL
        go_wp2
        go_quiet (fail)
        go_wp2
        go_quiet (fail)
        go_wp2
        go_ret2
        obtain rfl := HL.out
        exact ⟨i, d, by rw [HTt.out]; rfl, (HT.out.drewN _).drewN _, HS.out, fun _ => HKE.out, (HW.out.drewN _).drewN _⟩
      · have HKE := Lib.hid hk
        have HTt := Lib.hid ht
        clear hk ht
        have hm1 := H.scan_more hpos HS.out.scan HTt.out HF.out
        have hwd := Lib.hid HS.out.scan.way
        have hbe := fun N => Lib.hid (t_behind (wr.drewN N) P Q M seed ps.length c (d + 1) q HT.out.row HN.out (by omega) i hi)
        have p4 := HT.out.row.c4
        have f4 := HT.out.row.fr 4
        have HS2 := Lib.hid (H.seek_step hpos HS.out HTt.out HKE.out hm1)
        have HT2 := fun N => Lib.hid ((HT.out.drewN N).setp (d + 1 + 1))
        have HW2 := fun N => Lib.hid ((HW.out.drewN N).trans (but_set' (wr.drewN N) P 4 (.int .i64 ((d + 1 + 1 : Nat) : Int)) (· = P) rfl))
        have HQ2 := fun N => Lib.hid (KB.but (w := wr.drewN N) HQ.out (but_set' (wr.drewN N) P 4 (.int .i64 ((d + 1 + 1 : Nat) : Int)) (· = P) rfl) (by omega))
        have hms := Lib.hid (show ps.length - H.wy ps.length (hmN seed ps.length k) (H.nx ps.length i) < ps.length - H.wy ps.length (hmN seed ps.length k) i by
          rw [HS2.out.scan.way, hwd.out]; omega)
        have hcmp : ((H.ge ps i).l ≠ k.1 ∨ ((H.ge ps i).l = k.1 ∧ (H.ge ps i).p ≠ k.2)) := by
          by_cases h1 : (H.ge ps i).l = k.1
          · right; refine ⟨h1, fun h2 => HKE.out ?_⟩
            exact Prod.ext h1 h2
          · exact .inl h1
        have wd1 : IntKind.i64.wrap (((d + 1 : Nat) : Int) + 1) = ((d + 1 + 1 : Nat) : Int) := by rw [IntWalk.i64_in _ (by omega)]; omega
        generalize (H.ge ps i).l = l at *
        generalize (H.ge ps i).p = p at *
        generalize hL : ps.length = n at *
        have HL := Lib.hid hL
        clear hL
        rcases hcmp with hcmp | ⟨hcmp1, hcmp⟩
        · have e1 : ((l : Int) == (k.1 : Int)) = false := by simp; omega
          clear hcmp
          go_wp2
          go_quiet (fail)
          go_wp2_with (go_at_call 46; (with_reducible refine (hbe _).out.mono ?_); rintro e w' ⟨rfl, rfl⟩)
          go_roundw
          case rel => exact ⟨H.nx n i, d + 1, rfl, HT2 _, HS2, HW2 _, HQ2 _⟩
          case measure => exact hms.out
        · subst hcmp1
          have e1 : ((p : Int) == (k.2 : Int)) = false := by simp; omega
          clear hcmp
          go_wp2
          go_quiet (fail)
          go_wp2_with (go_at_call 46; (with_reducible refine (hbe _).out.mono ?_); rintro e w' ⟨rfl, rfl⟩)
          go_roundw
          case rel => exact ⟨H.nx n i, d + 1, rfl, HT2 _, HS2, HW2 _, HQ2 _⟩
          case measure => exact hms.out
end Go.Proofs.Ytihhkdcgnnfkkaa.Hs
