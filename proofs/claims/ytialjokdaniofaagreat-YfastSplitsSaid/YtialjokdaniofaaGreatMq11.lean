/- A table's numbers: mix, home, round, behind, way; the texts walked. A table in memory; an entry is looked for; the texts walked. Where an entry would stand: free; the text walked. -/
import Derived.WalkKit
import Derived.OwnWalk
import Derived.Laws.OwnMore
import Derived.Below
import Derived.LoopTactic
import Derived.RegionTactic
import Derived.Outline
import Derived.Lib.Hide
import Derived.Deep.Draws
import Derived.Deep.QuietTactic
import Derived.BigQuiet
import Derived.Laws.Rows
import Derived.Laws.StructEq
import Derived.Test.YtialjokdaniofaaGreatMq10
section
namespace Go.Proofs.YtialjokdaniofaaGreat.Hs
set_option maxRecDepth 4000
open Go.RowKit
theorem u64_in (x : Int) (h : 0 ≤ x) (h2 : x < 18446744073709551616) : IntKind.u64.wrap x = x := by
  simp [IntKind.wrap, IntKind.signed, IntKind.bits]; omega
theorem u64_bounds (x : Int) : 0 ≤ IntKind.u64.wrap x ∧ IntKind.u64.wrap x < 18446744073709551616 := by
  simp [IntKind.wrap, IntKind.signed, IntKind.bits]; omega
def mixI (x : Int) : Int :=
  let a := IntKind.u64.wrap (x + 11400714819323198485)
  let b := IntKind.u64.wrap (bits BinOp.xor IntKind.u64 a (a / 1073741824) * 13787848793156543929)
  let c := IntKind.u64.wrap (bits BinOp.xor IntKind.u64 b (b / 134217728) * 10723151780598845931)
  bits BinOp.xor IntKind.u64 c (c / 2147483648)
theorem bits_u64 (o : BinOp) (a b : Int) : 0 ≤ bits o .u64 a b ∧ bits o .u64 a b < 18446744073709551616 := by
  unfold bits
  exact u64_bounds _
theorem mix_any (x : Int) (w : World) :
    Calls Tryz.prog 159 #[.int .u64 x] w fun e w' => e = .returned (.int .u64 (mixI x)) ∧ w = w' := by
  go_enter Tryz.func159, Tryz.ntmps159
  go_wp2
  go_ret
  exact ⟨rfl, rfl⟩
theorem mix_bounds (x : Int) : 0 ≤ mixI x ∧ mixI x < 18446744073709551616 := by
  unfold mixI
  exact bits_u64 _ _ _
/-- A key's home among n places. -/
def hmI (seed : Nat) (k : H.Key) : Int := mixI (bits BinOp.xor .u64 (k.2 : Int) (mixI (IntKind.u64.wrap ((seed : Int) + (k.1 : Int)))))
def hmN (seed n : Nat) (k : H.Key) : Nat := (hmI seed k).toNat % n
theorem hmN_lt (seed n : Nat) (k : H.Key) (h : 0 < n) : hmN seed n k < n := Nat.mod_lt _ h
theorem u64_mask (y : Int) (q n : Nat) (hy : 0 ≤ y) (hy2 : y < 18446744073709551616) (hq : q ≤ 60) (hn : n = 2 ^ q) : bits .and .u64 y ((n : Int) - 1) = ((y.toNat % n : Nat) : Int) := by
  obtain ⟨y, rfl⟩ : ∃ m : Nat, y = m := ⟨y.toNat, by omega⟩
  have h1 : 1 ≤ 2 ^ q := Nat.one_le_two_pow
  have h2 : (2 : Nat) ^ q ≤ 2 ^ 60 := Nat.pow_le_pow_right (by decide) hq
  have e : (n : Int) - 1 = ((2 ^ q - 1 : Nat) : Int) := by subst hn; omega
  rw [e]
  have hx : y &&& (2 ^ q - 1) = y % 2 ^ q := Nat.and_two_pow_sub_one_eq_mod _ _
  have hlt : y % 2 ^ q < 18446744073709551616 := Nat.lt_of_le_of_lt (Nat.mod_le _ _) (by omega)
  show IntKind.u64.wrap ((BitVec.ofInt 64 (y : Int) &&& BitVec.ofInt 64 ((2 ^ q - 1 : Nat) : Int)).toNat : Int) = _
  have e2 : (BitVec.ofInt 64 (y : Int) &&& BitVec.ofInt 64 ((2 ^ q - 1 : Nat) : Int)).toNat = y % 2 ^ q := by
    rw [BitVec.toNat_and]
    have a1 : (BitVec.ofInt 64 (y : Int)).toNat = y := by simp; omega
    have a2 : (BitVec.ofInt 64 ((2 ^ q - 1 : Nat) : Int)).toNat = 2 ^ q - 1 := by
      generalize 2 ^ q - 1 = u at *
      simp; omega
    rw [a1, a2, hx]
  rw [e2, hn]
  exact u64_in _ (by omega) (by omega)

/-- Block P is a table's struct: its meter M, its seed, its places in Q, how many entries, how many were looked at. -/
def TRow (w : World) (P Q M seed n c pr : Nat) : Prop :=
  w.heap[P]? = some (.cells #[.pointer (some ⟨M, 0, none⟩), .int .u64 (seed : Int), .slice (some ⟨Q, 0, none⟩) n n, .int .i64 (c : Int), .int .i64 (pr : Int)] 118 (0, 0))
section
variable {w w' : World} {P Q M seed n c pr : Nat}
theorem TRow.cell (a : TRow w P Q M seed n c pr) (i : Nat) : w.cell? ⟨P, i, none⟩ = (#[.pointer (some ⟨M, 0, none⟩), .int .u64 (seed : Int), .slice (some ⟨Q, 0, none⟩) n n, .int .i64 (c : Int), .int .i64 (pr : Int)] : Array Value)[i]? := cell_of_row w P i _ _ (0, 0) a
theorem TRow.c0 (a : TRow w P Q M seed n c pr) : w.cell? ⟨P, 0, none⟩ = some (.pointer (some ⟨M, 0, none⟩)) := a.cell 0
theorem TRow.c1 (a : TRow w P Q M seed n c pr) : w.cell? ⟨P, 1, none⟩ = some (.int .u64 (seed : Int)) := a.cell 1
theorem TRow.c2 (a : TRow w P Q M seed n c pr) : w.cell? ⟨P, 2, none⟩ = some (.slice (some ⟨Q, 0, none⟩) n n) := a.cell 2
theorem TRow.c3 (a : TRow w P Q M seed n c pr) : w.cell? ⟨P, 3, none⟩ = some (.int .i64 (c : Int)) := a.cell 3
theorem TRow.c4 (a : TRow w P Q M seed n c pr) : w.cell? ⟨P, 4, none⟩ = some (.int .i64 (pr : Int)) := a.cell 4
theorem TRow.fr (a : TRow w P Q M seed n c pr) (k : Nat) : w.frozen? ⟨P, k, none⟩ = false := by
  unfold TRow at a; simp [World.frozen?, a]
theorem TRow.lt (a : TRow w P Q M seed n c pr) : P < w.heap.size := by
  rcases Nat.lt_or_ge P w.heap.size with hlt | hge
  · exact hlt
  · unfold TRow at a; rw [Array.getElem?_eq_none hge] at a; cases a
theorem TRow.below {B : Nat} (a : TRow w P Q M seed n c pr) (hb : Below B w w') (h : P < B) : TRow w' P Q M seed n c pr := (hb.block P h).trans a
end
theorem t_round (w : World) (P Q M seed n c pr q : Nat) (a : TRow w P Q M seed n c pr) (hn : n = 2 ^ q) (hq : q ≤ 60) (y : Int) (hy : 0 ≤ y) (hy2 : y < 18446744073709551616) (m : Nat) (hm : m = y.toNat % n) :
    Calls Tryz.prog 158 #[.pointer (some ⟨P, 0, none⟩), .int .u64 y] w fun e w' => e = .returned (.int .i64 (m : Int)) ∧ w = w' := by
  have hc := a.c2
  have hmask := u64_mask y q n hy hy2 hq hn
  have h1 : 1 ≤ n := by rw [hn]; exact Nat.one_le_two_pow
  have h2 : n ≤ 1152921504606846976 := by rw [hn]; exact Nat.pow_le_pow_right (n := 2) (by decide) hq
  have h3 : y.toNat % n < n := Nat.mod_lt _ h1
  rw [← hm] at hmask h3
  have w1 : IntKind.u64.wrap ((n : Int) - 1) = (n : Int) - 1 := u64_in _ (by omega) (by omega)
  clear a hn hm
  go_enter Tryz.func158, Tryz.ntmps158
  go_wp2
  go_ret
  exact ⟨rfl, rfl⟩
theorem t_behind (w : World) (P Q M seed n c pr q : Nat) (a : TRow w P Q M seed n c pr) (hn : n = 2 ^ q) (hq : q ≤ 60) (i : Nat) (hi : i < n) :
    Calls Tryz.prog 148 #[.pointer (some ⟨P, 0, none⟩), .int .i64 (i : Int)] w fun e w' => e = .returned (.int .i64 (H.nx n i : Nat)) ∧ w = w' := by
  have h2 : n ≤ 1152921504606846976 := by rw [hn]; exact Nat.pow_le_pow_right (n := 2) (by decide) hq
  have hr := Lib.hid (t_round w P Q M seed n c pr q a hn hq ((i : Int) + 1) (by omega) (by omega) (H.nx n i) (by
    have e : ((i : Int) + 1).toNat = i + 1 := by omega
    rw [e]
    rcases H.nx_cases n i with ⟨h, h'⟩ | ⟨h, h'⟩
    · rw [h', h, Nat.mod_self]
    · rw [h', Nat.mod_eq_of_lt (by omega)]))
  have w1 : IntKind.u64.wrap (i : Int) = (i : Int) := u64_in _ (by omega) (by omega)
  have w2 : IntKind.u64.wrap ((i : Int) + 1) = (i : Int) + 1 := u64_in _ (by omega) (by omega)
  clear a hn
  go_enter Tryz.func148, Tryz.ntmps148
  go_wp2_with (go_at_call 158; (with_reducible refine hr.out.mono ?_); rintro e w' ⟨rfl, rfl⟩)
  go_ret
  exact ⟨rfl, rfl⟩
theorem mod_pow_big (x q : Nat) (hq : q ≤ 60) : (x + 18446744073709551616) % 2 ^ q = x % 2 ^ q := by
  have e : 18446744073709551616 = 2 ^ q * 2 ^ (64 - q) := by rw [← Nat.pow_add]; have : q + (64 - q) = 64 := by omega
                                                             rw [this]
  rw [e, Nat.add_mul_mod_self_left]
theorem t_way (w : World) (P Q M seed n c pr q : Nat) (a : TRow w P Q M seed n c pr) (hn : n = 2 ^ q) (hq : q ≤ 60) (i j : Nat) (hi : i < n) (hj : j < n) :
    Calls Tryz.prog 154 #[.pointer (some ⟨P, 0, none⟩), .int .i64 (i : Int), .int .i64 (j : Int)] w fun e w' => e = .returned (.int .i64 (H.wy n i j : Nat)) ∧ w = w' := by
  have h2 : n ≤ 1152921504606846976 := by rw [hn]; exact Nat.pow_le_pow_right (n := 2) (by decide) hq
  have hb := u64_bounds ((j : Int) - (i : Int))
  have hr := Lib.hid (t_round w P Q M seed n c pr q a hn hq (IntKind.u64.wrap ((j : Int) - (i : Int))) hb.1 hb.2 (H.wy n i j) (by
    rcases H.wy_cases n i j with ⟨h, h'⟩ | ⟨h, h'⟩
    · rw [h', u64_in _ (by omega) (by omega)]
      have e : ((j : Int) - (i : Int)).toNat = j - i := by omega
      rw [e, Nat.mod_eq_of_lt (by omega)]
    · have e : IntKind.u64.wrap ((j : Int) - (i : Int)) = (((j + 18446744073709551616 - i : Nat)) : Int) := by
        simp [IntKind.wrap, IntKind.signed, IntKind.bits]; omega
      have e2 : (((j + 18446744073709551616 - i : Nat)) : Int).toNat = j + 18446744073709551616 - i := by omega
      rw [e, e2, h']
      have e3 : (j + 18446744073709551616 - i) % n = (j + 18446744073709551616 - i + n) % n := by rw [Nat.add_mod_right]
      have e4 : j + 18446744073709551616 - i + n = (j + n - i) + 18446744073709551616 := by omega
      rw [e3, e4]
      conv => rhs; rw [hn]
      rw [mod_pow_big _ q hq, ← hn, Nat.mod_eq_of_lt (by omega)]))
  have w1 : IntKind.u64.wrap (i : Int) = (i : Int) := u64_in _ (by omega) (by omega)
  have w2 : IntKind.u64.wrap (j : Int) = (j : Int) := u64_in _ (by omega) (by omega)
  clear a hn hb
  go_enter Tryz.func154, Tryz.ntmps154
  go_wp2_with (go_at_call 158; (with_reducible refine hr.out.mono ?_); rintro e w' ⟨rfl, rfl⟩)
  go_ret
  exact ⟨rfl, rfl⟩
theorem quiet_same {P : Program} {f : FuncId} {args : Array Value} {w : World} {n : Nat} {v : Value}
    (h : Calls P f args (w.drewN n) fun e w' => e = .returned v ∧ w.drewN n = w') : Calls P f args (w.drewN n) fun e w'' => e = .returned v ∧ ∃ m, w'' = w.drewN m :=
  h.mono fun _ _ ⟨he, hm⟩ => ⟨he, n, hm.symm⟩
set_option maxHeartbeats 1000000 in
theorem t_home (w : World) (P Q M seed n c pr q : Nat) (a : TRow w P Q M seed n c pr) (hn : n = 2 ^ q) (hq : q ≤ 60) (k : H.Key) (k1 : k.1 < 256) :
    Calls Tryz.prog 147 #[.pointer (some ⟨P, 0, none⟩), .agg #[.int .u8 (k.1 : Int), .int .u64 (k.2 : Int)]] w fun e w' => e = .returned (.int .i64 (hmN seed n k : Nat)) ∧ Below w.heap.size w w' := by
  have hlt := a.lt
  have hb := mix_bounds (bits BinOp.xor .u64 (k.2 : Int) (mixI (IntKind.u64.wrap ((seed : Int) + (k.1 : Int)))))
  have hr := fun w0 (a : TRow w0 P Q M seed n c pr) => Lib.hid (t_round w0 P Q M seed n c pr q a hn hq _ hb.1 hb.2 (hmN seed n k) rfl)
  have a1 : TRow (w.alloc (.cells #[.int .u8 (k.1 : Int), .int .u64 (k.2 : Int)] 137)) P Q M seed n c pr := (Below.heap_alloc _ _ _ hlt).trans a
  have hc := a1.c1
  have hR := fun N => hr ((w.alloc (.cells #[.int .u8 (k.1 : Int), .int .u64 (k.2 : Int)] 137)).drewN N) a1
  have w1 : IntKind.u64.wrap (k.1 : Int) = (k.1 : Int) := u64_in _ (by omega) (by omega)
  clear hr a hb a1 hn
  generalize hmN seed n k = hh at *
  go_enter Tryz.func147, Tryz.ntmps147
  go_wp2
  go_quiet (first
    | (go_at_call 159; exact quiet_same (mix_any _ _))
    | (go_at_call 158; exact quiet_same (hR _).out))
  go_wp2
  go_ret
  exact ⟨rfl, below_drewN ((Below.refl _ w).alloc (Nat.le_refl _) _) _⟩
end Go.Proofs.YtialjokdaniofaaGreat.Hs
end
section
namespace Go.Proofs.YtialjokdaniofaaGreat.Hs
set_option maxRecDepth 4000
open Go.RowKit
/-- The cells of places. -/
def ev (ps : List H.En) : List Value := ps.flatMap fun e => [Value.int .u8 (e.l : Int), Value.int .u64 (e.p : Int), Value.int .u64 (e.v : Int), Value.bool e.t]
theorem ev_cons (x : H.En) (ps : List H.En) : ev (x :: ps) = Value.int .u8 (x.l : Int) :: Value.int .u64 (x.p : Int) :: Value.int .u64 (x.v : Int) :: Value.bool x.t :: ev ps := rfl
theorem ev_len (ps : List H.En) : (ev ps).length = ps.length * 4 := by
  induction ps with
  | nil => rfl
  | cons x ps ih => rw [ev_cons]; simp only [List.length_cons, ih]; omega
theorem ev_at : ∀ (ps : List H.En) (k : Nat) (h : k < ps.length), (ev ps)[k * 4]? = some (.int .u8 (ps[k].l : Int)) ∧ (ev ps)[k * 4 + 1]? = some (.int .u64 (ps[k].p : Int)) ∧ (ev ps)[k * 4 + 2]? = some (.int .u64 (ps[k].v : Int)) ∧ (ev ps)[k * 4 + 3]? = some (.bool ps[k].t)
  | x :: ps, 0, _ => ⟨rfl, rfl, rfl, rfl⟩
  | x :: ps, k + 1, h => by
    have ih := ev_at ps k (by simpa using h)
    have e : ∀ c, (ev (x :: ps))[(k + 1) * 4 + c]? = (ev ps)[k * 4 + c]? := by
      intro c
      have e1 : (k + 1) * 4 + c = (k * 4 + c) + 1 + 1 + 1 + 1 := by omega
      rw [e1, ev_cons]
      simp only [List.getElem?_cons_succ]
    exact ⟨(e 0).trans ih.1, (e 1).trans ih.2.1, (e 2).trans ih.2.2.1, (e 3).trans ih.2.2.2⟩
theorem ev_set : ∀ (ps : List H.En) (k : Nat) (e : H.En), k < ps.length → ((((ev ps).set (k * 4) (.int .u8 (e.l : Int))).set (k * 4 + 1) (.int .u64 (e.p : Int))).set (k * 4 + 2) (.int .u64 (e.v : Int))).set (k * 4 + 3) (.bool e.t) = ev (ps.set k e)
  | x :: ps, 0, e, _ => rfl
  | x :: ps, k + 1, e, h => by
    have ih := ev_set ps k e (by simpa using h)
    have e1 : (k + 1) * 4 = k * 4 + 1 + 1 + 1 + 1 := by omega
    have e2 : (k + 1) * 4 + 1 = (k * 4 + 1) + 1 + 1 + 1 + 1 := by omega
    have e3 : (k + 1) * 4 + 2 = (k * 4 + 2) + 1 + 1 + 1 + 1 := by omega
    have e4 : (k + 1) * 4 + 3 = (k * 4 + 3) + 1 + 1 + 1 + 1 := by omega
    rw [e2, e3, e4, e1, List.set_cons_succ, ev_cons, ev_cons]
    simp only [List.set_cons_succ]
    rw [ih]
theorem ev_val : ∀ (ps : List H.En) (k : Nat) (v : Nat) (h : k < ps.length), (ev ps).set (k * 4 + 2) (.int .u64 (v : Int)) = ev (ps.set k ⟨ps[k].l, ps[k].p, v, ps[k].t⟩)
  | x :: ps, 0, v, _ => rfl
  | x :: ps, k + 1, v, h => by
    have ih := ev_val ps k v (by simpa using h)
    have e3 : (k + 1) * 4 + 2 = (k * 4 + 2) + 1 + 1 + 1 + 1 := by omega
    rw [e3, ev_cons]
    simp only [List.set_cons_succ]
    rw [ih]
    rfl
/-- Block P is a table's struct, block Q its places. -/
structure Tb (w : World) (P Q M seed c pr : Nat) (ps : List H.En) : Prop where
  row : TRow w P Q M seed ps.length c pr
  pl : w.heap[Q]? = some (.cells (ev ps).toArray 169 (0, 0))
  pw : ∃ q, q ≤ 40 ∧ 3 ≤ q ∧ ps.length = 2 ^ q
  rng : ∀ e ∈ ps, e.l < 256 ∧ e.p < 18446744073709551616 ∧ e.v < 18446744073709551616
section
variable {w w' : World} {P Q M seed c pr : Nat} {ps : List H.En}
theorem Tb.cell (a : Tb w P Q M seed c pr ps) (k : Nat) (hk : k < ps.length) : w.cell? ⟨Q, k * 4, none⟩ = some (.int .u8 (ps[k].l : Int)) ∧ w.cell? ⟨Q, k * 4 + 1, none⟩ = some (.int .u64 (ps[k].p : Int)) ∧ w.cell? ⟨Q, k * 4 + 2, none⟩ = some (.int .u64 (ps[k].v : Int)) ∧ w.cell? ⟨Q, k * 4 + 3, none⟩ = some (.bool ps[k].t) := by
  have h := ev_at ps k hk
  have e : ∀ i, w.cell? ⟨Q, i, none⟩ = (ev ps)[i]? := fun i => by rw [cell_of_row w Q i _ _ (0, 0) a.pl]; simp
  exact ⟨(e _).trans h.1, (e _).trans h.2.1, (e _).trans h.2.2.1, (e _).trans h.2.2.2⟩
theorem Tb.qfr (a : Tb w P Q M seed c pr ps) (k : Nat) : w.frozen? ⟨Q, k, none⟩ = false := by
  have := a.pl
  simp [World.frozen?, this]
theorem Tb.qlt (a : Tb w P Q M seed c pr ps) : Q < w.heap.size := by
  rcases Nat.lt_or_ge Q w.heap.size with hlt | hge
  · exact hlt
  · have := a.pl; rw [Array.getElem?_eq_none hge] at this; cases this
theorem Tb.ne (a : Tb w P Q M seed c pr ps) : P ≠ Q := by
  rintro rfl
  have h1 := a.row
  unfold TRow at h1
  rw [a.pl] at h1
  injection h1 with h1
  injection h1 with _ ht
  exact absurd ht (by decide)
theorem Tb.len (a : Tb w P Q M seed c pr ps) : 8 ≤ ps.length ∧ ps.length ≤ 1099511627776 := by
  obtain ⟨q, h1, h2, h3⟩ := a.pw
  rw [h3]
  exact ⟨Nat.pow_le_pow_right (n := 2) (by decide) h2, Nat.pow_le_pow_right (n := 2) (by decide) h1⟩
theorem Tb.but {S : Nat → Prop} (a : Tb w P Q M seed c pr ps) (hb : ButS w w' S) (hP : ¬ S P) (hQ : ¬ S Q) : Tb w' P Q M seed c pr ps :=
  ⟨(hb.block P a.row.lt hP).trans a.row, (hb.block Q a.qlt hQ).trans a.pl, a.pw, a.rng⟩
theorem Tb.drewN (a : Tb w P Q M seed c pr ps) (N : Nat) : Tb (w.drewN N) P Q M seed c pr ps := ⟨a.row, a.pl, a.pw, a.rng⟩
theorem Tb.setp (a : Tb w P Q M seed c pr ps) (pr' : Nat) : Tb (w.setCell ⟨P, 4, none⟩ (.int .i64 (pr' : Int))) P Q M seed c pr' ps := by
  refine ⟨?_, ?_, a.pw, a.rng⟩
  · have := a.row
    unfold TRow at *
    have := set_heap this 4 (.int .i64 (pr' : Int))
    simpa using this
  · exact (Below.heap_setCell w ⟨P, 4, none⟩ _ Q (fun e => a.ne e.symm)).trans a.pl
end
/-- Block b is a key. -/
def KB (w : World) (b : Nat) (k : H.Key) : Prop := w.heap[b]? = some (.cells #[.int .u8 (k.1 : Int), .int .u64 (k.2 : Int)] 137 (0, 0))
theorem KB.c0 {w : World} {b : Nat} {k : H.Key} (h : KB w b k) : w.cell? ⟨b, 0, none⟩ = some (.int .u8 (k.1 : Int)) := cell_of_row w b 0 _ _ (0, 0) h
theorem KB.c1 {w : World} {b : Nat} {k : H.Key} (h : KB w b k) : w.cell? ⟨b, 1, none⟩ = some (.int .u64 (k.2 : Int)) := cell_of_row w b 1 _ _ (0, 0) h
theorem KB.lt {w : World} {b : Nat} {k : H.Key} (h : KB w b k) : b < w.heap.size := by
  rcases Nat.lt_or_ge b w.heap.size with hlt | hge
  · exact hlt
  · unfold KB at h; rw [Array.getElem?_eq_none hge] at h; cases h
theorem alloc_topI (w : World) (o : Obj) : (w.alloc o).heap[w.heap.size]? = some o := by
  show (w.heap.push o)[w.heap.size]? = some o
  simp
theorem Tb.cellg {w : World} {P Q M seed c pr : Nat} {ps : List H.En} (a : Tb w P Q M seed c pr ps) (k : Nat) (hk : k < ps.length) : w.cell? ⟨Q, k * 4, none⟩ = some (.int .u8 ((H.ge ps k).l : Int)) ∧ w.cell? ⟨Q, k * 4 + 1, none⟩ = some (.int .u64 ((H.ge ps k).p : Int)) ∧ w.cell? ⟨Q, k * 4 + 2, none⟩ = some (.int .u64 ((H.ge ps k).v : Int)) ∧ w.cell? ⟨Q, k * 4 + 3, none⟩ = some (.bool (H.ge ps k).t) := by
  rw [H.ge_get hk]; exact a.cell k hk
theorem Tb.rngg {w : World} {P Q M seed c pr : Nat} {ps : List H.En} (a : Tb w P Q M seed c pr ps) (k : Nat) (hk : k < ps.length) : (H.ge ps k).l < 256 ∧ (H.ge ps k).p < 18446744073709551616 ∧ (H.ge ps k).v < 18446744073709551616 := by
  rw [H.ge_get hk]; exact a.rng _ (List.getElem_mem hk)
theorem KB.but {w w' : World} {b : Nat} {k : H.Key} {S : Nat → Prop} (h : KB w b k) (hb : ButS w w' S) (hs : ¬ S b) : KB w' b k := (hb.block b h.lt hs).trans h
def FoundP (w : World) (P Q M seed c : Nat) (ps : List H.En) (k : H.Key) (e : Ending) (w' : World) : Prop :=
  ∃ i d : Nat, e = .returned (.tuple #[.int .i64 (i : Int), .bool (H.ge ps i).t]) ∧ Tb w' P Q M seed c (d + 1) ps ∧ H.Seek ps.length (hmN seed ps.length) ps k i d ∧ ((H.ge ps i).t = true → (H.ge ps i).k = k) ∧ ButS w w' (· = P)
set_option maxHeartbeats 1000000 in
theorem t_find (w : World) (P Q M seed c pr : Nat) (ps : List H.En) (a : Tb w P Q M seed c pr ps) (k : H.Key) (k1 : k.1 < 256)
    (hf : ∃ f, f < ps.length ∧ (H.ge ps f).t = false) :
    Calls Tryz.prog 129 #[.pointer (some ⟨P, 0, none⟩), .agg #[.int .u8 (k.1 : Int), .int .u64 (k.2 : Int)]] w (FoundP w P Q M seed c ps k) := by
  obtain ⟨q, hq, hq3, hn⟩ := a.pw
  have hl8 := a.len
  have hPb : P < w.heap.size := a.row.lt
  have b0 := but_alloc' w (.cells #[.int .u8 (k.1 : Int), .int .u64 (k.2 : Int)] 137) (fun _ => False)
  have a1 := a.but b0 (fun h => h) (fun h => h)
  have kb : KB (w.alloc (.cells #[.int .u8 (k.1 : Int), .int .u64 (k.2 : Int)] 137)) w.heap.size k := alloc_topI _ _
  have kc0 := kb.c0
  have kc1 := kb.c1
  have hh := Lib.hid (t_home _ P Q M seed ps.length c pr q a1.row hn (by omega) k k1)
  have HA := Lib.hid a1
  have HB := Lib.hid b0
  have HK := Lib.hid kb
  have HN := Lib.hid hn
  have HF := Lib.hid hf
  have hpos := hmN_lt seed ps.length k (by omega)
  clear a a1 b0 kb hn hf
  go_enter Tryz.func129, Tryz.ntmps129
  go_wp2_with (go_at_call 147; (with_reducible refine hh.out.mono ?_); rintro e w1 ⟨rfl, hb1⟩; have HB1 := Lib.hid (HB.out.trans (ButS.of_below hb1 (Nat.le_refl _))); have HA1 := Lib.hid (HA.out.but (ButS.of_below hb1 (Nat.le_refl _) (S := fun _ => False)) (fun h => h) (fun h => h)); have HK1 := Lib.hid (HK.out.but (ButS.of_below hb1 (Nat.le_refl _) (S := fun _ => False)) (fun h => h)); have fr1 := HA1.out.row.fr 4; have fc1 := HA1.out.row.c4; clear hb1)
  have HA2 := Lib.hid (HA1.out.setp 1)
  have HB2 := Lib.hid ((HB1.out.mono (T := (· = P)) (fun j _ h => h.elim)).trans (but_set' w1 P 4 (.int .i64 ((1 : Nat) : Int)) (· = P) rfl))
  have HK2 := Lib.hid (HK1.out.but (but_set' w1 P 4 (.int .i64 ((1 : Nat) : Int)) (· = P) rfl) (by omega))
  clear HA1 HB1 HK1 fr1 fc1 hh HA HB HK kc0 kc1
  go_loopw [6] (fun u wr => ∃ i d : Nat, u = .int .i64 (i : Int) ∧ Hid (Tb wr P Q M seed c (d + 1) ps) ∧ Hid (H.Seek ps.length (hmN seed ps.length) ps k i d) ∧ Hid (ButS w wr (· = P)) ∧ Hid (KB wr w.heap.size k))
    (fun u _ => ps.length - H.wy ps.length (hmN seed ps.length k) (intOf u).toNat)
  case atStart => exact ⟨hmN seed ps.length k, 0, rfl, HA2, Lib.hid (H.seek_start hpos), HB2, HK2⟩
  case round =>
    obtain ⟨i, d, rfl, HT, HS, HW, HQ⟩ := hrel
    clear HA2 HB2 HK2
    have hi := HS.out.scan.lt
    obtain ⟨x0, x1, x2, x3⟩ := HT.out.cellg i hi
    have p2 := HT.out.row.c2
    have y0 := HQ.out.c0
    have y1 := HQ.out.c1
    cases ht : (H.ge ps i).t with
    | false =>
      rw [ht] at x3
      clear x0 x1 x2
      have HTt := Lib.hid ht
      clear ht
      generalize hL : ps.length = n at *
      have HL := Lib.hid hL
      clear hL
      go_wp2
      go_quiet (fail)
      go_wp2
      go_quiet (fail)
      go_wp2
      go_ret2
      obtain rfl := HL.out
      exact ⟨i, d, by rw [HTt.out]; rfl, (HT.out.drewN _).drewN _, HS.out, fun h => absurd h (by simp [HTt.out]), (HW.out.drewN _).drewN _⟩
    | true =>
      rw [ht] at x3
      by_cases hk : (H.ge ps i).k = k
      · have hk1 : (H.ge ps i).l = k.1 := by rw [← hk]
        have hk2 : (H.ge ps i).p = k.2 := by rw [← hk]
        rw [hk1] at x0
        rw [hk2] at x1
        have HKE := Lib.hid hk
        have HTt := Lib.hid ht
        clear hk ht hk1 hk2
        generalize hL : ps.length = n at *
        have HL := Lib.hid hL
        clear hL
        go_wp2
        go_quiet (fail)
        go_wp2
        go_quiet (fail)
        go_wp2
        go_ret2
        obtain rfl := HL.out
        exact ⟨i, d, by rw [HTt.out]; rfl, (HT.out.drewN _).drewN _, HS.out, fun _ => HKE.out, (HW.out.drewN _).drewN _⟩
      · have HKE := Lib.hid hk
        have HTt := Lib.hid ht
        clear hk ht
        have hm1 := H.scan_more hpos HS.out.scan HTt.out HF.out
        have hwd := Lib.hid HS.out.scan.way
        have hbe := fun N => Lib.hid (t_behind (wr.drewN N) P Q M seed ps.length c (d + 1) q HT.out.row HN.out (by omega) i hi)
        have p4 := HT.out.row.c4
        have f4 := HT.out.row.fr 4
        have HS2 := Lib.hid (H.seek_step hpos HS.out HTt.out HKE.out hm1)
        have HT2 := fun N => Lib.hid ((HT.out.drewN N).setp (d + 1 + 1))
        have HW2 := fun N => Lib.hid ((HW.out.drewN N).trans (but_set' (wr.drewN N) P 4 (.int .i64 ((d + 1 + 1 : Nat) : Int)) (· = P) rfl))
        have HQ2 := fun N => Lib.hid (KB.but (w := wr.drewN N) HQ.out (but_set' (wr.drewN N) P 4 (.int .i64 ((d + 1 + 1 : Nat) : Int)) (· = P) rfl) (by omega))
        have hms := Lib.hid (show ps.length - H.wy ps.length (hmN seed ps.length k) (H.nx ps.length i) < ps.length - H.wy ps.length (hmN seed ps.length k) i by
          rw [HS2.out.scan.way, hwd.out]; omega)
        have hcmp : ((H.ge ps i).l ≠ k.1 ∨ ((H.ge ps i).l = k.1 ∧ (H.ge ps i).p ≠ k.2)) := by
          by_cases h1 : (H.ge ps i).l = k.1
          · right; refine ⟨h1, fun h2 => HKE.out ?_⟩
            exact Prod.ext h1 h2
          · exact .inl h1
        have wd1 : IntKind.i64.wrap (((d + 1 : Nat) : Int) + 1) = ((d + 1 + 1 : Nat) : Int) := by rw [IntWalk.i64_in _ (by omega)]; omega
        generalize (H.ge ps i).l = l at *
        generalize (H.ge ps i).p = p at *
        generalize hL : ps.length = n at *
        have HL := Lib.hid hL
        clear hL
        rcases hcmp with hcmp | ⟨hcmp1, hcmp⟩
        · have e1 : ((l : Int) == (k.1 : Int)) = false := by simp; omega
          clear hcmp
          go_wp2
          go_quiet (fail)
          go_wp2_with (go_at_call 148; (with_reducible refine (hbe _).out.mono ?_); rintro e w' ⟨rfl, rfl⟩)
          go_roundw
          case rel => exact ⟨H.nx n i, d + 1, rfl, HT2 _, HS2, HW2 _, HQ2 _⟩
          case measure => exact hms.out
        · subst hcmp1
          have e1 : ((p : Int) == (k.2 : Int)) = false := by simp; omega
          clear hcmp
          go_wp2
          go_quiet (fail)
          go_wp2_with (go_at_call 148; (with_reducible refine (hbe _).out.mono ?_); rintro e w' ⟨rfl, rfl⟩)
          go_roundw
          case rel => exact ⟨H.nx n i, d + 1, rfl, HT2 _, HS2, HW2 _, HQ2 _⟩
          case measure => exact hms.out
end Go.Proofs.YtialjokdaniofaaGreat.Hs
end
section
namespace Go.Proofs.YtialjokdaniofaaGreat.Hs
set_option maxRecDepth 4000
open Go.RowKit
theorem Tb.below {w w' : World} {P Q M seed c pr B : Nat} {ps : List H.En} (a : Tb w P Q M seed c pr ps) (hb : Below B w w') (h : w.heap.size ≤ B) : Tb w' P Q M seed c pr ps :=
  a.but (ButS.of_below hb h (S := fun _ => False)) (fun h => h) (fun h => h)
def FreeP (w : World) (n seed : Nat) (ps : List H.En) (k : H.Key) (e : Ending) (w' : World) : Prop :=
  ∃ i d : Nat, e = .returned (.int .i64 (i : Int)) ∧ H.Scan n (hmN seed n k) ps i d ∧ (H.ge ps i).t = false ∧ Below w.heap.size w w'
set_option maxHeartbeats 1000000 in
theorem t_free (w : World) (P Q M seed c pr : Nat) (ps : List H.En) (a : Tb w P Q M seed c pr ps) (k : H.Key) (k1 : k.1 < 256)
    (hf : ∃ f, f < ps.length ∧ (H.ge ps f).t = false) :
    Calls Tryz.prog 131 #[.pointer (some ⟨P, 0, none⟩), .agg #[.int .u8 (k.1 : Int), .int .u64 (k.2 : Int)]] w (FreeP w ps.length seed ps k) := by
  obtain ⟨q, hq, hq3, hn⟩ := a.pw
  have hl8 := a.len
  have b0 : Below w.heap.size w (w.alloc (.cells #[.int .u8 (k.1 : Int), .int .u64 (k.2 : Int)] 137)) := (Below.refl _ w).alloc (Nat.le_refl _) _
  have a1 := a.below b0 (Nat.le_refl _)
  have kb : KB (w.alloc (.cells #[.int .u8 (k.1 : Int), .int .u64 (k.2 : Int)] 137)) w.heap.size k := alloc_topI _ _
  have kc0 := kb.c0
  have kc1 := kb.c1
  have hh := Lib.hid (t_home _ P Q M seed ps.length c pr q a1.row hn (by omega) k k1)
  have HA := Lib.hid a1
  have HB := Lib.hid b0
  have HN := Lib.hid hn
  have HF := Lib.hid hf
  have hpos := hmN_lt seed ps.length k (by omega)
  clear a a1 b0 kb hn hf
  go_enter Tryz.func131, Tryz.ntmps131
  go_wp2_with (go_at_call 147; (with_reducible refine hh.out.mono ?_); rintro e w1 ⟨rfl, hb1⟩; have HB1 := Lib.hid (HB.out.trans (hb1.mono (by have := HB.out.size; omega))); have HA1 := Lib.hid (HA.out.below hb1 (Nat.le_refl _)); clear hb1)
  clear hh HA HB kc0 kc1
  go_loop [5] (fun u => ∃ i d : Nat, u = .int .i64 (i : Int) ∧ Hid (H.Scan ps.length (hmN seed ps.length k) ps i d))
    (fun u => ps.length - H.wy ps.length (hmN seed ps.length k) (intOf u).toNat)
  case atStart => exact ⟨hmN seed ps.length k, 0, rfl, Lib.hid (H.scan_start hpos)⟩
  case round =>
    obtain ⟨i, d, rfl, HS⟩ := hrel
    have hi := HS.out.lt
    obtain ⟨x0, x1, x2, x3⟩ := HA1.out.cellg i hi
    have p2 := HA1.out.row.c2
    clear x0 x1 x2
    cases ht : (H.ge ps i).t with
    | false =>
      rw [ht] at x3
      have HTt := Lib.hid ht
      clear ht
      generalize ps.length = n at *
      go_wp2
      go_ret
      exact ⟨i, d, rfl, HS.out, HTt.out, HB1.out⟩
    | true =>
      rw [ht] at x3
      have hm1 := H.scan_more hpos HS.out ht HF.out
      have hbe := Lib.hid (t_behind w1 P Q M seed ps.length c pr q HA1.out.row HN.out (by omega) i hi)
      have HS2 := Lib.hid (H.scan_step hpos HS.out ht hm1)
      have hms := Lib.hid (show ps.length - H.wy ps.length (hmN seed ps.length k) (H.nx ps.length i) < ps.length - H.wy ps.length (hmN seed ps.length k) i by
        rw [HS2.out.way, HS.out.way]; omega)
      clear ht
      generalize ps.length = n at *
      go_wp2_with (go_at_call 148; (with_reducible refine hbe.out.mono ?_); rintro e w' ⟨rfl, rfl⟩)
      go_round
      case rel => exact ⟨H.nx n i, d + 1, rfl, HS2⟩
      case measure => exact hms.out
end Go.Proofs.YtialjokdaniofaaGreat.Hs
end
