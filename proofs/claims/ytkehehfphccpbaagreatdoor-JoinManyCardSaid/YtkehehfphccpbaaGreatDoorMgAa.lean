/- append to a row of one's own, whatever is handed on, and where the row lies then. slices.Concat at lists of 16-bit numbers: a row of one's own that holds them all; the text walked. slices.Compact at 16-bit numbers: laid over the library's contract. -/
import Derived.OwnWalk
import Derived.Laws.OwnMore
import Derived.Below
import Derived.Maps.AppendAt
import Derived.Deep.AppendLies
import Derived.RegionTactic
import Derived.WalkKit
import Derived.BigQuiet
import Derived.Deep.QuietTactic
import Derived.Lib.AppendZeros
import Derived.Shelf.SlGeneric
import Derived.Shelf.SlicesE.Compact
import Derived.Test.YtkehehfphccpbaaGreatDoorProg
import Derived.Test.YtkehehfphccpbaaGreatDoorMgBu
section
namespace Go.Proofs.YtkehehfphccpbaaGreatDoor.A
open Go.RowKit
theorem block_of_add (a : Addr) (n : Nat) : (a.add n).block = a.block := by unfold Addr.add; split <;> rfl
theorem add_of_add (a : Addr) (i j : Nat) : (a.add i).add j = a.add (i + j) := by
  unfold Addr.add
  by_cases hi : i = 0 <;> by_cases hj : j = 0 <;> simp [hi, hj, Nat.add_assoc]

def Reads (w : World) (B size : Nat) (A : Option Addr) (n : Nat) (xs : List Value) : Prop :=
  xs.length = n * size ∧ (0 < n → ∃ ad, A = some ad ∧ ad.block < B ∧ ∀ j u, xs[j]? = some u → w.cell? (ad.add j) = some u)

section
variable {w w' : World} {B B' size n : Nat} {A : Option Addr} {xs : List Value}
theorem Reads.none_ : Reads w B size A 0 [] := ⟨by simp, fun h => absurd h (by omega)⟩
theorem Reads.at_ {k : Nat} (h : Reads w B 1 A n xs) (hk : k < n) : ∃ ad u, A = some ad ∧ ad.block < B ∧ xs[k]? = some u ∧ w.cell? (ad.add k) = some u := by
  obtain ⟨ad, e, hb, hc⟩ := h.2 (by omega)
  have hl : k < xs.length := by have := h.1; omega
  exact ⟨ad, xs[k], e, hb, List.getElem?_eq_getElem hl, hc k _ (List.getElem?_eq_getElem hl)⟩
theorem Reads.keep (h : Reads w B size A n xs) (hk : ∀ p : Addr, p.block < B → w'.cell? p = w.cell? p) : Reads w' B size A n xs :=
  ⟨h.1, fun hn => by
    obtain ⟨ad, e, hb, hc⟩ := h.2 hn
    exact ⟨ad, e, hb, fun j u hu => (hk _ (by rw [block_of_add]; exact hb)).trans (hc j u hu)⟩⟩
theorem Reads.more (h : Reads w B size A n xs) (hB : B ≤ B') : Reads w B' size A n xs :=
  ⟨h.1, fun hn => by
    obtain ⟨ad, e, hb, hc⟩ := h.2 hn
    exact ⟨ad, e, by omega, hc⟩⟩
theorem Reads.below (h : Reads w B size A n xs) (hb : Below B w w') : Reads w' B size A n xs := h.keep fun _ hp => hb.cell hp
theorem Reads.drew (h : Reads w B size A n xs) : Reads w.drew B size A n xs := h
theorem Reads.drewN (h : Reads w B size A n xs) (k : Nat) : Reads (w.drewN k) B size A n xs := h
theorem Reads.alloc (h : Reads w B size A n xs) (hB : B ≤ w.heap.size) (o : Obj) : Reads (w.alloc o) B size A n xs := h.keep fun p hp => World.cell?_alloc_lt w o p (by omega)
theorem Reads.setCell (h : Reads w B size A n xs) {p : Addr} (hB : B ≤ p.block) (u : Value) : Reads (w.setCell p u) B size A n xs :=
  h.keep fun q hq => World.cell?_setCell_other w p q u (fun e => by subst e; omega)
theorem Reads.grown (h : Reads w B size A n xs) {row : Option Nat} (hg : w.grownBy w' row) (hB : B ≤ w.heap.size) (hr : ∀ g, row = some g → B ≤ g) : Reads w' B size A n xs :=
  h.keep fun p hp => World.cell?_of_block (hg.block p.block (by omega) (fun e => by have := hr _ e.symm; omega))
theorem Reads.cut (h : Reads w B size A n xs) {k cap : Nat} (hk : k ≤ n) (hc : n ≤ cap) :
    Reads w B size (if cap = k then A else A.map (·.add (k * size))) (n - k) (xs.drop (k * size)) := by
  refine ⟨by rw [List.length_drop, h.1, Nat.sub_mul], fun hn => ?_⟩
  obtain ⟨ad, rfl, hb, hcell⟩ := h.2 (by omega)
  rw [if_neg (by omega)]
  refine ⟨ad.add (k * size), rfl, by rw [block_of_add]; exact hb, fun j u hu => ?_⟩
  rw [add_of_add]
  exact hcell _ u (by rw [← hu, List.getElem?_drop])
theorem Reads.of_own {base : Nat} {e : TypeId} {c : Nat} (h : w.ownsRow base e size (.slice A n c) n xs) : Reads w w.heap.size size A n xs := by
  refine ⟨h.1, fun hn => ?_⟩
  obtain ⟨g, cap, hv, _, hlt⟩ := h.form hn
  have hA : A = some ⟨g, 0, none⟩ := by injection hv
  subst hA
  exact ⟨_, rfl, hlt, h.cells (g := g) rfl⟩
end
section
variable {P : Program} (w : World)

theorem run_append_of_nil (base : Nat) (t ty e : TypeId) (i : TypeInfo) (size : Nat) (ht : P.underlying t = some (.slice e)) (hi : P.info? e = some i)
    (v : Value) (n : Nat) (xs : List Value) (hown : w.ownsRow base e size v n xs) (c : Nat) : (Builtin.append_ #[t, t] ty #[v, .slice none 0 c]).run P w = .ok v w := by
  rcases hown.2 with ⟨rfl, rfl⟩ | ⟨g, cap, cur, rfl, _, _, hnc, _⟩
  · simp [Builtin.append_, run_underlying ht, sizeOf, typeInfo, hi, Builtin.lenOf, Builtin.firstCells]
  · simp [Builtin.append_, run_underlying ht, sizeOf, typeInfo, hi, Builtin.lenOf, Builtin.firstCells, hnc, storeCells]

theorem run_append_any (base : Nat) (t ty e : TypeId) (i : TypeInfo) (z : Value) (size bytes : Nat) (ht : P.underlying t = some (.slice e)) (hi : P.info? e = some i) (hz : i.zero = some z)
    (hsize : i.size = size) (hby : i.bytes = bytes) (hzs : z.cells.size = size) (hsz : 0 < size)
    (v : Value) (n : Nat) (xs : List Value) (hown : w.ownsRow base e size v n xs)
    (B : Nat) (A : Option Addr) (m c : Nat) (news : List Value) (hr : Reads w B size A m news) (h1 : ∀ u ∈ news, u.oneCell' = true)
    (h63 : n + m ≤ maxLen) (hbytes : (n + m) * bytes ≤ 140737488355328) (hbase : base ≤ w.heap.size) :
    ∃ v' w', (Builtin.append_ #[t, t] ty #[v, .slice A m c]).run P w = .ok v' w' ∧ w'.ownsRow base e size v' (n + m) (xs ++ news) ∧ w.grownBy w' v.ownBlock ∧
      (v'.ownBlock = v.ownBlock ∨ v'.ownBlock = some w.heap.size) := by
  rcases A with _ | ad
  · have hm : m = 0 := by
      rcases Nat.eq_zero_or_pos m with h0 | h0
      · exact h0
      · obtain ⟨ad, h, _⟩ := hr.2 h0
        cases h
    subst hm
    have hn : news = [] := List.eq_nil_of_length_eq_zero (by simpa using hr.1)
    subst hn
    exact ⟨v, w, run_append_of_nil w base t ty e i size ht hi v n xs hown c, by simpa using hown, World.grownBy.refl w _, .inl rfl⟩
  · have hcells : ∀ j u, news[j]? = some u → w.cell? (ad.add j) = some u := by
      intro j u hu
      rcases Nat.eq_zero_or_pos m with h0 | h0
      · subst h0
        have hn : news = [] := List.eq_nil_of_length_eq_zero (by simpa using hr.1)
        subst hn
        simp at hu
      · obtain ⟨ad', h, _, hc⟩ := hr.2 h0
        injection h with h
        subst h
        exact hc j u hu
    obtain ⟨v', w', hrun, h2, h3, _, h5⟩ := run_append_own_at (P := P) w base t ty e i z size bytes ht hi hz hsize hby hzs hsz v n xs hown ad m c news hr.1 hcells h1 h63 hbytes hbase
    exact ⟨v', w', hrun, h2, h3, h5⟩

theorem wp_append_any {o : Oper} {a : Act} {K : Act → World → Prop} {Q : Exit → Act → World → Prop} (s x : Operand) (t : TypeId)
    (ho : o.op = .call { callee := .builtin .append, args := #[s, x], argTypes := #[t, t] })
    (base : Nat) (e : TypeId) (i : TypeInfo) (z : Value) (size bytes : Nat) (ht : P.underlying t = some (.slice e)) (hi : P.info? e = some i) (hz : i.zero = some z)
    (hsize : i.size = size) (hby : i.bytes = bytes) (hzs : z.cells.size = size) (hsz : 0 < size)
    (v : Value) (n : Nat) (xs : List Value) (hs : a.eval s = v) (hown : w.ownsRow base e size v n xs)
    (B : Nat) (A : Option Addr) (m c : Nat) (news : List Value) (hx : a.eval x = .slice A m c) (hr : Reads w B size A m news) (h1 : ∀ u ∈ news, u.oneCell' = true)
    (h63 : n + m ≤ maxLen) (hbytes : (n + m) * bytes ≤ 140737488355328) (hbase : base ≤ w.heap.size)
    (h : ∀ v' w', w'.ownsRow base e size v' (n + m) (xs ++ news) → w.grownBy w' v.ownBlock → (v'.ownBlock = v.ownBlock ∨ v'.ownBlock = some w.heap.size) → K (a.put o.dst v') w') : o.wp P a w K Q := by
  obtain ⟨v', w', hrun, h2, h3, h4⟩ := run_append_any (P := P) w base t o.type e i z size bytes ht hi hz hsize hby hzs hsz v n xs hown B A m c news hr h1 h63 hbytes hbase
  unfold Oper.wp execOp
  simp only [ho, resolve, invoke, builtin, Sem.run_bind, Sem.run_pure, Result.andThen_ok, List.map_toArray, List.map_cons, List.map_nil, hs, hx, hrun]
  exact h v' w' h2 h3 h4

theorem wpList_append_any {ops : Array Oper} {rest : List Oper} {o : Oper} {a : Act} {Q : Exit → Act → World → Prop} (hgd : o.guard = none) (s x : Operand) (t : TypeId)
    (ho : o.op = .call { callee := .builtin .append, args := #[s, x], argTypes := #[t, t] })
    (base : Nat) (e : TypeId) (i : TypeInfo) (z : Value) (size bytes : Nat) (ht : P.underlying t = some (.slice e)) (hi : P.info? e = some i) (hz : i.zero = some z)
    (hsize : i.size = size) (hby : i.bytes = bytes) (hzs : z.cells.size = size) (hsz : 0 < size)
    (v : Value) (n : Nat) (xs : List Value) (hs : a.eval s = v) (hown : w.ownsRow base e size v n xs)
    (B : Nat) (A : Option Addr) (m c : Nat) (news : List Value) (hx : a.eval x = .slice A m c) (hr : Reads w B size A m news) (h1 : ∀ u ∈ news, u.oneCell' = true)
    (h63 : n + m ≤ maxLen) (hbytes : (n + m) * bytes ≤ 140737488355328) (hbase : base ≤ w.heap.size)
    (h : ∀ v' w', w'.ownsRow base e size v' (n + m) (xs ++ news) → w.grownBy w' v.ownBlock → (v'.ownBlock = v.ownBlock ∨ v'.ownBlock = some w.heap.size) → wpList P ops Q rest (a.put o.dst v') w') : wpList P ops Q (o :: rest) a w :=
  wpList_plain hgd fun _ hK => wp_append_any w s x t ho base e i z size bytes ht hi hz hsize hby hzs hsz v n xs hs hown B A m c news hx hr h1 h63 hbytes hbase fun v' w' h2 h3 h4 => hK _ _ (h v' w' h2 h3 h4)

theorem step_append_any {ops : Array Oper} {o : Oper} {a : Act} {K : Act → World → Prop} {Q : Exit → Act → World → Prop} {E : Prop} (hgd : o.guard = none) (s x : Operand) (t : TypeId)
    (ho : o.op = .call { callee := .builtin .append, args := #[s, x], argTypes := #[t, t] })
    (base : Nat) (e : TypeId) (i : TypeInfo) (z : Value) (size bytes : Nat) (ht : P.underlying t = some (.slice e)) (hi : P.info? e = some i) (hz : i.zero = some z)
    (hsize : i.size = size) (hby : i.bytes = bytes) (hzs : z.cells.size = size) (hsz : 0 < size)
    (v : Value) (n : Nat) (xs : List Value) (hs : a.eval s = v) (hown : w.ownsRow base e size v n xs)
    (B : Nat) (A : Option Addr) (m c : Nat) (news : List Value) (hx : a.eval x = .slice A m c) (hr : Reads w B size A m news) (h1 : ∀ u ∈ news, u.oneCell' = true)
    (h63 : n + m ≤ maxLen) (hbytes : (n + m) * bytes ≤ 140737488355328) (hbase : base ≤ w.heap.size)
    (h : ∀ v' w', w'.ownsRow base e size v' (n + m) (xs ++ news) → w.grownBy w' v.ownBlock → (v'.ownBlock = v.ownBlock ∨ v'.ownBlock = some w.heap.size) → K (a.put o.dst v') w') :
    if Region.wanted o (yielded ops a.tmps) = true then Oper.wp P o a w K Q else E := by
  have hw : Region.wanted o (yielded ops a.tmps) = true := by simp [Region.wanted, hgd]
  rw [if_pos hw]
  exact wp_append_any w s x t ho base e i z size bytes ht hi hz hsize hby hzs hsz v n xs hs hown B A m c news hx hr h1 h63 hbytes hbase h
end
end Go.Proofs.YtkehehfphccpbaaGreatDoor.A
end
section
namespace Go.Proofs.YtkehehfphccpbaaGreatDoor.A
set_option maxRecDepth 40000
open Go.RowKit
abbrev Part := Option Addr × Nat × List Int
def cat (L : List Part) : List Int := L.flatMap (·.2.2)
/-- The row of slices at gp, from off on, reads as the parts L. -/
def Parts (w : World) (B gp off : Nat) (L : List Part) : Prop := ∀ k (h : k < L.length), w.cell? ⟨gp, off + k, none⟩ = some (.slice L[k].1 L[k].2.2.length L[k].2.1) ∧ Rh w B L[k].1 L[k].2.2
theorem cat_snoc {L : List Part} {k : Nat} (h : k < L.length) : cat (L.take (k + 1)) = cat (L.take k) ++ L[k].2.2 := by
  unfold cat; rw [List.take_succ_eq_append_getElem h, List.flatMap_append]; simp
theorem cat_le {L : List Part} {k : Nat} : (cat (L.take k)).length ≤ (cat L).length := by
  conv => rhs; rw [← List.take_append_drop k L]
  unfold cat; rw [List.flatMap_append, List.length_append]; omega
theorem Rh.reads {w : World} {B : Nat} {A : Option Addr} {xs : List Int} (h : Rh w B A xs) : Reads w B 1 A xs.length (hv xs) := by
  refine ⟨by simp, fun hn => ?_⟩
  obtain ⟨b, off, rfl, hb, hc⟩ := h (by intro e; subst e; simp at hn)
  refine ⟨_, rfl, hb, fun j u hu => ?_⟩
  have hj : j < xs.length := by
    rcases Nat.lt_or_ge j xs.length with h1 | h1
    · exact h1
    · rw [List.getElem?_eq_none (by simpa using h1)] at hu; cases hu
  have e : (⟨b, off, none⟩ : Addr).add j = ⟨b, off + j, none⟩ := by
    unfold Addr.add
    by_cases h0 : j = 0 <;> simp [h0]
  rw [e, hc j hj]
  simpa [hj] using hu
theorem hv_one (xs : List Int) : ∀ u ∈ hv xs, u.oneCell' = true := by
  intro u hu
  rw [hv, List.mem_map] at hu
  obtain ⟨x, _, rfl⟩ := hu
  rfl
theorem size_zero1 (k : IntKind) (n : Nat) : (Builtin.zeroCells #[Value.int k 0] n).size = n := by simp [Builtin.zeroCells]
set_option maxHeartbeats 4000000 in
theorem grow_nil (w : World) (n : Nat) (hn : n ≤ 1099511627776) : Calls Tryz.prog 91 #[.slice none 0 0, .int .i64 n] w fun e w' =>
    ∃ v, e = .returned v ∧ w'.ownsRow w.heap.size 35 1 v 0 [] ∧ Below w.heap.size w w' := by
  obtain ⟨ti, hi, hz0, hz1, hz2⟩ : ∃ ti, Tryz.prog.info? 35 = some ti ∧ ti.zero = some (.int .u16 0) ∧ ti.size = 1 ∧ ti.bytes = 2 := ⟨_, rfl, rfl, rfl, rfl⟩
  rcases Nat.eq_zero_or_pos n with h0 | h0
  · subst h0
    go_enter Tryz.func91, Tryz.ntmps91
    go_wp2
    go_ret
    exact ⟨_, rfl, ⟨rfl, .inl ⟨rfl, rfl⟩⟩, Below.refl _ _⟩
  · have hr := Lib.run_append_nil_zeros (P := Tryz.prog) w 37 3 37 35 ti (.int .u16 0) .i64 .i64 Tryz.underlying37 Tryz.underlying3 hi hz0 n h0 (by omega) (by omega) (by rw [hz2]; omega)
    have HR := Lib.hid hr
    have hi' := Lib.hid hi
    clear hr hi hz0 hz1 hz2
    go_enter Tryz.func91, Tryz.ntmps91
    go_wp2_with (at_builtin; refine Lib.wpList_append_run _ rfl _ _ _ _ rfl _ _ rfl rfl _ _ HR.out ?_)
    go_ret
    have hge := grownCap_ge w n 0 35
    have hle := grownCap_le_maxLen w n 0 35 (by unfold maxLen; omega)
    refine ⟨_, rfl, ⟨rfl, .inr ⟨w.heap.size, grownCap w n 0 35, Builtin.zeroCells #[Value.int IntKind.u16 0] n ++ Builtin.zeroCells #[Value.int IntKind.u16 0] (grownCap w n 0 35 - n), rfl, Nat.le_refl _, ?_, Nat.zero_le _, hle, ?_, by simp⟩⟩, ?_⟩
    · exact heap_alloc_new w _
    · rw [Array.size_append, size_zero1, size_zero1]; omega
    · have hb := (Below.refl w.heap.size w).alloc (Nat.le_refl _) (Obj.cells (Builtin.zeroCells #[Value.int IntKind.u16 0] n ++ Builtin.zeroCells #[Value.int IntKind.u16 0] (grownCap w n 0 35 - n)) 35)
      exact ⟨hb.os, hb.tape, hb.output, hb.size, hb.block⟩
set_option maxHeartbeats 8000000 in
set_option maxRecDepth 100000 in
theorem concat_any (w : World) (B gp off cap : Nat) (L : List Part) (h : Parts w B gp off L) (hB : B ≤ w.heap.size) (hg : gp < w.heap.size) (hn : (cat L).length ≤ 1099511627776) (hL : L.length ≤ 1099511627776) :
    Calls Tryz.prog 75 #[.slice (some ⟨gp, off, none⟩) L.length cap] w fun e w' =>
      ∃ v, e = .returned v ∧ w'.ownsRow w.heap.size 35 1 v (cat L).length (hv (cat L)) ∧ Below w.heap.size w w' := by
  have H := Lib.hid h
  obtain ⟨m, hm⟩ : ∃ m, m = L.length := ⟨_, rfl⟩
  obtain ⟨ti, hi, hz0, hz1, hz2⟩ : ∃ ti, Tryz.prog.info? 35 = some ti ∧ ti.zero = some (.int .u16 0) ∧ ti.size = 1 ∧ ti.bytes = 2 := ⟨_, rfl, rfl, rfl, rfl⟩
  have HM := Lib.hid hm
  have HI := Lib.hid hi
  have HZ0 := Lib.hid hz0
  have HZ1 := Lib.hid hz1
  have HZ2 := Lib.hid hz2
  have hmn : m ≤ 1099511627776 := by omega
  rw [← hm]
  clear hi hz0 hz1 hz2 h
  have HLm := Lib.hid hL
  have HN := Lib.hid hn
  clear hm hL hn
  go_enter Tryz.func75, Tryz.ntmps75
  go_wp2
  go_loop [3, 11] (fun vs vi => ∃ k s : Nat, vi = .int .i64 k ∧ vs = .int .i64 s ∧ k ≤ m ∧ Hid (s = (cat (L.take k)).length)) (fun _ vi => m - (intOf vi).toNat)
  case atStart => exact ⟨0, 0, rfl, rfl, Nat.zero_le _, Lib.hid rfl⟩
  case round =>
    obtain ⟨k, s, rfl, rfl, hk, hs⟩ := hrel
    by_cases hlt : k < m
    · have hkL : k < L.length := by rw [← HM.out]; exact hlt
      obtain ⟨q, hq⟩ : ∃ q : Nat, q = (L[k]).2.2.length := ⟨_, rfl⟩
      obtain ⟨A, hA⟩ : ∃ A, A = (L[k]).1 := ⟨_, rfl⟩
      obtain ⟨c, hc⟩ : ∃ c, c = (L[k]).2.1 := ⟨_, rfl⟩
      have hcell : w.cell? ⟨gp, off + k, none⟩ = some (.slice A q c) := by rw [hq, hA, hc]; exact (H.out k hkL).1
      have hsum : Hid (s + q = (cat (L.take (k + 1))).length) := Lib.hid (by rw [hs.out, cat_snoc hkL, List.length_append, hq])
      have hb : s + q ≤ 1099511627776 := by rw [hsum.out]; exact Nat.le_trans cat_le HN.out
      clear hq hA hc
      go_wp2
      go_round
      case rel => exact ⟨k + 1, s + q, by go_num, by go_num, by omega, hsum⟩
      case measure => simp [intOf]; omega
    · have hsn : s ≤ 1099511627776 := by rw [hs.out]; exact Nat.le_trans cat_le HN.out
      go_wp2_with (go_at_call 91; (with_reducible refine (grow_nil w s hsn).mono ?_); rintro e w1 ⟨v, rfl, h1, h2⟩; replace h1 := Lib.hid h1; replace h2 := Lib.hid h2)
      go_loopw [6, 27] (fun vn vi wr => ∃ (k : Nat), vi = .int .i64 k ∧ k ≤ m ∧ Hid (wr.ownsRow w.heap.size 35 1 vn (cat (L.take k)).length (hv (cat (L.take k)))) ∧ Hid (Below w.heap.size w wr)) (fun _ vi _ => m - (intOf vi).toNat)
      case atStart => exact ⟨0, rfl, Nat.zero_le _, h1, h2⟩
      case round =>
        obtain ⟨j, rfl, hj, ho, hbl⟩ := hrel
        obtain ⟨vn, hvn⟩ : ∃ vn, vn = u6 := ⟨_, rfl⟩
        subst hvn
        by_cases hlt : j < m
        · have hjL : j < L.length := by rw [← HM.out]; exact hlt
          obtain ⟨xs, hxs⟩ : ∃ xs, xs = (L[j]).2.2 := ⟨_, rfl⟩
          obtain ⟨q, hq⟩ : ∃ q : Nat, q = xs.length := ⟨_, rfl⟩
          obtain ⟨A, hA⟩ : ∃ A, A = (L[j]).1 := ⟨_, rfl⟩
          obtain ⟨c, hc⟩ : ∃ c, c = (L[j]).2.1 := ⟨_, rfl⟩
          have hcell : wr.cell? ⟨gp, off + j, none⟩ = some (.slice A q c) := by
            rw [hbl.out.cell (p := ⟨gp, off + j, none⟩) hg, hq, hxs, hA, hc]; exact (H.out j hjL).1
          have hrd : Hid (Reads wr B 1 A q (hv xs)) := Lib.hid (by
            have := Rh.reads ((H.out j hjL).2.below hbl.out hB)
            rw [← hxs, ← hA, ← hq] at this; exact this)
          have hcat : Hid (cat (L.take (j + 1)) = cat (L.take j) ++ xs) := Lib.hid (by rw [cat_snoc hjL, hxs])
          obtain ⟨s1, hs1⟩ : ∃ s1, s1 = (cat (L.take j)).length := ⟨_, rfl⟩
          have hb : s1 + q ≤ 1099511627776 := by
            have e : (cat (L.take (j + 1))).length = s1 + q := by rw [hcat.out, List.length_append, hs1, hq]
            rw [← e]; exact Nat.le_trans cat_le HN.out
          have ho' : Hid (wr.ownsRow w.heap.size 35 1 vn s1 (hv (cat (L.take j)))) := Lib.hid (by rw [hs1]; exact ho.out)
          have HQ : Hid (s1 + q = (cat (L.take (j + 1))).length ∧ hv (cat (L.take j)) ++ hv xs = hv (cat (L.take (j + 1)))) := Lib.hid ⟨by rw [hcat.out, List.length_append, hs1, hq], by rw [hcat.out]; simp⟩
          have hws : w.heap.size ≤ wr.heap.size := hbl.out.size
          clear hxs hq hA hc hs1
          go_wp2_with (at_builtin; refine wpList_append_any _ rfl (.tmp 31) (.tmp 32) 37 rfl w.heap.size 35 ti (.int .u16 0) 1 2 Tryz.underlying37 HI.out HZ0.out HZ1.out HZ2.out rfl (by decide) vn s1 (hv (cat (L.take j))) rfl ho'.out B A q c (hv xs) rfl hrd.out (hv_one xs) (by unfold maxLen; omega) (by omega) hws ?_; intro v' w' g1 g2 g3; replace g1 := Lib.hid g1; replace g2 := Lib.hid g2; replace g3 := Lib.hid g3)
          go_roundw
          case rel => exact ⟨j + 1, by go_num, by omega, Lib.hid (by rw [← HQ.out.1, ← HQ.out.2]; exact g1.out), Lib.hid (hbl.out.grown g2.out hws (fun g hg => (ho'.out.lt g hg).1))⟩
          case measure => simp [intOf]; omega
        · have hjm : j = m := by omega
          have hfin : Hid (cat (L.take j) = cat L) := Lib.hid (by rw [hjm, HM.out, List.take_length])
          clear hjm
          go_wp2
          go_ret
          refine ⟨_, rfl, ?_, hbl.out⟩
          have := ho.out
          rw [hfin.out] at this
          exact this
end Go.Proofs.YtkehehfphccpbaaGreatDoor.A
end
section
namespace Go.Proofs
open Go.Shelf
def Tryz.compH_ren : Go.Shelf.Ren := ⟨fun | 43 => 77 | n => n, fun | 22 => 37 | 23 => 35 | 3 => 3 | 4 => 4 | 0 => 0 | n => n, fun | n => n⟩
theorem Tryz.compH : Go.Proofs.SlLaysE.n43 Tryz.prog Tryz.compH_ren := {
  mixed := by kernel_rfl
  f43 := ⟨Tryz.f77.name, by decide, Tryz.func77.trans (congrArg some (by kernel_rfl))⟩
  t0 := Tryz.underlying0
  a0 := Tryz.isAgg0
  z0 := Tryz.sizeOf0
  v0 := Tryz.zeroValue0
  t3 := Tryz.underlying3
  a3 := Tryz.isAgg3
  z3 := Tryz.sizeOf3
  v3 := Tryz.zeroValue3
  t4 := Tryz.underlying4
  a4 := Tryz.isAgg4
  z4 := Tryz.sizeOf4
  v4 := Tryz.zeroValue4
  t22 := Tryz.underlying37
  a22 := Tryz.isAgg37
  z22 := Tryz.sizeOf37
  v22 := Tryz.zeroValue37
  a23 := Tryz.isAgg35
  z23 := Tryz.sizeOf35 }
end Go.Proofs
end
