/- The law function CountSplits: it returns true at every input, the text walked over the contracts; an append of a slice that may be nil. -/
import Derived.Test.YtjigfneckohboaaCLaws
import Derived.Maps.AppendAt
import Derived.Deep.AppendLies
import Derived.RegionTactic
namespace Go.Proofs.Ytjigfneckohboaa
open Go.RowKit

theorem block_of_add (a : Addr) (n : Nat) : (a.add n).block = a.block := by unfold Addr.add; split <;> rfl
theorem add_of_add (a : Addr) (i j : Nat) : (a.add i).add j = a.add (i + j) := by
  unfold Addr.add
  by_cases hi : i = 0 <;> by_cases hj : j = 0 <;> simp [hi, hj, Nat.add_assoc]

def Reads (w : World) (B size : Nat) (A : Option Addr) (n : Nat) (xs : List Value) : Prop :=
  xs.length = n * size ∧ (0 < n → ∃ ad, A = some ad ∧ ad.block < B ∧ ∀ j u, xs[j]? = some u → w.cell? (ad.add j) = some u)

section
variable {w w' : World} {B B' size n : Nat} {A : Option Addr} {xs : List Value}
theorem Reads.none_ : Reads w B size A 0 [] := ⟨by simp, fun h => absurd h (by omega)⟩
theorem Reads.at_ {k : Nat} (h : Reads w B 1 A n xs) (hk : k < n) : ∃ ad u, A = some ad ∧ ad.block < B ∧ xs[k]? = some u ∧ w.cell? (ad.add k) = some u := by
  obtain ⟨ad, e, hb, hc⟩ := h.2 (by omega)
  have hl : k < xs.length := by have := h.1; omega
  exact ⟨ad, xs[k], e, hb, List.getElem?_eq_getElem hl, hc k _ (List.getElem?_eq_getElem hl)⟩
theorem Reads.keep (h : Reads w B size A n xs) (hk : ∀ p : Addr, p.block < B → w'.cell? p = w.cell? p) : Reads w' B size A n xs :=
  ⟨h.1, fun hn => by
    obtain ⟨ad, e, hb, hc⟩ := h.2 hn
    exact ⟨ad, e, hb, fun j u hu => (hk _ (by rw [block_of_add]; exact hb)).trans (hc j u hu)⟩⟩
theorem Reads.more (h : Reads w B size A n xs) (hB : B ≤ B') : Reads w B' size A n xs :=
  ⟨h.1, fun hn => by
    obtain ⟨ad, e, hb, hc⟩ := h.2 hn
    exact ⟨ad, e, by omega, hc⟩⟩
theorem Reads.below (h : Reads w B size A n xs) (hb : Below B w w') : Reads w' B size A n xs := h.keep fun _ hp => hb.cell hp
theorem Reads.drew (h : Reads w B size A n xs) : Reads w.drew B size A n xs := h
theorem Reads.drewN (h : Reads w B size A n xs) (k : Nat) : Reads (w.drewN k) B size A n xs := h
theorem Reads.alloc (h : Reads w B size A n xs) (hB : B ≤ w.heap.size) (o : Obj) : Reads (w.alloc o) B size A n xs := h.keep fun p hp => World.cell?_alloc_lt w o p (by omega)
theorem Reads.setCell (h : Reads w B size A n xs) {p : Addr} (hB : B ≤ p.block) (u : Value) : Reads (w.setCell p u) B size A n xs :=
  h.keep fun q hq => World.cell?_setCell_other w p q u (fun e => by subst e; omega)
theorem Reads.grown (h : Reads w B size A n xs) {row : Option Nat} (hg : w.grownBy w' row) (hB : B ≤ w.heap.size) (hr : ∀ g, row = some g → B ≤ g) : Reads w' B size A n xs :=
  h.keep fun p hp => World.cell?_of_block (hg.block p.block (by omega) (fun e => by have := hr _ e.symm; omega))
theorem Reads.cut (h : Reads w B size A n xs) {k cap : Nat} (hk : k ≤ n) (hc : n ≤ cap) :
    Reads w B size (if cap = k then A else A.map (·.add (k * size))) (n - k) (xs.drop (k * size)) := by
  refine ⟨by rw [List.length_drop, h.1, Nat.sub_mul], fun hn => ?_⟩
  obtain ⟨ad, rfl, hb, hcell⟩ := h.2 (by omega)
  rw [if_neg (by omega)]
  refine ⟨ad.add (k * size), rfl, by rw [block_of_add]; exact hb, fun j u hu => ?_⟩
  rw [add_of_add]
  exact hcell _ u (by rw [← hu, List.getElem?_drop])
theorem Reads.of_own {base : Nat} {e : TypeId} {c : Nat} (h : w.ownsRow base e size (.slice A n c) n xs) : Reads w w.heap.size size A n xs := by
  refine ⟨h.1, fun hn => ?_⟩
  obtain ⟨g, cap, hv, _, hlt⟩ := h.form hn
  have hA : A = some ⟨g, 0, none⟩ := by injection hv
  subst hA
  exact ⟨_, rfl, hlt, h.cells (g := g) rfl⟩
end

section
variable {P : Program} (w : World)

theorem run_append_of_nil (base : Nat) (t ty e : TypeId) (i : TypeInfo) (size : Nat) (ht : P.underlying t = some (.slice e)) (hi : P.info? e = some i)
    (v : Value) (n : Nat) (xs : List Value) (hown : w.ownsRow base e size v n xs) (c : Nat) : (Builtin.append_ #[t, t] ty #[v, .slice none 0 c]).run P w = .ok v w := by
  rcases hown.2 with ⟨rfl, rfl⟩ | ⟨g, cap, cur, rfl, _, _, hnc, _⟩
  · simp [Builtin.append_, run_underlying ht, sizeOf, typeInfo, hi, Builtin.lenOf, Builtin.firstCells]
  · simp [Builtin.append_, run_underlying ht, sizeOf, typeInfo, hi, Builtin.lenOf, Builtin.firstCells, hnc, storeCells]

theorem run_append_any (base : Nat) (t ty e : TypeId) (i : TypeInfo) (z : Value) (size bytes : Nat) (ht : P.underlying t = some (.slice e)) (hi : P.info? e = some i) (hz : i.zero = some z)
    (hsize : i.size = size) (hby : i.bytes = bytes) (hzs : z.cells.size = size) (hsz : 0 < size)
    (v : Value) (n : Nat) (xs : List Value) (hown : w.ownsRow base e size v n xs)
    (B : Nat) (A : Option Addr) (m c : Nat) (news : List Value) (hr : Reads w B size A m news) (h1 : ∀ u ∈ news, u.oneCell' = true)
    (h63 : n + m ≤ maxLen) (hbytes : (n + m) * bytes ≤ 140737488355328) (hbase : base ≤ w.heap.size) :
    ∃ v' w', (Builtin.append_ #[t, t] ty #[v, .slice A m c]).run P w = .ok v' w' ∧ w'.ownsRow base e size v' (n + m) (xs ++ news) ∧ w.grownBy w' v.ownBlock ∧
      (v'.ownBlock = v.ownBlock ∨ v'.ownBlock = some w.heap.size) := by
  rcases A with _ | ad
  · have hm : m = 0 := by
      rcases Nat.eq_zero_or_pos m with h0 | h0
      · exact h0
      · obtain ⟨ad, h, _⟩ := hr.2 h0
        cases h
    subst hm
    have hn : news = [] := List.eq_nil_of_length_eq_zero (by simpa using hr.1)
    subst hn
    exact ⟨v, w, run_append_of_nil w base t ty e i size ht hi v n xs hown c, by simpa using hown, World.grownBy.refl w _, .inl rfl⟩
  · have hcells : ∀ j u, news[j]? = some u → w.cell? (ad.add j) = some u := by
      intro j u hu
      rcases Nat.eq_zero_or_pos m with h0 | h0
      · subst h0
        have hn : news = [] := List.eq_nil_of_length_eq_zero (by simpa using hr.1)
        subst hn
        simp at hu
      · obtain ⟨ad', h, _, hc⟩ := hr.2 h0
        injection h with h
        subst h
        exact hc j u hu
    obtain ⟨v', w', hrun, h2, h3, _, h5⟩ := run_append_own_at (P := P) w base t ty e i z size bytes ht hi hz hsize hby hzs hsz v n xs hown ad m c news hr.1 hcells h1 h63 hbytes hbase
    exact ⟨v', w', hrun, h2, h3, h5⟩

theorem wp_append_any {o : Oper} {a : Act} {K : Act → World → Prop} {Q : Exit → Act → World → Prop} (s x : Operand) (t : TypeId)
    (ho : o.op = .call { callee := .builtin .append, args := #[s, x], argTypes := #[t, t] })
    (base : Nat) (e : TypeId) (i : TypeInfo) (z : Value) (size bytes : Nat) (ht : P.underlying t = some (.slice e)) (hi : P.info? e = some i) (hz : i.zero = some z)
    (hsize : i.size = size) (hby : i.bytes = bytes) (hzs : z.cells.size = size) (hsz : 0 < size)
    (v : Value) (n : Nat) (xs : List Value) (hs : a.eval s = v) (hown : w.ownsRow base e size v n xs)
    (B : Nat) (A : Option Addr) (m c : Nat) (news : List Value) (hx : a.eval x = .slice A m c) (hr : Reads w B size A m news) (h1 : ∀ u ∈ news, u.oneCell' = true)
    (h63 : n + m ≤ maxLen) (hbytes : (n + m) * bytes ≤ 140737488355328) (hbase : base ≤ w.heap.size)
    (h : ∀ v' w', w'.ownsRow base e size v' (n + m) (xs ++ news) → w.grownBy w' v.ownBlock → (v'.ownBlock = v.ownBlock ∨ v'.ownBlock = some w.heap.size) → K (a.put o.dst v') w') : o.wp P a w K Q := by
  obtain ⟨v', w', hrun, h2, h3, h4⟩ := run_append_any (P := P) w base t o.type e i z size bytes ht hi hz hsize hby hzs hsz v n xs hown B A m c news hr h1 h63 hbytes hbase
  unfold Oper.wp execOp
  simp only [ho, resolve, invoke, builtin, Sem.run_bind, Sem.run_pure, Result.andThen_ok, List.map_toArray, List.map_cons, List.map_nil, hs, hx, hrun]
  exact h v' w' h2 h3 h4

theorem wpList_append_any {ops : Array Oper} {rest : List Oper} {o : Oper} {a : Act} {Q : Exit → Act → World → Prop} (hgd : o.guard = none) (s x : Operand) (t : TypeId)
    (ho : o.op = .call { callee := .builtin .append, args := #[s, x], argTypes := #[t, t] })
    (base : Nat) (e : TypeId) (i : TypeInfo) (z : Value) (size bytes : Nat) (ht : P.underlying t = some (.slice e)) (hi : P.info? e = some i) (hz : i.zero = some z)
    (hsize : i.size = size) (hby : i.bytes = bytes) (hzs : z.cells.size = size) (hsz : 0 < size)
    (v : Value) (n : Nat) (xs : List Value) (hs : a.eval s = v) (hown : w.ownsRow base e size v n xs)
    (B : Nat) (A : Option Addr) (m c : Nat) (news : List Value) (hx : a.eval x = .slice A m c) (hr : Reads w B size A m news) (h1 : ∀ u ∈ news, u.oneCell' = true)
    (h63 : n + m ≤ maxLen) (hbytes : (n + m) * bytes ≤ 140737488355328) (hbase : base ≤ w.heap.size)
    (h : ∀ v' w', w'.ownsRow base e size v' (n + m) (xs ++ news) → w.grownBy w' v.ownBlock → (v'.ownBlock = v.ownBlock ∨ v'.ownBlock = some w.heap.size) → wpList P ops Q rest (a.put o.dst v') w') : wpList P ops Q (o :: rest) a w :=
  wpList_plain hgd fun _ hK => wp_append_any w s x t ho base e i z size bytes ht hi hz hsize hby hzs hsz v n xs hs hown B A m c news hx hr h1 h63 hbytes hbase fun v' w' h2 h3 h4 => hK _ _ (h v' w' h2 h3 h4)

theorem step_append_any {ops : Array Oper} {o : Oper} {a : Act} {K : Act → World → Prop} {Q : Exit → Act → World → Prop} {E : Prop} (hgd : o.guard = none) (s x : Operand) (t : TypeId)
    (ho : o.op = .call { callee := .builtin .append, args := #[s, x], argTypes := #[t, t] })
    (base : Nat) (e : TypeId) (i : TypeInfo) (z : Value) (size bytes : Nat) (ht : P.underlying t = some (.slice e)) (hi : P.info? e = some i) (hz : i.zero = some z)
    (hsize : i.size = size) (hby : i.bytes = bytes) (hzs : z.cells.size = size) (hsz : 0 < size)
    (v : Value) (n : Nat) (xs : List Value) (hs : a.eval s = v) (hown : w.ownsRow base e size v n xs)
    (B : Nat) (A : Option Addr) (m c : Nat) (news : List Value) (hx : a.eval x = .slice A m c) (hr : Reads w B size A m news) (h1 : ∀ u ∈ news, u.oneCell' = true)
    (h63 : n + m ≤ maxLen) (hbytes : (n + m) * bytes ≤ 140737488355328) (hbase : base ≤ w.heap.size)
    (h : ∀ v' w', w'.ownsRow base e size v' (n + m) (xs ++ news) → w.grownBy w' v.ownBlock → (v'.ownBlock = v.ownBlock ∨ v'.ownBlock = some w.heap.size) → K (a.put o.dst v') w') :
    if Region.wanted o (yielded ops a.tmps) = true then Oper.wp P o a w K Q else E := by
  have hw : Region.wanted o (yielded ops a.tmps) = true := by simp [Region.wanted, hgd]
  rw [if_pos hw]
  exact wp_append_any w s x t ho base e i z size bytes ht hi hz hsize hby hzs hsz v n xs hs hown B A m c news hx hr h1 h63 hbytes hbase h
end

theorem add_any (b off j : Nat) : (⟨b, off, none⟩ : Addr).add j = ⟨b, off + j, none⟩ := by
  by_cases h : j = 0
  · subst h; rfl
  · simp [Addr.add, h]
theorem Rb.reads {w : World} {B : Nat} {A : Option Addr} {xs : List Nat} (h : Rb w B A xs) : Reads w B 1 A xs.length (bv xs) := by
  refine ⟨by simp, fun hn => ?_⟩
  obtain ⟨b, off, rfl, hb, hc⟩ := h (by intro e; subst e; simp at hn)
  refine ⟨_, rfl, hb, fun j u hu => ?_⟩
  simp only [List.getElem?_map, Option.map_eq_some_iff] at hu
  obtain ⟨a, ha, rfl⟩ := hu
  obtain ⟨hj, rfl⟩ := List.getElem?_eq_some_iff.1 ha
  rw [add_any]
  exact hc j hj
theorem bv_one (xs : List Nat) : ∀ u ∈ bv xs, u.oneCell' = true := by
  intro u hu
  obtain ⟨a, _, rfl⟩ := List.mem_map.1 hu
  rfl

set_option maxHeartbeats 1000000 in
theorem law_splits (A A' : Option Addr) (cp cp' : Nat) (xs ys : List Nat) (w : World) (hr : Rb w w.heap.size A xs) (hr' : Rb w w.heap.size A' ys) (hl : xs.length ≤ 9223372036854775807) (hl' : ys.length ≤ 9223372036854775807) :
    Calls Try.prog 5 #[.slice A xs.length cp, .slice A' ys.length cp'] w fun e w' => e = .returned (.bool true) ∧ Below w.heap.size w w' := by
  obtain ⟨i0, hi, hz0, hz1, hz2⟩ := info_parts byte_info
  have hlen : (xs.take 100).length ≤ 100 := by rw [List.length_take]; omega
  have hlen' : (ys.take 100).length ≤ 100 := by rw [List.length_take]; omega
  go_enter Try.func5, Try.ntmps5
  go_wp2_with (first
    | (go_at_call 6; refine (awake_any _).mono ?_; rintro e w1 ⟨rfl, hb1⟩; have hr1 := (hr.below hb1 (Nat.le_refl _)).more hb1.size; have hr1' := (hr'.below hb1 (Nat.le_refl _)).more hb1.size)
    | (go_at_call 7; (with_reducible refine (ref_bytes100 _ _ xs _ hr1 hl).mono ?_); rintro e w2 ⟨v, rfl, hown, hb2⟩; obtain ⟨A2, c2, rfl, hc2, hr2⟩ := own_rb hown; clear hown hr1; have hr2' := (hr1'.below hb2 (Nat.le_refl _)).more hb2.size; generalize xs.take 100 = ds at *)
    | (go_at_call 7; (with_reducible refine (ref_bytes100 _ _ ys _ hr2' hl').mono ?_); rintro e w3 ⟨v, rfl, hown, hb3⟩; obtain ⟨A3, c3, rfl, hc3, hr3'⟩ := own_rb hown; clear hown hr2' hr1'; have hr3 := (hr2.below hb3 (Nat.le_refl _)).more hb3.size; clear hr2; generalize ys.take 100 = es at *)
    | (go_at_call 8; (with_reducible refine (law_play _ _ ds _ hr3 (by omega)).mono ?_); rintro e w4 ⟨g, rfl, hge, hms, hb4⟩; have hr4 := (hr3.below hb4 (Nat.le_refl _)).more hb4.size; have hr4' := (hr3'.below hb4 (Nat.le_refl _)).more hb4.size; clear hr3 hr3')
    | (go_at_call 8; (with_reducible refine (law_play _ _ es _ hr4' (by omega)).mono ?_); rintro e w5 ⟨g', rfl, hge', hms', hb5⟩; have hr5 := (hr4.below hb5 (Nat.le_refl _)).more hb5.size; have hr5' := (hr4'.below hb5 (Nat.le_refl _)).more hb5.size; have hms5 := Mt.below hms hb5 (Mt.lt hms); clear hr4 hr4' hms)
    | (go_at_call 7; (with_reducible refine (ref_bytes100 _ _ ds _ hr5 (by omega)).mono ?_); rintro e w6 ⟨v, rfl, hown, hb6⟩; rw [List.take_of_length_le hlen] at hown; have hr6' := (hr5'.below hb6 (Nat.le_refl _)).more hb6.size; clear hr5)
    | (at_builtin; refine wpList_append_any _ rfl (.tmp 20) (.tmp 21) 22 rfl w5.heap.size 5 i0 (.int .u8 0) 1 1 Try.underlying22 hi hz0 hz1 hz2 rfl (by decide) _ _ _ rfl hown w6.heap.size A3 es.length c3 (bv es) rfl hr6'.reads (bv_one es) ?h1 ?h2 ?h3 ?_))
  case h1 => unfold maxLen; omega
  case h2 => omega
  case h3 => exact hb6.size
  intro v7 w7 hown7 hg7 _
  have hb7 : Below w5.heap.size w5 w7 := hb6.grown hg7 hb6.size (fun k hk => (hown.lt k hk).1)
  have hms7 := Mt.below hms5 hb7 (Mt.lt hms5)
  have hms7' := Mt.below hms' hb7 (Mt.lt hms')
  have hr7' := (hr5'.below hb7 (Nat.le_refl _)).more hb7.size
  have hown8 : w7.ownsRow w5.heap.size 5 1 v7 (ds ++ es).length (bv (ds ++ es)) := by
    rw [bv, List.map_append, List.length_append]; exact hown7
  obtain ⟨A7, c7, rfl, hc7, hr7⟩ := own_rb hown8
  clear hown hown7 hown8 hg7 hms5 hms' hr5' hr6' hb6
  obtain ⟨ts, hts⟩ : ∃ ts, ts = ds ++ es := ⟨_, rfl⟩
  rw [← hts] at hr7 hc7
  rw [← hts]
  have hlT : ts.length ≤ 200 := by rw [hts, List.length_append]; omega
  have r1 : M.cnt ts 1 = M.cnt ds 1 + M.cnt es 1 := by rw [hts, M.cnt_append]
  have r2 : M.cnt ts 2 = M.cnt ds 2 + M.cnt es 2 := by rw [hts, M.cnt_append]
  have r0 : M.cnt ts 0 = M.cnt ds 0 + M.cnt es 0 := by rw [hts, M.cnt_append]
  obtain ⟨t1, t2, t3⟩ := M.top_append ds es
  obtain ⟨u1, u2, u3⟩ := M.taken_append ds es
  have u4 := M.taken_top ts
  rw [← hts] at t1 t2 t3 u1 u2 u3
  have n1 := M.cnt_le ds 1
  have n2 := M.cnt_le es 1
  have n3 := M.cnt_le ds 2
  have n4 := M.cnt_le es 2
  have n5 := M.cnt_le ds 0
  have n6 := M.cnt_le es 0
  have n7 := M.top_le ds
  have n8 := M.top_le es
  have n9 := M.taken_le ds
  have n10 := M.taken_le es
  clear hts
  rcases Nat.eq_zero_or_pos (M.cnt es 0) with hz | hz
  · have u5 := u3 hz
    have u6 : max ((M.top ds : Nat) : Int) (max ((M.top es : Nat) : Int) (((M.taken ds : Nat) : Int) + ((M.taken es : Nat) : Int))) ≤ ((M.top ts : Nat) : Int) := by omega
    clear u3 u5
    go_wp2_with (first
      | (go_at_call 8; refine (law_play _ _ ts _ hr7 (by omega)).mono ?_; rintro e w8 ⟨g2, rfl, hge2, hmsT, hb8⟩; have hms8 := Mt.below hms7 hb8 (Mt.lt hms7); have hms8' := Mt.below hms7' hb8 (Mt.lt hms7'); have hr8' := hr7'.below hb8 (Nat.le_refl _); clear hms7 hms7' hr7 hr7'; unfold Ms at hmsT)
      | (go_at_call 12; refine (ref_count0 _ _ es _ _ hr8' (by omega)).mono ?_; rintro e w' ⟨rfl, rfl⟩)
      | (go_at_call 15; (with_reducible refine (m_peak _ g _ _ _ _ _ hms8).mono ?_); rintro e w' ⟨rfl, rfl⟩)
      | (go_at_call 15; (with_reducible refine (m_peak _ g' _ _ _ _ _ hms8').mono ?_); rintro e w' ⟨rfl, rfl⟩)
      | (go_at_call 15; (with_reducible refine (m_peak _ g2 _ _ _ _ _ hmsT).mono ?_); rintro e w' ⟨rfl, rfl⟩)
      | (go_at_call 9; (with_reducible refine (m_taken _ g _ _ _ _ _ hms8).mono ?_); rintro e w' ⟨rfl, rfl⟩)
      | (go_at_call 9; (with_reducible refine (m_taken _ g' _ _ _ _ _ hms8').mono ?_); rintro e w' ⟨rfl, rfl⟩)
      | (go_at_call 9; (with_reducible refine (m_taken _ g2 _ _ _ _ _ hmsT).mono ?_); rintro e w' ⟨rfl, rfl⟩)
      | (go_at_call 13; (with_reducible refine (m_reads _ g _ _ _ _ _ hms8).mono ?_); rintro e w' ⟨rfl, rfl⟩)
      | (go_at_call 13; (with_reducible refine (m_reads _ g' _ _ _ _ _ hms8').mono ?_); rintro e w' ⟨rfl, rfl⟩)
      | (go_at_call 13; (with_reducible refine (m_reads _ g2 _ _ _ _ _ hmsT).mono ?_); rintro e w' ⟨rfl, rfl⟩)
      | (go_at_call 14; (with_reducible refine (m_calls _ g _ _ _ _ _ hms8).mono ?_); rintro e w' ⟨rfl, rfl⟩)
      | (go_at_call 14; (with_reducible refine (m_calls _ g' _ _ _ _ _ hms8').mono ?_); rintro e w' ⟨rfl, rfl⟩)
      | (go_at_call 14; (with_reducible refine (m_calls _ g2 _ _ _ _ _ hmsT).mono ?_); rintro e w' ⟨rfl, rfl⟩)
      | (go_at_call 11; (with_reducible refine (m_starts _ g _ _ _ _ _ hms8).mono ?_); rintro e w' ⟨rfl, rfl⟩)
      | (go_at_call 11; (with_reducible refine (m_starts _ g' _ _ _ _ _ hms8').mono ?_); rintro e w' ⟨rfl, rfl⟩)
      | (go_at_call 11; (with_reducible refine (m_starts _ g2 _ _ _ _ _ hmsT).mono ?_); rintro e w' ⟨rfl, rfl⟩))
    go_ret
    have q2 := hb1.trans (hb2.mono hb1.size)
    have q3 := q2.trans (hb3.mono q2.size)
    have q4 := q3.trans (hb4.mono q3.size)
    have q5 := q4.trans (hb5.mono q4.size)
    have q7 := q5.trans (hb7.mono q5.size)
    exact ⟨ret_bool (by first | rfl | (rw [decide_eq_true_eq]; omega)), q7.trans (hb8.mono q7.size)⟩
  · clear u3
    go_wp2_with (first
      | (go_at_call 8; refine (law_play _ _ ts _ hr7 (by omega)).mono ?_; rintro e w8 ⟨g2, rfl, hge2, hmsT, hb8⟩; have hms8 := Mt.below hms7 hb8 (Mt.lt hms7); have hms8' := Mt.below hms7' hb8 (Mt.lt hms7'); have hr8' := hr7'.below hb8 (Nat.le_refl _); clear hms7 hms7' hr7 hr7'; unfold Ms at hmsT)
      | (go_at_call 12; refine (ref_count0 _ _ es _ _ hr8' (by omega)).mono ?_; rintro e w' ⟨rfl, rfl⟩)
      | (go_at_call 15; (with_reducible refine (m_peak _ g _ _ _ _ _ hms8).mono ?_); rintro e w' ⟨rfl, rfl⟩)
      | (go_at_call 15; (with_reducible refine (m_peak _ g' _ _ _ _ _ hms8').mono ?_); rintro e w' ⟨rfl, rfl⟩)
      | (go_at_call 15; (with_reducible refine (m_peak _ g2 _ _ _ _ _ hmsT).mono ?_); rintro e w' ⟨rfl, rfl⟩)
      | (go_at_call 9; (with_reducible refine (m_taken _ g _ _ _ _ _ hms8).mono ?_); rintro e w' ⟨rfl, rfl⟩)
      | (go_at_call 9; (with_reducible refine (m_taken _ g' _ _ _ _ _ hms8').mono ?_); rintro e w' ⟨rfl, rfl⟩)
      | (go_at_call 9; (with_reducible refine (m_taken _ g2 _ _ _ _ _ hmsT).mono ?_); rintro e w' ⟨rfl, rfl⟩)
      | (go_at_call 13; (with_reducible refine (m_reads _ g _ _ _ _ _ hms8).mono ?_); rintro e w' ⟨rfl, rfl⟩)
      | (go_at_call 13; (with_reducible refine (m_reads _ g' _ _ _ _ _ hms8').mono ?_); rintro e w' ⟨rfl, rfl⟩)
      | (go_at_call 13; (with_reducible refine (m_reads _ g2 _ _ _ _ _ hmsT).mono ?_); rintro e w' ⟨rfl, rfl⟩)
      | (go_at_call 14; (with_reducible refine (m_calls _ g _ _ _ _ _ hms8).mono ?_); rintro e w' ⟨rfl, rfl⟩)
      | (go_at_call 14; (with_reducible refine (m_calls _ g' _ _ _ _ _ hms8').mono ?_); rintro e w' ⟨rfl, rfl⟩)
      | (go_at_call 14; (with_reducible refine (m_calls _ g2 _ _ _ _ _ hmsT).mono ?_); rintro e w' ⟨rfl, rfl⟩)
      | (go_at_call 11; (with_reducible refine (m_starts _ g _ _ _ _ _ hms8).mono ?_); rintro e w' ⟨rfl, rfl⟩)
      | (go_at_call 11; (with_reducible refine (m_starts _ g' _ _ _ _ _ hms8').mono ?_); rintro e w' ⟨rfl, rfl⟩)
      | (go_at_call 11; (with_reducible refine (m_starts _ g2 _ _ _ _ _ hmsT).mono ?_); rintro e w' ⟨rfl, rfl⟩))
    go_ret
    have q2 := hb1.trans (hb2.mono hb1.size)
    have q3 := q2.trans (hb3.mono q2.size)
    have q4 := q3.trans (hb4.mono q3.size)
    have q5 := q4.trans (hb5.mono q4.size)
    have q7 := q5.trans (hb7.mono q5.size)
    exact ⟨ret_bool (by first | rfl | (rw [decide_eq_true_eq]; omega)), q7.trans (hb8.mono q7.size)⟩
end Go.Proofs.Ytjigfneckohboaa
