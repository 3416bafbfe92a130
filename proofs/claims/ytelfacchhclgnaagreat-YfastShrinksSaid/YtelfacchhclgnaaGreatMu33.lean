/- What begins and ends a bucket: the pool, the links, the table, the representatives; the texts walked. A bucket begins, or ends; the texts walked. A bucket begins, or ends: begin, end; the texts walked. A bucket ends: end; the text walked. -/
import Derived.Test.YtelfacchhclgnaaGreatMu32
section
namespace Go.Proofs.YtelfacchhclgnaaGreat
set_option maxRecDepth 20000
open Go.RowKit
theorem xg_ty {r c : Int} {w : World} {X lim tk : Nat} {xs : List Nat} {O : Nat → Prop} (h : XG r c w X xs lim tk O) {j : Nat} (hj : O j) : ¬ Bt w j 22 := by
  letI : Gh := ⟨r, c⟩
  obtain ⟨C, Q, M, P, L, es, hs⟩ := h
  obtain ⟨⟨seed, An, cn, Af, cf, ns, fs, Qt, Mt, n, pr, hb, rfl⟩, te, ks, up, cnt, le, max, few⟩ := hs
  rintro ⟨cs, hu⟩
  rcases hj with rfl | rfl | hj | hj
  · exact row_ne hb.row hu (by decide) rfl
  · obtain ⟨_, _, _, _, _, hr, _⟩ := hb.mx
    exact row_ne hr hu (by decide) rfl
  · obtain ⟨c', t', hr, ht⟩ := cb_rows hb.ch hj
    rcases ht with rfl | rfl | rfl | rfl <;> exact row_ne hr hu (by decide) rfl
  · obtain ⟨c', t', hr, ht⟩ := tf_rows hb.tab hj
    rcases ht with rfl | rfl | rfl <;> exact row_ne hr hu (by decide) rfl
section
variable {w0 w : World} {O : Nat → Prop} {P M X T Q lim tk : Nat} {kn : Int} {rs : List Nat} {es : Es} {ns : List (Yp.Nd × Bool)} {fs : List Nat} {G : Nat → List Nat}
/-- A list of keys is none of the blocks that the trie writes. -/
theorem YT.kfree_kx {O' : Nat → Prop} (h : YT w P M X T Q lim tk kn rs es ns fs G O') {x : Yp.Nd} {xs : List Nat} (hk : KX w (ksl x) xs) : Kfree w O' x xs := by
  obtain ⟨OX, r, c, seed, Qt, Mt, n, pr, An, cn, Af, cf, hb, rfl⟩ := h
  refine ⟨hk, fun j hj ho => ?_⟩
  have hu := kx_bt hk hj
  rcases ho with e | e | e | e | e
  · subst e; exact hb.bP.ne hu (by decide) rfl
  · subst e; exact hb.bM.ne hu (by decide) rfl
  · exact xg_ty hb.xg e hu
  · rcases hb.bT e with h2 | h2 | ⟨_, h2⟩ <;> exact h2.ne hu (by decide) rfl
  · rcases hb.bQ e with h2 | h2 | h2 <;> exact h2.ne hu (by decide) rfl
/-- Nodes that have the same keys. -/
def Alike (ns ns' : List (Yp.Nd × Bool)) : Prop := ∀ (j : Nat) (x : Yp.Nd × Bool), ns'[j]? = some x → x.2 = true → ∃ y : Yp.Nd × Bool, ns[j]? = some y ∧ y.2 = true ∧ ksl x.1 = ksl y.1
theorem Alike.refl (ns : List (Yp.Nd × Bool)) : Alike ns ns := fun _ x h h2 => ⟨x, h, h2, rfl⟩
theorem Alike.trans {a b c : List (Yp.Nd × Bool)} (h : Alike a b) (k : Alike b c) : Alike a c := fun j x hx ht => by
  obtain ⟨y, h1, h2, h3⟩ := k j x hx ht
  obtain ⟨z, h4, h5, h6⟩ := h j y h1 h2
  exact ⟨z, h4, h5, h3.trans h6⟩
theorem alike_setb (ns : List (Yp.Nd × Bool)) (i b : Int) : Alike ns (Yp.setb ns i b) := fun j x hx ht => by
  unfold Yp.setb at hx
  split at hx
  · rename_i h
    obtain ⟨k, rfl, hk, e⟩ := Yp.lvq_form h
    rw [Int.toNat_natCast, List.getElem?_set] at hx
    split at hx
    · rename_i e2
      subst e2
      injection hx with hx
      subst hx
      exact ⟨_, List.getElem?_eq_getElem hk, by rw [e], by rw [e]; rfl⟩
    · exact ⟨x, hx, ht, rfl⟩
  · exact ⟨x, hx, ht, rfl⟩
theorem alike_seta (ns : List (Yp.Nd × Bool)) (i b : Int) : Alike ns (Yp.seta ns i b) := fun j x hx ht => by
  unfold Yp.seta at hx
  split at hx
  · rename_i h
    obtain ⟨k, rfl, hk, e⟩ := Yp.lvq_form h
    rw [Int.toNat_natCast, List.getElem?_set] at hx
    split at hx
    · rename_i e2
      subst e2
      injection hx with hx
      subst hx
      exact ⟨_, List.getElem?_eq_getElem hk, by rw [e], by rw [e]; rfl⟩
    · exact ⟨x, hx, ht, rfl⟩
  · exact ⟨x, hx, ht, rfl⟩
theorem YT.kx {O' : Nat → Prop} (h : YT w P M X T Q lim tk kn rs es ns fs G O') {j : Nat} {x : Yp.Nd} (hx : ns[j]? = some (x, true)) : KX w (ksl x) (G j) := by
  obtain ⟨hj, e⟩ := List.getElem?_eq_some_iff.1 hx
  have := (h.kfree hj (by rw [e])).1
  rw [e] at this
  exact this
theorem YR.kx (h : YR w0 O P M X T Q lim tk kn rs es ns fs G w) {j : Nat} {x : Yp.Nd} (hx : ns[j]? = some (x, true)) : KX w (ksl x) (G j) := by
  obtain ⟨O', hT, _⟩ := h
  exact hT.kx hx
theorem YR.join (h : YR w0 O P M X T Q lim tk kn rs es ns fs G w) (a b : Int) :
    Calls Tryz.prog 93 #[.pointer (some ⟨P, 0, none⟩), .int .i64 a, .int .i64 b] w fun e w' => e = .returned (.tuple #[]) ∧ YR w0 O P M X T Q lim tk kn rs es (Yp.seta (Yp.setb ns a b) b a) fs G w' :=
  h.pool (fun O' i hi hT ht => by
    obtain ⟨y, h1, h2, h3⟩ := ((alike_setb ns a b).trans (alike_seta _ b a)) i _ (List.getElem?_eq_getElem hi) ht
    obtain ⟨y1, y2⟩ := y
    dsimp only at h2 h3
    subst h2
    refine hT.kfree_kx ?_
    rw [h3]
    exact hT.kx h1) (fun An cn Af cf h3 hl hq hp hm => Yp.y_join w P Q M lim cn cf An Af ns fs h3 hl hq hp a b)
/-- What stands behind a bucket. -/
def beh (ns : List (Yp.Nd × Bool)) (i : Int) : Int := if Yp.lvq ns i then (Yp.ndi ns i).behind else -1
theorem YR.ask {f : FuncId} {args : Array Value} {v : Value} (h : YR w0 O P M X T Q lim tk kn rs es ns fs G w)
    (hc : ∀ An cn Af cf, w.cell? ⟨P, 3, none⟩ = some (.pointer (some ⟨Q, 0, none⟩)) → Yp.Qo w Q M lim An cn Af cf ns fs → Calls Tryz.prog f args w fun e w' => e = .returned v ∧ Below w.heap.size w w') :
    Calls Tryz.prog f args w fun e w' => e = .returned v ∧ YR w0 O P M X T Q lim tk kn rs es ns fs G w' := by
  have h9 := h
  obtain ⟨O', ⟨OX, r, c, seed, Qt, Mt, n, pr, An, cn, Af, cf, hb, rfl⟩, hC, hO⟩ := h
  exact (hc An cn Af cf h9.c3 hb.po).mono fun e w' ⟨he, hb2⟩ => ⟨he, h9.below hb2⟩
theorem YR.behind (h : YR w0 O P M X T Q lim tk kn rs es ns fs G w) (i : Int) :
    Calls Tryz.prog 91 #[.pointer (some ⟨P, 0, none⟩), .int .i64 i] w fun e w' => e = .returned (.int .i64 (beh ns i)) ∧ YR w0 O P M X T Q lim tk kn rs es ns fs G w' :=
  h.ask fun An cn Af cf h3 hp => by
    unfold beh
    cases hi : Yp.lvq ns i with
    | true =>
      obtain ⟨k, rfl, hk, e⟩ := Yp.lvq_form hi
      exact Yp.y_behind_yes w P Q M lim cn cf An Af ns fs h3 hp k (Yp.ndi ns (k : Int)).key _ _ (by rw [List.getElem?_eq_getElem hk, e]; rfl)
    | false => exact Yp.y_behind_no w P Q M lim cn cf An Af ns fs h3 hp i hi
theorem YR.peek (h : YR w0 O P M X T Q lim tk kn rs es ns fs G w) (i rep : Nat) (ksA : Option Addr) (ksn ksc : Nat) (ah be : Int) (hi : ns[i]? = some (⟨rep, ksA, ksn, ksc, ah, be⟩, true)) :
    Calls Tryz.prog 78 #[.pointer (some ⟨Q, 0, none⟩), .int .i64 (i : Int)] w fun e w' => e = .returned (.tuple #[Yp.ndv rep ksA ksn ksc ah be, .bool true]) ∧ YR w0 O P M X T Q lim tk kn rs es ns fs G w' :=
  h.ask fun An cn Af cf _ hp => by
    obtain ⟨hk, e⟩ := List.getElem?_eq_some_iff.1 hi
    have q := Yp.q_peek_yes w Q M lim cn cf An Af ns fs hp i hk (by rw [e])
    rw [e] at q
    exact q
/-- What a new bucket's place is. -/
def AllocF (ns : List (Yp.Nd × Bool)) (fs : List Nat) (nd : Yp.Nd) (i : Nat) (ns2 : List (Yp.Nd × Bool)) (fs2 : List Nat) : Prop :=
  i < ns2.length ∧ ((∃ h : i < ns.length, ns[i].2 = false) ∨ ns.length ≤ i) ∧ ns2[i]? = some (nd, true) ∧ (∀ j, j ≠ i → ns2[j]? = ns[j]?) ∧ ns2.length - fs2.length = ns.length - fs.length + 1 ∧ i < 1048576
def upd (G : Nat → List Nat) (i : Nat) (ks : List Nat) : Nat → List Nat := fun j => if j = i then ks else G j
theorem YR.alloc (h : YR w0 O P M X T Q lim tk kn rs es ns fs G w) (rep : Nat) (ksA : Option Addr) (ksn ksc : Nat) (ah be : Int) (ks : List Nat) (hk : KX w (.slice ksA ksn ksc) ks) (hf : ns.length - fs.length < lim) :
    Calls Tryz.prog 92 #[.pointer (some ⟨Q, 0, none⟩), Yp.ndv rep ksA ksn ksc ah be] w fun e w' => ∃ i ns2 fs2, e = .returned (.tuple #[.int .i64 ((i : Nat) : Int), .bool true]) ∧ AllocF ns fs ⟨rep, ksA, ksn, ksc, ah, be⟩ i ns2 fs2 ∧ YR w0 O P M X T Q lim tk kn rs es ns2 fs2 (upd G i ks) w' := by
  have h9 := h
  obtain ⟨O', hT, hC, hO⟩ := h
  have hT9 := hT
  obtain ⟨OX, r, c, seed, Qt, Mt, n, pr, An, cn, Af, cf, hb, rfl⟩ := hT
  obtain ⟨i, ns2, fs2, g1, g2, g3, g4, g5, _, g7⟩ := Yp.q_alloc w Q M lim cn cf An Af ns fs hb.po rep ksA ksn ksc ah be hf
  refine g7.mono ?_
  rintro e w' ⟨he, hs⟩
  have hs9 := hs
  obtain ⟨An', cn', Af', cf', h1, b, hq⟩ := hb.pool (G' := upd G i ks) hs (fun j hj ht => by
    by_cases hji : j = i
    · subst hji
      rw [List.getElem?_eq_getElem hj] at g3
      injection g3 with g3
      rw [g3]
      have q := hT9.kfree_kx (x := ⟨rep, ksA, ksn, ksc, ah, be⟩) hk
      refine ⟨?_, fun a ha ho => q.2 a ha (.inr (.inr (.inl ho)))⟩
      unfold upd
      rw [if_pos rfl]
      exact hk
    · have g4' := g4 j hji
      rw [List.getElem?_eq_getElem hj] at g4'
      have hkx := hT9.kx (j := j) (x := ns2[j].1) (by rw [← g4', ← ht])
      have q := hT9.kfree_kx hkx
      refine ⟨?_, fun a ha ho => q.2 a ha (.inr (.inr (.inl ho)))⟩
      unfold upd
      rw [if_neg hji]
      exact hkx)
  refine ⟨i, ns2, fs2, he, ⟨g1, g2, g3, g4, g5, ?_⟩, YR.step hC hO h1 (b.mono (fun j hj => .inr (.inr (.inr (.inr hj))))) (pool_yw hq hC.size)⟩
  obtain ⟨_, _, _, _, hp', _⟩ := hs9
  have := hp'.ns_le
  have := hp'.lim_le
  omega
theorem YR.put (h : YR w0 O P M X T Q lim tk kn rs es ns fs G w) (k v : Nat) (hk : k < 18446744073709551616) (hv : v < 18446744073709551616) (he : ∀ x ∈ es, x.1 ≠ (0, k)) (hes : es.length < 1000000) :
    Calls Tryz.prog 94 #[.pointer (some ⟨T, 0, none⟩), .agg #[.int .u8 0, .int .u64 (k : Int)], .int .u64 (v : Int)] w fun e w' => e = .returned (.bool true) ∧ YR w0 O P M X T Q lim tk kn rs (((0, k), v) :: es) ns fs G w' :=
  h.tabs fun Qt Mt seed n pr ht => (Hs.tab_put_no w T Qt Mt seed n pr 0 es ht (0, k) (show (0 : Nat) < 256 by decide) hk v hv he hes).mono fun e w' ⟨h1, h2⟩ => ⟨h1, _, h2⟩
theorem YR.drop (h : YR w0 O P M X T Q lim tk kn rs es ns fs G w) (k v : Nat) (es' : Es) (he : es.Perm (((0, k), v) :: es')) (hes : es'.length < 1000000) :
    Calls Tryz.prog 101 #[.pointer (some ⟨T, 0, none⟩), .agg #[.int .u8 0, .int .u64 (k : Int)]] w fun e w' => e = .returned (.bool true) ∧ YR w0 O P M X T Q lim tk kn rs es' ns fs G w' :=
  h.tabs fun Qt Mt seed n pr ht => (Hs.tab_drop_yes w T Qt Mt seed n pr 0 es es' ht (0, k) (show (0 : Nat) < 256 by decide) v he hes).mono fun e w' ⟨h1, h2⟩ => ⟨h1, _, h2⟩
end
end Go.Proofs.YtelfacchhclgnaaGreat
end
section
namespace Go.Proofs.YtelfacchhclgnaaGreat
set_option maxRecDepth 20000
open Go.RowKit
section
variable {w0 w : World} {O : Nat → Prop} {P M X T Q lim tk : Nat} {kn : Int} {rs : List Nat} {es : Es} {ns : List (Yp.Nd × Bool)} {fs : List Nat} {G : Nat → List Nat}
set_option maxHeartbeats 2000000 in
theorem y_begin1 {OX : Nat → Prop} {r c : Int} {seed Qt Mt n pr : Nat} {An : Option Addr} {cn : Nat} {Af : Option Addr} {cf : Nat} (h : YB w P M X T Q lim tk kn rs es ns fs G OX r c seed Qt Mt n pr An cn Af cf) (rep : Nat) (hk : rep < 18446744073709551616) (b2 b5 : Nat) (z1 z2 z3 : Value)
    (h2 : w.heap[b2]? = some (.cells #[.pointer (some ⟨P, 0, none⟩)] 26 (0, 0))) (h5 : w.heap[b5]? = some (.cells #[.int .u64 (rep : Int), z1, z2, z3] 74 (0, 0))) (hn2 : ¬ OX b2) (hn5 : ¬ OX b5) :
    Calls Tryz.prog 96 #[.pointer (some ⟨b2, 0, none⟩), .pointer (some ⟨b5, 0, none⟩)] w fun e w' => e = .returned (.tuple #[]) ∧
      ∃ t OX' r' c', (t ≤ 100 ∨ t = 2000000) ∧ XG r c w' X (K.inL K.xfast rs lim rep) lim t OX' ∧ YB w' P M X T Q lim tk kn (K.inL K.xfast rs lim rep) es ns fs G OX' r' c' seed Qt Mt n pr An cn Af cf ∧ K.Chg w w' OX ∧ ∀ j, OX' j → OX j ∨ w.heap.size ≤ j := by
  have c2 := cell_of_row w b2 0 _ _ (0, 0) h2
  have c5 := cell_of_row w b5 0 _ _ (0, 0) h5
  have cP := cell_of_row w P 1 _ _ (0, 0) h.row
  simp at c2 c5 cP
  have hyd : YB w.drew P M X T Q lim tk kn rs es ns fs G OX r c seed Qt Mt n pr An cn Af cf := h.drewN 1
  have HP := Lib.hid (xg_insert hyd.xg rep hk)
  have HN := Lib.hid (And.intro hn2 hn5)
  have HL := Lib.hid (And.intro (row_lt h2) (row_lt h5))
  have HY := Lib.hid hyd
  have HS0 := Lib.hid (And.intro (show w.drew.cell? ⟨b2, 0, none⟩ = some (.pointer (some ⟨P, 0, none⟩)) from c2) (And.intro (show w.drew.cell? ⟨b5, 0, none⟩ = some (.int .u64 (rep : Int)) from c5) (show w.drew.cell? ⟨P, 1, none⟩ = some (.pointer (some ⟨X, 0, none⟩)) from cP)))
  clear h h2 h5 c2 c5 cP hyd hn2 hn5
  go_enter Tryz.func96, Tryz.ntmps96
  go_wp2
  go_region_held3 (fun Y => Y.cell? ⟨b2, 0, none⟩ = some (.pointer (some ⟨P, 0, none⟩)) ∧ Y.cell? ⟨b5, 0, none⟩ = some (.int .u64 (rep : Int)) ∧ Y.cell? ⟨P, 1, none⟩ = some (.pointer (some ⟨X, 0, none⟩))) (first | (with_reducible exact HS0.out) | (with_reducible exact HS1.out) | go_keep)
    ((go_at_call 97; (with_reducible refine HP.out.mono ?_); rintro e w1 ⟨rfl, t, OX', hx, ht, hC, hO⟩
      have HS1 := Lib.hid (And.intro ((hC.cell HL.out.1 HN.out.1 0).trans HS0.out.1) (And.intro ((hC.cell HL.out.2 HN.out.2 0).trans HS0.out.2.1) ((hC.cell (row_lt HY.out.row) (fun ho => (HY.out.a1 P ho).1 rfl) 1).trans HS0.out.2.2)))
      have HX := Lib.hid hx
      have HC := Lib.hid hC
      have HO := Lib.hid hO
      clear hx ht hC hO))
  all_goals
    go_end0
    obtain ⟨r2, c2, hY1⟩ := HY.out.after HX.out HC.out HO.out
    have hd : K.Chg w w.drew OX := (chg_refl w _).drewN 1
    exact ⟨rfl, t, OX', r2, c2, xg_few HX.out, HX.out, hY1, hd.same HC.out, HO.out⟩
/-- Behind the call of begin's closure, its steps counted over. -/
theorem y_begin_carry (h : YR w0 O P M X T Q lim tk kn rs es ns fs G w) (htk : tk ≤ 100) (rep : Nat) (hk : rep < 18446744073709551616) (b2 b5 : Nat) (z1 z2 z3 : Value)
    (h2 : w.heap[b2]? = some (.cells #[.pointer (some ⟨P, 0, none⟩)] 26 (0, 0))) (h5 : w.heap[b5]? = some (.cells #[.int .u64 (rep : Int), z1, z2, z3] 74 (0, 0))) (l2 : b2 < w0.heap.size ∧ ¬ O b2) (l5 : b5 < w0.heap.size ∧ ¬ O b5) :
    Calls Tryz.prog 80 #[.pointer (some ⟨P, 0, none⟩), .func (.func 96) #[] #[.pointer (some ⟨b2, 0, none⟩), .pointer (some ⟨b5, 0, none⟩)]] w fun e w3 => e = .returned (.tuple #[]) ∧ ∃ t, t ≤ 100 ∧ YR w0 O P M X T Q lim (tk + t) kn (K.inL K.xfast rs lim rep) es ns fs G w3 := by
  obtain ⟨O', ⟨OX, r, c, seed, Qt, Mt, n, pr, An, cn, Af, cf, hy, rfl⟩, hC0, hO0⟩ := h
  refine (y_carry_begin w P M X tk 100 lim _ _ _ _ r c rs OX _ _ (fun w2 => ∃ OX' r' c', YB w2 P M X T Q lim tk kn (K.inL K.xfast rs lim rep) es ns fs G OX' r' c' seed Qt Mt n pr An cn Af cf ∧ K.Chg w w2 OX ∧ ∀ j, OX' j → OX j ∨ w.heap.size ≤ j) hy.row htk (by decide) hy.xg ?_).mono ?_
  · rintro W ⟨q, rfl⟩
    refine (y_begin1 (hy.drewN q) rep hk b2 b5 z1 z2 z3 h2 h5 (fun ho => (hO0 b2 (.inr (.inr (.inl ho)))).elim l2.2 (fun h => by omega)) (fun ho => (hO0 b5 (.inr (.inr (.inl ho)))).elim l5.2 (fun h => by omega))).mono ?_
    rintro e w2 ⟨rfl, t, OX', r', c', ht, hx, hy2, hC, hO⟩
    exact ⟨rfl, ⟨OX', r', c', hy2, ((chg_refl w _).drewN q).same hC, hO⟩, ⟨_, t, OX', ht, hx, fun ho => (hy2.a1 M ho).2.1 rfl⟩, hy2.row.trans hy.row.symm, hy2.mx⟩
  · rintro e w3 ⟨rfl, w2, t, ⟨OX', r', c', hy2, hC, hO⟩, ht, hC3, hm⟩
    refine ⟨rfl, t, ht, YR.step hC0 hO0 (hy2.met hC3 hm) ((hC.mono (fun j h => .inr (.inr (.inl h)))).same (hC3.mono (fun j e => .inr (.inl e)))) (xx_yw hO hC0.size)⟩
set_option maxHeartbeats 2000000 in
theorem y_end1 {OX : Nat → Prop} {r c : Int} {seed Qt Mt n pr : Nat} {An : Option Addr} {cn : Nat} {Af : Option Addr} {cf : Nat} (h : YB w P M X T Q lim tk kn rs es ns fs G OX r c seed Qt Mt n pr An cn Af cf) (rep : Nat) (hk : rep < 18446744073709551616) (b2 b5 : Nat) (z1 z2 z3 : Value)
    (h2 : w.heap[b2]? = some (.cells #[.pointer (some ⟨P, 0, none⟩)] 26 (0, 0))) (h5 : w.heap[b5]? = some (.cells #[.int .u64 (rep : Int), z1, z2, z3] 74 (0, 0))) (hn2 : ¬ OX b2) (hn5 : ¬ OX b5) :
    Calls Tryz.prog 102 #[.pointer (some ⟨b2, 0, none⟩), .pointer (some ⟨b5, 0, none⟩)] w fun e w' => e = .returned (.tuple #[]) ∧
      ∃ t OX' r' c', (t ≤ 100 ∨ t = 2000000) ∧ XG r c w' X (K.drop rs rep) lim t OX' ∧ YB w' P M X T Q lim tk kn (K.drop rs rep) es ns fs G OX' r' c' seed Qt Mt n pr An cn Af cf ∧ K.Chg w w' OX ∧ ∀ j, OX' j → OX j ∨ w.heap.size ≤ j := by
  have c2 := cell_of_row w b2 0 _ _ (0, 0) h2
  have c5 := cell_of_row w b5 0 _ _ (0, 0) h5
  have cP := cell_of_row w P 1 _ _ (0, 0) h.row
  simp at c2 c5 cP
  have hyd : YB w.drew P M X T Q lim tk kn rs es ns fs G OX r c seed Qt Mt n pr An cn Af cf := h.drewN 1
  have HP := Lib.hid (xg_delete hyd.xg rep hk)
  obtain ⟨q, hq⟩ : ∃ q : Nat, (if K.fo rs rep then 0 else 3 : Nat) = q := ⟨_, rfl⟩
  rw [hq] at HP
  have HN := Lib.hid (And.intro hn2 hn5)
  have HL := Lib.hid (And.intro (row_lt h2) (row_lt h5))
  have HY := Lib.hid hyd
  have HS0 := Lib.hid (And.intro (show w.drew.cell? ⟨b2, 0, none⟩ = some (.pointer (some ⟨P, 0, none⟩)) from c2) (And.intro (show w.drew.cell? ⟨b5, 0, none⟩ = some (.int .u64 (rep : Int)) from c5) (show w.drew.cell? ⟨P, 1, none⟩ = some (.pointer (some ⟨X, 0, none⟩)) from cP)))
  clear h h2 h5 c2 c5 cP hyd hn2 hn5
  go_enter Tryz.func102, Tryz.ntmps102
  go_wp2
  go_region_held3 (fun Y => Y.cell? ⟨b2, 0, none⟩ = some (.pointer (some ⟨P, 0, none⟩)) ∧ Y.cell? ⟨b5, 0, none⟩ = some (.int .u64 (rep : Int)) ∧ Y.cell? ⟨P, 1, none⟩ = some (.pointer (some ⟨X, 0, none⟩))) (first | (with_reducible exact HS0.out) | (with_reducible exact HS1.out) | go_keep)
    ((go_at_call 103; (with_reducible refine HP.out.mono ?_); rintro e w1 ⟨rfl, t, OX', hx, ht, hC, hO⟩
      have HS1 := Lib.hid (And.intro ((hC.cell HL.out.1 HN.out.1 0).trans HS0.out.1) (And.intro ((hC.cell HL.out.2 HN.out.2 0).trans HS0.out.2.1) ((hC.cell (row_lt HY.out.row) (fun ho => (HY.out.a1 P ho).1 rfl) 1).trans HS0.out.2.2)))
      have HX := Lib.hid hx
      have HC := Lib.hid hC
      have HO := Lib.hid hO
      clear hx ht hC hO))
  all_goals
    go_end0
    obtain ⟨r2, c2, hY1⟩ := HY.out.after HX.out HC.out HO.out
    have hd : K.Chg w w.drew OX := (chg_refl w _).drewN 1
    exact ⟨rfl, t, OX', r2, c2, xg_few HX.out, HX.out, hY1, hd.same HC.out, HO.out⟩
/-- Behind the call of end's closure, its steps counted over. -/
theorem y_end_carry (h : YR w0 O P M X T Q lim tk kn rs es ns fs G w) (htk : tk ≤ 100) (rep : Nat) (hk : rep < 18446744073709551616) (b2 b5 : Nat) (z1 z2 z3 : Value)
    (h2 : w.heap[b2]? = some (.cells #[.pointer (some ⟨P, 0, none⟩)] 26 (0, 0))) (h5 : w.heap[b5]? = some (.cells #[.int .u64 (rep : Int), z1, z2, z3] 74 (0, 0))) (l2 : b2 < w0.heap.size ∧ ¬ O b2) (l5 : b5 < w0.heap.size ∧ ¬ O b5) :
    Calls Tryz.prog 80 #[.pointer (some ⟨P, 0, none⟩), .func (.func 102) #[] #[.pointer (some ⟨b2, 0, none⟩), .pointer (some ⟨b5, 0, none⟩)]] w fun e w3 => e = .returned (.tuple #[]) ∧ ∃ t, t ≤ 100 ∧ YR w0 O P M X T Q lim (tk + t) kn (K.drop rs rep) es ns fs G w3 := by
  obtain ⟨O', ⟨OX, r, c, seed, Qt, Mt, n, pr, An, cn, Af, cf, hy, rfl⟩, hC0, hO0⟩ := h
  refine (y_carry_end w P M X tk 100 lim _ _ _ _ r c rs OX _ _ (fun w2 => ∃ OX' r' c', YB w2 P M X T Q lim tk kn (K.drop rs rep) es ns fs G OX' r' c' seed Qt Mt n pr An cn Af cf ∧ K.Chg w w2 OX ∧ ∀ j, OX' j → OX j ∨ w.heap.size ≤ j) hy.row htk (by decide) hy.xg ?_).mono ?_
  · rintro W ⟨q, rfl⟩
    refine (y_end1 (hy.drewN q) rep hk b2 b5 z1 z2 z3 h2 h5 (fun ho => (hO0 b2 (.inr (.inr (.inl ho)))).elim l2.2 (fun h => by omega)) (fun ho => (hO0 b5 (.inr (.inr (.inl ho)))).elim l5.2 (fun h => by omega))).mono ?_
    rintro e w2 ⟨rfl, t, OX', r', c', ht, hx, hy2, hC, hO⟩
    exact ⟨rfl, ⟨OX', r', c', hy2, ((chg_refl w _).drewN q).same hC, hO⟩, ⟨_, t, OX', ht, hx, fun ho => (hy2.a1 M ho).2.1 rfl⟩, hy2.row.trans hy.row.symm, hy2.mx⟩
  · rintro e w3 ⟨rfl, w2, t, ⟨OX', r', c', hy2, hC, hO⟩, ht, hC3, hm⟩
    refine ⟨rfl, t, ht, YR.step hC0 hO0 (hy2.met hC3 hm) ((hC.mono (fun j h => .inr (.inr (.inl h)))).same (hC3.mono (fun j e => .inr (.inl e)))) (xx_yw hO hC0.size)⟩
end
end Go.Proofs.YtelfacchhclgnaaGreat
end
section
namespace Go.Proofs.YtelfacchhclgnaaGreat
set_option maxRecDepth 20000
open Go.RowKit
section
variable {w0 w : World} {O : Nat → Prop} {P M X T Q lim tk : Nat} {kn : Int} {rs : List Nat} {es : Es} {ns : List (Yp.Nd × Bool)} {fs : List Nat} {G : Nat → List Nat}
/-- The cells of the box of the trie, of its parts, and of the node's box. -/
abbrev BXc (w1 : World) (P Q T b2 b5 rep : Nat) (ksA : Option Addr) (ksn ksc : Nat) (ah be : Int) : Prop :=
  w1.cell? ⟨b2, 0, none⟩ = some (.pointer (some ⟨P, 0, none⟩)) ∧ w1.cell? ⟨P, 3, none⟩ = some (.pointer (some ⟨Q, 0, none⟩)) ∧ w1.cell? ⟨P, 2, none⟩ = some (.pointer (some ⟨T, 0, none⟩)) ∧ w1.cell? ⟨b5, 0, none⟩ = some (.int .u64 (rep : Int)) ∧ w1.cell? ⟨b5, 1, none⟩ = some (.slice ksA ksn ksc) ∧ w1.cell? ⟨b5, 2, none⟩ = some (.int .i64 ah) ∧ w1.cell? ⟨b5, 3, none⟩ = some (.int .i64 be)
theorem bxc (h : YR w0 O P M X T Q lim tk kn rs es ns fs G w) {b2 b5 rep : Nat} {ksA : Option Addr} {ksn ksc : Nat} {ah be : Int} (r2 : w0.heap[b2]? = some (.cells #[.pointer (some ⟨P, 0, none⟩)] 26 (0, 0))) (r5 : w0.heap[b5]? = some (Yp.ndo rep ksA ksn ksc ah be)) (h2 : ¬ O b2) (h5 : ¬ O b5) : BXc w P Q T b2 b5 rep ksA ksn ksc ah be := by
  have p2 := (h.same (row_lt r2) h2).trans r2
  have p5 := (h.same (row_lt r5) h5).trans r5
  have k2 := cell_of_row w _ 0 _ _ (0, 0) p2
  obtain ⟨k50, k51, k52, k53⟩ := Yp.nd_cells p5
  simp at k2
  exact ⟨k2, h.c3, h.c2, k50, k51, k52, k53⟩
/-- A list of keys that was there stays. -/
theorem kx_yr (h : YR w0 O P M X T Q lim tk kn rs es ns fs G w) {A : Option Addr} {n c : Nat} {xs : List Nat} (hn : ∀ j, A.map (·.block) = some j → ¬ O j) (hk : KX w0 (.slice A n c) xs) : KX w (.slice A n c) xs := by
  obtain ⟨_, _, hC, _⟩ := h
  exact kx_chg hk hC hn
set_option maxHeartbeats 4000000 in
theorem y_begin_T (h : YT w P M X T Q lim tk kn rs es ns fs G O) (htk : tk ≤ 100) (a : Int) (rep : Nat) (hrep : rep < 18446744073709551616) (ksA : Option Addr) (ksn ksc : Nat) (ks : List Nat) (hk : KX w (.slice ksA ksn ksc) ks) (hf : ns.length - fs.length < lim) (he : ∀ x ∈ es, x.1 ≠ (0, rep)) (hes : es.length < 1000000) :
    Calls Tryz.prog 52 #[.pointer (some ⟨P, 0, none⟩), .int .i64 a, Yp.ndv rep ksA ksn ksc 0 0] w fun e w' => e = .returned (.tuple #[]) ∧ ∃ t i ns2 fs2, t ≤ 100 ∧ AllocF ns fs ⟨rep, ksA, ksn, ksc, 0, 0⟩ i ns2 fs2 ∧
      YR w O P M X T Q lim (tk + t) kn (K.inL K.xfast rs lim rep) (((0, rep), i) :: es) (Yp.seta (Yp.setb (Yp.seta (Yp.setb ns2 a i) i a) i (beh ns a)) (beh ns a) i) fs2 (upd G i ks) w' := by
  obtain ⟨W, hW⟩ : ∃ W, (w.alloc (bxP P)).alloc (Yp.ndo rep ksA ksn ksc 0 0) = W := ⟨_, rfl⟩
  have hb : Below w.heap.size w W := by rw [← hW]; exact ((Below.refl _ w).alloc (Nat.le_refl _) _).alloc (by simp) _
  have hz : W.heap.size = w.heap.size + 2 := by rw [← hW]; simp
  have r2 : W.heap[w.heap.size]? = some (.cells #[.pointer (some ⟨P, 0, none⟩)] 26 (0, 0)) := by rw [← hW]; exact (Below.heap_alloc _ _ _ (by simp)).trans (K.alloc_top _ _)
  have r5 : W.heap[w.heap.size + 1]? = some (Yp.ndo rep ksA ksn ksc 0 0) := by
    rw [← hW]
    have := K.alloc_top (w.alloc (bxP P)) (Yp.ndo rep ksA ksn ksc 0 0)
    rw [World.size_alloc] at this
    exact this
  have hlt := h.lt
  have hT := h.below hb
  have hy := YR.start hT
  have n2 : ¬ O w.heap.size := fun ho => by have := hlt.1 _ ho; omega
  have n5 : ¬ O (w.heap.size + 1) := fun ho => by have := hlt.1 _ ho; omega
  have HN := Lib.hid (And.intro n2 n5)
  have HL : Hid (w.heap.size < W.heap.size ∧ w.heap.size + 1 < W.heap.size) := Lib.hid ⟨by omega, by omega⟩
  have hbh := hy.behind a
  have hc0 := bxc hy r2 r5 n2 n5
  have c0 := hc0.1
  rw [← hW] at hbh c0
  have HB := Lib.hid hbh
  have R2 := Lib.hid r2
  have R5 := Lib.hid r5
  have HBW := Lib.hid hb
  have HK := Lib.hid (hk.below hb)
  have HKL := Lib.hid (hT.kfree_kx (x := ⟨rep, ksA, ksn, ksc, 0, 0⟩) (hk.below hb)).2
  have HE := Lib.hid he
  have hmf : ∀ (fn : Fn) (first cap : Array Value) (w : World), (Instr.makeFunc fn first cap).run Tryz.prog w = .ok (.func fn first cap) w := fun _ _ _ _ => rfl
  have HWW := Lib.hid hW
  clear h hk he hb hz hbh r2 r5 hlt hT hy n2 n5 hc0 hW
  generalize beh ns a = bh at *
  go_enter Tryz.func52, Tryz.ntmps52
  go_wp2_with (go_at_call 91; (with_reducible refine (HB.out).mono ?_); rintro e w1 ⟨rfl, h1⟩; rw [HWW.out] at h1
               have hd1 : YR W O P M X T Q lim tk kn rs es ns fs G w1.drew := h1.drewN 1
               have HS0 := Lib.hid (bxc hd1 R2.out R5.out HN.out.1 HN.out.2)
               have hk1 := kx_yr hd1 HKL.out HK.out
               have HA := Lib.hid (hd1.alloc rep ksA ksn ksc 0 0 ks hk1 hf)
               clear h1 hd1 hk1)
  go_region_held3 (fun Y => Y.cell? ⟨w.heap.size, 0, none⟩ = some (.pointer (some ⟨P, 0, none⟩)) ∧ Y.cell? ⟨P, 3, none⟩ = some (.pointer (some ⟨Q, 0, none⟩)) ∧ Y.cell? ⟨P, 2, none⟩ = some (.pointer (some ⟨T, 0, none⟩)) ∧ Y.cell? ⟨w.heap.size + 1, 0, none⟩ = some (.int .u64 (rep : Int)) ∧ Y.cell? ⟨w.heap.size + 1, 1, none⟩ = some (.slice ksA ksn ksc) ∧ Y.cell? ⟨w.heap.size + 1, 2, none⟩ = some (.int .i64 0) ∧ Y.cell? ⟨w.heap.size + 1, 3, none⟩ = some (.int .i64 0)) (first | (with_reducible exact HS0.out) | (with_reducible exact HS1.out) | go_keep)
    ((go_at_call 92; (with_reducible refine HA.out.mono ?_); rintro e w2 ⟨i, ns2, fs2, rfl, hF, h2⟩
      have HS1 := Lib.hid (bxc h2 R2.out R5.out HN.out.1 HN.out.2)
      have c2 := HS1.out.1
      have H2 := Lib.hid h2
      have HJ := Lib.hid (h2.join a i)
      have HF := Lib.hid hF
      clear h2 hF))
  all_goals
    have hi := HF.out.2.2.2.2.2
    have hwi : IntKind.u64.wrap (i : Int) = (i : Int) := by rw [IntKind.wrap_u64]; omega
    go_wp2_with (first
      | (go_at_call 93; (with_reducible refine HJ.out.mono ?_); rintro e w3 ⟨rfl, h3⟩
         have c2 := (bxc h3 R2.out R5.out HN.out.1 HN.out.2).1
         have HJ2 := Lib.hid (h3.join i bh)
         clear h3)
      | (go_at_call 93; (with_reducible refine HJ2.out.mono ?_); rintro e w4 ⟨rfl, h4⟩
         have hd4 : YR W O P M X T Q lim tk kn rs es (Yp.seta (Yp.setb (Yp.seta (Yp.setb ns2 a i) i a) i bh) bh i) fs2 (upd G i ks) w4.drew := h4.drewN 1
         have HS2 := Lib.hid (bxc hd4 R2.out R5.out HN.out.1 HN.out.2)
         have H4 := Lib.hid hd4
         clear h4 hd4))
  go_region_held3 (fun Y => Y.cell? ⟨w.heap.size, 0, none⟩ = some (.pointer (some ⟨P, 0, none⟩)) ∧ Y.cell? ⟨P, 3, none⟩ = some (.pointer (some ⟨Q, 0, none⟩)) ∧ Y.cell? ⟨P, 2, none⟩ = some (.pointer (some ⟨T, 0, none⟩)) ∧ Y.cell? ⟨w.heap.size + 1, 0, none⟩ = some (.int .u64 (rep : Int)) ∧ Y.cell? ⟨w.heap.size + 1, 1, none⟩ = some (.slice ksA ksn ksc) ∧ Y.cell? ⟨w.heap.size + 1, 2, none⟩ = some (.int .i64 0) ∧ Y.cell? ⟨w.heap.size + 1, 3, none⟩ = some (.int .i64 0)) (first | (with_reducible exact HS2.out) | (with_reducible exact HS3.out) | (with_reducible exact HS4.out) | go_keep) (first
    | (go_at_call 95; (with_reducible refine (y_name _ rep).mono ?_); rintro e w5 ⟨rfl, hb5⟩
       have h5 := H4.out.below hb5
       have HS3 := Lib.hid (bxc h5 R2.out R5.out HN.out.1 HN.out.2)
       have HP := Lib.hid (h5.put rep i hrep (by omega) HE.out hes)
       clear hb5 h5)
    | (go_at_call 94; (with_reducible refine HP.out.mono ?_); rintro e w6 ⟨rfl, h6⟩
       have HS4 := Lib.hid (bxc h6 R2.out R5.out HN.out.1 HN.out.2)
       have c2 := HS4.out.1
       have HC := Lib.hid (y_begin_carry h6 htk rep hrep w.heap.size (w.heap.size + 1) _ _ _ ((h6.same HL.out.1 HN.out.1).trans R2.out) ((h6.same HL.out.2 HN.out.2).trans R5.out) ⟨HL.out.1, HN.out.1⟩ ⟨HL.out.2, HN.out.2⟩)
       clear h6))
  all_goals
    go_wp2_with (go_at_call 80; (with_reducible refine HC.out.mono ?_); rintro e w7 ⟨rfl, t, ht, h7⟩
                 have HR := Lib.hid h7
                 have Ht := Lib.hid ht
                 clear h7 ht)
    go_end0
    exact ⟨rfl, t, i, ns2, fs2, Ht.out, HF.out, YR.trans (K.Chg.of_below HBW.out) (fun j hj => .inl hj) HR.out⟩
theorem y_begin (h : YR w0 O P M X T Q lim tk kn rs es ns fs G w) (htk : tk ≤ 100) (a : Int) (rep : Nat) (hrep : rep < 18446744073709551616) (ksA : Option Addr) (ksn ksc : Nat) (ks : List Nat) (hk : KX w (.slice ksA ksn ksc) ks) (hf : ns.length - fs.length < lim) (he : ∀ x ∈ es, x.1 ≠ (0, rep)) (hes : es.length < 1000000) :
    Calls Tryz.prog 52 #[.pointer (some ⟨P, 0, none⟩), .int .i64 a, Yp.ndv rep ksA ksn ksc 0 0] w fun e w' => e = .returned (.tuple #[]) ∧ ∃ t i ns2 fs2, t ≤ 100 ∧ AllocF ns fs ⟨rep, ksA, ksn, ksc, 0, 0⟩ i ns2 fs2 ∧
      YR w0 O P M X T Q lim (tk + t) kn (K.inL K.xfast rs lim rep) (((0, rep), i) :: es) (Yp.seta (Yp.setb (Yp.seta (Yp.setb ns2 a i) i a) i (beh ns a)) (beh ns a) i) fs2 (upd G i ks) w' := by
  obtain ⟨O', hT, hC, hO⟩ := h
  refine (y_begin_T hT htk a rep hrep ksA ksn ksc ks hk hf he hes).mono ?_
  rintro e w' ⟨he', t, i, ns2, fs2, ht, hF, hy⟩
  exact ⟨he', t, i, ns2, fs2, ht, hF, YR.trans hC hO hy⟩
end
end Go.Proofs.YtelfacchhclgnaaGreat
end
section
namespace Go.Proofs.YtelfacchhclgnaaGreat
set_option maxRecDepth 20000
open Go.RowKit
section
variable {w0 w : World} {O : Nat → Prop} {P M X T Q lim tk : Nat} {kn : Int} {rs : List Nat} {es : Es} {ns : List (Yp.Nd × Bool)} {fs : List Nat} {G : Nat → List Nat}
theorem YR.free (h : YR w0 O P M X T Q lim tk kn rs es ns fs G w) (i : Nat) (hi : Yp.lvq ns (i : Int) = true) :
    Calls Tryz.prog 100 #[.pointer (some ⟨Q, 0, none⟩), .int .i64 (i : Int)] w fun e w' => e = .returned (.bool true) ∧ YR w0 O P M X T Q lim tk kn rs es (ns.set i (Yp.Nd.z, false)) (fs ++ [i]) G w' := by
  obtain ⟨k, e, hk, e2⟩ := Yp.lvq_form hi
  obtain rfl : k = i := by omega
  refine h.pool (fun O' j hj hT ht => ?_) (fun An cn Af cf h3 hl hq hp hm => Yp.q_free w Q M lim cn cf An Af ns fs hp k hk (by rw [e2]))
  have hj' : j < ns.length := by simpa using hj
  by_cases hjk : k = j
  · subst hjk
    simp at ht
  · rw [List.getElem_set_ne hjk] at ht ⊢
    exact hT.kfree hj' ht
set_option maxHeartbeats 4000000 in
theorem y_end_T (h : YT w P M X T Q lim tk kn rs es ns fs G O) (htk : tk ≤ 100) (i rep : Nat) (hrep : rep < 18446744073709551616) (ksA : Option Addr) (ksn ksc : Nat) (ah be : Int) (hi : ns[i]? = some (⟨rep, ksA, ksn, ksc, ah, be⟩, true)) (es' : Es) (he : es.Perm (((0, rep), i) :: es')) (hes : es'.length < 1000000) :
    Calls Tryz.prog 56 #[.pointer (some ⟨P, 0, none⟩), .int .i64 (i : Int)] w fun e w' => e = .returned (.tuple #[]) ∧ ∃ t, t ≤ 100 ∧
      YR w O P M X T Q lim (tk + t) kn (K.drop rs rep) es' ((Yp.seta (Yp.setb ns ah be) be ah).set i (Yp.Nd.z, false)) (fs ++ [i]) G w' := by
  have hb : Below w.heap.size w (w.alloc (bxP P)) := (Below.refl _ w).alloc (Nat.le_refl _) _
  have r2 : (w.alloc (bxP P)).heap[w.heap.size]? = some (.cells #[.pointer (some ⟨P, 0, none⟩)] 26 (0, 0)) := K.alloc_top _ _
  have hlt := h.lt
  have hT := h.below hb
  have hy := YR.start hT
  have n2 : ¬ O w.heap.size := fun ho => by have := hlt.1 _ ho; omega
  have HN := Lib.hid n2
  have HPK := Lib.hid (hy.peek i rep ksA ksn ksc ah be hi)
  have c0 := cell_of_row (w.alloc (bxP P)) _ 0 _ _ (0, 0) r2
  have cP3 := hy.c3
  simp at c0
  have HT := Lib.hid hT
  have R2 := Lib.hid r2
  have HBW := Lib.hid hb
  have HLT := Lib.hid hlt
  have HE := Lib.hid he
  have HI := Lib.hid (Yp.lvq_some hi)
  have hmf : ∀ (fn : Fn) (first cap : Array Value) (w : World), (Instr.makeFunc fn first cap).run Tryz.prog w = .ok (.func fn first cap) w := fun _ _ _ _ => rfl
  clear h he hb r2 hlt hT hy n2 hi
  go_enter Tryz.func56, Tryz.ntmps56
  go_wp2_with (first
    | (go_at_call 78; (with_reducible refine HPK.out.mono ?_); rintro e w1 ⟨rfl, h1⟩
       obtain ⟨O1, hT1, hC1, hO1⟩ := h1
       have hz1 := hC1.size
       have hsz : (w.alloc (bxP P)).heap.size = w.heap.size + 1 := (by simp)
       have hn1 : ¬ O1 w.heap.size := fun ho => by rcases hO1 _ ho with e | e; exact HN.out e; omega
       have hl1 := hT1.lt
       have hb2 : Below w1.heap.size w1 (w1.alloc (Yp.ndo rep ksA ksn ksc ah be)) := (Below.refl _ w1).alloc (Nat.le_refl _) _
       have hT2 := hT1.below hb2
       have r2 := (Below.heap_alloc w1 (Yp.ndo rep ksA ksn ksc ah be) _ (by omega)).trans ((hC1.block w.heap.size (by omega) HN.out).trans R2.out)
       have r5 : (w1.alloc (Yp.ndo rep ksA ksn ksc ah be)).heap[w1.heap.size]? = some (Yp.ndo rep ksA ksn ksc ah be) := K.alloc_top _ _
       have n5 : ¬ O1 w1.heap.size := fun ho => by have := hl1.1 _ ho; omega
       have hy2 := YR.start hT2
       have hc0 := bxc hy2 r2 r5 hn1 n5
       obtain ⟨m1, m2, m3, m4, m5, m6, m7⟩ := hc0
       have HJ := Lib.hid (hy2.join ah be)
       have HN2 := Lib.hid (And.intro hn1 n5)
       have HR2 := Lib.hid r2
       have HR5 := Lib.hid r5
       have HL : Hid (w.heap.size < (w1.alloc (Yp.ndo rep ksA ksn ksc ah be)).heap.size ∧ w1.heap.size < (w1.alloc (Yp.ndo rep ksA ksn ksc ah be)).heap.size) := Lib.hid ⟨row_lt r2, row_lt r5⟩
       have HC1 := Lib.hid hC1
       have HO1 := Lib.hid hO1
       have HB2 := Lib.hid hb2
       clear hT1 hC1 hO1 hz1 hsz hn1 hl1 hb2 hT2 r2 r5 n5 hy2)
    | (go_at_call 93; (with_reducible refine HJ.out.mono ?_); rintro e w3 ⟨rfl, h3⟩
       obtain ⟨j1, j2, j3, j4, j5, j6, j7⟩ := bxc h3 HR2.out HR5.out HN2.out.1 HN2.out.2
       have HFR := Lib.hid (h3.free i (by rw [Yp.lvq_seta, Yp.lvq_setb]; exact HI.out))
       clear h3)
    | (go_at_call 100; (with_reducible refine HFR.out.mono ?_); rintro e w4 ⟨rfl, h4⟩
       have hd4 : YR (w1.alloc (Yp.ndo rep ksA ksn ksc ah be)) O1 P M X T Q lim tk kn rs es ((Yp.seta (Yp.setb ns ah be) be ah).set i (Yp.Nd.z, false)) (fs ++ [i]) G w4.drew := h4.drewN 1
       have HS2 := Lib.hid (bxc hd4 HR2.out HR5.out HN2.out.1 HN2.out.2)
       have H4 := Lib.hid hd4
       clear h4 hd4))
  go_region_held3 (fun Y => Y.cell? ⟨w.heap.size, 0, none⟩ = some (.pointer (some ⟨P, 0, none⟩)) ∧ Y.cell? ⟨P, 3, none⟩ = some (.pointer (some ⟨Q, 0, none⟩)) ∧ Y.cell? ⟨P, 2, none⟩ = some (.pointer (some ⟨T, 0, none⟩)) ∧ Y.cell? ⟨w1.heap.size, 0, none⟩ = some (.int .u64 (rep : Int)) ∧ Y.cell? ⟨w1.heap.size, 1, none⟩ = some (.slice ksA ksn ksc) ∧ Y.cell? ⟨w1.heap.size, 2, none⟩ = some (.int .i64 ah) ∧ Y.cell? ⟨w1.heap.size, 3, none⟩ = some (.int .i64 be)) (first | (with_reducible exact HS2.out) | (with_reducible exact HS3.out) | (with_reducible exact HS4.out) | go_keep) (first
    | (go_at_call 95; (with_reducible refine (y_name _ rep).mono ?_); rintro e w5 ⟨rfl, hb5⟩
       have h5 := H4.out.below hb5
       have HS3 := Lib.hid (bxc h5 HR2.out HR5.out HN2.out.1 HN2.out.2)
       have HP := Lib.hid (h5.drop rep i es' HE.out hes)
       clear hb5 h5)
    | (go_at_call 101; (with_reducible refine HP.out.mono ?_); rintro e w6 ⟨rfl, h6⟩
       have HS4 := Lib.hid (bxc h6 HR2.out HR5.out HN2.out.1 HN2.out.2)
       have c2 := HS4.out.1
       have HC := Lib.hid (y_end_carry h6 htk rep hrep w.heap.size w1.heap.size _ _ _ ((h6.same HL.out.1 HN2.out.1).trans HR2.out) ((h6.same HL.out.2 HN2.out.2).trans HR5.out) ⟨HL.out.1, HN2.out.1⟩ ⟨HL.out.2, HN2.out.2⟩)
       clear h6))
  all_goals
    go_wp2_with (go_at_call 80; (with_reducible refine HC.out.mono ?_); rintro e w7 ⟨rfl, t, ht, h7⟩
                 have HR := Lib.hid h7
                 have Ht := Lib.hid ht
                 clear h7 ht)
    go_end0
    refine ⟨rfl, t, Ht.out, ?_⟩
    have k1 := YR.trans ((HC1.out).trans (K.Chg.of_below (O := O1) HB2.out) (fun j hj => HO1.out j hj)) HO1.out HR.out
    exact YR.trans (K.Chg.of_below HBW.out) (fun j hj => .inl hj) k1
theorem y_end (h : YR w0 O P M X T Q lim tk kn rs es ns fs G w) (htk : tk ≤ 100) (i rep : Nat) (hrep : rep < 18446744073709551616) (ksA : Option Addr) (ksn ksc : Nat) (ah be : Int) (hi : ns[i]? = some (⟨rep, ksA, ksn, ksc, ah, be⟩, true)) (es' : Es) (he : es.Perm (((0, rep), i) :: es')) (hes : es'.length < 1000000) :
    Calls Tryz.prog 56 #[.pointer (some ⟨P, 0, none⟩), .int .i64 (i : Int)] w fun e w' => e = .returned (.tuple #[]) ∧ ∃ t, t ≤ 100 ∧
      YR w0 O P M X T Q lim (tk + t) kn (K.drop rs rep) es' ((Yp.seta (Yp.setb ns ah be) be ah).set i (Yp.Nd.z, false)) (fs ++ [i]) G w' := by
  obtain ⟨O', hT, hC, hO⟩ := h
  refine (y_end_T hT htk i rep hrep ksA ksn ksc ah be hi es' he hes).mono ?_
  rintro e w' ⟨he', t, ht, hy⟩
  exact ⟨he', t, ht, YR.trans hC hO hy⟩
end
end Go.Proofs.YtelfacchhclgnaaGreat
end
