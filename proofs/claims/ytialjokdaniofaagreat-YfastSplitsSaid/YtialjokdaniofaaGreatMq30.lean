/- What a call leaves of a y-fast trie; where a representative's bucket is; the texts walked. The representative ahead of a key, and its bucket; the texts walked. -/
import Derived.Test.YtialjokdaniofaaGreatMq29
section
namespace Go.Proofs.YtialjokdaniofaaGreat
set_option maxRecDepth 20000
open Go.RowKit
def YT (w : World) (P M X T Q lim tk : Nat) (kn : Int) (rs : List Nat) (es : Es) (ns : List (Yp.Nd × Bool)) (fs : List Nat) (G : Nat → List Nat) (O : Nat → Prop) : Prop :=
  ∃ OX r c seed Qt Mt n pr An cn Af cf, YB w P M X T Q lim tk kn rs es ns fs G OX r c seed Qt Mt n pr An cn Af cf ∧ O = YW P M T Q Qt Mt OX An Af
/-- What is left of it in w, from the world w0 on, where its blocks were O. -/
def YR (w0 : World) (O : Nat → Prop) (P M X T Q lim tk : Nat) (kn : Int) (rs : List Nat) (es : Es) (ns : List (Yp.Nd × Bool)) (fs : List Nat) (G : Nat → List Nat) (w : World) : Prop :=
  ∃ O', YT w P M X T Q lim tk kn rs es ns fs G O' ∧ K.Chg w0 w O ∧ ∀ j, O' j → O j ∨ w0.heap.size ≤ j
section
variable {w0 w w' : World} {O : Nat → Prop} {P M X T Q lim tk tk' : Nat} {kn kn' : Int} {rs rs' : List Nat} {es es' : Es} {ns ns' : List (Yp.Nd × Bool)} {fs fs' : List Nat} {G G' : Nat → List Nat} {OX : Nat → Prop} {r c : Int} {seed Qt Mt n pr : Nat} {An : Option Addr} {cn : Nat} {Af : Option Addr} {cf : Nat}
theorem YB.below (h : YB w P M X T Q lim tk kn rs es ns fs G OX r c seed Qt Mt n pr An cn Af cf) (b : Below w.heap.size w w') : YB w' P M X T Q lim tk kn rs es ns fs G OX r c seed Qt Mt n pr An cn Af cf :=
  h.chg (K.Chg.of_below (O := fun _ => False) b) (fun _ _ h => h)
theorem YB.drewN (h : YB w P M X T Q lim tk kn rs es ns fs G OX r c seed Qt Mt n pr An cn Af cf) (k : Nat) : YB (w.drewN k) P M X T Q lim tk kn rs es ns fs G OX r c seed Qt Mt n pr An cn Af cf :=
  h.chg ((chg_refl w (fun _ => False)).drewN k) (fun _ _ h => h)
theorem YR.start (h : YT w P M X T Q lim tk kn rs es ns fs G O) : YR w O P M X T Q lim tk kn rs es ns fs G w := ⟨O, h, chg_refl w O, fun j hj => .inl hj⟩
/-- A step more. -/
theorem YR.step {O' : Nat → Prop} {OX' : Nat → Prop} {r' c' : Int} {seed' Qt' Mt' n' pr' : Nat} {An' : Option Addr} {cn' : Nat} {Af' : Option Addr} {cf' : Nat} (hC : K.Chg w0 w O) (hO : ∀ j, O' j → O j ∨ w0.heap.size ≤ j)
    (h : YB w' P M X T Q lim tk' kn' rs' es' ns' fs' G' OX' r' c' seed' Qt' Mt' n' pr' An' cn' Af' cf') (b : K.Chg w w' O') (hi : ∀ j, YW P M T Q Qt' Mt' OX' An' Af' j → O' j ∨ w0.heap.size ≤ j) : YR w0 O P M X T Q lim tk' kn' rs' es' ns' fs' G' w' :=
  ⟨_, ⟨OX', r', c', seed', Qt', Mt', n', pr', An', cn', Af', cf', h, rfl⟩, hC.trans b hO, fun j hj => by
    rcases hi j hj with h | h
    · exact hO j h
    · exact .inr h⟩
theorem YR.below (h : YR w0 O P M X T Q lim tk kn rs es ns fs G w) (b : Below w.heap.size w w') : YR w0 O P M X T Q lim tk kn rs es ns fs G w' := by
  obtain ⟨O', ⟨OX, r, c, seed, Qt, Mt, n, pr, An, cn, Af, cf, hb, rfl⟩, hC, hO⟩ := h
  exact YR.step hC hO (hb.below b) (K.Chg.of_below b) (fun j hj => .inl hj)
theorem YR.drewN (h : YR w0 O P M X T Q lim tk kn rs es ns fs G w) (k : Nat) : YR w0 O P M X T Q lim tk kn rs es ns fs G (w.drewN k) := by
  obtain ⟨O', ⟨OX, r, c, seed, Qt, Mt, n, pr, An, cn, Af, cf, hb, rfl⟩, hC, hO⟩ := h
  exact YR.step hC hO (hb.drewN k) ((chg_refl w _).drewN k) (fun j hj => .inl hj)
theorem YR.row (h : YR w0 O P M X T Q lim tk kn rs es ns fs G w) : w.heap[P]? = some (yrow P M X T Q lim kn) := by
  obtain ⟨O', ⟨OX, r, c, seed, Qt, Mt, n, pr, An, cn, Af, cf, hb, rfl⟩, hC, hO⟩ := h
  exact hb.row
theorem YR.c0 (h : YR w0 O P M X T Q lim tk kn rs es ns fs G w) : w.cell? ⟨P, 0, none⟩ = some (.pointer (some ⟨M, 0, none⟩)) := cell_of_row w P 0 _ _ (0, 0) h.row
theorem YR.c1 (h : YR w0 O P M X T Q lim tk kn rs es ns fs G w) : w.cell? ⟨P, 1, none⟩ = some (.pointer (some ⟨X, 0, none⟩)) := cell_of_row w P 1 _ _ (0, 0) h.row
theorem YR.c2 (h : YR w0 O P M X T Q lim tk kn rs es ns fs G w) : w.cell? ⟨P, 2, none⟩ = some (.pointer (some ⟨T, 0, none⟩)) := cell_of_row w P 2 _ _ (0, 0) h.row
theorem YR.c3 (h : YR w0 O P M X T Q lim tk kn rs es ns fs G w) : w.cell? ⟨P, 3, none⟩ = some (.pointer (some ⟨Q, 0, none⟩)) := cell_of_row w P 3 _ _ (0, 0) h.row
theorem YR.c4 (h : YR w0 O P M X T Q lim tk kn rs es ns fs G w) : w.cell? ⟨P, 4, none⟩ = some (.int .i64 kn) := cell_of_row w P 4 _ _ (0, 0) h.row
theorem YR.c5 (h : YR w0 O P M X T Q lim tk kn rs es ns fs G w) : w.cell? ⟨P, 5, none⟩ = some (.int .i64 (lim : Int)) := cell_of_row w P 5 _ _ (0, 0) h.row
theorem YR.size (h : YR w0 O P M X T Q lim tk kn rs es ns fs G w) : w0.heap.size ≤ w.heap.size := by
  obtain ⟨_, _, hC, _⟩ := h
  exact hC.size
/-- The meter is another one then. -/
theorem YR.met (h : YR w0 O P M X T Q lim tk kn rs es ns fs G w) (b : K.Chg w w' (· = M)) (hm : Yp.Mx w' M tk') : YR w0 O P M X T Q lim tk' kn rs es ns fs G w' := by
  obtain ⟨O', ⟨OX, r, c, seed, Qt, Mt, n, pr, An, cn, Af, cf, hb, rfl⟩, hC, hO⟩ := h
  exact YR.step hC hO (hb.met b hm) (b.mono (fun j e => .inr (.inl e))) (fun j hj => .inl hj)
theorem YR.mx (h : YR w0 O P M X T Q lim tk kn rs es ns fs G w) : Yp.Mx w M tk := by
  obtain ⟨O', ⟨OX, r, c, seed, Qt, Mt, n, pr, An, cn, Af, cf, hb, rfl⟩, hC, hO⟩ := h
  exact hb.mx
/-- How many keys there are is another number then. -/
theorem YR.cnt (h : YR w0 O P M X T Q lim tk kn rs es ns fs G w) (k : Int) : YR w0 O P M X T Q lim tk k rs es ns fs G (w.setCell ⟨P, 4, none⟩ (.int .i64 k)) := by
  obtain ⟨O', ⟨OX, r, c, seed, Qt, Mt, n, pr, An, cn, Af, cf, hb, rfl⟩, hC, hO⟩ := h
  exact YR.step hC hO (hb.cnt k) (chg_set w P 4 _ _ (.inl rfl)) (fun j hj => .inl hj)
end
theorem key_res' {fn : Func} {u : Tmp} (h : fn.results = #[.cell u 137]) (tmps : Array Value) (w : World) (g : Nat) (a b : Value) (hu : tmps.getD u undef = .pointer (some ⟨g, 0, none⟩))
    (hc : w.heap[g]? = some (.cells #[a, b] 137 (0, 0))) : (results fn tmps).run Tryz.prog w = .ok (.agg #[a, b]) w := by
  letI : Gh := ⟨0, 0⟩
  exact key_res h tmps w g a b hu hc
theorem y_name (w : World) (k : Nat) : Calls Tryz.prog 95 #[.int .u64 (k : Int)] w fun e w' => e = .returned (.agg #[.int .u8 0, .int .u64 (k : Int)]) ∧ Below w.heap.size w w' := by
  go_enter Tryz.func95, Tryz.ntmps95
  go_wp2
  exact bodyPost_ret (key_res' rfl _ _ w.heap.size _ _ rfl (K.alloc_top _ _)) rfl ⟨rfl, (Below.refl _ w).alloc (Nat.le_refl _) _⟩
theorem tabs_yk {w : World} {P M T Q Qt Qt' Mt : Nat} {OX : Nat → Prop} {An Af : Option Addr} {B : Nat} (hq : Qt' = Qt ∨ w.heap.size ≤ Qt') (hB : B ≤ w.heap.size) : ∀ j, YW P M T Q Qt' Mt OX An Af j → YW P M T Q Qt Mt OX An Af j ∨ B ≤ j := by
  rintro j (h | h | h | (h | h | h) | h)
  · exact .inl (.inl h)
  · exact .inl (.inr (.inl h))
  · exact .inl (.inr (.inr (.inl h)))
  · exact .inl (.inr (.inr (.inr (.inl (.inl h)))))
  · rcases hq with e | e
    · exact .inl (.inr (.inr (.inr (.inl (.inr (.inl (h.trans e)))))))
    · exact .inr (by omega)
  · exact .inl (.inr (.inr (.inr (.inl (.inr (.inr h))))))
  · exact .inl (.inr (.inr (.inr (.inr h))))
section
variable {w0 w w' : World} {O : Nat → Prop} {P M X T Q lim tk tk' : Nat} {kn kn' : Int} {rs rs' : List Nat} {es es' : Es} {ns ns' : List (Yp.Nd × Bool)} {fs fs' : List Nat} {G G' : Nat → List Nat}
/-- What a call of the table of places leaves. -/
theorem YR.tabs {f : FuncId} {args : Array Value} {v : Value} (h : YR w0 O P M X T Q lim tk kn rs es ns fs G w)
    (hc : ∀ Qt Mt seed n pr, Hs.Tab w T Qt Mt seed n es pr 0 → Calls Tryz.prog f args w fun e w' => e = .returned v ∧ ∃ cl, Hs.TStep w T Qt Mt seed n es' cl w') :
    Calls Tryz.prog f args w fun e w' => e = .returned v ∧ YR w0 O P M X T Q lim tk kn rs es' ns fs G w' := by
  obtain ⟨O', ⟨OX, r, c, seed, Qt, Mt, n, pr, An, cn, Af, cf, hb, rfl⟩, hC, hO⟩ := h
  refine (hc Qt Mt seed n pr hb.tab).mono ?_
  rintro e w' ⟨he, cl, hs⟩
  obtain ⟨Qt', n', pr', h1, b, hq⟩ := hb.tabs hs
  exact ⟨he, YR.step hC hO h1 (b.mono (fun j hj => .inr (.inr (.inr (.inl hj))))) (tabs_yk hq hC.size)⟩
/-- What a call of the pool of buckets leaves. -/
theorem pool_yw {w : World} {P M T Q Qt Mt : Nat} {OX : Nat → Prop} {An Af An' Af' : Option Addr} {B : Nat} (hq : ∀ j, Yp.QB Q An' Af' j → Yp.QB Q An Af j ∨ w.heap.size ≤ j) (hB : B ≤ w.heap.size) : ∀ j, YW P M T Q Qt Mt OX An' Af' j → YW P M T Q Qt Mt OX An Af j ∨ B ≤ j := by
  rintro j (h | h | h | h | h)
  · exact .inl (.inl h)
  · exact .inl (.inr (.inl h))
  · exact .inl (.inr (.inr (.inl h)))
  · exact .inl (.inr (.inr (.inr (.inl h))))
  · rcases hq j h with e | e
    · exact .inl (.inr (.inr (.inr (.inr e))))
    · exact .inr (by omega)
/-- The key-blocks of a node lie apart of what the trie writes. -/
def Kfree (w : World) (O : Nat → Prop) (x : Yp.Nd) (xs : List Nat) : Prop := KX w (ksl x) xs ∧ ∀ j, x.ksA.map (·.block) = some j → ¬ O j
theorem YR.pool {f : FuncId} {args : Array Value} {v : Value} (h : YR w0 O P M X T Q lim tk kn rs es ns fs G w)
    (hk : ∀ O' i (hi : i < ns'.length), YT w P M X T Q lim tk kn rs es ns fs G O' → ns'[i].2 = true → Kfree w O' ns'[i].1 (G' i))
    (hc : ∀ An cn Af cf, w.cell? ⟨P, 3, none⟩ = some (.pointer (some ⟨Q, 0, none⟩)) → P < w.heap.size → ¬ Yp.QB Q An Af P → Yp.Qo w Q M lim An cn Af cf ns fs → Yp.Mx w M tk → Calls Tryz.prog f args w fun e w' => e = .returned v ∧ Yp.QStep w Q M lim An Af ns' fs' w') :
    Calls Tryz.prog f args w fun e w' => e = .returned v ∧ YR w0 O P M X T Q lim tk kn rs es ns' fs' G' w' := by
  have h3 := h.c3
  have hlt := row_lt h.row
  obtain ⟨O', hT, hC, hO⟩ := h
  have hk' := fun i hi => hk O' i hi hT
  obtain ⟨OX, r, c, seed, Qt, Mt, n, pr, An, cn, Af, cf, hb, rfl⟩ := hT
  refine (hc An cn Af cf h3 hlt hb.P_Q hb.po hb.mx).mono ?_
  rintro e w' ⟨he, hs⟩
  obtain ⟨An', cn', Af', cf', h1, b, hq⟩ := hb.pool hs (fun i hi ht => ⟨(hk' i hi ht).1, fun j hj ho => (hk' i hi ht).2 j hj (.inr (.inr (.inl ho)))⟩)
  exact ⟨he, YR.step hC hO h1 (b.mono (fun j hj => .inr (.inr (.inr (.inr hj))))) (pool_yw hq hC.size)⟩
/-- The trie's own nodes are so. -/
theorem YT.kfree {O' : Nat → Prop} (h : YT w P M X T Q lim tk kn rs es ns fs G O') {i : Nat} (hi : i < ns.length) (ht : ns[i].2 = true) : Kfree w O' ns[i].1 (G i) := by
  obtain ⟨OX, r, c, seed, Qt, Mt, n, pr, An, cn, Af, cf, hb, rfl⟩ := h
  refine ⟨hb.ks i hi ht, fun j hj ho => ?_⟩
  have hk : KBl ns j := ⟨ns[i], List.getElem_mem _, ht, hj⟩
  rcases ho with e | e | e | e | e
  · subst e; exact hb.P_K hk
  · subst e; exact hb.M_K hk
  · exact (hb.a1 j e).2.2.2.2 hk
  · exact hb.T_K e hk
  · exact hb.Q_K e hk
theorem YR.trans {w1 : World} {O1 : Nat → Prop} (hC : K.Chg w0 w1 O) (hO : ∀ j, O1 j → O j ∨ w0.heap.size ≤ j) (k : YR w1 O1 P M X T Q lim tk kn rs es ns fs G w) : YR w0 O P M X T Q lim tk kn rs es ns fs G w := by
  obtain ⟨O', h1, h2, h3⟩ := k
  refine ⟨O', h1, hC.trans h2 hO, fun j hj => ?_⟩
  rcases h3 j hj with h | h
  · exact hO j h
  · exact .inr (Nat.le_trans hC.size h)
theorem YT.lt {O' : Nat → Prop} (h : YT w P M X T Q lim tk kn rs es ns fs G O') : (∀ j, O' j → j < w.heap.size) ∧ ∀ j, KBl ns j → j < w.heap.size := by
  obtain ⟨OX, r, c, seed, Qt, Mt, n, pr, An, cn, Af, cf, hb, rfl⟩ := h
  exact ⟨fun j hj => hb.lt hj.yk, fun j hj => hb.lt (.inr (.inr (.inr (.inr (.inr hj)))))⟩
theorem YT.below {O' : Nat → Prop} (h : YT w P M X T Q lim tk kn rs es ns fs G O') (b : Below w.heap.size w w') : YT w' P M X T Q lim tk kn rs es ns fs G O' := by
  obtain ⟨OX, r, c, seed, Qt, Mt, n, pr, An, cn, Af, cf, hb, rfl⟩ := h
  exact ⟨OX, r, c, seed, Qt, Mt, n, pr, An, cn, Af, cf, hb.below b, rfl⟩
theorem YT.chg {O' O2 : Nat → Prop} (h : YT w P M X T Q lim tk kn rs es ns fs G O') (b : K.Chg w w' O2) (h1 : ∀ j, O' j → ¬ O2 j) (h2 : ∀ j, KBl ns j → ¬ O2 j) : YT w' P M X T Q lim tk kn rs es ns fs G O' := by
  obtain ⟨OX, r, c, seed, Qt, Mt, n, pr, An, cn, Af, cf, hb, rfl⟩ := h
  refine ⟨OX, r, c, seed, Qt, Mt, n, pr, An, cn, Af, cf, hb.chg b (fun j hj => ?_), rfl⟩
  rcases hj with h | h | h | h | h | h
  · exact h1 j (.inl h)
  · exact h1 j (.inr (.inl h))
  · exact h1 j (.inr (.inr (.inl h)))
  · exact h1 j (.inr (.inr (.inr (.inl h))))
  · exact h1 j (.inr (.inr (.inr (.inr h))))
  · exact h2 j h
/-- Blocks that were there, but not the trie's, are as they were. -/
theorem YR.same (h : YR w0 O P M X T Q lim tk kn rs es ns fs G w) {j : Nat} (hj : j < w0.heap.size) (hn : ¬ O j) : w.heap[j]? = w0.heap[j]? := by
  obtain ⟨_, _, hC, _⟩ := h
  exact hC.block j hj hn
theorem y_get (h : YR w0 O P M X T Q lim tk kn rs es ns fs G w) (k v : Nat) (hv : ((0, k), v) ∈ es) :
    Calls Tryz.prog 111 #[.pointer (some ⟨T, 0, none⟩), .agg #[.int .u8 0, .int .u64 (k : Int)]] w fun e w' => e = .returned (.tuple #[.int .u64 (v : Int), .bool true]) ∧ YR w0 O P M X T Q lim tk kn rs es ns fs G w' :=
  h.tabs fun Qt Mt seed n pr ht => (Hs.tab_get w T Qt Mt seed n pr 0 es ht (0, k) (show (0 : Nat) < 256 by decide) (by decide) v true (.inl ⟨rfl, hv⟩)).mono fun e w' ⟨h1, h2⟩ => ⟨h1, _, h2⟩
set_option maxHeartbeats 1000000 in
theorem y_place (h : YR w0 O P M X T Q lim tk kn rs es ns fs G w) (k v : Nat) (hv : ((0, k), v) ∈ es) (hvl : v < 1048576) :
    Calls Tryz.prog 79 #[.pointer (some ⟨P, 0, none⟩), .int .u64 (k : Int)] w fun e w' => e = .returned (.int .i64 (v : Int)) ∧ YR w0 O P M X T Q lim tk kn rs es ns fs G w' := by
  have hw : IntKind.i64.wrap (v : Int) = (v : Int) := IntWalk.i64_in _ (by omega)
  have HV := Lib.hid hv
  have HS0 : Hid (w.drew.cell? ⟨P, 2, none⟩ = some (.pointer (some ⟨T, 0, none⟩))) := Lib.hid h.c2
  have H := Lib.hid (h.drewN 1)
  clear h hv
  go_enter Tryz.func79, Tryz.ntmps79
  go_wp2
  go_region_held3 (fun Y => Y.cell? ⟨P, 2, none⟩ = some (.pointer (some ⟨T, 0, none⟩))) (first | (with_reducible exact HS0.out) | (with_reducible exact HS1.out) | (with_reducible exact HS2.out) | go_keep) (first
    | (go_at_call 95; (with_reducible refine (y_name _ k).mono ?_); rintro e w1 ⟨rfl, hb1⟩
       have h1 := H.out.below hb1
       have HS1 := Lib.hid h1.c2
       have H1 := Lib.hid h1
       clear hb1 h1)
    | (go_at_call 111; (with_reducible refine (y_get H1.out k v HV.out).mono ?_); rintro e w2 ⟨rfl, h2⟩
       have HS2 := Lib.hid h2.c2
       have H2 := Lib.hid h2
       clear h2))
  all_goals
    go_wp2
    go_ret
    exact ⟨rfl, H2.out⟩
end
end Go.Proofs.YtialjokdaniofaaGreat
end
section
namespace Go.Proofs.YtialjokdaniofaaGreat
set_option maxRecDepth 20000
open Go.RowKit
theorem xg_few {r c : Int} {w : World} {X lim tk : Nat} {xs : List Nat} {O : Nat → Prop} (h : XG r c w X xs lim tk O) : tk ≤ 100 ∨ tk = 2000000 := by
  letI : Gh := ⟨r, c⟩
  obtain ⟨C, Q, M, P, L, es, hs⟩ := h
  exact hs.few
/-- What a call of the trie of representatives leaves. -/
def XP (r c : Int) (w : World) (X : Nat) (OX : Nat → Prop) (v : Value) (xs : List Nat) (lim most : Nat) (e : Ending) (w' : World) : Prop :=
  e = .returned v ∧ ∃ t OX', XG r c w' X xs lim t OX' ∧ t ≤ most ∧ K.Chg w w' OX ∧ ∀ j, OX' j → OX j ∨ w.heap.size ≤ j
section
variable {r c : Int} {w : World} {X lim : Nat} {xs : List Nat} {OX : Nat → Prop} (h : XG r c w X xs lim 2000000 OX) (k : Nat) (hk : k < 18446744073709551616)
include h hk
theorem xg_prev : Calls Tryz.prog 82 #[.pointer (some ⟨X, 0, none⟩), .int .u64 (k : Int)] w (XP r c w X OX (.tuple #[.int .u64 ((K.pv xs k : Nat) : Int), .bool (K.pvb xs k)]) xs lim 9) := by
  letI : Gh := ⟨r, c⟩
  obtain ⟨C, Q, M, P, L, es, hs⟩ := h
  exact (x_prev w X C Q M P lim 2000000 xs L es OX hs rfl k hk).mono fun e w' ⟨t, O', he, hT, ht, hC, hO⟩ => ⟨he, t, O', hT, ht, hC, hO⟩
theorem xg_insert : Calls Tryz.prog 97 #[.pointer (some ⟨X, 0, none⟩), .int .u64 (k : Int)] w (XP r c w X OX (.int .i64 ((K.inE K.xfast xs lim k : Nat) : Int)) (K.inL K.xfast xs lim k) lim 1073741824) := by
  letI : Gh := ⟨r, c⟩
  obtain ⟨C, Q, M, P, L, es, hs⟩ := h
  exact (x_insert w X C Q M P lim 2000000 xs L es OX hs rfl k hk).mono fun e w' ⟨t, O', he, hT, ht, hC, hO⟩ => ⟨he, t, O', hT, ht, hC, hO⟩
end
/-- Behind a call of the representatives. -/
theorem YB.after {w w' : World} {P M X T Q lim tk : Nat} {kn : Int} {rs rs' : List Nat} {es : Es} {ns : List (Yp.Nd × Bool)} {fs : List Nat} {G : Nat → List Nat} {OX OX' : Nat → Prop} {r c r' c' : Int} {seed Qt Mt n pr t : Nat} {An : Option Addr} {cn : Nat} {Af : Option Addr} {cf : Nat}
    (h : YB w P M X T Q lim tk kn rs es ns fs G OX r c seed Qt Mt n pr An cn Af cf) (hx : XG r' c' w' X rs' lim t OX') (b : K.Chg w w' OX) (hO : ∀ j, OX' j → OX j ∨ w.heap.size ≤ j) :
    ∃ r2 c2, YB w' P M X T Q lim tk kn rs' es ns fs G OX' r2 c2 seed Qt Mt n pr An cn Af cf := by
  obtain ⟨_, r2, c2, _, _, _, _, _, hx2, _⟩ := xg_now hx
  exact ⟨r2, c2, h.xx b hx2 hO⟩
theorem xx_yw {w : World} {P M T Q Qt Mt : Nat} {OX OX' : Nat → Prop} {An Af : Option Addr} {B : Nat} (hO : ∀ j, OX' j → OX j ∨ w.heap.size ≤ j) (hB : B ≤ w.heap.size) : ∀ j, YW P M T Q Qt Mt OX' An Af j → YW P M T Q Qt Mt OX An Af j ∨ B ≤ j := by
  rintro j (h | h | h | h | h)
  · exact .inl (.inl h)
  · exact .inl (.inr (.inl h))
  · rcases hO j h with e | e
    · exact .inl (.inr (.inr (.inl e)))
    · exact .inr (by omega)
  · exact .inl (.inr (.inr (.inr (.inl h))))
  · exact .inl (.inr (.inr (.inr (.inr h))))
section
variable {w : World} {P M X T Q lim tk : Nat} {kn : Int} {rs : List Nat} {es : Es} {ns : List (Yp.Nd × Bool)} {fs : List Nat} {G : Nat → List Nat}
set_option maxHeartbeats 2000000 in
/-- The closure of find: w has the boxes, none of them the trie's. -/
theorem y_find1 {OX : Nat → Prop} {r c : Int} {seed Qt Mt n pr : Nat} {An : Option Addr} {cn : Nat} {Af : Option Addr} {cf : Nat} (h : YB w P M X T Q lim tk kn rs es ns fs G OX r c seed Qt Mt n pr An cn Af cf) (k : Nat) (hk : k < 18446744073709551616) (b2 b3 b6 b7 : Nat)
    (h2 : w.heap[b2]? = some (.cells #[.pointer (some ⟨P, 0, none⟩)] 26 (0, 0))) (h3 : w.heap[b3]? = some (.cells #[.int .u64 (k : Int)] 22 (0, 0))) (h6 : w.heap[b6]? = some (.cells #[.int .u64 0] 22 (0, 0))) (h7 : w.heap[b7]? = some (.cells #[.bool false] 4 (0, 0)))
    (hn : ∀ j, j = b2 ∨ j = b3 ∨ j = b6 ∨ j = b7 → ¬ YK P M T Q Qt Mt OX An Af ns j) (h36 : b3 ≠ b6) :
    Calls Tryz.prog 81 #[.pointer (some ⟨b2, 0, none⟩), .pointer (some ⟨b3, 0, none⟩), .pointer (some ⟨b6, 0, none⟩), .pointer (some ⟨b7, 0, none⟩)] w fun e w' => e = .returned (.tuple #[]) ∧
      ∃ t OX' r' c', t ≤ 9 ∧ XG r c w' X rs lim t OX' ∧ YB w' P M X T Q lim tk kn rs es ns fs G OX' r' c' seed Qt Mt n pr An cn Af cf ∧ w'.heap[b6]? = some (.cells #[.int .u64 ((K.pv rs k : Nat) : Int)] 22 (0, 0)) ∧ w'.heap[b7]? = some (.cells #[.bool (K.pvb rs k)] 4 (0, 0)) ∧
        K.Chg w w' (fun j => OX j ∨ j = b6 ∨ j = b7) ∧ ∀ j, OX' j → OX j ∨ w.heap.size ≤ j := by
  have c2 := cell_of_row w b2 0 _ _ (0, 0) h2
  have c3 := cell_of_row w b3 0 _ _ (0, 0) h3
  have cP := cell_of_row w P 1 _ _ (0, 0) h.row
  simp at c2 c3 cP
  have hyd : YB w.drew P M X T Q lim tk kn rs es ns fs G OX r c seed Qt Mt n pr An cn Af cf := h.drewN 1
  have HP := Lib.hid (xg_prev hyd.xg k hk)
  have HY := Lib.hid hyd
  clear hyd
  have HN := Lib.hid hn
  have H6 := Lib.hid h6
  have H7 := Lib.hid h7
  have HS0 := Lib.hid (And.intro (show w.drew.cell? ⟨b2, 0, none⟩ = some (.pointer (some ⟨P, 0, none⟩)) from c2) (And.intro (show w.drew.cell? ⟨b3, 0, none⟩ = some (.int .u64 (k : Int)) from c3) (show w.drew.cell? ⟨P, 1, none⟩ = some (.pointer (some ⟨X, 0, none⟩)) from cP)))
  have hl2 : b2 < w.heap.size := row_lt h2
  have hl3 : b3 < w.heap.size := row_lt h3
  have hl6 : b6 < w.heap.size := row_lt h6
  have hl7 : b7 < w.heap.size := row_lt h7
  have HL := Lib.hid (And.intro hl2 (And.intro hl3 (And.intro hl6 hl7)))
  have hb67 : b6 ≠ b7 := row_ne h6 h7 (by decide)
  have HB := Lib.hid hb67
  have hne : (b2 ≠ b6 ∧ b2 ≠ b7) ∧ (b3 ≠ b6 ∧ b3 ≠ b7) ∧ (P ≠ b6 ∧ P ≠ b7) := ⟨⟨row_ne h2 h6 (by decide), row_ne h2 h7 (by decide)⟩, ⟨h36, row_ne h3 h7 (by decide)⟩, fun e => hn b6 (.inr (.inr (.inl rfl))) (.inl e.symm), fun e => hn b7 (.inr (.inr (.inr rfl))) (.inl e.symm)⟩
  have HNE := Lib.hid hne
  clear h h2 h3 h6 h7 hn hne h36 hb67 hl2 hl3 hl6 hl7 c2 c3 cP
  generalize K.pv rs k = rep at *
  generalize K.pvb rs k = ok at *
  go_enter Tryz.func81, Tryz.ntmps81
  go_wp2
  go_region_held3 (fun Y => Y.cell? ⟨b2, 0, none⟩ = some (.pointer (some ⟨P, 0, none⟩)) ∧ Y.cell? ⟨b3, 0, none⟩ = some (.int .u64 (k : Int)) ∧ Y.cell? ⟨P, 1, none⟩ = some (.pointer (some ⟨X, 0, none⟩))) (first | (with_reducible exact HS0.out) | (with_reducible exact HS1.out) | (with_reducible exact HS2.out _) | (with_reducible exact HS3.out _) | (with_reducible exact HS4.out _ _) | (with_reducible exact HS5.out _ _) | go_keep)
    ((go_at_call 82; (with_reducible refine HP.out.mono ?_); rintro e w1 ⟨rfl, t, OX', hx, ht, hC, hO⟩
      have hnx : ∀ j, j = b2 ∨ j = b3 ∨ j = b6 ∨ j = b7 → ¬ OX j := fun j hj ho => HN.out j hj (.inr (.inr (.inl ho)))
      have q6 := (hC.block b6 HL.out.2.2.1 (hnx b6 (.inr (.inr (.inl rfl))))).trans H6.out
      have q7 := (hC.block b7 HL.out.2.2.2 (hnx b7 (.inr (.inr (.inr rfl))))).trans H7.out
      have f6 := frozen_of_row w1 b6 0 _ _ q6
      have f7 := frozen_of_row w1 b7 0 _ _ q7
      have k6 := cell_of_row w1 b6 0 _ _ (0, 0) q6
      have k7 := cell_of_row w1 b7 0 _ _ (0, 0) q7
      simp at k6 k7
      have q7' := ((chg_set w1 b6 0 (.int .u64 (rep : Int)) (· = b6) rfl).block b7 (row_lt q7) (fun e => HB.out e.symm)).trans q7
      have q6' := ((chg_set w1 b7 0 (.bool ok) (· = b7) rfl).block b6 (row_lt q6) (fun e => HB.out e)).trans q6
      have f6' := frozen_of_row _ b6 0 _ _ q6'
      have f7' := frozen_of_row _ b7 0 _ _ q7'
      have k6' := cell_of_row _ b6 0 _ _ (0, 0) q6'
      have k7' := cell_of_row _ b7 0 _ _ (0, 0) q7'
      simp at k6' k7'
      clear q6' q7'
      have HS1 := Lib.hid (And.intro ((hC.cell HL.out.1 (hnx b2 (.inl rfl)) 0).trans HS0.out.1) (And.intro ((hC.cell HL.out.2.1 (hnx b3 (.inr (.inl rfl))) 0).trans HS0.out.2.1) ((hC.cell (row_lt HY.out.row) (fun ho => (HY.out.a1 P ho).1 rfl) 1).trans HS0.out.2.2)))
      have hs1 := HS1.out
      have hz1 := hC.size
      have l2 : b2 < w1.heap.size := Nat.lt_of_lt_of_le HL.out.1 hz1
      have l3 : b3 < w1.heap.size := Nat.lt_of_lt_of_le HL.out.2.1 hz1
      have lP : P < w1.heap.size := Nat.lt_of_lt_of_le (row_lt HY.out.row) hz1
      have hset := fun (W : World) (u : Value) (hz : w1.heap.size ≤ W.heap.size) (b : Nat) (hb : b = b6 ∨ b = b7) (hs : W.cell? ⟨b2, 0, none⟩ = some (.pointer (some ⟨P, 0, none⟩)) ∧ W.cell? ⟨b3, 0, none⟩ = some (.int .u64 (k : Int)) ∧ W.cell? ⟨P, 1, none⟩ = some (.pointer (some ⟨X, 0, none⟩))) =>
        (show (W.setCell ⟨b, 0, none⟩ u).cell? ⟨b2, 0, none⟩ = some (.pointer (some ⟨P, 0, none⟩)) ∧ (W.setCell ⟨b, 0, none⟩ u).cell? ⟨b3, 0, none⟩ = some (.int .u64 (k : Int)) ∧ (W.setCell ⟨b, 0, none⟩ u).cell? ⟨P, 1, none⟩ = some (.pointer (some ⟨X, 0, none⟩)) from
          ⟨((chg_set W b 0 u (· = b) rfl).cell (by omega) (by rcases hb with rfl | rfl; exact HNE.out.1.1; exact HNE.out.1.2) 0).trans hs.1, ((chg_set W b 0 u (· = b) rfl).cell (by omega) (by rcases hb with rfl | rfl; exact HNE.out.2.1.1; exact HNE.out.2.1.2) 0).trans hs.2.1, ((chg_set W b 0 u (· = b) rfl).cell (by omega) (by rcases hb with rfl | rfl; exact HNE.out.2.2.1; exact HNE.out.2.2.2) 1).trans hs.2.2⟩)
      have HS2 := Lib.hid (fun u => hset w1 u (Nat.le_refl _) b6 (.inl rfl) hs1)
      have HS3 := Lib.hid (fun u => hset w1 u (Nat.le_refl _) b7 (.inr rfl) hs1)
      have HS4 := Lib.hid (fun u v => hset (w1.setCell ⟨b6, 0, none⟩ u) v (by simp [World.setCell]) b7 (.inr rfl) (hset w1 u (Nat.le_refl _) b6 (.inl rfl) hs1))
      have HS5 := Lib.hid (fun u v => hset (w1.setCell ⟨b7, 0, none⟩ u) v (by simp [World.setCell]) b6 (.inl rfl) (hset w1 u (Nat.le_refl _) b7 (.inr rfl) hs1))
      clear hset hs1 hz1 l2 l3 lP
      have HX := Lib.hid hx
      have HT := Lib.hid ht
      have HC := Lib.hid hC
      have HO := Lib.hid hO
      have Q6 := Lib.hid q6
      have Q7 := Lib.hid q7
      clear hx ht hC hO hnx q6 q7))
  all_goals
    go_end0
    obtain ⟨r2, c2, hY1⟩ := HY.out.after HX.out HC.out HO.out
    have hcs : K.Chg w1 ((w1.setCell ⟨b6, 0, none⟩ (.int .u64 (rep : Int))).setCell ⟨b7, 0, none⟩ (.bool ok)) (fun j => j = b6 ∨ j = b7) := (chg_set w1 b6 0 _ _ (.inl rfl)).same (chg_set _ b7 0 _ _ (.inr rfl))
    have hz : ∀ j, w.heap.size ≤ j → ¬ (j = b6 ∨ j = b7) := fun j hj e => by
      have h1 := HL.out.2.2.1
      have h2 := HL.out.2.2.2
      omega
    have hk0 : ∀ j, YK P M T Q Qt Mt OX An Af ns j → ¬ (j = b6 ∨ j = b7) := fun j hj e => HN.out j (.inr (.inr e)) hj
    have hx' : ∀ j, OX' j → ¬ (j = b6 ∨ j = b7) := fun j hj => by
      rcases HO.out j hj with h | h
      · exact hk0 j (.inr (.inr (.inl h)))
      · exact hz j h
    refine ⟨rfl, t, OX', r2, c2, HT.out, xg_chg HX.out hcs hx', hY1.chg hcs (fun j hj => ?_), ?_, ?_, ?_, HO.out⟩
    · rcases hj with h | h | h | h | h | h
      · exact hk0 j (.inl h)
      · exact hk0 j (.inr (.inl h))
      · exact hx' j h
      · exact hk0 j (.inr (.inr (.inr (.inl h))))
      · exact hk0 j (.inr (.inr (.inr (.inr (.inl h)))))
      · exact hk0 j (.inr (.inr (.inr (.inr (.inr h)))))
    · have h1 := row_set Q6.out 0 (.int .u64 (rep : Int))
      have h2 := ((chg_set (w1.setCell ⟨b6, 0, none⟩ (.int .u64 (rep : Int))) b7 0 (.bool ok) (· = b7) rfl).block b6 (row_lt h1) (fun e => HB.out e)).trans h1
      simpa using h2
    · have h1 := ((chg_set w1 b6 0 (.int .u64 (rep : Int)) (· = b6) rfl).block b7 (row_lt Q7.out) (fun e => HB.out e.symm)).trans Q7.out
      have h2 := row_set h1 0 (.bool ok)
      simpa using h2
    · have hd : K.Chg w w.drew (fun j => OX j ∨ j = b6 ∨ j = b7) := (chg_refl w _).drewN 1
      exact (hd.same (HC.out.mono (fun j h => .inl h))).same (hcs.mono (fun j h => .inr h))
end
end Go.Proofs.YtialjokdaniofaaGreat
end
