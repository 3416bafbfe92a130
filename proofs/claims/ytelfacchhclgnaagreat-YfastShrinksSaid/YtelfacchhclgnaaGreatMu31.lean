/- A y-fast trie in memory: its parts, what is apart, what stays. What a call leaves of a y-fast trie; where a representative's bucket is; the texts walked. -/
import Derived.Test.YtelfacchhclgnaaGreatMu30
section
namespace Go.Proofs.YtelfacchhclgnaaGreat
set_option maxRecDepth 20000
open Go.RowKit
/-- The blocks of its lists of keys. -/
def KBl (ns : List (Yp.Nd × Bool)) (j : Nat) : Prop := ∃ x ∈ ns, x.2 = true ∧ x.1.ksA.map (·.block) = some j
abbrev yrow (P M X T Q lim : Nat) (kn : Int) : Obj := .cells #[.pointer (some ⟨M, 0, none⟩), .pointer (some ⟨X, 0, none⟩), .pointer (some ⟨T, 0, none⟩), .pointer (some ⟨Q, 0, none⟩), .int .i64 kn, .int .i64 (lim : Int)] 45 (0, 0)
abbrev ksl (x : Yp.Nd) : Value := .slice x.ksA x.ksn x.ksc
structure YB (w : World) (P M X T Q lim tk : Nat) (kn : Int) (rs : List Nat) (es : Es) (ns : List (Yp.Nd × Bool)) (fs : List Nat) (G : Nat → List Nat) (OX : Nat → Prop) (r c : Int) (seed Qt Mt n pr : Nat) (An : Option Addr) (cn : Nat) (Af : Option Addr) (cf : Nat) : Prop where
  row : w.heap[P]? = some (yrow P M X T Q lim kn)
  mx : Yp.Mx w M tk
  xg : XG r c w X rs lim 2000000 OX
  tab : Hs.Tab w T Qt Mt seed n es pr 0
  po : Yp.Qo w Q M lim An cn Af cf ns fs
  ks : ∀ i (h : i < ns.length), ns[i].2 = true → KX w (ksl ns[i].1) (G i)
  a1 : ∀ j, OX j → j ≠ P ∧ j ≠ M ∧ ¬ Hs.TF T Qt Mt j ∧ ¬ Yp.QB Q An Af j ∧ ¬ KBl ns j
  a2 : M ≠ Mt
/-- All its blocks. -/
def YK (P M T Q Qt Mt : Nat) (OX : Nat → Prop) (An Af : Option Addr) (ns : List (Yp.Nd × Bool)) (j : Nat) : Prop := j = P ∨ j = M ∨ OX j ∨ Hs.TF T Qt Mt j ∨ Yp.QB Q An Af j ∨ KBl ns j
/-- The blocks that it writes. -/
def YW (P M T Q Qt Mt : Nat) (OX : Nat → Prop) (An Af : Option Addr) (j : Nat) : Prop := j = P ∨ j = M ∨ OX j ∨ Hs.TF T Qt Mt j ∨ Yp.QB Q An Af j
theorem YW.yk {P M T Q Qt Mt : Nat} {OX : Nat → Prop} {An Af : Option Addr} {ns : List (Yp.Nd × Bool)} {j : Nat} (h : YW P M T Q Qt Mt OX An Af j) : YK P M T Q Qt Mt OX An Af ns j := by
  rcases h with h | h | h | h | h
  · exact .inl h
  · exact .inr (.inl h)
  · exact .inr (.inr (.inl h))
  · exact .inr (.inr (.inr (.inl h)))
  · exact .inr (.inr (.inr (.inr (.inl h))))
/-- Of what kind a block is. -/
def Bt (w : World) (j : Nat) (t : TypeId) : Prop := ∃ cs, w.heap[j]? = some (.cells cs t (0, 0))
theorem Bt.ne {w : World} {j k : Nat} {t u : TypeId} (h : Bt w j t) (h' : Bt w k u) (ht : t ≠ u) : j ≠ k := by
  obtain ⟨a, ha⟩ := h
  obtain ⟨b, hb⟩ := h'
  exact row_ne ha hb ht
theorem Bt.lt {w : World} {j : Nat} {t : TypeId} (h : Bt w j t) : j < w.heap.size := by
  obtain ⟨a, ha⟩ := h
  exact row_lt ha
theorem kx_bt {w : World} {A : Option Addr} {n c j : Nat} {xs : List Nat} (h : KX w (.slice A n c) xs) (hj : A.map (·.block) = some j) : Bt w j 22 := by
  rcases h.2 with ⟨e, _⟩ | ⟨g, cap, cur, e, _, hg, _⟩
  · injection e with e
    subst e
    cases hj
  · injection e with e
    subst e
    cases hj
    exact ⟨_, hg⟩
section
variable {w w' : World} {P M X T Q lim tk : Nat} {kn : Int} {rs : List Nat} {es : Es} {ns : List (Yp.Nd × Bool)} {fs : List Nat} {G : Nat → List Nat} {OX : Nat → Prop} {r c : Int} {seed Qt Mt n pr : Nat} {An : Option Addr} {cn : Nat} {Af : Option Addr} {cf : Nat}
theorem YB.bP (h : YB w P M X T Q lim tk kn rs es ns fs G OX r c seed Qt Mt n pr An cn Af cf) : Bt w P 45 := ⟨_, h.row⟩
theorem YB.bM (h : YB w P M X T Q lim tk kn rs es ns fs G OX r c seed Qt Mt n pr An cn Af cf) : Bt w M 87 := by
  obtain ⟨_, _, _, _, hr⟩ := h.mx
  exact ⟨_, hr⟩
theorem YB.bT (h : YB w P M X T Q lim tk kn rs es ns fs G OX r c seed Qt Mt n pr An cn Af cf) {j : Nat} (hj : Hs.TF T Qt Mt j) : Bt w j 118 ∨ Bt w j 169 ∨ (j = Mt ∧ Bt w j 87) := by
  letI : Gh := ⟨0, 0⟩
  obtain ⟨h1, h2, h3⟩ := tab_rows h.tab
  rcases hj with rfl | rfl | rfl
  · exact .inl h1
  · exact .inr (.inl h2)
  · exact .inr (.inr ⟨rfl, h3⟩)
theorem YB.bQ (h : YB w P M X T Q lim tk kn rs es ns fs G OX r c seed Qt Mt n pr An cn Af cf) {j : Nat} (hj : Yp.QB Q An Af j) : Bt w j 78 ∨ Bt w j 153 ∨ Bt w j 3 := by
  rcases hj with rfl | hj | hj
  · exact .inl ⟨_, h.po.row⟩
  · obtain ⟨_, cur, hc⟩ := Yp.own_block_lt h.po.nodes hj
    exact .inr (.inl ⟨_, hc⟩)
  · obtain ⟨_, cur, hc⟩ := Yp.own_block_lt h.po.freed hj
    exact .inr (.inr ⟨_, hc⟩)
theorem YB.bK (h : YB w P M X T Q lim tk kn rs es ns fs G OX r c seed Qt Mt n pr An cn Af cf) {j : Nat} (hj : KBl ns j) : Bt w j 22 := by
  obtain ⟨x, hx, ht, hj⟩ := hj
  obtain ⟨i, hi, rfl⟩ := List.getElem_of_mem hx
  exact kx_bt (h.ks i hi ht) hj
theorem YB.lt (h : YB w P M X T Q lim tk kn rs es ns fs G OX r c seed Qt Mt n pr An cn Af cf) {j : Nat} (hj : YK P M T Q Qt Mt OX An Af ns j) : j < w.heap.size := by
  rcases hj with rfl | rfl | hj | hj | hj | hj
  · exact h.bP.lt
  · exact h.bM.lt
  · exact xg_lt h.xg j hj
  · rcases h.bT hj with h | h | ⟨_, h⟩ <;> exact h.lt
  · rcases h.bQ hj with h | h | h <;> exact h.lt
  · exact (h.bK hj).lt
/-- What is apart by its kind. -/
theorem YB.P_M (h : YB w P M X T Q lim tk kn rs es ns fs G OX r c seed Qt Mt n pr An cn Af cf) : P ≠ M := h.bP.ne h.bM (by decide)
theorem YB.P_T (h : YB w P M X T Q lim tk kn rs es ns fs G OX r c seed Qt Mt n pr An cn Af cf) : ¬ Hs.TF T Qt Mt P := fun hj => by
  rcases h.bT hj with h2 | h2 | ⟨_, h2⟩ <;> exact h.bP.ne h2 (by decide) rfl
theorem YB.P_Q (h : YB w P M X T Q lim tk kn rs es ns fs G OX r c seed Qt Mt n pr An cn Af cf) : ¬ Yp.QB Q An Af P := fun hj => by
  rcases h.bQ hj with h2 | h2 | h2 <;> exact h.bP.ne h2 (by decide) rfl
theorem YB.P_K (h : YB w P M X T Q lim tk kn rs es ns fs G OX r c seed Qt Mt n pr An cn Af cf) : ¬ KBl ns P := fun hj => h.bP.ne (h.bK hj) (by decide) rfl
theorem YB.M_T (h : YB w P M X T Q lim tk kn rs es ns fs G OX r c seed Qt Mt n pr An cn Af cf) : ¬ Hs.TF T Qt Mt M := fun hj => by
  rcases h.bT hj with h2 | h2 | ⟨e, _⟩
  · exact h.bM.ne h2 (by decide) rfl
  · exact h.bM.ne h2 (by decide) rfl
  · exact h.a2 e
theorem YB.M_Q (h : YB w P M X T Q lim tk kn rs es ns fs G OX r c seed Qt Mt n pr An cn Af cf) : ¬ Yp.QB Q An Af M := fun hj => by
  rcases h.bQ hj with h2 | h2 | h2 <;> exact h.bM.ne h2 (by decide) rfl
theorem YB.M_K (h : YB w P M X T Q lim tk kn rs es ns fs G OX r c seed Qt Mt n pr An cn Af cf) : ¬ KBl ns M := fun hj => h.bM.ne (h.bK hj) (by decide) rfl
theorem YB.T_Q (h : YB w P M X T Q lim tk kn rs es ns fs G OX r c seed Qt Mt n pr An cn Af cf) {j : Nat} (h1 : Hs.TF T Qt Mt j) (h2 : Yp.QB Q An Af j) : False := by
  rcases h.bT h1 with h3 | h3 | ⟨_, h3⟩ <;> rcases h.bQ h2 with h4 | h4 | h4 <;> exact h3.ne h4 (by decide) rfl
theorem YB.T_K (h : YB w P M X T Q lim tk kn rs es ns fs G OX r c seed Qt Mt n pr An cn Af cf) {j : Nat} (h1 : Hs.TF T Qt Mt j) (h2 : KBl ns j) : False := by
  rcases h.bT h1 with h3 | h3 | ⟨_, h3⟩ <;> exact h3.ne (h.bK h2) (by decide) rfl
theorem YB.Q_K (h : YB w P M X T Q lim tk kn rs es ns fs G OX r c seed Qt Mt n pr An cn Af cf) {j : Nat} (h1 : Yp.QB Q An Af j) (h2 : KBl ns j) : False := by
  rcases h.bQ h1 with h3 | h3 | h3 <;> exact h3.ne (h.bK h2) (by decide) rfl
theorem kx_chg {w w' : World} {O : Nat → Prop} {A : Option Addr} {n c : Nat} {xs : List Nat} (h : KX w (.slice A n c) xs) (b : K.Chg w w' O) (hO : ∀ j, A.map (·.block) = some j → ¬ O j) : KX w' (.slice A n c) xs :=
  b.kx h (fun g hg => hO g (by
    cases A with
    | none => simp [Value.ownBlock] at hg
    | some a => simpa [Value.ownBlock] using hg))
theorem YB.kss (h : YB w P M X T Q lim tk kn rs es ns fs G OX r c seed Qt Mt n pr An cn Af cf) {O : Nat → Prop} (b : K.Chg w w' O) (hO : ∀ j, KBl ns j → ¬ O j) : ∀ i (h : i < ns.length), ns[i].2 = true → KX w' (ksl ns[i].1) (G i) :=
  fun i hi ht => kx_chg (h.ks i hi ht) b (fun j hj => hO j ⟨ns[i], List.getElem_mem _, ht, hj⟩)
theorem YB.chg (h : YB w P M X T Q lim tk kn rs es ns fs G OX r c seed Qt Mt n pr An cn Af cf) {O : Nat → Prop} (b : K.Chg w w' O) (hO : ∀ j, YK P M T Q Qt Mt OX An Af ns j → ¬ O j) : YB w' P M X T Q lim tk kn rs es ns fs G OX r c seed Qt Mt n pr An cn Af cf :=
  ⟨(b.block P h.bP.lt (hO P (.inl rfl))).trans h.row, h.mx.chg b (hO M (.inr (.inl rfl))), xg_chg h.xg b (fun j hj => hO j (.inr (.inr (.inl hj)))), h.tab.but (ButS.of_chg b) (fun j hj => hO j (.inr (.inr (.inr (.inl hj))))), h.po.chg b (fun j hj => hO j (.inr (.inr (.inr (.inr (.inl hj)))))), h.kss b (fun j hj => hO j (.inr (.inr (.inr (.inr (.inr hj)))))), h.a1, h.a2⟩
theorem YB.met {tk' : Nat} (h : YB w P M X T Q lim tk kn rs es ns fs G OX r c seed Qt Mt n pr An cn Af cf) (b : K.Chg w w' (· = M)) (hm : Yp.Mx w' M tk') : YB w' P M X T Q lim tk' kn rs es ns fs G OX r c seed Qt Mt n pr An cn Af cf :=
  ⟨(b.block P h.bP.lt h.P_M).trans h.row, hm, xg_chg h.xg b (fun j hj => (h.a1 j hj).2.1), h.tab.but (ButS.of_chg b) (fun j hj e => by have e2 : j = M := e; subst e2; exact h.M_T hj), h.po.chg b (fun j hj e => by have e2 : j = M := e; subst e2; exact h.M_Q hj), h.kss b (fun j hj e => by have e2 : j = M := e; subst e2; exact h.M_K hj), h.a1, h.a2⟩
/-- The trie of representatives is another one then. -/
theorem YB.xx {rs' : List Nat} {OX' : Nat → Prop} {r' c' : Int} (h : YB w P M X T Q lim tk kn rs es ns fs G OX r c seed Qt Mt n pr An cn Af cf) (b : K.Chg w w' OX) (hx : XG r' c' w' X rs' lim 2000000 OX') (hO : ∀ j, OX' j → OX j ∨ w.heap.size ≤ j) : YB w' P M X T Q lim tk kn rs' es ns fs G OX' r' c' seed Qt Mt n pr An cn Af cf :=
  ⟨(b.block P h.bP.lt (fun hj => (h.a1 P hj).1 rfl)).trans h.row, h.mx.chg b (fun hj => (h.a1 M hj).2.1 rfl), hx, h.tab.but (ButS.of_chg b) (fun j hj ho => (h.a1 j ho).2.2.1 hj), h.po.chg b (fun j hj ho => (h.a1 j ho).2.2.2.1 hj), h.kss b (fun j hj ho => (h.a1 j ho).2.2.2.2 hj), fun j hj => by
    rcases hO j hj with h1 | h1
    · exact h.a1 j h1
    · have hn : ∀ i, YK P M T Q Qt Mt OX An Af ns i → j ≠ i := fun i hi e => by have := h.lt hi; omega
      exact ⟨hn P (.inl rfl), hn M (.inr (.inl rfl)), fun e => hn j (.inr (.inr (.inr (.inl e)))) rfl, fun e => hn j (.inr (.inr (.inr (.inr (.inl e))))) rfl, fun e => hn j (.inr (.inr (.inr (.inr (.inr e))))) rfl⟩, h.a2⟩
theorem YB.tabs {es' : Es} {cl : Nat} (h : YB w P M X T Q lim tk kn rs es ns fs G OX r c seed Qt Mt n pr An cn Af cf) (hs : Hs.TStep w T Qt Mt seed n es' cl w') :
    ∃ Qt' n' pr', YB w' P M X T Q lim tk kn rs es' ns fs G OX r c seed Qt' Mt n' pr' An cn Af cf ∧ K.Chg w w' (Hs.TF T Qt Mt) ∧ (Qt' = Qt ∨ w.heap.size ≤ Qt') := by
  obtain ⟨Qt', n', pr', ht, hb, hq, _⟩ := hs
  have b := hb.chg
  refine ⟨Qt', n', pr', ⟨(b.block P h.bP.lt h.P_T).trans h.row, h.mx.chg b h.M_T, xg_chg h.xg b (fun j hj => (h.a1 j hj).2.2.1), ht.any 0, h.po.chg b (fun j hj hj2 => h.T_Q hj2 hj), h.kss b (fun j hj hj2 => h.T_K hj2 hj), fun j hj => ?_, h.a2⟩, b, hq⟩
  obtain ⟨q1, q2, q3, q4, q5⟩ := h.a1 j hj
  refine ⟨q1, q2, fun ht => ?_, q4, q5⟩
  rcases ht with e | e | e
  · exact q3 (.inl e)
  · rcases hq with e2 | e2
    · exact q3 (.inr (.inl (e.trans e2)))
    · have := xg_lt h.xg j hj
      omega
  · exact q3 (.inr (.inr e))
/-- The pool of buckets is another one then. -/
theorem YB.pool {ns' : List (Yp.Nd × Bool)} {fs' : List Nat} {G' : Nat → List Nat} (h : YB w P M X T Q lim tk kn rs es ns fs G OX r c seed Qt Mt n pr An cn Af cf) (hq : Yp.QStep w Q M lim An Af ns' fs' w')
    (hk : ∀ i (hi : i < ns'.length), ns'[i].2 = true → KX w (ksl ns'[i].1) (G' i) ∧ ∀ j, ns'[i].1.ksA.map (·.block) = some j → ¬ OX j) :
    ∃ An' cn' Af' cf', YB w' P M X T Q lim tk kn rs es ns' fs' G' OX r c seed Qt Mt n pr An' cn' Af' cf' ∧ K.Chg w w' (Yp.QB Q An Af) ∧ ∀ j, Yp.QB Q An' Af' j → Yp.QB Q An Af j ∨ w.heap.size ≤ j := by
  obtain ⟨An', cn', Af', cf', hp, b, hO⟩ := hq
  have hx := xg_chg h.xg b (fun j hj => (h.a1 j hj).2.2.2.1)
  refine ⟨An', cn', Af', cf', ⟨(b.block P h.bP.lt h.P_Q).trans h.row, h.mx.chg b h.M_Q, hx, h.tab.but (ButS.of_chg b) (fun j hj hj2 => h.T_Q hj hj2), hp, fun i hi ht => ?_, fun j hj => ?_, h.a2⟩, b, hO⟩
  · refine kx_chg (hk i hi ht).1 b (fun j hj hj2 => ?_)
    have h1 := kx_bt (hk i hi ht).1 hj
    rcases h.bQ hj2 with h2 | h2 | h2 <;> exact h1.ne h2 (by decide) rfl
  · obtain ⟨q1, q2, q3, q4, q5⟩ := h.a1 j hj
    refine ⟨q1, q2, q3, fun hq => ?_, fun hkb => ?_⟩
    · rcases hO j hq with e | e
      · exact q4 e
      · have := xg_lt h.xg j hj
        omega
    · obtain ⟨x, hx, ht, he⟩ := hkb
      obtain ⟨i, hi, rfl⟩ := List.getElem_of_mem hx
      exact (hk i hi ht).2 j he hj
theorem YB.cnt (h : YB w P M X T Q lim tk kn rs es ns fs G OX r c seed Qt Mt n pr An cn Af cf) (k : Int) : YB (w.setCell ⟨P, 4, none⟩ (.int .i64 k)) P M X T Q lim tk k rs es ns fs G OX r c seed Qt Mt n pr An cn Af cf := by
  have b := chg_set w P 4 (.int .i64 k) (· = P) rfl
  refine ⟨?_, h.mx.chg b (fun e => h.P_M e.symm), xg_chg h.xg b (fun j hj => (h.a1 j hj).1), h.tab.but (ButS.of_chg b) (fun j hj e => ?_), h.po.chg b (fun j hj e => ?_), h.kss b (fun j hj e => ?_), h.a1, h.a2⟩
  · have := row_set h.row 4 (.int .i64 k)
    simpa using this
  · have e2 : j = P := e
    subst e2
    exact h.P_T hj
  · have e2 : j = P := e
    subst e2
    exact h.P_Q hj
  · have e2 : j = P := e
    subst e2
    exact h.P_K hj
end
end Go.Proofs.YtelfacchhclgnaaGreat
end
section
namespace Go.Proofs.YtelfacchhclgnaaGreat
set_option maxRecDepth 20000
open Go.RowKit
def YT (w : World) (P M X T Q lim tk : Nat) (kn : Int) (rs : List Nat) (es : Es) (ns : List (Yp.Nd × Bool)) (fs : List Nat) (G : Nat → List Nat) (O : Nat → Prop) : Prop :=
  ∃ OX r c seed Qt Mt n pr An cn Af cf, YB w P M X T Q lim tk kn rs es ns fs G OX r c seed Qt Mt n pr An cn Af cf ∧ O = YW P M T Q Qt Mt OX An Af
/-- What is left of it in w, from the world w0 on, where its blocks were O. -/
def YR (w0 : World) (O : Nat → Prop) (P M X T Q lim tk : Nat) (kn : Int) (rs : List Nat) (es : Es) (ns : List (Yp.Nd × Bool)) (fs : List Nat) (G : Nat → List Nat) (w : World) : Prop :=
  ∃ O', YT w P M X T Q lim tk kn rs es ns fs G O' ∧ K.Chg w0 w O ∧ ∀ j, O' j → O j ∨ w0.heap.size ≤ j
section
variable {w0 w w' : World} {O : Nat → Prop} {P M X T Q lim tk tk' : Nat} {kn kn' : Int} {rs rs' : List Nat} {es es' : Es} {ns ns' : List (Yp.Nd × Bool)} {fs fs' : List Nat} {G G' : Nat → List Nat} {OX : Nat → Prop} {r c : Int} {seed Qt Mt n pr : Nat} {An : Option Addr} {cn : Nat} {Af : Option Addr} {cf : Nat}
theorem YB.below (h : YB w P M X T Q lim tk kn rs es ns fs G OX r c seed Qt Mt n pr An cn Af cf) (b : Below w.heap.size w w') : YB w' P M X T Q lim tk kn rs es ns fs G OX r c seed Qt Mt n pr An cn Af cf :=
  h.chg (K.Chg.of_below (O := fun _ => False) b) (fun _ _ h => h)
theorem YB.drewN (h : YB w P M X T Q lim tk kn rs es ns fs G OX r c seed Qt Mt n pr An cn Af cf) (k : Nat) : YB (w.drewN k) P M X T Q lim tk kn rs es ns fs G OX r c seed Qt Mt n pr An cn Af cf :=
  h.chg ((chg_refl w (fun _ => False)).drewN k) (fun _ _ h => h)
theorem YR.start (h : YT w P M X T Q lim tk kn rs es ns fs G O) : YR w O P M X T Q lim tk kn rs es ns fs G w := ⟨O, h, chg_refl w O, fun j hj => .inl hj⟩
/-- A step more. -/
theorem YR.step {O' : Nat → Prop} {OX' : Nat → Prop} {r' c' : Int} {seed' Qt' Mt' n' pr' : Nat} {An' : Option Addr} {cn' : Nat} {Af' : Option Addr} {cf' : Nat} (hC : K.Chg w0 w O) (hO : ∀ j, O' j → O j ∨ w0.heap.size ≤ j)
    (h : YB w' P M X T Q lim tk' kn' rs' es' ns' fs' G' OX' r' c' seed' Qt' Mt' n' pr' An' cn' Af' cf') (b : K.Chg w w' O') (hi : ∀ j, YW P M T Q Qt' Mt' OX' An' Af' j → O' j ∨ w0.heap.size ≤ j) : YR w0 O P M X T Q lim tk' kn' rs' es' ns' fs' G' w' :=
  ⟨_, ⟨OX', r', c', seed', Qt', Mt', n', pr', An', cn', Af', cf', h, rfl⟩, hC.trans b hO, fun j hj => by
    rcases hi j hj with h | h
    · exact hO j h
    · exact .inr h⟩
theorem YR.below (h : YR w0 O P M X T Q lim tk kn rs es ns fs G w) (b : Below w.heap.size w w') : YR w0 O P M X T Q lim tk kn rs es ns fs G w' := by
  obtain ⟨O', ⟨OX, r, c, seed, Qt, Mt, n, pr, An, cn, Af, cf, hb, rfl⟩, hC, hO⟩ := h
  exact YR.step hC hO (hb.below b) (K.Chg.of_below b) (fun j hj => .inl hj)
theorem YR.drewN (h : YR w0 O P M X T Q lim tk kn rs es ns fs G w) (k : Nat) : YR w0 O P M X T Q lim tk kn rs es ns fs G (w.drewN k) := by
  obtain ⟨O', ⟨OX, r, c, seed, Qt, Mt, n, pr, An, cn, Af, cf, hb, rfl⟩, hC, hO⟩ := h
  exact YR.step hC hO (hb.drewN k) ((chg_refl w _).drewN k) (fun j hj => .inl hj)
theorem YR.row (h : YR w0 O P M X T Q lim tk kn rs es ns fs G w) : w.heap[P]? = some (yrow P M X T Q lim kn) := by
  obtain ⟨O', ⟨OX, r, c, seed, Qt, Mt, n, pr, An, cn, Af, cf, hb, rfl⟩, hC, hO⟩ := h
  exact hb.row
theorem YR.c0 (h : YR w0 O P M X T Q lim tk kn rs es ns fs G w) : w.cell? ⟨P, 0, none⟩ = some (.pointer (some ⟨M, 0, none⟩)) := cell_of_row w P 0 _ _ (0, 0) h.row
theorem YR.c1 (h : YR w0 O P M X T Q lim tk kn rs es ns fs G w) : w.cell? ⟨P, 1, none⟩ = some (.pointer (some ⟨X, 0, none⟩)) := cell_of_row w P 1 _ _ (0, 0) h.row
theorem YR.c2 (h : YR w0 O P M X T Q lim tk kn rs es ns fs G w) : w.cell? ⟨P, 2, none⟩ = some (.pointer (some ⟨T, 0, none⟩)) := cell_of_row w P 2 _ _ (0, 0) h.row
theorem YR.c3 (h : YR w0 O P M X T Q lim tk kn rs es ns fs G w) : w.cell? ⟨P, 3, none⟩ = some (.pointer (some ⟨Q, 0, none⟩)) := cell_of_row w P 3 _ _ (0, 0) h.row
theorem YR.c4 (h : YR w0 O P M X T Q lim tk kn rs es ns fs G w) : w.cell? ⟨P, 4, none⟩ = some (.int .i64 kn) := cell_of_row w P 4 _ _ (0, 0) h.row
theorem YR.c5 (h : YR w0 O P M X T Q lim tk kn rs es ns fs G w) : w.cell? ⟨P, 5, none⟩ = some (.int .i64 (lim : Int)) := cell_of_row w P 5 _ _ (0, 0) h.row
theorem YR.size (h : YR w0 O P M X T Q lim tk kn rs es ns fs G w) : w0.heap.size ≤ w.heap.size := by
  obtain ⟨_, _, hC, _⟩ := h
  exact hC.size
/-- The meter is another one then. -/
theorem YR.met (h : YR w0 O P M X T Q lim tk kn rs es ns fs G w) (b : K.Chg w w' (· = M)) (hm : Yp.Mx w' M tk') : YR w0 O P M X T Q lim tk' kn rs es ns fs G w' := by
  obtain ⟨O', ⟨OX, r, c, seed, Qt, Mt, n, pr, An, cn, Af, cf, hb, rfl⟩, hC, hO⟩ := h
  exact YR.step hC hO (hb.met b hm) (b.mono (fun j e => .inr (.inl e))) (fun j hj => .inl hj)
theorem YR.mx (h : YR w0 O P M X T Q lim tk kn rs es ns fs G w) : Yp.Mx w M tk := by
  obtain ⟨O', ⟨OX, r, c, seed, Qt, Mt, n, pr, An, cn, Af, cf, hb, rfl⟩, hC, hO⟩ := h
  exact hb.mx
/-- How many keys there are is another number then. -/
theorem YR.cnt (h : YR w0 O P M X T Q lim tk kn rs es ns fs G w) (k : Int) : YR w0 O P M X T Q lim tk k rs es ns fs G (w.setCell ⟨P, 4, none⟩ (.int .i64 k)) := by
  obtain ⟨O', ⟨OX, r, c, seed, Qt, Mt, n, pr, An, cn, Af, cf, hb, rfl⟩, hC, hO⟩ := h
  exact YR.step hC hO (hb.cnt k) (chg_set w P 4 _ _ (.inl rfl)) (fun j hj => .inl hj)
end
theorem key_res' {fn : Func} {u : Tmp} (h : fn.results = #[.cell u 137]) (tmps : Array Value) (w : World) (g : Nat) (a b : Value) (hu : tmps.getD u undef = .pointer (some ⟨g, 0, none⟩))
    (hc : w.heap[g]? = some (.cells #[a, b] 137 (0, 0))) : (results fn tmps).run Tryz.prog w = .ok (.agg #[a, b]) w := by
  letI : Gh := ⟨0, 0⟩
  exact key_res h tmps w g a b hu hc
theorem y_name (w : World) (k : Nat) : Calls Tryz.prog 95 #[.int .u64 (k : Int)] w fun e w' => e = .returned (.agg #[.int .u8 0, .int .u64 (k : Int)]) ∧ Below w.heap.size w w' := by
  go_enter Tryz.func95, Tryz.ntmps95
  go_wp2
  exact bodyPost_ret (key_res' rfl _ _ w.heap.size _ _ rfl (K.alloc_top _ _)) rfl ⟨rfl, (Below.refl _ w).alloc (Nat.le_refl _) _⟩
theorem tabs_yk {w : World} {P M T Q Qt Qt' Mt : Nat} {OX : Nat → Prop} {An Af : Option Addr} {B : Nat} (hq : Qt' = Qt ∨ w.heap.size ≤ Qt') (hB : B ≤ w.heap.size) : ∀ j, YW P M T Q Qt' Mt OX An Af j → YW P M T Q Qt Mt OX An Af j ∨ B ≤ j := by
  rintro j (h | h | h | (h | h | h) | h)
  · exact .inl (.inl h)
  · exact .inl (.inr (.inl h))
  · exact .inl (.inr (.inr (.inl h)))
  · exact .inl (.inr (.inr (.inr (.inl (.inl h)))))
  · rcases hq with e | e
    · exact .inl (.inr (.inr (.inr (.inl (.inr (.inl (h.trans e)))))))
    · exact .inr (by omega)
  · exact .inl (.inr (.inr (.inr (.inl (.inr (.inr h))))))
  · exact .inl (.inr (.inr (.inr (.inr h))))
section
variable {w0 w w' : World} {O : Nat → Prop} {P M X T Q lim tk tk' : Nat} {kn kn' : Int} {rs rs' : List Nat} {es es' : Es} {ns ns' : List (Yp.Nd × Bool)} {fs fs' : List Nat} {G G' : Nat → List Nat}
/-- What a call of the table of places leaves. -/
theorem YR.tabs {f : FuncId} {args : Array Value} {v : Value} (h : YR w0 O P M X T Q lim tk kn rs es ns fs G w)
    (hc : ∀ Qt Mt seed n pr, Hs.Tab w T Qt Mt seed n es pr 0 → Calls Tryz.prog f args w fun e w' => e = .returned v ∧ ∃ cl, Hs.TStep w T Qt Mt seed n es' cl w') :
    Calls Tryz.prog f args w fun e w' => e = .returned v ∧ YR w0 O P M X T Q lim tk kn rs es' ns fs G w' := by
  obtain ⟨O', ⟨OX, r, c, seed, Qt, Mt, n, pr, An, cn, Af, cf, hb, rfl⟩, hC, hO⟩ := h
  refine (hc Qt Mt seed n pr hb.tab).mono ?_
  rintro e w' ⟨he, cl, hs⟩
  obtain ⟨Qt', n', pr', h1, b, hq⟩ := hb.tabs hs
  exact ⟨he, YR.step hC hO h1 (b.mono (fun j hj => .inr (.inr (.inr (.inl hj))))) (tabs_yk hq hC.size)⟩
/-- What a call of the pool of buckets leaves. -/
theorem pool_yw {w : World} {P M T Q Qt Mt : Nat} {OX : Nat → Prop} {An Af An' Af' : Option Addr} {B : Nat} (hq : ∀ j, Yp.QB Q An' Af' j → Yp.QB Q An Af j ∨ w.heap.size ≤ j) (hB : B ≤ w.heap.size) : ∀ j, YW P M T Q Qt Mt OX An' Af' j → YW P M T Q Qt Mt OX An Af j ∨ B ≤ j := by
  rintro j (h | h | h | h | h)
  · exact .inl (.inl h)
  · exact .inl (.inr (.inl h))
  · exact .inl (.inr (.inr (.inl h)))
  · exact .inl (.inr (.inr (.inr (.inl h))))
  · rcases hq j h with e | e
    · exact .inl (.inr (.inr (.inr (.inr e))))
    · exact .inr (by omega)
/-- The key-blocks of a node lie apart of what the trie writes. -/
def Kfree (w : World) (O : Nat → Prop) (x : Yp.Nd) (xs : List Nat) : Prop := KX w (ksl x) xs ∧ ∀ j, x.ksA.map (·.block) = some j → ¬ O j
theorem YR.pool {f : FuncId} {args : Array Value} {v : Value} (h : YR w0 O P M X T Q lim tk kn rs es ns fs G w)
    (hk : ∀ O' i (hi : i < ns'.length), YT w P M X T Q lim tk kn rs es ns fs G O' → ns'[i].2 = true → Kfree w O' ns'[i].1 (G' i))
    (hc : ∀ An cn Af cf, w.cell? ⟨P, 3, none⟩ = some (.pointer (some ⟨Q, 0, none⟩)) → P < w.heap.size → ¬ Yp.QB Q An Af P → Yp.Qo w Q M lim An cn Af cf ns fs → Yp.Mx w M tk → Calls Tryz.prog f args w fun e w' => e = .returned v ∧ Yp.QStep w Q M lim An Af ns' fs' w') :
    Calls Tryz.prog f args w fun e w' => e = .returned v ∧ YR w0 O P M X T Q lim tk kn rs es ns' fs' G' w' := by
  have h3 := h.c3
  have hlt := row_lt h.row
  obtain ⟨O', hT, hC, hO⟩ := h
  have hk' := fun i hi => hk O' i hi hT
  obtain ⟨OX, r, c, seed, Qt, Mt, n, pr, An, cn, Af, cf, hb, rfl⟩ := hT
  refine (hc An cn Af cf h3 hlt hb.P_Q hb.po hb.mx).mono ?_
  rintro e w' ⟨he, hs⟩
  obtain ⟨An', cn', Af', cf', h1, b, hq⟩ := hb.pool hs (fun i hi ht => ⟨(hk' i hi ht).1, fun j hj ho => (hk' i hi ht).2 j hj (.inr (.inr (.inl ho)))⟩)
  exact ⟨he, YR.step hC hO h1 (b.mono (fun j hj => .inr (.inr (.inr (.inr hj))))) (pool_yw hq hC.size)⟩
/-- The trie's own nodes are so. -/
theorem YT.kfree {O' : Nat → Prop} (h : YT w P M X T Q lim tk kn rs es ns fs G O') {i : Nat} (hi : i < ns.length) (ht : ns[i].2 = true) : Kfree w O' ns[i].1 (G i) := by
  obtain ⟨OX, r, c, seed, Qt, Mt, n, pr, An, cn, Af, cf, hb, rfl⟩ := h
  refine ⟨hb.ks i hi ht, fun j hj ho => ?_⟩
  have hk : KBl ns j := ⟨ns[i], List.getElem_mem _, ht, hj⟩
  rcases ho with e | e | e | e | e
  · subst e; exact hb.P_K hk
  · subst e; exact hb.M_K hk
  · exact (hb.a1 j e).2.2.2.2 hk
  · exact hb.T_K e hk
  · exact hb.Q_K e hk
theorem YR.trans {w1 : World} {O1 : Nat → Prop} (hC : K.Chg w0 w1 O) (hO : ∀ j, O1 j → O j ∨ w0.heap.size ≤ j) (k : YR w1 O1 P M X T Q lim tk kn rs es ns fs G w) : YR w0 O P M X T Q lim tk kn rs es ns fs G w := by
  obtain ⟨O', h1, h2, h3⟩ := k
  refine ⟨O', h1, hC.trans h2 hO, fun j hj => ?_⟩
  rcases h3 j hj with h | h
  · exact hO j h
  · exact .inr (Nat.le_trans hC.size h)
theorem YT.lt {O' : Nat → Prop} (h : YT w P M X T Q lim tk kn rs es ns fs G O') : (∀ j, O' j → j < w.heap.size) ∧ ∀ j, KBl ns j → j < w.heap.size := by
  obtain ⟨OX, r, c, seed, Qt, Mt, n, pr, An, cn, Af, cf, hb, rfl⟩ := h
  exact ⟨fun j hj => hb.lt hj.yk, fun j hj => hb.lt (.inr (.inr (.inr (.inr (.inr hj)))))⟩
theorem YT.below {O' : Nat → Prop} (h : YT w P M X T Q lim tk kn rs es ns fs G O') (b : Below w.heap.size w w') : YT w' P M X T Q lim tk kn rs es ns fs G O' := by
  obtain ⟨OX, r, c, seed, Qt, Mt, n, pr, An, cn, Af, cf, hb, rfl⟩ := h
  exact ⟨OX, r, c, seed, Qt, Mt, n, pr, An, cn, Af, cf, hb.below b, rfl⟩
theorem YT.chg {O' O2 : Nat → Prop} (h : YT w P M X T Q lim tk kn rs es ns fs G O') (b : K.Chg w w' O2) (h1 : ∀ j, O' j → ¬ O2 j) (h2 : ∀ j, KBl ns j → ¬ O2 j) : YT w' P M X T Q lim tk kn rs es ns fs G O' := by
  obtain ⟨OX, r, c, seed, Qt, Mt, n, pr, An, cn, Af, cf, hb, rfl⟩ := h
  refine ⟨OX, r, c, seed, Qt, Mt, n, pr, An, cn, Af, cf, hb.chg b (fun j hj => ?_), rfl⟩
  rcases hj with h | h | h | h | h | h
  · exact h1 j (.inl h)
  · exact h1 j (.inr (.inl h))
  · exact h1 j (.inr (.inr (.inl h)))
  · exact h1 j (.inr (.inr (.inr (.inl h))))
  · exact h1 j (.inr (.inr (.inr (.inr h))))
  · exact h2 j h
/-- Blocks that were there, but not the trie's, are as they were. -/
theorem YR.same (h : YR w0 O P M X T Q lim tk kn rs es ns fs G w) {j : Nat} (hj : j < w0.heap.size) (hn : ¬ O j) : w.heap[j]? = w0.heap[j]? := by
  obtain ⟨_, _, hC, _⟩ := h
  exact hC.block j hj hn
theorem y_get (h : YR w0 O P M X T Q lim tk kn rs es ns fs G w) (k v : Nat) (hv : ((0, k), v) ∈ es) :
    Calls Tryz.prog 111 #[.pointer (some ⟨T, 0, none⟩), .agg #[.int .u8 0, .int .u64 (k : Int)]] w fun e w' => e = .returned (.tuple #[.int .u64 (v : Int), .bool true]) ∧ YR w0 O P M X T Q lim tk kn rs es ns fs G w' :=
  h.tabs fun Qt Mt seed n pr ht => (Hs.tab_get w T Qt Mt seed n pr 0 es ht (0, k) (show (0 : Nat) < 256 by decide) (by decide) v true (.inl ⟨rfl, hv⟩)).mono fun e w' ⟨h1, h2⟩ => ⟨h1, _, h2⟩
set_option maxHeartbeats 1000000 in
theorem y_place (h : YR w0 O P M X T Q lim tk kn rs es ns fs G w) (k v : Nat) (hv : ((0, k), v) ∈ es) (hvl : v < 1048576) :
    Calls Tryz.prog 79 #[.pointer (some ⟨P, 0, none⟩), .int .u64 (k : Int)] w fun e w' => e = .returned (.int .i64 (v : Int)) ∧ YR w0 O P M X T Q lim tk kn rs es ns fs G w' := by
  have hw : IntKind.i64.wrap (v : Int) = (v : Int) := IntWalk.i64_in _ (by omega)
  have HV := Lib.hid hv
  have HS0 : Hid (w.drew.cell? ⟨P, 2, none⟩ = some (.pointer (some ⟨T, 0, none⟩))) := Lib.hid h.c2
  have H := Lib.hid (h.drewN 1)
  clear h hv
  go_enter Tryz.func79, Tryz.ntmps79
  go_wp2
  go_region_held3 (fun Y => Y.cell? ⟨P, 2, none⟩ = some (.pointer (some ⟨T, 0, none⟩))) (first | (with_reducible exact HS0.out) | (with_reducible exact HS1.out) | (with_reducible exact HS2.out) | go_keep) (first
    | (go_at_call 95; (with_reducible refine (y_name _ k).mono ?_); rintro e w1 ⟨rfl, hb1⟩
       have h1 := H.out.below hb1
       have HS1 := Lib.hid h1.c2
       have H1 := Lib.hid h1
       clear hb1 h1)
    | (go_at_call 111; (with_reducible refine (y_get H1.out k v HV.out).mono ?_); rintro e w2 ⟨rfl, h2⟩
       have HS2 := Lib.hid h2.c2
       have H2 := Lib.hid h2
       clear h2))
  all_goals
    go_wp2
    go_ret
    exact ⟨rfl, H2.out⟩
end
end Go.Proofs.YtelfacchhclgnaaGreat
end
