
/- A key is put into its nodes, from the last one up: what stands in between. -/
import Derived.Test.YtndielncleohlaaDoorU6
import Derived.Test.YtndielncleohlaaDoorU3
namespace Go.Proofs.YtndielncleohlaaDoor
set_option maxRecDepth 40000
open Go.RowKit
/-- The blocks of a trie. -/
def TBk (P Q m0 : Nat) (An Af : Option Addr) (ns : List (Nd × Bool)) (j : Nat) : Prop := j = P ∨ j = m0 ∨ QB Q An Af j ∨ ∃ i, ∃ h : i < ns.length, ns[i].1.A.map (·.block) = some j
theorem kid_no {w : World} {Q m0 lim cn cf : Nat} {An Af : Option Addr} {ns : List (Nd × Bool)} {fs : List Nat} (po : Qo w Q m0 lim An cn Af cf ns fs) (h : Kids w ns Af) {i : Nat} (hi : i < ns.length) {g : Nat} (hg : ns[i].1.A.map (·.block) = some g) : ¬ QB Q An Af g := by
  obtain ⟨_, cur, hc⟩ := own_block_lt (h.own i hi) hg
  rintro (rfl | h1 | h1)
  · exact row_ne hc po.row (by decide) rfl
  · obtain ⟨_, cur', hc'⟩ := own_block_lt po.nodes h1
    exact row_ne hc hc' (by decide) rfl
  · exact h.kf i hi g hg h1
theorem get_of {α : Type} {ns ns' : List α} {j : Nat} (hj : j < ns'.length) (h : ns'[j]? = ns[j]?) : ∃ h' : j < ns.length, ns'[j] = ns[j] := by
  rw [List.getElem?_eq_getElem hj] at h
  obtain ⟨h1, h2⟩ := List.getElem?_eq_some_iff.1 h.symm
  exact ⟨h1, h2.symm⟩
theorem Kids.step {w w1 w2 : World} {Q m0 lim cn cf : Nat} {An Af An' Af' : Option Addr} {ns ns' : List (Nd × Bool)} {fs : List Nat} (po : Qo w Q m0 lim An cn Af cf ns fs) (h : Kids w ns Af) (i : Nat) (x : Nd) (b : Bool) (A0 : Option Addr)
    (hA0 : ∀ g, A0.map (·.block) = some g → ∃ hi : i < ns.length, ns[i].1.A.map (·.block) = some g)
    (h1 : K.Chg w w1 (fun j => A0.map (·.block) = some j)) (hx : w1.ownsRow 0 3 1 (.slice x.A x.ch.length x.c) x.ch.length (iw x.ch)) (hxb : ∀ j, x.A.map (·.block) = some j → A0.map (·.block) = some j ∨ w.heap.size ≤ j)
    (h2 : K.Chg w1 w2 (QB Q An Af)) (hb2 : ∀ j, QB Q An' Af' j → QB Q An Af j ∨ w1.heap.size ≤ j)
    (hn : ∀ j, j ≠ i → ns'[j]? = ns[j]?) (hni : ns'[i]? = some (x, b)) : Kids w2 ns' Af' := by
  have hlt : ∀ j (hj : j < ns.length) g, ns[j].1.A.map (·.block) = some g → g < w.heap.size := fun j hj g hg => (own_block_lt (h.own j hj) hg).1
  have hqlt : ∀ j, QB Q An Af j → j < w.heap.size := fun j hj => po.qb hj
  have hs1 := h1.size
  have hxno : ∀ j, x.A.map (·.block) = some j → ¬ QB Q An Af j := fun j hj hq => by
    rcases hxb j hj with h3 | h3
    · obtain ⟨hi, h4⟩ := hA0 j h3
      exact kid_no po h hi h4 hq
    · have := hqlt j hq; omega
  have hxlt : ∀ j, x.A.map (·.block) = some j → j < w1.heap.size := fun j hj => (own_block_lt hx hj).1
  have hxi : ∀ (hi : i < ns'.length), ns'[i] = (x, b) := fun hi => by
    rw [List.getElem?_eq_getElem hi] at hni
    exact Option.some.inj hni
  refine ⟨fun j hj => ?_, fun j l hj hl hne g hg => ?_, fun j hj g hg hf => ?_⟩
  · by_cases e : j = i
    · subst e
      rw [hxi hj]
      exact h2.own hx (fun k hk hq => hxno k (own_of_map hk) hq)
    · obtain ⟨hj', ej⟩ := get_of hj (hn j e)
      rw [ej]
      have h3 := h1.own (h.own j hj') (fun k hk hq => by
        obtain ⟨hi, h4⟩ := hA0 k hq
        exact h.kd j i hj' hi e k (own_of_map hk) h4)
      exact h2.own h3 (fun k hk hq => kid_no po h hj' (own_of_map hk) hq)
  · by_cases e : j = i
    · subst e
      rw [hxi hj] at hg
      obtain ⟨hl', el⟩ := get_of hl (hn l (fun h => hne h.symm))
      rw [el]
      intro h3
      rcases hxb g hg with h4 | h4
      · obtain ⟨hi, h5⟩ := hA0 g h4
        exact h.kd j l hi hl' hne g h5 h3
      · have := hlt l hl' g h3; omega
    · obtain ⟨hj', ej⟩ := get_of hj (hn j e)
      rw [ej] at hg
      by_cases e2 : l = i
      · subst e2
        rw [hxi hl]
        intro h3
        rcases hxb g h3 with h4 | h4
        · obtain ⟨hi, h5⟩ := hA0 g h4
          exact h.kd l j hi hj' (fun h => e h.symm) g h5 hg
        · have := hlt j hj' g hg; omega
      · obtain ⟨hl', el⟩ := get_of hl (hn l e2)
        rw [el]
        exact h.kd j l hj' hl' hne g hg
  · have hq := hb2 g (.inr (.inr hf))
    by_cases e : j = i
    · subst e
      rw [hxi hj] at hg
      rcases hq with h3 | h3
      · exact hxno g hg h3
      · have := hxlt g hg; omega
    · obtain ⟨hj', ej⟩ := get_of hj (hn j e)
      rw [ej] at hg
      rcases hq with h3 | h3
      · exact kid_no po h hj' hg h3
      · have := hlt j hj' g hg; omega
namespace T
/-- The keys at each level, as long as the levels from j on have the new key. -/
def lvl (xs : List Nat) (k j l : Nat) : List Nat := if l < j then xs else K.add xs k
def upd (pl : Nat → Nat → Nat) (l p i : Nat) : Nat → Nat → Nat := fun l' p' => if l' = l ∧ p' = p then i else pl l' p'
theorem upd_same (pl : Nat → Nat → Nat) (l p i : Nat) : upd pl l p i l p = i := by simp [upd]
theorem upd_other {pl : Nat → Nat → Nat} {l p i l' p' : Nat} (h : ¬ (l' = l ∧ p' = p)) : upd pl l p i l' p' = pl l' p' := by unfold upd; rw [if_neg h]
/-- One level more. -/
theorem Tr.step {xs : List Nat} {k l i : Nat} {pl : Nat → Nat → Nat} {nd nd' : Nat → Option Nd} {x : Nd} (hu : K.Up xs) (hk : k ∉ xs) (hl : l < 11) (h : Tr (lvl xs k (l + 1)) pl nd)
    (hc : (¬ prs xs l (pre l k) ∧ nd i = none) ∨ (prs xs l (pre l k) ∧ i = pl l (pre l k))) (hi : nd' i = some x) (ho : ∀ j, j ≠ i → nd' j = nd j)
    (hx : NdOK (K.add xs k) (upd pl l (pre l k) i) l (pre l k) x.W x.ks x.le x.gr x.ch) : Tr (lvl xs k l) (upd pl l (pre l k) i) nd' := by
  have hA := K.add_up hu k
  -- the others are as they were
  have hold : ∀ l' p', l' < 11 → prs (lvl xs k l l') l' p' → ¬ (l' = l ∧ p' = pre l k) → prs (lvl xs k (l + 1) l') l' p' := by
    intro l' p' _ hp hne
    unfold lvl at hp ⊢
    by_cases h1 : l' < l
    · rw [if_pos h1] at hp
      rw [if_pos (by omega)]
      exact hp
    · rw [if_neg h1] at hp
      by_cases h2 : l' = l
      · subst h2
        rw [if_pos (by omega)]
        obtain ⟨y, hy, e⟩ := hp
        rcases (K.add_mem hu k y).1 hy with rfl | hy
        · exact absurd ⟨rfl, e.symm⟩ hne
        · exact ⟨y, hy, e⟩
      · rw [if_neg (by omega)]
        exact hp
  have hpl : ∀ l' p', l' < 11 → prs (lvl xs k l l') l' p' → ¬ (l' = l ∧ p' = pre l k) → pl l' p' ≠ i := by
    intro l' p' hl' hp hne e
    have hp' := hold l' p' hl' hp hne
    rcases hc with ⟨_, h1⟩ | ⟨h1, h2⟩
    · obtain ⟨n, hn, _⟩ := h.ok l' p' hl' hp'
      rw [e, h1] at hn
      cases hn
    · refine hne (h.inj l' p' l (pre l k) hl' hl hp' ?_ (e.trans h2))
      unfold lvl
      rw [if_pos (by omega)]
      exact h1
  refine ⟨fun l' p' hl' hp => ?_, fun l1 p1 l2 p2 hl1 hl2 hp1 hp2 e => ?_⟩
  · by_cases hne : l' = l ∧ p' = pre l k
    · obtain ⟨rfl, rfl⟩ := hne
      rw [upd_same]
      refine ⟨x, hi, ?_⟩
      unfold lvl
      rw [if_neg (by omega)]
      exact hx
    · rw [upd_other hne, ho _ (hpl l' p' hl' hp hne)]
      obtain ⟨n, hn, hok⟩ := h.ok l' p' hl' (hold l' p' hl' hp hne)
      refine ⟨n, hn, ?_⟩
      refine hok.frame hl' (by unfold lvl; split <;> assumption) (by unfold lvl; split <;> assumption) (fun y hy => ?_) (fun d hd hpd => ?_)
      · unfold lvl
        by_cases h1 : l' < l
        · rw [if_pos h1, if_pos (by omega)]
        · rw [if_neg h1]
          by_cases h2 : l' = l
          · subst h2
            rw [if_pos (by omega), K.add_mem hu]
            constructor
            · exact .inr
            · rintro (rfl | h3)
              · exact absurd ⟨rfl, hy.symm⟩ hne
              · exact h3
          · rw [if_neg (by omega)]
      · by_cases h1 : l' + 1 = l ∧ p' * 64 + d = pre l k
        · obtain ⟨h2, h3⟩ := h1
          rw [h2, h3, upd_same]
          have hx2 : lvl xs k (l + 1) l' = xs := by unfold lvl; rw [if_pos (by omega)]
          rw [hx2, h2, h3] at hpd
          rcases hc with ⟨h4, _⟩ | ⟨_, h4⟩
          · exact absurd hpd h4
          · exact h4
        · exact upd_other h1
  · by_cases h1 : l1 = l ∧ p1 = pre l k
    · by_cases h2 : l2 = l ∧ p2 = pre l k
      · exact ⟨h1.1.trans h2.1.symm, h1.2.trans h2.2.symm⟩
      · rw [upd_other h2, h1.1, h1.2, upd_same] at e
        exact absurd e.symm (hpl l2 p2 hl2 hp2 h2)
    · by_cases h2 : l2 = l ∧ p2 = pre l k
      · rw [upd_other h1, h2.1, h2.2, upd_same] at e
        exact absurd e (hpl l1 p1 hl1 hp1 h1)
      · rw [upd_other h1, upd_other h2] at e
        exact h.inj l1 p1 l2 p2 hl1 hl2 (hold _ _ hl1 hp1 h1) (hold _ _ hl2 hp2 h2) e
theorem Tr.start {xs : List Nat} {k : Nat} {pl : Nat → Nat → Nat} {nd : Nat → Option Nd} (h : Tr (fun _ => xs) pl nd) : Tr (lvl xs k 11) pl nd := by
  have e : ∀ l, l < 11 → lvl xs k 11 l = xs := fun l hl => by unfold lvl; rw [if_pos hl]
  refine ⟨fun l p hl hp => ?_, fun l p l' p' hl hl' hp hp' => ?_⟩
  · rw [e l hl] at hp ⊢
    exact h.ok l p hl hp
  · rw [e l hl] at hp
    rw [e l' hl'] at hp'
    exact h.inj l p l' p' hl hl' hp hp'
theorem Tr.done {xs : List Nat} {k : Nat} {pl : Nat → Nat → Nat} {nd : Nat → Option Nd} (h : Tr (lvl xs k 0) pl nd) : Tr (fun _ => K.add xs k) pl nd := by
  have e : ∀ l, lvl xs k 0 l = K.add xs k := fun l => by unfold lvl; rw [if_neg (by omega)]
  refine ⟨fun l p hl hp => ?_, fun l p l' p' hl hl' hp hp' => ?_⟩
  · have := h.ok l p hl (by rw [e]; exact hp)
    rw [e] at this
    exact this
  · exact h.inj l p l' p' hl hl' (by rw [e]; exact hp) (by rw [e]; exact hp')
end T
/-- The trie, while a key is put into its levels from j on. -/
structure GS (w0 w : World) (P Q m0 lim tk root : Nat) (xs : List Nat) (k m j : Nat) (TB0 : Nat → Prop) (ns0 : List (Nd × Bool)) (pl0 : Nat → Nat → Nat) (An : Option Addr) (cn : Nat) (Af : Option Addr) (cf : Nat) (ns : List (Nd × Bool)) (fs : List Nat) (pl : Nat → Nat → Nat) : Prop where
  row : w.heap[P]? = some (.cells #[.pointer (some ⟨m0, 0, none⟩), .pointer (some ⟨Q, 0, none⟩), .int .i64 (root : Int)] 43 (0, 0))
  mx : Mx w m0 tk
  po : Qo w Q m0 lim An cn Af cf ns fs
  kids : Kids w ns Af
  tr : T.Tr (T.lvl xs k j) pl (ndm ns)
  used : ns.length - fs.length = K.trie xs + (11 - max j m)
  plk : ∀ l p, l < 11 → T.prs xs l p → pl l p = pl0 l p
  way : ∀ l, l < j → l < m → ns[pl0 l (T.pre l k)]? = some (nat ns0 (pl0 l (T.pre l k)), true)
  chg : K.Chg w0 w TB0
  blk : ∀ b, TBk P Q m0 An Af ns b → TB0 b ∨ w0.heap.size ≤ b
/-- One level more, put into the place i. -/
theorem GS.step {w0 w w1 w2 : World} {P Q m0 lim tk root k m l cn cf i : Nat} {xs fs fs' : List Nat} {TB0 : Nat → Prop} {ns0 ns ns' : List (Nd × Bool)} {pl0 pl : Nat → Nat → Nat} {An Af : Option Addr} {x : Nd}
    (h : GS w0 w P Q m0 lim tk root xs k m (l + 1) TB0 ns0 pl0 An cn Af cf ns fs pl) (hu : K.Up xs) (hk : k ∉ xs) (hl : l < 11)
    (A0 : Option Addr) (hA0 : ∀ g, A0.map (·.block) = some g → ∃ hi : i < ns.length, ns[i].1.A.map (·.block) = some g)
    (h1 : K.Chg w w1 (fun j => A0.map (·.block) = some j)) (hx : w1.ownsRow 0 3 1 (.slice x.A x.ch.length x.c) x.ch.length (iw x.ch)) (hxb : ∀ j, x.A.map (·.block) = some j → A0.map (·.block) = some j ∨ w.heap.size ≤ j)
    (h2 : QStep w1 Q m0 lim An Af ns' fs' w2) (hn : ∀ j, j ≠ i → ns'[j]? = ns[j]?) (hni : ns'[i]? = some (x, true))
    (hc : (¬ T.prs xs l (T.pre l k) ∧ ndm ns i = none ∧ m ≤ l ∧ ns'.length - fs'.length = ns.length - fs.length + 1) ∨ (T.prs xs l (T.pre l k) ∧ i = pl l (T.pre l k) ∧ l < m ∧ ns'.length - fs'.length = ns.length - fs.length))
    (hok : T.NdOK (K.add xs k) (T.upd pl l (T.pre l k) i) l (T.pre l k) x.W x.ks x.le x.gr x.ch) :
    ∃ An' cn' Af' cf', GS w0 w2 P Q m0 lim tk root xs k m l TB0 ns0 pl0 An' cn' Af' cf' ns' fs' (T.upd pl l (T.pre l k) i) := by
  obtain ⟨An', cn', Af', cf', hpo, hch, hbl⟩ := h2
  have hP := row_lt h.row
  have hMl := h.mx.lt
  have hA0b : ∀ g, A0.map (·.block) = some g → TBk P Q m0 An Af ns g := fun g hg => .inr (.inr (.inr ⟨i, hA0 g hg⟩))
  have hrow : ∀ g T (cs : Array Value), w.heap[g]? = some (.cells cs T (0, 0)) → T ≠ 3 → ¬ A0.map (·.block) = some g := fun g T cs hr hT hg => by
    obtain ⟨hi, h3⟩ := hA0 g hg
    obtain ⟨_, cur, hc⟩ := own_block_lt (h.kids.own i hi) h3
    exact row_ne hr hc hT rfl
  obtain ⟨r, c, s, p, hmr⟩ := h.mx
  have hq1 : ∀ j, QB Q An Af j → j ≠ P ∧ j ≠ m0 := fun j hj => by
    rcases hj with rfl | hj | hj
    · exact ⟨row_ne h.po.row h.row (by decide), row_ne h.po.row hmr (by decide)⟩
    · obtain ⟨_, cur, hc⟩ := own_block_lt h.po.nodes hj
      exact ⟨row_ne hc h.row (by decide), row_ne hc hmr (by decide)⟩
    · obtain ⟨_, cur, hc⟩ := own_block_lt h.po.freed hj
      exact ⟨row_ne hc h.row (by decide), row_ne hc hmr (by decide)⟩
  have hP1 := h1.block P hP (hrow P _ _ h.row (by decide))
  have hM1 := h1.block m0 hMl (hrow m0 _ _ hmr (by decide))
  have hs1 := h1.size
  have hplace : ∀ l' p', l' < 11 → T.prs (T.lvl xs k (l + 1) l') l' p' → ¬ (l' = l ∧ p' = T.pre l k) → pl l' p' ≠ i := by
    intro l' p' hl' hp hne e
    rcases hc with ⟨_, h3, _⟩ | ⟨h3, h4, _⟩
    · obtain ⟨n, hn', _⟩ := h.tr.ok l' p' hl' hp
      rw [e, h3] at hn'
      cases hn'
    · refine hne (h.tr.inj l' p' l (T.pre l k) hl' hl hp ?_ (e.trans h4))
      unfold T.lvl
      rw [if_pos (by omega)]
      exact h3
  have hnd : ∀ j, j ≠ i → ndm ns' j = ndm ns j := fun j hj => by unfold ndm; rw [hn j hj]
  refine ⟨An', cn', Af', cf', ?_, ?_, hpo, h.kids.step h.po i x true A0 hA0 h1 hx hxb hch hbl hn hni, ?_, ?_, ?_, ?_, ?_, ?_⟩
  · exact (hch.block P (by omega) (fun hq => (hq1 P hq).1 rfl)).trans (hP1.trans h.row)
  · exact ⟨r, c, s, p, (hch.block m0 (by omega) (fun hq => (hq1 m0 hq).2 rfl)).trans (hM1.trans hmr)⟩
  · exact T.Tr.step hu hk hl h.tr (by rcases hc with ⟨h3, h4, _⟩ | ⟨h3, h4, _⟩; exact .inl ⟨h3, h4⟩; exact .inr ⟨h3, h4⟩) (ndm_of hni) hnd hok
  · have := h.used
    rcases hc with ⟨_, _, h3, h4⟩ | ⟨_, _, h3, h4⟩
    · rw [h4]; omega
    · rw [h4]; omega
  · intro l' p' hl' hp
    by_cases hne : l' = l ∧ p' = T.pre l k
    · obtain ⟨rfl, rfl⟩ := hne
      rw [T.upd_same]
      rcases hc with ⟨h3, _⟩ | ⟨_, h4, _⟩
      · exact absurd hp h3
      · rw [h4]; exact h.plk _ _ hl' hp
    · rw [T.upd_other hne]
      exact h.plk _ _ hl' hp
  · intro l' hl' hm'
    have h3 := h.way l' (by omega) hm'
    rw [hn _ ?_]
    · exact h3
    · intro e
      rcases hc with ⟨_, h4, _⟩ | ⟨h5, h4, _⟩
      · have := ndm_of h3
        rw [e, h4] at this
        cases this
      · have hp : T.prs xs l' (T.pre l' k) := T.prs_le (m := l) (by omega) (by omega) h5
        have e2 := h.plk l' (T.pre l' k) (by omega) hp
        refine hplace l' (T.pre l' k) (by omega) ?_ (fun h => by omega) (e2.trans e)
        unfold T.lvl
        rw [if_pos (by omega)]
        exact hp
  · refine (h.chg.trans h1 (fun j hj => h.blk j (hA0b j hj))).trans hch (fun j hj => h.blk j (.inr (.inr (.inl hj))))
  · have hs0 := h.chg.size
    intro b hb
    rcases hb with rfl | rfl | hb | ⟨j, hj, hb⟩
    · exact h.blk _ (.inl rfl)
    · exact h.blk _ (.inr (.inl rfl))
    · rcases hbl b hb with h3 | h3
      · exact h.blk b (.inr (.inr (.inl h3)))
      · exact .inr (by omega)
    · by_cases e : j = i
      · subst e
        rw [List.getElem?_eq_getElem hj] at hni
        rw [Option.some.inj hni] at hb
        rcases hxb b hb with h3 | h3
        · exact h.blk b (hA0b b h3)
        · exact .inr (by omega)
      · obtain ⟨hj', ej⟩ := get_of hj (hn j e)
        rw [ej] at hb
        exact h.blk b (.inr (.inr (.inr ⟨j, hj', hb⟩)))
end Go.Proofs.YtndielncleohlaaDoor
