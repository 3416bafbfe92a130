/- A key is put into its nodes, from the last one up: what stands in between. A key is put into its nodes; the text walked. Insert, Has: what they answer, and leave; the texts walked. New, Has, Len, Used, Limit; a nil trie; the texts walked. -/
import Derived.Deep.RegionHeld3
import Derived.Test.YtbiingpdchoppaaDoorMgL
import Derived.Test.YtbiingpdchoppaaDoorMxU3
import Derived.Test.YtbiingpdchoppaaDoorMgJ
import Derived.Test.YtbiingpdchoppaaDoorMxK17
section
namespace Go.Proofs.YtbiingpdchoppaaDoor
set_option maxRecDepth 40000
open Go.RowKit
/-- The blocks of a trie. -/
def TBk (P Q m0 : Nat) (An Af : Option Addr) (ns : List (Nd × Bool)) (j : Nat) : Prop := j = P ∨ j = m0 ∨ QB Q An Af j ∨ ∃ i, ∃ h : i < ns.length, ns[i].1.A.map (·.block) = some j
theorem kid_no {w : World} {Q m0 lim cn cf : Nat} {An Af : Option Addr} {ns : List (Nd × Bool)} {fs : List Nat} (po : Qo w Q m0 lim An cn Af cf ns fs) (h : Kids w ns Af) {i : Nat} (hi : i < ns.length) {g : Nat} (hg : ns[i].1.A.map (·.block) = some g) : ¬ QB Q An Af g := by
  obtain ⟨_, cur, hc⟩ := own_block_lt (h.own i hi) hg
  rintro (rfl | h1 | h1)
  · exact row_ne hc po.row (by decide) rfl
  · obtain ⟨_, cur', hc'⟩ := own_block_lt po.nodes h1
    exact row_ne hc hc' (by decide) rfl
  · exact h.kf i hi g hg h1
theorem get_of {α : Type} {ns ns' : List α} {j : Nat} (hj : j < ns'.length) (h : ns'[j]? = ns[j]?) : ∃ h' : j < ns.length, ns'[j] = ns[j] := by
  rw [List.getElem?_eq_getElem hj] at h
  obtain ⟨h1, h2⟩ := List.getElem?_eq_some_iff.1 h.symm
  exact ⟨h1, h2.symm⟩
theorem Kids.step {w w1 w2 : World} {Q m0 lim cn cf : Nat} {An Af An' Af' : Option Addr} {ns ns' : List (Nd × Bool)} {fs : List Nat} (po : Qo w Q m0 lim An cn Af cf ns fs) (h : Kids w ns Af) (i : Nat) (x : Nd) (b : Bool) (A0 : Option Addr)
    (hA0 : ∀ g, A0.map (·.block) = some g → ∃ hi : i < ns.length, ns[i].1.A.map (·.block) = some g)
    (h1 : K.Chg w w1 (fun j => A0.map (·.block) = some j)) (hx : w1.ownsRow 0 3 1 (.slice x.A x.ch.length x.c) x.ch.length (iw x.ch)) (hxb : ∀ j, x.A.map (·.block) = some j → A0.map (·.block) = some j ∨ w.heap.size ≤ j)
    (h2 : K.Chg w1 w2 (QB Q An Af)) (hb2 : ∀ j, QB Q An' Af' j → QB Q An Af j ∨ w1.heap.size ≤ j)
    (hn : ∀ j, j ≠ i → ns'[j]? = ns[j]?) (hni : ns'[i]? = some (x, b)) : Kids w2 ns' Af' := by
  have hlt : ∀ j (hj : j < ns.length) g, ns[j].1.A.map (·.block) = some g → g < w.heap.size := fun j hj g hg => (own_block_lt (h.own j hj) hg).1
  have hqlt : ∀ j, QB Q An Af j → j < w.heap.size := fun j hj => po.qb hj
  have hs1 := h1.size
  have hxno : ∀ j, x.A.map (·.block) = some j → ¬ QB Q An Af j := fun j hj hq => by
    rcases hxb j hj with h3 | h3
    · obtain ⟨hi, h4⟩ := hA0 j h3
      exact kid_no po h hi h4 hq
    · have := hqlt j hq; omega
  have hxlt : ∀ j, x.A.map (·.block) = some j → j < w1.heap.size := fun j hj => (own_block_lt hx hj).1
  have hxi : ∀ (hi : i < ns'.length), ns'[i] = (x, b) := fun hi => by
    rw [List.getElem?_eq_getElem hi] at hni
    exact Option.some.inj hni
  refine ⟨fun j hj => ?_, fun j l hj hl hne g hg => ?_, fun j hj g hg hf => ?_⟩
  · by_cases e : j = i
    · subst e
      rw [hxi hj]
      exact h2.own hx (fun k hk hq => hxno k (own_of_map hk) hq)
    · obtain ⟨hj', ej⟩ := get_of hj (hn j e)
      rw [ej]
      have h3 := h1.own (h.own j hj') (fun k hk hq => by
        obtain ⟨hi, h4⟩ := hA0 k hq
        exact h.kd j i hj' hi e k (own_of_map hk) h4)
      exact h2.own h3 (fun k hk hq => kid_no po h hj' (own_of_map hk) hq)
  · by_cases e : j = i
    · subst e
      rw [hxi hj] at hg
      obtain ⟨hl', el⟩ := get_of hl (hn l (fun h => hne h.symm))
      rw [el]
      intro h3
      rcases hxb g hg with h4 | h4
      · obtain ⟨hi, h5⟩ := hA0 g h4
        exact h.kd j l hi hl' hne g h5 h3
      · have := hlt l hl' g h3; omega
    · obtain ⟨hj', ej⟩ := get_of hj (hn j e)
      rw [ej] at hg
      by_cases e2 : l = i
      · subst e2
        rw [hxi hl]
        intro h3
        rcases hxb g h3 with h4 | h4
        · obtain ⟨hi, h5⟩ := hA0 g h4
          exact h.kd l j hi hj' (fun h => e h.symm) g h5 hg
        · have := hlt j hj' g hg; omega
      · obtain ⟨hl', el⟩ := get_of hl (hn l e2)
        rw [el]
        exact h.kd j l hj' hl' hne g hg
  · have hq := hb2 g (.inr (.inr hf))
    by_cases e : j = i
    · subst e
      rw [hxi hj] at hg
      rcases hq with h3 | h3
      · exact hxno g hg h3
      · have := hxlt g hg; omega
    · obtain ⟨hj', ej⟩ := get_of hj (hn j e)
      rw [ej] at hg
      rcases hq with h3 | h3
      · exact kid_no po h hj' hg h3
      · have := hlt j hj' g hg; omega
namespace T
/-- The keys at each level, as long as the levels from j on have the new key. -/
def lvl (xs : List Nat) (k j l : Nat) : List Nat := if l < j then xs else K.add xs k
def upd (pl : Nat → Nat → Nat) (l p i : Nat) : Nat → Nat → Nat := fun l' p' => if l' = l ∧ p' = p then i else pl l' p'
theorem upd_same (pl : Nat → Nat → Nat) (l p i : Nat) : upd pl l p i l p = i := by simp [upd]
theorem upd_other {pl : Nat → Nat → Nat} {l p i l' p' : Nat} (h : ¬ (l' = l ∧ p' = p)) : upd pl l p i l' p' = pl l' p' := by unfold upd; rw [if_neg h]
/-- One level more. -/
theorem Tr.step {xs : List Nat} {k l i : Nat} {pl : Nat → Nat → Nat} {nd nd' : Nat → Option Nd} {x : Nd} (hu : K.Up xs) (hk : k ∉ xs) (hl : l < 11) (h : Tr (lvl xs k (l + 1)) pl nd)
    (hc : (¬ prs xs l (pre l k) ∧ nd i = none) ∨ (prs xs l (pre l k) ∧ i = pl l (pre l k))) (hi : nd' i = some x) (ho : ∀ j, j ≠ i → nd' j = nd j)
    (hx : NdOK (K.add xs k) (upd pl l (pre l k) i) l (pre l k) x.W x.ks x.le x.gr x.ch) : Tr (lvl xs k l) (upd pl l (pre l k) i) nd' := by
  have hA := K.add_up hu k
  -- the others are as they were
  have hold : ∀ l' p', l' < 11 → prs (lvl xs k l l') l' p' → ¬ (l' = l ∧ p' = pre l k) → prs (lvl xs k (l + 1) l') l' p' := by
    intro l' p' _ hp hne
    unfold lvl at hp ⊢
    by_cases h1 : l' < l
    · rw [if_pos h1] at hp
      rw [if_pos (by omega)]
      exact hp
    · rw [if_neg h1] at hp
      by_cases h2 : l' = l
      · subst h2
        rw [if_pos (by omega)]
        obtain ⟨y, hy, e⟩ := hp
        rcases (K.add_mem hu k y).1 hy with rfl | hy
        · exact absurd ⟨rfl, e.symm⟩ hne
        · exact ⟨y, hy, e⟩
      · rw [if_neg (by omega)]
        exact hp
  have hpl : ∀ l' p', l' < 11 → prs (lvl xs k l l') l' p' → ¬ (l' = l ∧ p' = pre l k) → pl l' p' ≠ i := by
    intro l' p' hl' hp hne e
    have hp' := hold l' p' hl' hp hne
    rcases hc with ⟨_, h1⟩ | ⟨h1, h2⟩
    · obtain ⟨n, hn, _⟩ := h.ok l' p' hl' hp'
      rw [e, h1] at hn
      cases hn
    · refine hne (h.inj l' p' l (pre l k) hl' hl hp' ?_ (e.trans h2))
      unfold lvl
      rw [if_pos (by omega)]
      exact h1
  refine ⟨fun l' p' hl' hp => ?_, fun l1 p1 l2 p2 hl1 hl2 hp1 hp2 e => ?_⟩
  · by_cases hne : l' = l ∧ p' = pre l k
    · obtain ⟨rfl, rfl⟩ := hne
      rw [upd_same]
      refine ⟨x, hi, ?_⟩
      unfold lvl
      rw [if_neg (by omega)]
      exact hx
    · rw [upd_other hne, ho _ (hpl l' p' hl' hp hne)]
      obtain ⟨n, hn, hok⟩ := h.ok l' p' hl' (hold l' p' hl' hp hne)
      refine ⟨n, hn, ?_⟩
      refine hok.frame hl' (by unfold lvl; split <;> assumption) (by unfold lvl; split <;> assumption) (fun y hy => ?_) (fun d hd hpd => ?_)
      · unfold lvl
        by_cases h1 : l' < l
        · rw [if_pos h1, if_pos (by omega)]
        · rw [if_neg h1]
          by_cases h2 : l' = l
          · subst h2
            rw [if_pos (by omega), K.add_mem hu]
            constructor
            · exact .inr
            · rintro (rfl | h3)
              · exact absurd ⟨rfl, hy.symm⟩ hne
              · exact h3
          · rw [if_neg (by omega)]
      · by_cases h1 : l' + 1 = l ∧ p' * 64 + d = pre l k
        · obtain ⟨h2, h3⟩ := h1
          rw [h2, h3, upd_same]
          have hx2 : lvl xs k (l + 1) l' = xs := by unfold lvl; rw [if_pos (by omega)]
          rw [hx2, h2, h3] at hpd
          rcases hc with ⟨h4, _⟩ | ⟨_, h4⟩
          · exact absurd hpd h4
          · exact h4
        · exact upd_other h1
  · by_cases h1 : l1 = l ∧ p1 = pre l k
    · by_cases h2 : l2 = l ∧ p2 = pre l k
      · exact ⟨h1.1.trans h2.1.symm, h1.2.trans h2.2.symm⟩
      · rw [upd_other h2, h1.1, h1.2, upd_same] at e
        exact absurd e.symm (hpl l2 p2 hl2 hp2 h2)
    · by_cases h2 : l2 = l ∧ p2 = pre l k
      · rw [upd_other h1, h2.1, h2.2, upd_same] at e
        exact absurd e (hpl l1 p1 hl1 hp1 h1)
      · rw [upd_other h1, upd_other h2] at e
        exact h.inj l1 p1 l2 p2 hl1 hl2 (hold _ _ hl1 hp1 h1) (hold _ _ hl2 hp2 h2) e
theorem Tr.start {xs : List Nat} {k : Nat} {pl : Nat → Nat → Nat} {nd : Nat → Option Nd} (h : Tr (fun _ => xs) pl nd) : Tr (lvl xs k 11) pl nd := by
  have e : ∀ l, l < 11 → lvl xs k 11 l = xs := fun l hl => by unfold lvl; rw [if_pos hl]
  refine ⟨fun l p hl hp => ?_, fun l p l' p' hl hl' hp hp' => ?_⟩
  · rw [e l hl] at hp ⊢
    exact h.ok l p hl hp
  · rw [e l hl] at hp
    rw [e l' hl'] at hp'
    exact h.inj l p l' p' hl hl' hp hp'
theorem Tr.done {xs : List Nat} {k : Nat} {pl : Nat → Nat → Nat} {nd : Nat → Option Nd} (h : Tr (lvl xs k 0) pl nd) : Tr (fun _ => K.add xs k) pl nd := by
  have e : ∀ l, lvl xs k 0 l = K.add xs k := fun l => by unfold lvl; rw [if_neg (by omega)]
  refine ⟨fun l p hl hp => ?_, fun l p l' p' hl hl' hp hp' => ?_⟩
  · have := h.ok l p hl (by rw [e]; exact hp)
    rw [e] at this
    exact this
  · exact h.inj l p l' p' hl hl' (by rw [e]; exact hp) (by rw [e]; exact hp')
end T
/-- The trie, while a key is put into its levels from j on. -/
structure GS (w0 w : World) (P Q m0 lim tk root : Nat) (xs : List Nat) (k m j : Nat) (TB0 : Nat → Prop) (ns0 : List (Nd × Bool)) (pl0 : Nat → Nat → Nat) (An : Option Addr) (cn : Nat) (Af : Option Addr) (cf : Nat) (ns : List (Nd × Bool)) (fs : List Nat) (pl : Nat → Nat → Nat) : Prop where
  row : w.heap[P]? = some (.cells #[.pointer (some ⟨m0, 0, none⟩), .pointer (some ⟨Q, 0, none⟩), .int .i64 (root : Int)] 43 (0, 0))
  mx : Mx w m0 tk
  po : Qo w Q m0 lim An cn Af cf ns fs
  kids : Kids w ns Af
  tr : T.Tr (T.lvl xs k j) pl (ndm ns)
  used : ns.length - fs.length = K.trie xs + (11 - max j m)
  plk : ∀ l p, l < 11 → T.prs xs l p → pl l p = pl0 l p
  way : ∀ l, l < j → l < m → ns[pl0 l (T.pre l k)]? = some (nat ns0 (pl0 l (T.pre l k)), true)
  chg : K.Chg w0 w TB0
  blk : ∀ b, TBk P Q m0 An Af ns b → TB0 b ∨ w0.heap.size ≤ b
/-- One level more, put into the place i. -/
theorem GS.step {w0 w w1 w2 : World} {P Q m0 lim tk root k m l cn cf i : Nat} {xs fs fs' : List Nat} {TB0 : Nat → Prop} {ns0 ns ns' : List (Nd × Bool)} {pl0 pl : Nat → Nat → Nat} {An Af : Option Addr} {x : Nd}
    (h : GS w0 w P Q m0 lim tk root xs k m (l + 1) TB0 ns0 pl0 An cn Af cf ns fs pl) (hu : K.Up xs) (hk : k ∉ xs) (hl : l < 11)
    (A0 : Option Addr) (hA0 : ∀ g, A0.map (·.block) = some g → ∃ hi : i < ns.length, ns[i].1.A.map (·.block) = some g)
    (h1 : K.Chg w w1 (fun j => A0.map (·.block) = some j)) (hx : w1.ownsRow 0 3 1 (.slice x.A x.ch.length x.c) x.ch.length (iw x.ch)) (hxb : ∀ j, x.A.map (·.block) = some j → A0.map (·.block) = some j ∨ w.heap.size ≤ j)
    (h2 : QStep w1 Q m0 lim An Af ns' fs' w2) (hn : ∀ j, j ≠ i → ns'[j]? = ns[j]?) (hni : ns'[i]? = some (x, true))
    (hc : (¬ T.prs xs l (T.pre l k) ∧ ndm ns i = none ∧ m ≤ l ∧ ns'.length - fs'.length = ns.length - fs.length + 1) ∨ (T.prs xs l (T.pre l k) ∧ i = pl l (T.pre l k) ∧ l < m ∧ ns'.length - fs'.length = ns.length - fs.length))
    (hok : T.NdOK (K.add xs k) (T.upd pl l (T.pre l k) i) l (T.pre l k) x.W x.ks x.le x.gr x.ch) :
    ∃ An' cn' Af' cf', GS w0 w2 P Q m0 lim tk root xs k m l TB0 ns0 pl0 An' cn' Af' cf' ns' fs' (T.upd pl l (T.pre l k) i) := by
  obtain ⟨An', cn', Af', cf', hpo, hch, hbl⟩ := h2
  have hP := row_lt h.row
  have hMl := h.mx.lt
  have hA0b : ∀ g, A0.map (·.block) = some g → TBk P Q m0 An Af ns g := fun g hg => .inr (.inr (.inr ⟨i, hA0 g hg⟩))
  have hrow : ∀ g T (cs : Array Value), w.heap[g]? = some (.cells cs T (0, 0)) → T ≠ 3 → ¬ A0.map (·.block) = some g := fun g T cs hr hT hg => by
    obtain ⟨hi, h3⟩ := hA0 g hg
    obtain ⟨_, cur, hc⟩ := own_block_lt (h.kids.own i hi) h3
    exact row_ne hr hc hT rfl
  obtain ⟨r, c, s, p, hmr⟩ := h.mx
  have hq1 : ∀ j, QB Q An Af j → j ≠ P ∧ j ≠ m0 := fun j hj => by
    rcases hj with rfl | hj | hj
    · exact ⟨row_ne h.po.row h.row (by decide), row_ne h.po.row hmr (by decide)⟩
    · obtain ⟨_, cur, hc⟩ := own_block_lt h.po.nodes hj
      exact ⟨row_ne hc h.row (by decide), row_ne hc hmr (by decide)⟩
    · obtain ⟨_, cur, hc⟩ := own_block_lt h.po.freed hj
      exact ⟨row_ne hc h.row (by decide), row_ne hc hmr (by decide)⟩
  have hP1 := h1.block P hP (hrow P _ _ h.row (by decide))
  have hM1 := h1.block m0 hMl (hrow m0 _ _ hmr (by decide))
  have hs1 := h1.size
  have hplace : ∀ l' p', l' < 11 → T.prs (T.lvl xs k (l + 1) l') l' p' → ¬ (l' = l ∧ p' = T.pre l k) → pl l' p' ≠ i := by
    intro l' p' hl' hp hne e
    rcases hc with ⟨_, h3, _⟩ | ⟨h3, h4, _⟩
    · obtain ⟨n, hn', _⟩ := h.tr.ok l' p' hl' hp
      rw [e, h3] at hn'
      cases hn'
    · refine hne (h.tr.inj l' p' l (T.pre l k) hl' hl hp ?_ (e.trans h4))
      unfold T.lvl
      rw [if_pos (by omega)]
      exact h3
  have hnd : ∀ j, j ≠ i → ndm ns' j = ndm ns j := fun j hj => by unfold ndm; rw [hn j hj]
  refine ⟨An', cn', Af', cf', ?_, ?_, hpo, h.kids.step h.po i x true A0 hA0 h1 hx hxb hch hbl hn hni, ?_, ?_, ?_, ?_, ?_, ?_⟩
  · exact (hch.block P (by omega) (fun hq => (hq1 P hq).1 rfl)).trans (hP1.trans h.row)
  · exact ⟨r, c, s, p, (hch.block m0 (by omega) (fun hq => (hq1 m0 hq).2 rfl)).trans (hM1.trans hmr)⟩
  · exact T.Tr.step hu hk hl h.tr (by rcases hc with ⟨h3, h4, _⟩ | ⟨h3, h4, _⟩; exact .inl ⟨h3, h4⟩; exact .inr ⟨h3, h4⟩) (ndm_of hni) hnd hok
  · have := h.used
    rcases hc with ⟨_, _, h3, h4⟩ | ⟨_, _, h3, h4⟩
    · rw [h4]; omega
    · rw [h4]; omega
  · intro l' p' hl' hp
    by_cases hne : l' = l ∧ p' = T.pre l k
    · obtain ⟨rfl, rfl⟩ := hne
      rw [T.upd_same]
      rcases hc with ⟨h3, _⟩ | ⟨_, h4, _⟩
      · exact absurd hp h3
      · rw [h4]; exact h.plk _ _ hl' hp
    · rw [T.upd_other hne]
      exact h.plk _ _ hl' hp
  · intro l' hl' hm'
    have h3 := h.way l' (by omega) hm'
    rw [hn _ ?_]
    · exact h3
    · intro e
      rcases hc with ⟨_, h4, _⟩ | ⟨h5, h4, _⟩
      · have := ndm_of h3
        rw [e, h4] at this
        cases this
      · have hp : T.prs xs l' (T.pre l' k) := T.prs_le (m := l) (by omega) (by omega) h5
        have e2 := h.plk l' (T.pre l' k) (by omega) hp
        refine hplace l' (T.pre l' k) (by omega) ?_ (fun h => by omega) (e2.trans e)
        unfold T.lvl
        rw [if_pos (by omega)]
        exact hp
  · refine (h.chg.trans h1 (fun j hj => h.blk j (hA0b j hj))).trans hch (fun j hj => h.blk j (.inr (.inr (.inl hj))))
  · have hs0 := h.chg.size
    intro b hb
    rcases hb with rfl | rfl | hb | ⟨j, hj, hb⟩
    · exact h.blk _ (.inl rfl)
    · exact h.blk _ (.inr (.inl rfl))
    · rcases hbl b hb with h3 | h3
      · exact h.blk b (.inr (.inr (.inl h3)))
      · exact .inr (by omega)
    · by_cases e : j = i
      · subst e
        rw [List.getElem?_eq_getElem hj] at hni
        rw [Option.some.inj hni] at hb
        rcases hxb b hb with h3 | h3
        · exact h.blk b (hA0b b h3)
        · exact .inr (by omega)
      · obtain ⟨hj', ej⟩ := get_of hj (hn j e)
        rw [ej] at hb
        exact h.blk b (.inr (.inr (.inr ⟨j, hj', hb⟩)))
end Go.Proofs.YtbiingpdchoppaaDoor
end
section
namespace Go.Proofs.YtbiingpdchoppaaDoor
set_option maxRecDepth 40000
open Go.RowKit
def GrowP (w : World) (P Q m0 lim tk : Nat) (An Af : Option Addr) (ns : List (Nd × Bool)) (ys : List Nat) (e : Ending) (w' : World) : Prop :=
  e = .returned (.tuple #[]) ∧ ∃ An' cn' Af' cf' ns' fs' root' pl', TW w' P Q m0 lim tk An' cn' Af' cf' ns' fs' root' pl' ys ∧ K.Chg w w' (TBk P Q m0 An Af ns) ∧ ∀ b, TBk P Q m0 An' Af' ns' b → TBk P Q m0 An Af ns b ∨ w.heap.size ≤ b
theorem tb_types {w : World} {P Q m0 lim tk root cn cf : Nat} {An Af : Option Addr} {ns : List (Nd × Bool)} {fs xs : List Nat} {pl : Nat → Nat → Nat} (h : TW w P Q m0 lim tk An cn Af cf ns fs root pl xs) {j : Nat} (hj : TBk P Q m0 An Af ns j) : j < w.heap.size ∧ ∃ cur T, w.heap[j]? = some (.cells cur T (0, 0)) ∧ T ≠ 99 ∧ T ≠ 30 := by
  rcases hj with rfl | rfl | (rfl | hj | hj) | ⟨i, hi, hj⟩
  · exact ⟨row_lt h.row, _, _, h.row, by decide, by decide⟩
  · obtain ⟨r, c, s, p, hr⟩ := h.mx
    exact ⟨row_lt hr, _, _, hr, by decide, by decide⟩
  · exact ⟨h.po.lt, _, _, h.po.row, by decide, by decide⟩
  · obtain ⟨h1, cur, hc⟩ := own_block_lt h.po.nodes hj
    exact ⟨h1, cur, _, hc, by decide, by decide⟩
  · obtain ⟨h1, cur, hc⟩ := own_block_lt h.po.freed hj
    exact ⟨h1, cur, _, hc, by decide, by decide⟩
  · obtain ⟨h1, cur, hc⟩ := own_block_lt (h.kids.own i hi) hj
    exact ⟨h1, cur, _, hc, by decide, by decide⟩
theorem way_apart {w : World} {P Q m0 lim tk root cn cf : Nat} {An Af : Option Addr} {ns : List (Nd × Bool)} {fs xs : List Nat} {pl : Nat → Nat → Nat} (h : TW w P Q m0 lim tk An cn Af cf ns fs root pl xs) {B m cw : Nat} {Aw : Option Addr} {vs : List Value} (hw : w.ownsRow B 99 6 (.slice Aw m cw) m vs) {b : Nat} (hb : Aw.map (·.block) = some b) : ¬ TBk P Q m0 An Af ns b := fun ht => by
  obtain ⟨_, cur, T, hr, hT, _⟩ := tb_types h ht
  obtain ⟨_, cur', hr'⟩ := own_block_lt hw hb
  exact row_ne hr hr' hT rfl
/-- How it begins. -/
theorem GS.start {w : World} {P Q m0 lim tk root cn cf k : Nat} {An Af : Option Addr} {ns : List (Nd × Bool)} {fs xs : List Nat} {pl : Nat → Nat → Nat} (h : TW w P Q m0 lim tk An cn Af cf ns fs root pl xs) : GS w w P Q m0 lim tk root xs k (T.wl xs k) 11 (TBk P Q m0 An Af ns) ns pl An cn Af cf ns fs pl := by
  have hm := T.wl_le xs k
  refine ⟨h.row, h.mx, h.po, h.kids, h.tr.start, by rw [h.used]; omega, fun _ _ _ _ => rfl, fun l _ hl => ?_, chg_refl _ _, fun b hb => .inl hb⟩
  obtain ⟨hi, e, _⟩ := h.node (by omega) (T.wl_yes hl)
  rw [List.getElem?_eq_getElem hi, e]
/-- How it ends: the root is stored. -/
theorem GS.finish {w0 w : World} {P Q m0 lim tk root cn0 cf0 cn cf k pc : Nat} {An0 Af0 An Af : Option Addr} {ns0 ns : List (Nd × Bool)} {fs0 fs xs : List Nat} {pl0 pl : Nat → Nat → Nat} (h0 : TW w0 P Q m0 lim tk An0 cn0 Af0 cf0 ns0 fs0 root pl0 xs) (hk : k < 18446744073709551616) (hkx : k ∉ xs)
    (h : GS w0 w P Q m0 lim tk root xs k (T.wl xs k) 0 (TBk P Q m0 An0 Af0 ns0) ns0 pl0 An cn Af cf ns fs pl) (hpc : pc = pl 0 (T.pre 0 k)) : GrowP w0 P Q m0 lim tk An0 Af0 ns0 (K.add xs k) (.returned (.tuple #[])) (w.setCell ⟨P, 2, none⟩ (.int .i64 (pc : Int))) := by
  have hm := T.wl_le xs k
  have hc := chg_set w P 2 (.int .i64 (pc : Int)) (· = P) rfl
  obtain ⟨r, c, s, p, hmr⟩ := h.mx
  have hq : ∀ j, QB Q An Af j → j ≠ P := fun j hj => by
    rcases hj with rfl | hj | hj
    · exact row_ne h.po.row h.row (by decide)
    · obtain ⟨_, cur, hc⟩ := own_block_lt h.po.nodes hj
      exact row_ne hc h.row (by decide)
    · obtain ⟨_, cur, hc⟩ := own_block_lt h.po.freed hj
      exact row_ne hc h.row (by decide)
  have hz : T.prs xs 0 (T.pre 0 k) ↔ xs ≠ [] := T.prs_zero hk h0.lt
  have hp0 : T.prs (K.add xs k) 0 (T.pre 0 k) := ⟨k, (K.add_mem h0.up k k).2 (.inl rfl), rfl⟩
  obtain ⟨n, hn, _⟩ := h.tr.done.ok 0 _ (by omega) hp0
  obtain ⟨hi, _⟩ := ndm_some hn
  have hl1 := h.po.ns_le
  have hl2 := h.po.lim_le
  refine ⟨rfl, An, cn, Af, cf, ns, fs, pc, pl, ⟨?_, h.mx.chg hc (fun e => row_ne hmr h.row (by decide) e), h.po.chg hc hq, ⟨fun i hi => hc.own (h.kids.own i hi) (fun b hb e => ?_), h.kids.kd, h.kids.kf⟩, h.tr.done, fun _ => ?_, ?_, K.add_up h0.up k, fun x hx => ?_, by omega⟩, h.chg.trans hc (fun j hj => .inl (.inl hj)), h.blk⟩
  · have := row_set h.row 2 (.int .i64 (pc : Int))
    simpa using this
  · obtain ⟨_, cur, hr⟩ := own_block_lt (h.kids.own i hi) (own_of_map hb)
    exact row_ne hr h.row (by decide) e
  · rw [hpc, T.pre_zero hk]
  · rw [h.used, T.trie_add h0.up hm (fun l hl => T.wl_yes hl) (fun hl => T.wl_no hl) hz]
    omega
  · rcases (K.add_mem h0.up k x).1 hx with rfl | hx
    · exact hk
    · exact h0.lt x hx
set_option maxHeartbeats 8000000 in
theorem t_grow (w : World) (P Q m0 lim tk root cn cf : Nat) (An Af : Option Addr) (ns : List (Nd × Bool)) (fs xs : List Nat) (pl : Nat → Nat → Nat) (h : TW w P Q m0 lim tk An cn Af cf ns fs root pl xs) (k : Nat) (hk : k < 18446744073709551616) (hkx : k ∉ xs)
    (B m cw : Nat) (Aw : Option Addr) (hm : m = T.wl xs k) (hw : w.ownsRow B 99 6 (.slice Aw m cw) m (sv (wst ns pl k m))) (hroom : ns.length - fs.length + (11 - m) ≤ lim) :
    Calls Tryd.prog 50 #[.pointer (some ⟨P, 0, none⟩), .int .u64 (k : Int), .slice Aw m cw] w (GrowP w P Q m0 lim tk An Af ns (K.add xs k)) := by
  have hm11 : m ≤ 11 := by rw [hm]; exact T.wl_le xs k
  have H := Lib.hid h
  have hst := Lib.hid (GS.start (k := k) h)
  rw [← hm] at hst
  have HM := Lib.hid hm
  have HW := Lib.hid hw
  have HR := Lib.hid hroom
  clear h hm hw hroom
  go_enter Tryd.func50, Tryd.ntmps50
  go_wp2
  go_loopw [6, 7] (fun pv lv wr => ∃ (j pc : Nat) (An' : Option Addr) (cn' : Nat) (Af' : Option Addr) (cf' : Nat) (ns' : List (Nd × Bool)) (fs' : List Nat) (pl' : Nat → Nat → Nat), j ≤ 11 ∧ lv = .int .i64 ((j : Int) - 1) ∧ pv = .int .i64 (pc : Int) ∧ pc < 1048576 ∧ Hid (j < 11 → pc = pl' j (T.pre j k)) ∧ Hid (GS w wr P Q m0 lim tk root xs k m j (TBk P Q m0 An Af ns) ns pl An' cn' Af' cf' ns' fs' pl'))
    (fun _ lv _ => (intOf lv + 1).toNat)
  case atStart => exact ⟨11, 0, An, cn, Af, cf, ns, fs, pl, by omega, rfl, rfl, by omega, Lib.hid (fun h => absurd h (by omega)), hst⟩
  case round =>
    obtain ⟨j, pc, An', cn', Af', cf', ns', fs', pl', hj, rfl, rfl, hpc, hpp, hG⟩ := hrel
    rcases j with _ | l
    · have hrow := hG.out.row
      have x2 := cell_of_row wr P 2 _ _ (0, 0) hrow
      have f2 := frozen_of_row wr P 2 _ _ hrow
      simp at x2
      clear hrow
      go_wp2
      go_end0
      have := hG.out
      rw [HM.out] at this
      exact GS.finish H.out hk hkx this (hpp.out (by omega))
    · have el : (((l + 1 : Nat) : Int) - 1) = (l : Int) := by omega
      rw [el]
      have g0 : decide (0 ≤ (l : Int)) = true := decide_eq_true (by omega)
      have hw1 : IntKind.i64.wrap ((l : Int) - 1) = (l : Int) - 1 := IntWalk.i64_in _ (by omega)
      have hP1 := cell_of_row wr P 1 _ _ (0, 0) hG.out.row
      simp at hP1
      have hm2 : max (l + 1) m = if l < m then m else l + 1 := by split <;> omega
      by_cases hlm : l < m
      · -- the node is there
        have d1 : decide ((m : Int) ≤ (l : Int)) = false := decide_eq_false (by omega)
        have d2 : decide (m ≤ l) = false := decide_eq_false (by omega)
        have k1 : (l : Int) < (m : Int) := by omega
        have hpx : T.prs xs l (T.pre l k) := T.wl_yes (by rw [← HM.out]; exact hlm)
        have hwr : wr.ownsRow B 99 6 (.slice Aw m cw) m (sv (wst ns pl k m)) := hG.out.chg.own HW.out (fun b hb => way_apart H.out HW.out (own_of_map hb))
        have hwy : Wy wr B (.slice Aw (wst ns pl k m).length cw) (wst ns pl k m) := by
          unfold Wy
          rw [wst_len]
          exact hwr
        obtain ⟨gw, rfl, c0, c1, c2, c3, c4, c5⟩ := hwy.at (k := l) (by rw [wst_len]; exact hlm)
        rw [wst_at] at c0 c1 c2 c3 c4 c5
        dsimp only at c0 c1 c2 c3 c4 c5
        have hway := hG.out.way l (by omega) hlm
        have hpe := hG.out.plk l (T.pre l k) (by omega) hpx
        have hok0 : T.NdOK xs pl' l (T.pre l k) (nat ns (pl l (T.pre l k))).W (nat ns (pl l (T.pre l k))).ks (nat ns (pl l (T.pre l k))).le (nat ns (pl l (T.pre l k))).gr (nat ns (pl l (T.pre l k))).ch := by
          obtain ⟨n, hn, hok⟩ := hG.out.tr.ok l (T.pre l k) (by omega) (by unfold T.lvl; rw [if_pos (by omega)]; exact hpx)
          rw [hpe, ndm_of hway] at hn
          cases hn
          have e : T.lvl xs k (l + 1) l = xs := by unfold T.lvl; rw [if_pos (by omega)]
          rw [e] at hok
          exact hok
        obtain ⟨hi', hie⟩ := List.getElem?_eq_some_iff.1 hway
        have hkid := hG.out.kids.own _ hi'
        rw [hie] at hkid
        have hks : (nat ns (pl l (T.pre l k))).ks < 1000000000 := by
          rw [hok0.ks]
          have h1 := T.len_trie H.out.up
          have h2 := H.out.used
          have h3 := H.out.po.ns_le
          have h4 := H.out.po.lim_le
          have h5 : (T.sub xs l (T.pre l k)).length ≤ xs.length := List.length_filter_le _ _
          omega
        have hchl : (nat ns (pl l (T.pre l k))).ch.length = if l < 10 then (M.bl (nat ns (pl l (T.pre l k))).W).length else 0 := by
          rw [hok0.ch, hok0.bits]
          split
          · rw [List.length_map]
          · rfl
        have hbl64 : (M.bl (nat ns (pl l (T.pre l k))).W).length ≤ 64 := by
          unfold M.bl
          exact Nat.le_trans (List.length_filter_le _ _) (by simp)
        have HWAY := Lib.hid hway
        have HIE := Lib.hid hie
        have hpk : pl l (T.pre l k) < 1048576 := by
          have := hG.out.po.ns_le
          have := hG.out.po.lim_le
          omega
        generalize nat ns (pl l (T.pre l k)) = nd at *
        generalize hig : pl l (T.pre l k) = i at *
        obtain ⟨W, A, ch, c, ks, le, gr⟩ := nd
        dsimp only at hok0 hkid hks hchl hbl64 c0 c1 c2 c3 c4 c5
        have hcl : ch.length ≤ 64 := by rw [hchl]; split <;> omega
        have hWl := hok0.wlt
        have HOK := Lib.hid hok0
        have HPE := Lib.hid hpe
        have HPX := Lib.hid hpx
        obtain ⟨zs, hzs⟩ : ∃ zs, (if l < 10 ∧ T.dig l k ∉ M.bl W then ch.take (K.fi (M.bl W) (T.dig l k)) ++ pc :: ch.drop (K.fi (M.bl W) (T.dig l k)) else ch) = zs := ⟨_, rfl⟩
        have hwith := fun V ho => Lib.hid (nd_with V W A ch c ks le gr k l pc hWl hk (by omega) ho (fun h1 h2 => by rw [hchl, if_pos h1]; exact K.fi_le _ _) hcl hks)
        rw [hzs] at hwith
        obtain ⟨W2, hW2⟩ : ∃ W2, W ||| M.one (T.dig l k) = W2 := ⟨_, rfl⟩
        obtain ⟨K2, hK2⟩ : ∃ K2, ks + 1 = K2 := ⟨_, rfl⟩
        obtain ⟨n2, hn2⟩ : ∃ n2, min le k = n2 := ⟨_, rfl⟩
        obtain ⟨x2, hx2⟩ : ∃ x2, max gr k = x2 := ⟨_, rfl⟩
        rw [hW2, hK2, hn2, hx2] at hwith
        have HVAL := Lib.hid (And.intro hzs (And.intro hW2 (And.intro hK2 (And.intro hn2 hx2))))
        have hb0 : Below wr.heap.size wr (wr.alloc (.cells #[.int .u64 (W : Int), .slice A ch.length c, .int .i64 (ks : Int), .int .u64 (le : Int), .int .u64 (gr : Int), .int .i64 (i : Int)] 99)) := (Below.refl _ wr).alloc (Nat.le_refl _) _
        have HKV : Hid ((wr.alloc (.cells #[.int .u64 (W : Int), .slice A ch.length c, .int .i64 (ks : Int), .int .u64 (le : Int), .int .u64 (gr : Int), .int .i64 (i : Int)] 99)).drew.ownsRow 0 3 1 (.slice A ch.length c) ch.length (iw ch)) := Lib.hid ((K.Chg.of_below (O := fun _ => False) hb0).own hkid (fun _ _ h => h))
        have HPlt := row_lt hG.out.row
        have hbox := K.alloc_top wr (.cells #[.int .u64 (W : Int), .slice A ch.length c, .int .i64 (ks : Int), .int .u64 (le : Int), .int .u64 (gr : Int), .int .i64 (i : Int)] 99)
        have HBX := Lib.hid hbox
        have HB0 := Lib.hid hb0
        have hP1' : (wr.alloc (.cells #[.int .u64 (W : Int), .slice A ch.length c, .int .i64 (ks : Int), .int .u64 (le : Int), .int .u64 (gr : Int), .int .i64 (i : Int)] 99)).cell? ⟨P, 1, none⟩ = some (.pointer (some ⟨Q, 0, none⟩)) := (hb0.cell (p := ⟨P, 1, none⟩) HPlt).trans hP1
        have hAlt : Hid (∀ j, A.map (·.block) = some j → j < wr.heap.size) := Lib.hid (fun j hj => (own_block_lt hkid hj).1)
        have hAno : Hid (∀ j, A.map (·.block) = some j → ¬ QB Q An' Af' j ∧ j ≠ P) := Lib.hid (fun j hj => ⟨kid_no hG.out.po hG.out.kids hi' (by rw [HIE.out]; exact hj), by
          obtain ⟨_, cur, hc⟩ := own_block_lt hkid hj
          exact row_ne hc hG.out.row (by decide)⟩)
        have hQP : Hid (∀ j, QB Q An' Af' j → j ≠ P ∧ j < wr.heap.size) := Lib.hid (fun j hj => ⟨by
          rcases hj with rfl | hj | hj
          · exact row_ne hG.out.po.row hG.out.row (by decide)
          · obtain ⟨_, cur, hc⟩ := own_block_lt hG.out.po.nodes hj
            exact row_ne hc hG.out.row (by decide)
          · obtain ⟨_, cur, hc⟩ := own_block_lt hG.out.po.freed hj
            exact row_ne hc hG.out.row (by decide), hG.out.po.qb hj⟩)
        have hS0 : (wr.alloc (.cells #[.int .u64 (W : Int), .slice A ch.length c, .int .i64 (ks : Int), .int .u64 (le : Int), .int .u64 (gr : Int), .int .i64 (i : Int)] 99)).drew.cell? ⟨P, 1, none⟩ = some (.pointer (some ⟨Q, 0, none⟩)) ∧ (wr.alloc (.cells #[.int .u64 (W : Int), .slice A ch.length c, .int .i64 (ks : Int), .int .u64 (le : Int), .int .u64 (gr : Int), .int .i64 (i : Int)] 99)).drew.cell? ⟨wr.heap.size, 0, none⟩ = some (.int .u64 (W : Int)) ∧ (wr.alloc (.cells #[.int .u64 (W : Int), .slice A ch.length c, .int .i64 (ks : Int), .int .u64 (le : Int), .int .u64 (gr : Int), .int .i64 (i : Int)] 99)).drew.cell? ⟨wr.heap.size, 1, none⟩ = some (.slice A ch.length c) ∧ (wr.alloc (.cells #[.int .u64 (W : Int), .slice A ch.length c, .int .i64 (ks : Int), .int .u64 (le : Int), .int .u64 (gr : Int), .int .i64 (i : Int)] 99)).drew.cell? ⟨wr.heap.size, 2, none⟩ = some (.int .i64 (ks : Int)) ∧ (wr.alloc (.cells #[.int .u64 (W : Int), .slice A ch.length c, .int .i64 (ks : Int), .int .u64 (le : Int), .int .u64 (gr : Int), .int .i64 (i : Int)] 99)).drew.cell? ⟨wr.heap.size, 3, none⟩ = some (.int .u64 (le : Int)) ∧ (wr.alloc (.cells #[.int .u64 (W : Int), .slice A ch.length c, .int .i64 (ks : Int), .int .u64 (le : Int), .int .u64 (gr : Int), .int .i64 (i : Int)] 99)).drew.cell? ⟨wr.heap.size, 4, none⟩ = some (.int .u64 (gr : Int)) ∧ (wr.alloc (.cells #[.int .u64 (W : Int), .slice A ch.length c, .int .i64 (ks : Int), .int .u64 (le : Int), .int .u64 (gr : Int), .int .i64 (i : Int)] 99)).drew.cell? ⟨wr.heap.size, 5, none⟩ = some (.int .i64 (i : Int)) :=
          ⟨hP1', cell_of_row _ _ 0 _ _ (0, 0) hbox, cell_of_row _ _ 1 _ _ (0, 0) hbox, cell_of_row _ _ 2 _ _ (0, 0) hbox, cell_of_row _ _ 3 _ _ (0, 0) hbox, cell_of_row _ _ 4 _ _ (0, 0) hbox, cell_of_row _ _ 5 _ _ (0, 0) hbox⟩
        have HS0 := Lib.hid hS0
        clear hzs hW2 hK2 hn2 hx2 hok0 hkid hway hie hpe hpx hwr hwy hchl hb0 hbox hig hS0
        go_wp2
        go_region_held3 (fun X => X.cell? ⟨P, 1, none⟩ = some (.pointer (some ⟨Q, 0, none⟩)) ∧ X.cell? ⟨wr.heap.size, 0, none⟩ = some (.int .u64 (W : Int)) ∧ X.cell? ⟨wr.heap.size, 1, none⟩ = some (.slice A ch.length c) ∧ X.cell? ⟨wr.heap.size, 2, none⟩ = some (.int .i64 (ks : Int)) ∧ X.cell? ⟨wr.heap.size, 3, none⟩ = some (.int .u64 (le : Int)) ∧ X.cell? ⟨wr.heap.size, 4, none⟩ = some (.int .u64 (gr : Int)) ∧ X.cell? ⟨wr.heap.size, 5, none⟩ = some (.int .i64 (i : Int))) (first | exact HS0.out | exact hS2 | exact hS1 | go_keep) (first
          | (go_at_call 72; refine (hwith _ HKV.out).out.mono ?_; rintro e w1 ⟨A1, c1, rfl, ho1, hc1, hb1⟩
             have HC1 : Hid (K.Chg wr w1 (fun j => A.map (·.block) = some j)) := Lib.hid ((K.Chg.of_below HB0.out).same (chg_of_drew hc1))
             have HO1 := Lib.hid ho1
             have hz1 : wr.heap.size + 1 ≤ w1.heap.size := (by have h1 := hc1.size; have h2 : (wr.alloc (.cells #[.int .u64 (W : Int), .slice A ch.length c, .int .i64 (ks : Int), .int .u64 (le : Int), .int .u64 (gr : Int), .int .i64 (i : Int)] 99)).drew.heap.size = wr.heap.size + 1 := (by show (wr.heap.push _).size = _; simp); omega)
             have HB1 : Hid (∀ j, A1.map (·.block) = some j → A.map (·.block) = some j ∨ wr.heap.size ≤ j) := Lib.hid (fun j hj => (by
               rcases hb1 j hj with h | h
               · exact .inl h
               · right
                 have h2 : (wr.alloc (.cells #[.int .u64 (W : Int), .slice A ch.length c, .int .i64 (ks : Int), .int .u64 (le : Int), .int .u64 (gr : Int), .int .i64 (i : Int)] 99)).drew.heap.size = wr.heap.size + 1 := (by show (wr.heap.push _).size = _; simp)
                 omega))
             have HQ1 := Lib.hid (hG.out.po.chg HC1.out (fun j hj h => (hAno.out j h).1 hj))
             have hrow1 := (hc1.block wr.heap.size (by (show wr.heap.size < (wr.heap.push _).size; simp)) (fun h => by have := hAlt.out _ h; omega)).trans HBX.out
             have HBX1 := Lib.hid hrow1
             have hS1 : w1.cell? ⟨P, 1, none⟩ = some (.pointer (some ⟨Q, 0, none⟩)) ∧ w1.cell? ⟨wr.heap.size, 0, none⟩ = some (.int .u64 (W : Int)) ∧ w1.cell? ⟨wr.heap.size, 1, none⟩ = some (.slice A ch.length c) ∧ w1.cell? ⟨wr.heap.size, 2, none⟩ = some (.int .i64 (ks : Int)) ∧ w1.cell? ⟨wr.heap.size, 3, none⟩ = some (.int .u64 (le : Int)) ∧ w1.cell? ⟨wr.heap.size, 4, none⟩ = some (.int .u64 (gr : Int)) ∧ w1.cell? ⟨wr.heap.size, 5, none⟩ = some (.int .i64 (i : Int)) :=
               ⟨(HC1.out.cell HPlt (fun h => (hAno.out P h).2 rfl) 1).trans hP1, cell_of_row w1 _ 0 _ _ (0, 0) hrow1, cell_of_row w1 _ 1 _ _ (0, 0) hrow1, cell_of_row w1 _ 2 _ _ (0, 0) hrow1, cell_of_row w1 _ 3 _ _ (0, 0) hrow1, cell_of_row w1 _ 4 _ _ (0, 0) hrow1, cell_of_row w1 _ 5 _ _ (0, 0) hrow1⟩
             clear hc1 ho1 hb1 hrow1)
          | (go_at_call 73; refine (q_put w1 Q m0 lim cn' cf' An' Af' ns' fs' HQ1.out i hi' (by rw [HIE.out]) W2 A1 zs c1 K2 n2 x2 _ rfl).mono ?_; rintro e w2 ⟨rfl, hst2⟩
             have HS2 := Lib.hid hst2
             have hS2 : w2.cell? ⟨P, 1, none⟩ = some (.pointer (some ⟨Q, 0, none⟩)) ∧ w2.cell? ⟨wr.heap.size, 0, none⟩ = some (.int .u64 (W : Int)) ∧ w2.cell? ⟨wr.heap.size, 1, none⟩ = some (.slice A ch.length c) ∧ w2.cell? ⟨wr.heap.size, 2, none⟩ = some (.int .i64 (ks : Int)) ∧ w2.cell? ⟨wr.heap.size, 3, none⟩ = some (.int .u64 (le : Int)) ∧ w2.cell? ⟨wr.heap.size, 4, none⟩ = some (.int .u64 (gr : Int)) ∧ w2.cell? ⟨wr.heap.size, 5, none⟩ = some (.int .i64 (i : Int)) := (by
               obtain ⟨_, _, _, _, _, h3, _⟩ := hst2
               have hrow2 := (h3.block wr.heap.size (by omega) (fun h => by have := (hQP.out _ h).2; omega)).trans HBX1.out
               exact ⟨(h3.cell (b := P) (by omega) (fun h => (hQP.out P h).1 rfl) 1).trans hS1.1, cell_of_row w2 _ 0 _ _ (0, 0) hrow2, cell_of_row w2 _ 1 _ _ (0, 0) hrow2, cell_of_row w2 _ 2 _ _ (0, 0) hrow2, cell_of_row w2 _ 3 _ _ (0, 0) hrow2, cell_of_row w2 _ 4 _ _ (0, 0) hrow2, cell_of_row w2 _ 5 _ _ (0, 0) hrow2⟩)
             clear hst2))
        all_goals
          have hS25 := hS2.2.2.2.2.2.2
          go_wp2
          obtain ⟨hv1, hv2, hv3, hv4, hv5⟩ := HVAL.out
          have hlen2 : (ns'.set i (⟨W2, A1, zs, c1, K2, n2, x2⟩, true)).length = ns'.length := List.length_set ..
          obtain ⟨An2, cn2, Af2, cf2, hG2⟩ := hG.out.step (i := i) (x := ⟨W2, A1, zs, c1, K2, n2, x2⟩) (ns' := ns'.set i (⟨W2, A1, zs, c1, K2, n2, x2⟩, true)) (fs' := fs') H.out.up hkx (by omega) A (fun g hg => ⟨hi', by rw [HIE.out]; exact hg⟩) HC1.out HO1.out HB1.out HS2.out
            (fun j hj => by rw [List.getElem?_set_ne (Ne.symm hj)]) (by simp [hi']) (.inr ⟨HPX.out, HPE.out.symm, hlm, by rw [hlen2]⟩) (by
              have h1 := HOK.out.grow (pl' := T.upd pl' l (T.pre l k) i) (by omega) H.out.up hkx (fun d _ _ => T.upd_other (by omega))
              rw [hv2, hv3, hv4, hv5, T.upd_other (by omega)] at h1
              rw [← hv1]
              by_cases h10 : l < 10
              · rw [← hpp.out (by omega)] at h1
                exact h1
              · rw [if_neg (fun h => h10 h.1)] at h1 ⊢
                exact h1)
          go_roundw
          case rel => exact ⟨l, i, An2, cn2, Af2, cf2, _, fs', _, by omega, rfl, rfl, hpk, Lib.hid (fun _ => (T.upd_same _ _ _ _).symm), Lib.hid hG2⟩
          case measure => first | (simp [intOf]; done) | (simp [intOf]; omega)
      · -- a new node
        have d1 : decide ((m : Int) ≤ (l : Int)) = true := decide_eq_true (by omega)
        have d2 : decide (m ≤ l) = true := decide_eq_true (by omega)
        have hnp : Hid (¬ T.prs xs l (T.pre l k)) := Lib.hid (fun hp => T.wl_no (xs := xs) (k := k) (by rw [← HM.out]; omega) (by rw [← HM.out]; exact T.prs_le (by omega) (by omega) hp))
        have hus := hG.out.used
        rw [hm2, if_neg hlm, ← H.out.used] at hus
        have hrr : Hid (ns'.length - fs'.length < lim) := Lib.hid (by have := HR.out; omega)
        obtain ⟨zs, hzs⟩ : ∃ zs, (if l < 10 then [pc] else []) = zs := ⟨_, rfl⟩
        have hfr := fun V => Lib.hid (nd_fresh V k l pc hk (by omega))
        rw [hzs] at hfr
        obtain ⟨W2, hW2⟩ : ∃ W2, 0 ||| M.one (T.dig l k) = W2 := ⟨_, rfl⟩
        obtain ⟨K2, hK2⟩ : ∃ K2, 0 + 1 = K2 := ⟨_, rfl⟩
        obtain ⟨n2, hn2⟩ : ∃ n2, min k k = n2 := ⟨_, rfl⟩
        obtain ⟨x2, hx2⟩ : ∃ x2, max k k = x2 := ⟨_, rfl⟩
        rw [hW2, hK2, hn2, hx2] at hfr
        have HOK : Hid (∀ i, T.NdOK (K.add xs k) (T.upd pl' l (T.pre l k) i) l (T.pre l k) W2 K2 n2 x2 zs) := Lib.hid (fun i => by
          have := T.NdOK.fresh (pl' := T.upd pl' l (T.pre l k) i) (l := l) (by omega) H.out.up hnp.out
          rw [hW2, hK2, hn2, hx2] at this
          rw [← hzs]
          by_cases h10 : l < 10
          · rw [if_pos h10] at this ⊢
            rw [T.upd_other (by omega), ← hpp.out (by omega)] at this
            exact this
          · rw [if_neg h10] at this ⊢
            exact this)
        have HPlt := row_lt hG.out.row
        have hQP : Hid (∀ j, QB Q An' Af' j → j ≠ P ∧ j < wr.heap.size) := Lib.hid (fun j hj => ⟨by
          rcases hj with rfl | hj | hj
          · exact row_ne hG.out.po.row hG.out.row (by decide)
          · obtain ⟨_, cur, hc⟩ := own_block_lt hG.out.po.nodes hj
            exact row_ne hc hG.out.row (by decide)
          · obtain ⟨_, cur, hc⟩ := own_block_lt hG.out.po.freed hj
            exact row_ne hc hG.out.row (by decide), hG.out.po.qb hj⟩)
        clear hzs hW2 hK2 hn2 hx2 hus
        go_wp2
        go_region_held3 (fun X => X.cell? ⟨P, 1, none⟩ = some (.pointer (some ⟨Q, 0, none⟩))) (first | exact hP1 | exact hS2 | exact hS1 | go_keep) (first
          | (go_at_call 72; refine (hfr _).out.mono ?_; rintro e w1 ⟨A1, c1, rfl, ho1, hc1, hb1⟩
             have HC1 : Hid (K.Chg wr w1 (fun _ => False)) := Lib.hid ((chg_of_drew hc1).mono (fun j h => by simp at h))
             have HO1 := Lib.hid ho1
             have HB1 := Lib.hid hb1
             have HQ1 := Lib.hid (hG.out.po.chg HC1.out (fun _ _ h => h))
             have hS1 : w1.cell? ⟨P, 1, none⟩ = some (.pointer (some ⟨Q, 0, none⟩)) := (HC1.out.cell HPlt (fun h => h) 1).trans hP1
             clear hc1 ho1 hb1)
          | (go_at_call 71; obtain ⟨i, ns2, fs2, hi2, hun, hni, hoth, hus2, hcall⟩ := q_alloc w1 Q m0 lim cn' cf' An' Af' ns' fs' HQ1.out W2 A1 zs c1 K2 n2 x2 hrr.out; refine hcall.mono ?_; rintro e w2 ⟨rfl, hst2⟩
             have HS2 := Lib.hid hst2
             have HNI := Lib.hid hni
             have HOT := Lib.hid hoth
             have HUN := Lib.hid hun
             have HU2 := Lib.hid hus2
             have hS2 : w2.cell? ⟨P, 1, none⟩ = some (.pointer (some ⟨Q, 0, none⟩)) := (by
               obtain ⟨_, _, _, _, _, h3, _⟩ := hst2
               exact (h3.cell (b := P) (by have := HC1.out.size; omega) (fun h => (hQP.out P h).1 rfl) 1).trans hS1)
             clear hst2 hcall hni hoth hun hus2))
        all_goals
          go_wp2
          have hnone : ndm ns' i = none := by
            unfold ndm
            rcases HUN.out with ⟨h1, h2⟩ | h1
            · rw [List.getElem?_eq_getElem h1]
              rcases hx : ns'[i] with ⟨a, b⟩
              rw [hx] at h2
              cases h2
              rfl
            · rw [List.getElem?_eq_none h1]
          obtain ⟨An2, cn2, Af2, cf2, hG2⟩ := hG.out.step (i := i) (x := ⟨W2, A1, zs, c1, K2, n2, x2⟩) H.out.up hkx (by omega) none (by simp) (HC1.out.mono (fun _ h => h.elim)) HO1.out (fun j hj => .inr (by
            rcases HB1.out j hj with h | h
            · simp at h
            · exact h)) HS2.out HOT.out HNI.out (.inl ⟨hnp.out, hnone, by omega, HU2.out⟩) (HOK.out i)
          have hil : i < 1048576 := by
            have := hG2.po.ns_le
            have := hG2.po.lim_le
            omega
          go_roundw
          case rel => exact ⟨l, i, An2, cn2, Af2, cf2, ns2, fs2, _, by omega, rfl, rfl, hil, Lib.hid (fun _ => (T.upd_same _ _ _ _).symm), Lib.hid hG2⟩
          case measure => first | (simp [intOf]; done) | (simp [intOf]; omega)
end Go.Proofs.YtbiingpdchoppaaDoor
end
section
namespace Go.Proofs.YtbiingpdchoppaaDoor
set_option maxRecDepth 40000
open Go.RowKit
theorem Kids.chg {w w' : World} {ns : List (Nd × Bool)} {Af : Option Addr} {O : Nat → Prop} (h : Kids w ns Af) (hc : K.Chg w w' O) (hO : ∀ i (hi : i < ns.length) g, ns[i].1.A.map (·.block) = some g → ¬ O g) : Kids w' ns Af :=
  ⟨fun i hi => hc.own (h.own i hi) (fun b hb => hO i hi b (own_of_map hb)), h.kd, h.kf⟩
section
variable {w w' : World} {P Q m0 lim tk root cn cf : Nat} {An Af : Option Addr} {ns : List (Nd × Bool)} {fs xs : List Nat} {pl : Nat → Nat → Nat}
theorem TW.chg {O : Nat → Prop} (h : TW w P Q m0 lim tk An cn Af cf ns fs root pl xs) (hc : K.Chg w w' O) (hO : ∀ j, TBk P Q m0 An Af ns j → ¬ O j) : TW w' P Q m0 lim tk An cn Af cf ns fs root pl xs :=
  ⟨(hc.block P (row_lt h.row) (hO P (.inl rfl))).trans h.row, h.mx.chg hc (hO m0 (.inr (.inl rfl))), h.po.chg hc (fun j hj => hO j (.inr (.inr (.inl hj)))), h.kids.chg hc (fun i hi g hg => hO g (.inr (.inr (.inr ⟨i, hi, hg⟩)))), h.tr, h.rt, h.used, h.up, h.lt, h.rl⟩
theorem TW.met {tk' : Nat} (h : TW w P Q m0 lim tk An cn Af cf ns fs root pl xs) (hc : K.Chg w w' (· = m0)) (hm : Mx w' m0 tk') : TW w' P Q m0 lim tk' An cn Af cf ns fs root pl xs :=
  have hn := h.ne_m
  ⟨(hc.block P (row_lt h.row) (fun e => hn.2.1 e)).trans h.row, hm, h.po.chg hc hn.1, h.kids.chg hc hn.2.2, h.tr, h.rt, h.used, h.up, h.lt, h.rl⟩
theorem TW.drew (h : TW w P Q m0 lim tk An cn Af cf ns fs root pl xs) (n : Nat) : TW (w.drewN n) P Q m0 lim tk An cn Af cf ns fs root pl xs := h.chg ((chg_refl w (fun _ => False)).drewN n) (fun _ _ h => h)
/-- What a call leaves of a trie. -/
def TWs (w0 w' : World) (P Q m0 lim : Nat) (TB0 : Nat → Prop) (ys : List Nat) (tk : Nat) : Prop :=
  ∃ An cn Af cf ns fs root pl, TW w' P Q m0 lim tk An cn Af cf ns fs root pl ys ∧ K.Chg w0 w' TB0 ∧ ∀ b, TBk P Q m0 An Af ns b → TB0 b ∨ w0.heap.size ≤ b
theorem TW.same {w0 : World} {TB0 : Nat → Prop} (h : TW w P Q m0 lim tk An cn Af cf ns fs root pl xs) (hc : K.Chg w0 w TB0) (hb : ∀ b, TBk P Q m0 An Af ns b → TB0 b ∨ w0.heap.size ≤ b) : TWs w0 w P Q m0 lim TB0 xs tk := ⟨An, cn, Af, cf, ns, fs, root, pl, h, hc, hb⟩
/-- Is the key there? The way tells it. -/
theorem t_found (V : World) (h : TW w P Q m0 lim tk An cn Af cf ns fs root pl xs) (k : Nat) (hk : k < 18446744073709551616) (B m cw : Nat) (Aw : Option Addr) (hm : m = T.wl xs k) (hw : V.ownsRow B 99 6 (.slice Aw m cw) m (sv (wst ns pl k m))) :
    Calls Tryd.prog 48 #[.int .u64 (k : Int), .slice Aw m cw] V fun e w' => e = .returned (.bool (decide (k ∈ xs))) ∧ ∃ n, w' = V.drewN n := by
  have hm11 : m ≤ 11 := by rw [hm]; exact T.wl_le xs k
  have hl := wst_len ns pl k m
  by_cases h11 : m < 11
  · have hno : k ∉ xs := fun hx => T.wl_no (xs := xs) (k := k) (by omega) ⟨k, hx, rfl⟩
    rw [decide_eq_false hno]
    have := t_found_no V B Aw cw k (wst ns pl k m) (by omega)
    rwa [hl] at this
  · obtain rfl : m = 11 := by omega
    have hp : T.prs xs 10 (T.pre 10 k) := T.wl_yes (by omega)
    obtain ⟨_, _, hok⟩ := h.node (by omega) hp
    have he : (wst ns pl k 11)[10]'(by omega) = (nat ns (pl 10 (T.pre 10 k)), pl 10 (T.pre 10 k)) := wst_at _ _ _ _ _ _
    have hw' : Wy V B (.slice Aw (wst ns pl k 11).length cw) (wst ns pl k 11) := by
      unfold Wy
      rw [hl]
      exact hw
    have := t_found_at V B Aw cw k (wst ns pl k 11) hk hl hw' (by rw [he]; exact hok.wlt)
    rw [he, hl, hok.bits] at this
    have hd : decide (T.dig 10 k ∈ T.dgs xs 10 (T.pre 10 k)) = decide (k ∈ xs) := by
      rw [decide_eq_decide, T.mem_dgs, ← T.pre_split (by omega), T.pre_last]
      exact ⟨fun h => T.prs_last.1 h.2, fun h => ⟨T.dig_lt _ _, T.prs_last.2 h⟩⟩
    rwa [hd] at this
end
def InsertP (w : World) (P Q m0 lim : Nat) (TB0 : Nat → Prop) (xs : List Nat) (k : Nat) (e : Ending) (w' : World) : Prop :=
  e = .returned (.int .i64 ((K.inE K.trie xs lim k : Nat) : Int)) ∧ ∃ tk, tk ≤ 11 ∧ TWs w w' P Q m0 lim TB0 (K.inL K.trie xs lim k) tk
set_option maxHeartbeats 4000000 in
theorem t_insert (w : World) (P Q m0 lim tk root cn cf : Nat) (An Af : Option Addr) (ns : List (Nd × Bool)) (fs xs : List Nat) (pl : Nat → Nat → Nat) (h : TW w P Q m0 lim tk An cn Af cf ns fs root pl xs) (k : Nat) (hk : k < 18446744073709551616) :
    Calls Tryd.prog 23 #[.pointer (some ⟨P, 0, none⟩), .int .u64 (k : Int)] w (InsertP w P Q m0 lim (TBk P Q m0 An Af ns) xs k) := by
  have hP0 := cell_of_row w P 0 _ _ (0, 0) h.row
  simp at hP0
  have hst := Lib.hid (x_start w m0 tk h.mx)
  have hPlt := row_lt h.row
  have H := Lib.hid h
  obtain ⟨m, hm⟩ : ∃ m, T.wl xs k = m := ⟨_, rfl⟩
  have hm11 : m ≤ 11 := by rw [← hm]; exact T.wl_le xs k
  have HMM := Lib.hid hm
  have hne := Lib.hid h.ne_m
  have hlim := h.po.lim_le
  have hwr : IntKind.i64.wrap (11 - (m : Int)) = 11 - (m : Int) := IntWalk.i64_in _ (by omega)
  have hz : T.prs xs 0 (T.pre 0 k) ↔ xs ≠ [] := T.prs_zero hk h.lt
  have HZ := Lib.hid hz
  clear h hm hz
  by_cases hx : k ∈ xs
  · have HXX := Lib.hid hx
    have hfo : K.fo xs k = true := (K.fo_mem H.out.up k).2 hx
    have HFO := Lib.hid hfo
    clear hx hfo
    go_enter Tryd.func23, Tryd.ntmps23
    go_wp2_with (first
      | (go_at_call 45; (with_reducible refine hst.out.mono ?_); rintro e w1 ⟨rfl, hm1, hc1⟩
         have HC1 := Lib.hid hc1
         have HT1 := Lib.hid (H.out.met hc1 hm1)
         have hP1 := cell_of_row w1 P 1 _ _ (0, 0) HT1.out.row
         simp at hP1
         clear hm1 hc1)
      | (go_at_call 46; (with_reducible refine (t_walk_at w1 P Q m0 lim 0 root cn cf An Af ns fs xs pl HT1.out k hk (by omega)).mono ?_); rintro e w2 ⟨Aw, cw, rfl, hw2, hm2, hc2⟩
         rw [HMM.out] at hw2 hm2 ⊢
         have HW2 := Lib.hid hw2
         have HC2 := Lib.hid (HC1.out.same hc2)
         have HT2 := Lib.hid (HT1.out.met hc2 hm2)
         clear hw2 hm2 hc2)
      | (go_at_call 48; (with_reducible refine (t_found w2 HT2.out k hk _ m cw Aw HMM.out.symm HW2.out).mono ?_); rintro e w3 ⟨rfl, N, rfl⟩; rw [decide_eq_true HXX.out]))
    go_ret
    unfold InsertP K.inE K.inL
    rw [if_pos HFO.out, if_pos HFO.out]
    exact ⟨rfl, 0 + 1 * m, by omega, (HT2.out.drew N).same ((HC2.out.mono (fun j hj => .inr (.inl hj))).drewN N) (fun b hb => .inl hb)⟩
  · have HXX := Lib.hid hx
    have hfo : ¬ K.fo xs k = true := fun h => hx ((K.fo_mem H.out.up k).1 h)
    have HFO := Lib.hid hfo
    have hta : Hid (K.trie (K.add xs k) = K.trie xs + (11 - m)) := Lib.hid (by
      have := T.trie_add H.out.up (k := k) (m := m) hm11 (fun l hl => T.wl_yes (by rw [HMM.out]; exact hl)) (fun hl => by
        have := T.wl_no (xs := xs) (k := k) (by rw [HMM.out]; exact hl)
        rwa [HMM.out] at this) HZ.out
      exact this)
    have hus := H.out.used
    clear hx hfo
    by_cases hr : K.trie xs + (11 - m) ≤ lim
    · have hd : decide ((11 : Int) - (m : Int) ≤ (lim : Int) - ((ns.length - fs.length : Nat) : Int)) = true := decide_eq_true (by omega)
      have HR := Lib.hid hr
      have HU := Lib.hid hus
      clear hr hus
      go_enter Tryd.func23, Tryd.ntmps23
      go_wp2_with (first
        | (go_at_call 45; (with_reducible refine hst.out.mono ?_); rintro e w1 ⟨rfl, hm1, hc1⟩
           have HC1 := Lib.hid hc1
           have HT1 := Lib.hid (H.out.met hc1 hm1)
           have hP1 := cell_of_row w1 P 1 _ _ (0, 0) HT1.out.row
           simp at hP1
           clear hm1 hc1)
        | (go_at_call 46; (with_reducible refine (t_walk_at w1 P Q m0 lim 0 root cn cf An Af ns fs xs pl HT1.out k hk (by omega)).mono ?_); rintro e w2 ⟨Aw, cw, rfl, hw2, hm2, hc2⟩
           rw [HMM.out] at hw2 hm2 ⊢
           have HW2 := Lib.hid hw2
           have HC2 := Lib.hid (HC1.out.same hc2)
           have HT2 := Lib.hid (HT1.out.met hc2 hm2)
           clear hw2 hm2 hc2)
        | (go_at_call 48; (with_reducible refine (t_found w2 HT2.out k hk _ m cw Aw HMM.out.symm HW2.out).mono ?_); rintro e w3 ⟨rfl, N, rfl⟩; rw [decide_eq_false HXX.out]
           have HT3 := Lib.hid (HT2.out.drew N)
           have HC3 : Hid (K.Chg w (w2.drewN N) (· = m0)) := Lib.hid (HC2.out.drewN N)
           have HW3 : Hid ((w2.drewN N).ownsRow w1.heap.size 99 6 (.slice Aw m cw) m (sv (wst ns pl k m))) := Lib.hid (((chg_refl w2 (fun _ => False)).drewN N).own HW2.out (fun _ _ h => h))
           have hP3 := cell_of_row (w2.drewN N) P 1 _ _ (0, 0) HT3.out.row
           simp at hP3
           have hrm := Lib.hid (q_room (w2.drewN N) Q m0 lim cn cf An Af ns fs HT3.out.po (11 - (m : Int)))
           rw [hd] at hrm)
        | (go_at_call 49; (with_reducible refine hrm.out.mono ?_); rintro e w4 ⟨rfl, N4, rfl⟩
           have HT4 := Lib.hid (HT3.out.drew N4)
           have HC4 := Lib.hid (HC3.out.drewN N4)
           have HW4 := Lib.hid (((chg_refl (w2.drewN N) (fun _ => False)).drewN N4).own HW3.out (fun _ _ h => h))
           clear HT3 HC3 HW3 hP3 hrm)
        | (go_at_call 50; (with_reducible refine (t_grow (w2.drewN (N + N4)) P Q m0 lim (0 + 1 * m) root cn cf An Af ns fs xs pl (HT2.out.drew _) k hk HXX.out w1.heap.size m cw Aw HMM.out.symm (((chg_refl w2 (fun _ => False)).drewN (N + N4)).own HW2.out (fun _ _ h => h)) (by have := HU.out; have := HR.out; omega)).mono ?_); rintro e w5 ⟨rfl, hg⟩; have HG := Lib.hid hg; clear hg))
      go_ret
      obtain ⟨An4, cn4, Af4, cf4, ns4, fs4, root4, pl4, hT5, hC5, hB5⟩ := HG.out
      unfold InsertP K.inE K.inL
      rw [if_neg HFO.out, if_neg HFO.out, if_neg (by rw [hta.out]; exact Nat.not_lt.2 HR.out), if_neg (by rw [hta.out]; exact Nat.not_lt.2 HR.out)]
      have hC4 : K.Chg w (w2.drewN (N + N4)) (TBk P Q m0 An Af ns) := (HC2.out.mono (fun j hj => .inr (.inl hj))).drewN _
      refine ⟨rfl, 0 + 1 * m, by omega, An4, cn4, Af4, cf4, ns4, fs4, root4, pl4, hT5, hC4.same hC5, fun b hb => ?_⟩
      rcases hB5 b hb with h | h
      · exact .inl h
      · exact .inr (Nat.le_trans hC4.size h)
    · have hd : decide ((11 : Int) - (m : Int) ≤ (lim : Int) - ((ns.length - fs.length : Nat) : Int)) = false := decide_eq_false (by omega)
      have HR := Lib.hid hr
      have HU := Lib.hid hus
      clear hr hus
      go_enter Tryd.func23, Tryd.ntmps23
      go_wp2_with (first
        | (go_at_call 45; (with_reducible refine hst.out.mono ?_); rintro e w1 ⟨rfl, hm1, hc1⟩
           have HC1 := Lib.hid hc1
           have HT1 := Lib.hid (H.out.met hc1 hm1)
           have hP1 := cell_of_row w1 P 1 _ _ (0, 0) HT1.out.row
           simp at hP1
           clear hm1 hc1)
        | (go_at_call 46; (with_reducible refine (t_walk_at w1 P Q m0 lim 0 root cn cf An Af ns fs xs pl HT1.out k hk (by omega)).mono ?_); rintro e w2 ⟨Aw, cw, rfl, hw2, hm2, hc2⟩
           rw [HMM.out] at hw2 hm2 ⊢
           have HW2 := Lib.hid hw2
           have HC2 := Lib.hid (HC1.out.same hc2)
           have HT2 := Lib.hid (HT1.out.met hc2 hm2)
           clear hw2 hm2 hc2)
        | (go_at_call 48; (with_reducible refine (t_found w2 HT2.out k hk _ m cw Aw HMM.out.symm HW2.out).mono ?_); rintro e w3 ⟨rfl, N, rfl⟩; rw [decide_eq_false HXX.out]
           have HT3 := Lib.hid (HT2.out.drew N)
           have HC3 : Hid (K.Chg w (w2.drewN N) (· = m0)) := Lib.hid (HC2.out.drewN N)
           have HW3 : Hid ((w2.drewN N).ownsRow w1.heap.size 99 6 (.slice Aw m cw) m (sv (wst ns pl k m))) := Lib.hid (((chg_refl w2 (fun _ => False)).drewN N).own HW2.out (fun _ _ h => h))
           have hP3 := cell_of_row (w2.drewN N) P 1 _ _ (0, 0) HT3.out.row
           simp at hP3
           have hrm := Lib.hid (q_room (w2.drewN N) Q m0 lim cn cf An Af ns fs HT3.out.po (11 - (m : Int)))
           rw [hd] at hrm)
        | (go_at_call 49; (with_reducible refine hrm.out.mono ?_); rintro e w4 ⟨rfl, N4, rfl⟩
           have HT4 := Lib.hid (HT3.out.drew N4)
           have HC4 := Lib.hid (HC3.out.drewN N4)
           have HW4 := Lib.hid (((chg_refl (w2.drewN N) (fun _ => False)).drewN N4).own HW3.out (fun _ _ h => h))))
      go_ret
      unfold InsertP K.inE K.inL
      rw [if_neg HFO.out, if_neg HFO.out, if_pos (by rw [hta.out]; exact Nat.lt_of_not_le HR.out), if_pos (by rw [hta.out]; exact Nat.lt_of_not_le HR.out)]
      exact ⟨rfl, 0 + 1 * m, by omega, (HT2.out.drew (N + N4)).same ((HC2.out.mono (fun j hj => .inr (.inl hj))).drewN (N + N4)) (fun b hb => .inl hb)⟩
end Go.Proofs.YtbiingpdchoppaaDoor
end
section
namespace Go.Proofs.YtbiingpdchoppaaDoor
set_option maxRecDepth 40000
open Go.RowKit
theorem q_new (w : World) (lim : Nat) (hlim : lim ≤ 1048576) :
    Calls Tryd.prog 38 #[.pointer none, .int .i64 (lim : Int)] w fun e w' => ∃ Q m0, e = .returned (.tuple #[.pointer (some ⟨Q, 0, none⟩), .int .i64 0]) ∧ Qo w' Q m0 lim none 0 none 0 [] [] ∧ Mx w' m0 0 ∧ w.heap.size ≤ Q ∧ w.heap.size ≤ m0 ∧ Below w.heap.size w w' := by
  have g0 : decide ((lim : Int) < 0) = false := decide_eq_false (by omega)
  have g1 : decide (1048576 < (lim : Int)) = false := decide_eq_false (by omega)
  have g2 : decide (1048576 < lim) = false := decide_eq_false (by omega)
  go_enter Tryd.func38, Tryd.ntmps38
  go_wp2_with (go_at_call 65; (with_reducible refine (x_new _).mono ?_); rintro e w1 ⟨rfl, hm, hb1⟩; have hmH := Lib.hid hm; clear hm; have hbH := Lib.hid hb1; clear hb1)
  go_ret2
  have hlt := hmH.out.lt
  have hs := hbH.out.size
  refine ⟨_, _, rfl, ⟨K.alloc_top _ _, World.ownsRow_nil _ _ _ _, World.ownsRow_nil _ _ _ _, by simp, by simp, hlim, by simp, by simp⟩, hmH.out.chg (chg_alloc _ _ (fun _ => False)) (fun h => h), hs, Nat.le_refl _, hbH.out.alloc hs _⟩
theorem q_new_no (w : World) (n : Int) (hn : ¬ (0 ≤ n ∧ n ≤ 1048576)) :
    Calls Tryd.prog 38 #[.pointer none, .int .i64 n] w fun e w' => e = .returned (.tuple #[.pointer none, .int .i64 1]) ∧ w = w' := by
  by_cases h0 : n < 0
  · have g0 : decide (n < 0) = true := decide_eq_true h0
    clear hn
    go_enter Tryd.func38, Tryd.ntmps38
    go_wp2
    go_ret2
    exact ⟨rfl, rfl⟩
  · have g0 : decide (n < 0) = false := decide_eq_false h0
    have g1 : decide (1048576 < n) = true := decide_eq_true (by omega)
    clear hn
    go_enter Tryd.func38, Tryd.ntmps38
    go_wp2
    go_ret2
    exact ⟨rfl, rfl⟩
/-- A trie without keys is told by any places. -/
theorem tr_nil (pl : Nat → Nat → Nat) (nd : Nat → Option Nd) : T.Tr (fun _ => []) pl nd :=
  ⟨fun l p _ hp => (by obtain ⟨x, hx, _⟩ := hp; exact nomatch hx), fun l p l' p' _ _ hp => (by obtain ⟨x, hx, _⟩ := hp; exact nomatch hx)⟩
def NewP (w : World) (lim : Nat) (e : Ending) (w' : World) : Prop :=
  ∃ P Q m0, e = .returned (.tuple #[.pointer (some ⟨P, 0, none⟩), .int .i64 0]) ∧ TWs w w' P Q m0 lim (fun _ => False) [] 0 ∧ Below w.heap.size w w'
theorem t_new (w : World) (lim : Nat) (hlim : lim ≤ 1048576) : Calls Tryd.prog 10 #[.int .i64 (lim : Int)] w (NewP w lim) := by
  have hq := Lib.hid (q_new w lim hlim)
  go_enter Tryd.func10, Tryd.ntmps10
  go_wp2_with (go_at_call 38; (with_reducible refine hq.out.mono ?_); rintro e w1 ⟨Q, m0, rfl, hQ, hM, hq1, hq2, hb1⟩
               have HQ := Lib.hid hQ
               have HM := Lib.hid hM
               have HB := Lib.hid hb1
               have c0 := hQ.c0
               clear hQ hM hb1)
  go_ret2
  have hc := chg_alloc w1 (.cells #[.pointer (some ⟨m0, 0, none⟩), .pointer (some ⟨Q, 0, none⟩), .int .i64 ((0 : Nat) : Int)] 43) (fun _ => False)
  have hb : Below w.heap.size w (w1.alloc (.cells #[.pointer (some ⟨m0, 0, none⟩), .pointer (some ⟨Q, 0, none⟩), .int .i64 ((0 : Nat) : Int)] 43)) := HB.out.alloc HB.out.size _
  refine ⟨w1.heap.size, Q, m0, rfl, ⟨none, 0, none, 0, [], [], 0, fun _ _ => 0, ⟨K.alloc_top _ _, HM.out.chg hc (fun h => h), HQ.out.chg hc (fun _ _ h => h), ⟨fun i hi => by simp at hi, fun i j hi => by simp at hi, fun i hi => by simp at hi⟩, tr_nil _ _, fun h => absurd rfl h, by decide, List.Pairwise.nil, by simp, by omega⟩, K.Chg.of_below hb, fun b hb => ?_⟩, hb⟩
  right
  rcases hb with rfl | rfl | (rfl | hb | hb) | ⟨i, hi, _⟩
  · exact HB.out.size
  · exact hq2
  · exact hq1
  · cases hb
  · cases hb
  · simp at hi
theorem t_new_no (w : World) (n : Int) (hn : ¬ (0 ≤ n ∧ n ≤ 1048576)) : Calls Tryd.prog 10 #[.int .i64 n] w fun e w' => e = .returned (.tuple #[.pointer none, .int .i64 1]) ∧ w = w' := by
  have hq := Lib.hid (q_new_no w n hn)
  clear hn
  go_enter Tryd.func10, Tryd.ntmps10
  go_wp2_with (go_at_call 38; (with_reducible refine hq.out.mono ?_); rintro e w1 ⟨rfl, rfl⟩)
  go_ret2
  exact ⟨rfl, rfl⟩
section
variable (w : World) (P Q m0 lim tk root cn cf : Nat) (An Af : Option Addr) (ns : List (Nd × Bool)) (fs xs : List Nat) (pl : Nat → Nat → Nat)
theorem t_used (h : TW w P Q m0 lim tk An cn Af cf ns fs root pl xs) : Calls Tryd.prog 14 #[.pointer (some ⟨P, 0, none⟩)] w fun e w' => e = .returned (.int .i64 ((K.trie xs : Nat) : Int)) ∧ Below w.heap.size w w' := by
  have hP1 := cell_of_row w P 1 _ _ (0, 0) h.row
  simp at hP1
  have hq := Lib.hid (q_len w Q m0 lim cn cf An Af ns fs h.po)
  rw [h.used] at hq
  clear h
  go_enter Tryd.func14, Tryd.ntmps14
  go_wp2_with (go_at_call 42; (with_reducible refine hq.out.mono ?_); rintro e w1 ⟨rfl, N, rfl⟩)
  go_ret
  exact ⟨rfl, below_drewN (Below.refl _ _) _⟩
theorem t_limit (h : TW w P Q m0 lim tk An cn Af cf ns fs root pl xs) : Calls Tryd.prog 20 #[.pointer (some ⟨P, 0, none⟩)] w fun e w' => e = .returned (.int .i64 (lim : Int)) ∧ Below w.heap.size w w' := by
  have hP1 := cell_of_row w P 1 _ _ (0, 0) h.row
  simp at hP1
  have hq := Lib.hid (q_limit w Q m0 lim cn cf An Af ns fs h.po)
  clear h
  go_enter Tryd.func20, Tryd.ntmps20
  go_wp2_with (go_at_call 44; (with_reducible refine hq.out.mono ?_); rintro e w1 ⟨rfl, rfl⟩)
  go_ret
  exact ⟨rfl, Below.refl _ _⟩
/-- A node that is there, or none. -/
theorem t_peek_yes (h : TW w P Q m0 lim tk An cn Af cf ns fs root pl xs) (i : Nat) (hi : i < ns.length) (ht : ns[i].2 = true) : Calls Tryd.prog 57 #[.pointer (some ⟨P, 0, none⟩), .int .i64 (i : Int)] w (RetB w ns[i].1.v) := by
  have hb : Below w.heap.size w (w.alloc ndzo) := (Below.refl _ w).alloc (Nat.le_refl _) _
  have h1 := h.chg (K.Chg.of_below (O := fun _ => False) hb) (fun _ _ h => h)
  have hP1 := cell_of_row _ P 1 _ _ (0, 0) h1.row
  simp only [List.getElem?_toArray] at hP1
  have hP1 : (w.alloc ndzo).cell? ⟨P, 1, none⟩ = some (.pointer (some ⟨Q, 0, none⟩)) := hP1
  have hq := Lib.hid (q_peek_yes _ Q m0 lim cn cf An Af ns fs h1.po i hi ht)
  have HB := Lib.hid hb
  have hz1 : (w.alloc ndzo).heap.size = w.heap.size + 1 := by simp
  have HZ := Lib.hid hz1
  clear h h1 ht hb hz1
  generalize ns[i].1 = x at *
  obtain ⟨W, A, ch, c, ks, le, gr⟩ := x
  have hq : Hid (Calls _ _ _ _ (PeekP (w.alloc ndzo) (ndv W A ch.length c ks le gr) true)) := hq
  show Calls _ _ _ _ (RetB w (ndv W A ch.length c ks le gr))
  generalize ch.length = n at *
  go_enter Tryd.func57, Tryd.ntmps57
  go_wp2_with (go_at_call 61; (with_reducible refine hq.out.mono ?_); rintro e w1 ⟨rfl, hb1⟩
               have hs1 := hb1.size
               rw [HZ.out] at hs1
               have HB1 := Lib.hid ((HB.out.trans (hb1.mono (by simp))).alloc (B := w.heap.size) (by omega) (ndo W A n c ks le gr))
               have zz := (Below.heap_alloc w1 (ndo W A n c ks le gr) w.heap.size (by omega)).trans ((hb1.block w.heap.size (by (rw [HZ.out]; omega))).trans (K.alloc_top _ _))
               have f0 := frozen_of_row _ _ 0 _ _ zz
               have f1 := frozen_of_row _ _ 1 _ _ zz
               have f2 := frozen_of_row _ _ 2 _ _ zz
               have f3 := frozen_of_row _ _ 3 _ _ zz
               have f4 := frozen_of_row _ _ 4 _ _ zz
               obtain ⟨t0, t1, t2, t3, t4⟩ := nd_cells zz
               have ZZ := Lib.hid zz
               clear hb1 zz)
  refine bodyPost_ret (results_cell_row rfl _ _ w.heap.size _ _ _ _ rfl (row_z5 ZZ.out _ _ _ _ _) Tryd.underlying72 (by kernel_rfl) (by kernel_rfl)) rfl ?_
  exact ⟨rfl, ((((HB1.out.setCell (by simp) _).setCell (by simp) _).setCell (by simp) _).setCell (by simp) _).setCell (by simp) _⟩
theorem t_peek_no (h : TW w P Q m0 lim tk An cn Af cf ns fs root pl xs) (i : Int) (ht : lvq ns i = false) : Calls Tryd.prog 57 #[.pointer (some ⟨P, 0, none⟩), .int .i64 i] w (RetB w ndzv) := by
  have hb : Below w.heap.size w (w.alloc ndzo) := (Below.refl _ w).alloc (Nat.le_refl _) _
  have h1 := h.chg (K.Chg.of_below (O := fun _ => False) hb) (fun _ _ h => h)
  have hP1 := cell_of_row _ P 1 _ _ (0, 0) h1.row
  have hP1 : (w.alloc ndzo).cell? ⟨P, 1, none⟩ = some (.pointer (some ⟨Q, 0, none⟩)) := hP1
  have hq := Lib.hid (q_peek_no _ Q m0 lim cn cf An Af ns fs h1.po i ht)
  have HB := Lib.hid hb
  have hz1 : (w.alloc ndzo).heap.size = w.heap.size + 1 := by simp
  have HZ := Lib.hid hz1
  clear h h1 ht hb hz1
  go_enter Tryd.func57, Tryd.ntmps57
  go_wp2_with (go_at_call 61; (with_reducible refine hq.out.mono ?_); rintro e w1 ⟨rfl, hb1⟩
               have hs1 := hb1.size
               rw [HZ.out] at hs1
               have HB1 := Lib.hid ((HB.out.trans (hb1.mono (by simp))).alloc (B := w.heap.size) (by omega) ndzo)
               have zz := (Below.heap_alloc w1 ndzo w.heap.size (by omega)).trans ((hb1.block w.heap.size (by (rw [HZ.out]; omega))).trans (K.alloc_top _ _))
               have f0 := frozen_of_row _ _ 0 _ _ zz
               have f1 := frozen_of_row _ _ 1 _ _ zz
               have f2 := frozen_of_row _ _ 2 _ _ zz
               have f3 := frozen_of_row _ _ 3 _ _ zz
               have f4 := frozen_of_row _ _ 4 _ _ zz
               obtain ⟨t0, t1, t2, t3, t4⟩ := nd_cells zz
               have ZZ := Lib.hid zz
               clear hb1 zz)
  refine bodyPost_ret (results_cell_row rfl _ _ w.heap.size _ _ _ _ rfl (row_z5 ZZ.out _ _ _ _ _) Tryd.underlying72 (by kernel_rfl) (by kernel_rfl)) rfl ?_
  exact ⟨rfl, ((((HB1.out.setCell (by simp) _).setCell (by simp) _).setCell (by simp) _).setCell (by simp) _).setCell (by simp) _⟩
theorem run_ks (w : World) (W : Nat) (A : Option Addr) (n c ks le gr : Nat) : (Instr.field 72 (ndv W A n c ks le gr) 2).run Tryd.prog w = .ok (.int .i64 (ks : Int)) w := by kernel_rfl
theorem run_ksz (w : World) : (Instr.field 72 ndzv 2).run Tryd.prog w = .ok (.int .i64 0) w := by kernel_rfl
theorem t_len (h : TW w P Q m0 lim tk An cn Af cf ns fs root pl xs) : Calls Tryd.prog 32 #[.pointer (some ⟨P, 0, none⟩)] w fun e w' => e = .returned (.int .i64 ((xs.length : Nat) : Int)) ∧ Below w.heap.size w w' := by
  have hP2 := cell_of_row w P 2 _ _ (0, 0) h.row
  simp at hP2
  by_cases hx : xs = []
  · have hp := Lib.hid (t_peek_no w P Q m0 lim tk root cn cf An Af ns fs xs pl h (root : Int) (h.none hx))
    subst hx
    clear h
    have hfd := run_ksz
    go_enter Tryd.func32, Tryd.ntmps32
    go_wp2_with (go_at_call 57; (with_reducible refine hp.out.mono ?_); rintro e w1 ⟨rfl, hb1⟩; have HB1 := Lib.hid hb1; clear hb1)
    go_ret
    exact ⟨rfl, HB1.out⟩
  · obtain ⟨x, hm⟩ := List.exists_mem_of_ne_nil _ hx
    obtain ⟨hi, hns, hok⟩ := h.node (l := 0) (p := 0) (by omega) ⟨x, hm, T.pre_zero (h.lt x hm)⟩
    rw [← h.rt hx] at hi
    have hns : ns[root] = (nat ns (pl 0 0), true) := by
      have := h.rt hx
      subst this
      exact hns
    have hp := Lib.hid (t_peek_yes w P Q m0 lim tk root cn cf An Af ns fs xs pl h root hi (by rw [hns]))
    rw [hns] at hp
    have hks := hok.ks
    rw [T.sub_zero h.lt] at hks
    have HK := Lib.hid hks
    clear h hns hok hks hi
    generalize nat ns (pl 0 0) = nd at *
    obtain ⟨W, A, ch, c, ks, le, gr⟩ := nd
    have hp : Hid (Calls _ _ _ _ (RetB w (ndv W A ch.length c ks le gr))) := hp
    have HK : Hid (ks = xs.length) := HK
    rw [← HK.out]
    have hfd := fun V => run_ks V W A ch.length c ks le gr
    go_enter Tryd.func32, Tryd.ntmps32
    go_wp2_with (go_at_call 57; (with_reducible refine hp.out.mono ?_); rintro e w1 ⟨rfl, hb1⟩; have HB1 := Lib.hid hb1; clear hb1)
    go_ret
    exact ⟨rfl, HB1.out⟩
end
theorem t_len_nil (w : World) : Calls Tryd.prog 32 #[.pointer none] w fun e w' => e = .returned (.int .i64 0) ∧ w = w' := by
  go_enter Tryd.func32, Tryd.ntmps32
  go_wp2
  go_ret
  exact ⟨rfl, rfl⟩
theorem t_used_nil (w : World) : Calls Tryd.prog 14 #[.pointer none] w fun e w' => e = .returned (.int .i64 0) ∧ w = w' := by
  go_enter Tryd.func14, Tryd.ntmps14
  go_wp2
  go_ret
  exact ⟨rfl, rfl⟩
theorem t_limit_nil (w : World) : Calls Tryd.prog 20 #[.pointer none] w fun e w' => e = .returned (.int .i64 0) ∧ w = w' := by
  go_enter Tryd.func20, Tryd.ntmps20
  go_wp2
  go_ret
  exact ⟨rfl, rfl⟩
theorem t_insert_nil (w : World) (k : Int) : Calls Tryd.prog 23 #[.pointer none, .int .u64 k] w fun e w' => e = .returned (.int .i64 3) ∧ w = w' := by
  go_enter Tryd.func23, Tryd.ntmps23
  go_wp2
  go_ret
  exact ⟨rfl, rfl⟩
theorem t_delete_nil (w : World) (k : Int) : Calls Tryd.prog 25 #[.pointer none, .int .u64 k] w fun e w' => e = .returned (.int .i64 3) ∧ w = w' := by
  go_enter Tryd.func25, Tryd.ntmps25
  go_wp2
  go_ret
  exact ⟨rfl, rfl⟩
theorem t_has_nil (w : World) (k : Int) : Calls Tryd.prog 26 #[.pointer none, .int .u64 k] w fun e w' => e = .returned (.bool false) ∧ w = w' := by
  go_enter Tryd.func26, Tryd.ntmps26
  go_wp2
  go_ret
  exact ⟨rfl, rfl⟩
theorem t_clear_nil (w : World) : Calls Tryd.prog 31 #[.pointer none] w fun e w' => e = .returned (.tuple #[]) ∧ w = w' := by
  go_enter Tryd.func31, Tryd.ntmps31
  go_wp2
  refine bodyPost_ret (results_none rfl _ _ _) rfl ?_
  exact ⟨rfl, rfl⟩
end Go.Proofs.YtbiingpdchoppaaDoor
end
