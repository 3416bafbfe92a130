/- A key is taken out of its nodes, from the last one up: what stands in between. -/
import Derived.Test.YtbiingpdchoppaaDoorMgN
namespace Go.Proofs.YtbiingpdchoppaaDoor
set_option maxRecDepth 40000
open Go.RowKit
namespace T
/-- The keys at each level, as long as the levels from j on have the key no more. -/
def lvd (xs : List Nat) (k j l : Nat) : List Nat := if l < j then xs else K.drop xs k
/-- One level more. -/
theorem Tr.shrink {xs : List Nat} {k l i : Nat} {pl : Nat → Nat → Nat} {nd nd' : Nat → Option Nd} (hu : K.Up xs) (hk : k ∈ xs) (hl : l < 11) (h : Tr (lvd xs k (l + 1)) pl nd)
    (hi : i = pl l (pre l k)) (ho : ∀ j, j ≠ i → nd' j = nd j)
    (hx : prs (K.drop xs k) l (pre l k) → ∃ x : Nd, nd' i = some x ∧ NdOK (K.drop xs k) pl l (pre l k) x.W x.ks x.le x.gr x.ch) : Tr (lvd xs k l) pl nd' := by
  have hD := K.drop_up hu k
  have hold : ∀ l' p', prs (lvd xs k l l') l' p' → prs (lvd xs k (l + 1) l') l' p' := by
    rintro l' p' ⟨x, hx, e⟩
    refine ⟨x, ?_, e⟩
    unfold lvd at hx ⊢
    by_cases h1 : l' < l
    · rw [if_pos h1] at hx
      rw [if_pos (by omega)]
      exact hx
    · rw [if_neg h1] at hx
      split
      · exact ((K.drop_mem hu k x).1 hx).2
      · exact hx
  have hkp : prs (lvd xs k (l + 1) l) l (pre l k) := ⟨k, by unfold lvd; rw [if_pos (by omega)]; exact hk, rfl⟩
  have hpl : ∀ l' p', l' < 11 → prs (lvd xs k l l') l' p' → ¬ (l' = l ∧ p' = pre l k) → pl l' p' ≠ i := fun l' p' hl' hp hne e =>
    hne (h.inj l' p' l (pre l k) hl' hl (hold l' p' hp) hkp (e.trans hi))
  refine ⟨fun l' p' hl' hp => ?_, fun l1 p1 l2 p2 hl1 hl2 hp1 hp2 e => h.inj l1 p1 l2 p2 hl1 hl2 (hold _ _ hp1) (hold _ _ hp2) e⟩
  by_cases hne : l' = l ∧ p' = pre l k
  · obtain ⟨rfl, rfl⟩ := hne
    have e0 : lvd xs k l' l' = K.drop xs k := by unfold lvd; rw [if_neg (by omega)]
    rw [e0] at hp ⊢
    obtain ⟨x, h1, h2⟩ := hx hp
    exact ⟨x, by rw [← hi]; exact h1, h2⟩
  · rw [ho _ (hpl l' p' hl' hp hne)]
    obtain ⟨n, hn, hok⟩ := h.ok l' p' hl' (hold l' p' hp)
    refine ⟨n, hn, hok.frame hl' (by unfold lvd; split <;> assumption) (by unfold lvd; split <;> assumption) (fun y hy => ?_) (fun _ _ _ => rfl)⟩
    unfold lvd
    by_cases h1 : l' < l
    · rw [if_pos h1, if_pos (by omega)]
    · rw [if_neg h1]
      by_cases h2 : l' = l
      · subst h2
        rw [if_pos (by omega), K.drop_mem hu]
        exact ⟨fun h3 => ⟨fun e => hne ⟨rfl, by rw [← hy, e]⟩, h3⟩, fun h3 => h3.2⟩
      · rw [if_neg (by omega)]
theorem Tr.dstart {xs : List Nat} {k : Nat} {pl : Nat → Nat → Nat} {nd : Nat → Option Nd} (h : Tr (fun _ => xs) pl nd) : Tr (lvd xs k 11) pl nd := by
  have e : ∀ l, l < 11 → lvd xs k 11 l = xs := fun l hl => by unfold lvd; rw [if_pos hl]
  refine ⟨fun l p hl hp => ?_, fun l p l' p' hl hl' hp hp' => ?_⟩
  · rw [e l hl] at hp ⊢
    exact h.ok l p hl hp
  · rw [e l hl] at hp
    rw [e l' hl'] at hp'
    exact h.inj l p l' p' hl hl' hp hp'
theorem Tr.ddone {xs : List Nat} {k : Nat} {pl : Nat → Nat → Nat} {nd : Nat → Option Nd} (h : Tr (lvd xs k 0) pl nd) : Tr (fun _ => K.drop xs k) pl nd := by
  have e : ∀ l, lvd xs k 0 l = K.drop xs k := fun l => by unfold lvd; rw [if_neg (by omega)]
  refine ⟨fun l p hl hp => ?_, fun l p l' p' hl hl' hp hp' => ?_⟩
  · have := h.ok l p hl (by rw [e]; exact hp)
    rw [e] at this
    exact this
  · exact h.inj l p l' p' hl hl' (by rw [e]; exact hp) (by rw [e]; exact hp')
theorem add_drop {xs : List Nat} (hu : K.Up xs) {k : Nat} (hk : k ∈ xs) : K.add (K.drop xs k) k = xs := by
  have hD := K.drop_up hu k
  refine up_ext (K.add_up hD k) hu fun x => ?_
  rw [K.add_mem hD, K.drop_mem hu]
  constructor
  · rintro (rfl | h)
    · exact hk
    · exact h.2
  · intro h
    by_cases e : x = k
    · exact .inl e
    · exact .inr ⟨e, h⟩
theorem drop_not {xs : List Nat} (hu : K.Up xs) (k : Nat) : k ∉ K.drop xs k := fun h => ((K.drop_mem hu k k).1 h).1 rfl
theorem trie_drop {xs : List Nat} (hu : K.Up xs) {k m : Nat} (hk : k < 18446744073709551616) (hlt : ∀ x ∈ xs, x < 18446744073709551616) (hkx : k ∈ xs) (hm : wl (K.drop xs k) k = m) : K.trie xs = K.trie (K.drop xs k) + (11 - m) := by
  have h := trie_add (K.drop_up hu k) (k := k) (m := m) (by rw [← hm]; exact wl_le _ _) (fun l hl => wl_yes (by omega)) (fun hl => by
    have := wl_no (xs := K.drop xs k) (k := k) (by omega)
    rwa [hm] at this) (prs_zero hk (fun x hx => hlt x ((K.drop_mem hu k x).1 hx).2))
  rwa [add_drop hu hkx] at h
theorem dgone {xs : List Nat} {k m l : Nat} (hm : wl (K.drop xs k) k = m) (hl : l < 11) : prs (K.drop xs k) l (pre l k) ↔ l < m := by
  constructor
  · intro h
    rcases Nat.lt_or_ge l m with h1 | h1
    · exact h1
    · rw [← hm] at h1
      exact absurd (prs_le h1 (by omega) h) (wl_no (by omega))
  · intro h
    exact wl_yes (by omega)
end T
/-- The trie, while a key is taken out of its levels from j on. -/
structure SS (w0 w : World) (P Q m0 lim tk root : Nat) (xs : List Nat) (k m j : Nat) (TB0 : Nat → Prop) (ns0 : List (Nd × Bool)) (pl : Nat → Nat → Nat) (An : Option Addr) (cn : Nat) (Af : Option Addr) (cf : Nat) (ns : List (Nd × Bool)) (fs : List Nat) : Prop where
  row : w.heap[P]? = some (.cells #[.pointer (some ⟨m0, 0, none⟩), .pointer (some ⟨Q, 0, none⟩), .int .i64 (root : Int)] 43 (0, 0))
  mx : Mx w m0 tk
  po : Qo w Q m0 lim An cn Af cf ns fs
  kids : Kids w ns Af
  tr : T.Tr (T.lvd xs k j) pl (ndm ns)
  used : ns.length - fs.length + (11 - max j m) = K.trie xs
  way : ∀ l, l < j → ns[pl l (T.pre l k)]? = some (nat ns0 (pl l (T.pre l k)), true)
  chg : K.Chg w0 w TB0
  blk : ∀ b, TBk P Q m0 An Af ns b → TB0 b ∨ w0.heap.size ≤ b
/-- One level more. -/
theorem SS.step {w0 w w1 w2 : World} {P Q m0 lim tk root k m l cn cf i : Nat} {xs fs fs' : List Nat} {TB0 : Nat → Prop} {ns0 ns ns' : List (Nd × Bool)} {pl : Nat → Nat → Nat} {An Af : Option Addr} {x : Nd} {b : Bool}
    (h : SS w0 w P Q m0 lim tk root xs k m (l + 1) TB0 ns0 pl An cn Af cf ns fs) (hu : K.Up xs) (hk : k ∈ xs) (hl : l < 11) (hm : T.wl (K.drop xs k) k = m) (hi : i = pl l (T.pre l k))
    (A0 : Option Addr) (hA0 : ∀ g, A0.map (·.block) = some g → ∃ hi : i < ns.length, ns[i].1.A.map (·.block) = some g)
    (h1 : K.Chg w w1 (fun j => A0.map (·.block) = some j)) (hx : w1.ownsRow 0 3 1 (.slice x.A x.ch.length x.c) x.ch.length (iw x.ch)) (hxb : ∀ j, x.A.map (·.block) = some j → A0.map (·.block) = some j ∨ w.heap.size ≤ j)
    (h2 : QStep w1 Q m0 lim An Af ns' fs' w2) (hn : ∀ j, j ≠ i → ns'[j]? = ns[j]?) (hni : ns'[i]? = some (x, b))
    (hc : (b = false ∧ m ≤ l ∧ ns'.length - fs'.length + 1 = ns.length - fs.length) ∨ (b = true ∧ l < m ∧ ns'.length - fs'.length = ns.length - fs.length ∧ T.NdOK (K.drop xs k) pl l (T.pre l k) x.W x.ks x.le x.gr x.ch)) :
    ∃ An' cn' Af' cf', SS w0 w2 P Q m0 lim tk root xs k m l TB0 ns0 pl An' cn' Af' cf' ns' fs' := by
  obtain ⟨An', cn', Af', cf', hpo, hch, hbl⟩ := h2
  have hP := row_lt h.row
  have hMl := h.mx.lt
  have hA0b : ∀ g, A0.map (·.block) = some g → TBk P Q m0 An Af ns g := fun g hg => .inr (.inr (.inr ⟨i, hA0 g hg⟩))
  have hrow : ∀ g T (cs : Array Value), w.heap[g]? = some (.cells cs T (0, 0)) → T ≠ 3 → ¬ A0.map (·.block) = some g := fun g T cs hr hT hg => by
    obtain ⟨hi, h3⟩ := hA0 g hg
    obtain ⟨_, cur, hc⟩ := own_block_lt (h.kids.own i hi) h3
    exact row_ne hr hc hT rfl
  obtain ⟨r, c, s, p, hmr⟩ := h.mx
  have hq1 : ∀ j, QB Q An Af j → j ≠ P ∧ j ≠ m0 := fun j hj => by
    rcases hj with rfl | hj | hj
    · exact ⟨row_ne h.po.row h.row (by decide), row_ne h.po.row hmr (by decide)⟩
    · obtain ⟨_, cur, hc⟩ := own_block_lt h.po.nodes hj
      exact ⟨row_ne hc h.row (by decide), row_ne hc hmr (by decide)⟩
    · obtain ⟨_, cur, hc⟩ := own_block_lt h.po.freed hj
      exact ⟨row_ne hc h.row (by decide), row_ne hc hmr (by decide)⟩
  have hP1 := h1.block P hP (hrow P _ _ h.row (by decide))
  have hM1 := h1.block m0 hMl (hrow m0 _ _ hmr (by decide))
  have hs1 := h1.size
  have hnd : ∀ j, j ≠ i → ndm ns' j = ndm ns j := fun j hj => by unfold ndm; rw [hn j hj]
  have hkp : ∀ l', l' < 11 → T.prs (T.lvd xs k (l + 1) l') l' (T.pre l' k) ∨ l < l' := fun l' hl' => by
    rcases Nat.lt_or_ge l l' with h3 | h3
    · exact .inr h3
    · exact .inl ⟨k, by unfold T.lvd; rw [if_pos (by omega)]; exact hk, rfl⟩
  refine ⟨An', cn', Af', cf', ?_, ?_, hpo, h.kids.step h.po i x b A0 hA0 h1 hx hxb hch hbl hn hni, ?_, ?_, ?_, ?_, ?_⟩
  · exact (hch.block P (by omega) (fun hq => (hq1 P hq).1 rfl)).trans (hP1.trans h.row)
  · exact ⟨r, c, s, p, (hch.block m0 (by omega) (fun hq => (hq1 m0 hq).2 rfl)).trans (hM1.trans hmr)⟩
  · refine T.Tr.shrink hu hk hl h.tr hi hnd (fun hp => ?_)
    have hlm := (T.dgone hm hl).1 hp
    rcases hc with ⟨_, h3, _⟩ | ⟨rfl, _, _, h4⟩
    · omega
    · exact ⟨x, ndm_of hni, h4⟩
  · have := h.used
    rcases hc with ⟨_, h3, h4⟩ | ⟨_, h3, h4, _⟩
    · omega
    · rw [h4]; omega
  · intro l' hl'
    rw [hn _ ?_]
    · exact h.way l' (by omega)
    · intro e
      have h3 := (hkp l' (by omega)).resolve_right (by omega)
      have h4 := (hkp l hl).resolve_right (by omega)
      have := (h.tr.inj l' _ l _ (by omega) hl h3 h4 (e.trans hi)).1
      omega
  · exact (h.chg.trans h1 (fun j hj => h.blk j (hA0b j hj))).trans hch (fun j hj => h.blk j (.inr (.inr (.inl hj))))
  · have hs0 := h.chg.size
    intro b' hb
    rcases hb with rfl | rfl | hb | ⟨j, hj, hb⟩
    · exact h.blk _ (.inl rfl)
    · exact h.blk _ (.inr (.inl rfl))
    · rcases hbl b' hb with h3 | h3
      · exact h.blk b' (.inr (.inr (.inl h3)))
      · exact .inr (by omega)
    · by_cases e : j = i
      · subst e
        rw [List.getElem?_eq_getElem hj] at hni
        rw [Option.some.inj hni] at hb
        rcases hxb b' hb with h3 | h3
        · exact h.blk b' (hA0b b' h3)
        · exact .inr (by omega)
      · obtain ⟨hj', ej⟩ := get_of hj (hn j e)
        rw [ej] at hb
        exact h.blk b' (.inr (.inr (.inr ⟨j, hj', hb⟩)))
/-- How it begins. -/
theorem SS.start {w : World} {P Q m0 lim tk root cn cf k m : Nat} {An Af : Option Addr} {ns : List (Nd × Bool)} {fs xs : List Nat} {pl : Nat → Nat → Nat} (h : TW w P Q m0 lim tk An cn Af cf ns fs root pl xs) (hk : k ∈ xs) (hm : T.wl (K.drop xs k) k = m) : SS w w P Q m0 lim tk root xs k m 11 (TBk P Q m0 An Af ns) ns pl An cn Af cf ns fs := by
  have hm11 : m ≤ 11 := by rw [← hm]; exact T.wl_le _ _
  refine ⟨h.row, h.mx, h.po, h.kids, h.tr.dstart, by rw [h.used]; omega, fun l hl => ?_, chg_refl _ _, fun b hb => .inl hb⟩
  obtain ⟨hi, e, _⟩ := h.node hl ⟨k, hk, rfl⟩
  rw [List.getElem?_eq_getElem hi, e]
/-- How it ends. -/
theorem SS.finish {w0 w : World} {P Q m0 lim tk root cn0 cf0 cn cf k m : Nat} {An0 Af0 An Af : Option Addr} {ns0 ns : List (Nd × Bool)} {fs0 fs xs : List Nat} {pl : Nat → Nat → Nat} (h0 : TW w0 P Q m0 lim tk An0 cn0 Af0 cf0 ns0 fs0 root pl xs) (hk : k < 18446744073709551616) (hkx : k ∈ xs) (hm : T.wl (K.drop xs k) k = m)
    (h : SS w0 w P Q m0 lim tk root xs k m 0 (TBk P Q m0 An0 Af0 ns0) ns0 pl An cn Af cf ns fs) : GrowP w0 P Q m0 lim tk An0 Af0 ns0 (K.drop xs k) (.returned (.tuple #[])) w := by
  have h1 := T.trie_drop h0.up hk h0.lt hkx hm
  have h2 := h.used
  have hm11 : m ≤ 11 := by rw [← hm]; exact T.wl_le _ _
  refine ⟨rfl, An, cn, Af, cf, ns, fs, root, pl, ⟨h.row, h.mx, h.po, h.kids, h.tr.ddone, fun hne => h0.rt (fun e => by rw [e] at hkx; cases hkx), by omega, K.drop_up h0.up k, fun x hx => h0.lt x ((K.drop_mem h0.up k x).1 hx).2, h0.rl⟩, h.chg, h.blk⟩
end Go.Proofs.YtbiingpdchoppaaDoor
