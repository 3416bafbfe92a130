/- A link comes or goes under a trie; one level is brought to it; the texts walked. -/
import Derived.Test.YtiinefdpaiincaaMxX7
namespace Go.Proofs.Ytiinefdpaiincaa
open Go.RowKit
section
variable {w w' : World} {Xb C Q M P lim tk : Nat} {L L1 L2 : LL} {es : Es} {O : Nat → Prop} {n k : Nat}
theorem XT.chain {w : World} {seed : Nat} {An : Option Addr} {cn : Nat} {Af : Option Addr} {cf : Nat} {ns : List (Nd × Bool)} {fs : List Nat} {L L' : LL} {Qt Mt n pr : Nat} {w' : World} (hb : XB w Xb C Q M P lim tk seed An cn Af cf ns fs L Qt Mt n pr es)
    {An' Af' : Option Addr} {cn' cf' : Nat} {ns' : List (Nd × Bool)} {fs' : List Nat} (hc : CW w' C Q M lim An' cn' Af' cf' ns' fs' L') (b : K.Chg w w' (CB C Q An Af)) (hq : ∀ j, QB Q An' Af' j → QB Q An Af j ∨ w.heap.size ≤ j) :
    XR w (XK Xb C Q M P Qt Mt An Af) Xb C Q M P lim tk L' es w' :=
  ⟨_, ⟨_, _, _, _, _, _, _, _, _, _, _, hb.chs b hc, rfl⟩, b.mono (fun j hj => .inr (.inr (.inl hj))), fun j hj => by
    rcases hj with h | h | (h | h) | h
    · exact .inl (.inl h)
    · exact .inl (.inr (.inl h))
    · exact .inl (.inr (.inr (.inl (.inl h))))
    · rcases hq j h with h | h
      · exact .inl (.inr (.inr (.inl (.inr h))))
      · exact .inr h
    · exact .inl (.inr (.inr (.inr h)))⟩
theorem XT.behind (h : XT w Xb C Q M P lim tk (L1 ++ L2) es O) (hk : k < 18446744073709551616) (hr : (L1 ++ L2).length < lim) :
    Calls Try.prog 66 #[.pointer (some ⟨C, 0, none⟩), .int .i64 (lst (-1) L1), .int .u64 (k : Int)] w fun e w' => ∃ n : Nat, e = .returned (.tuple #[.int .i64 (n : Int), .bool true]) ∧ (∀ x ∈ L1 ++ L2, x.1 ≠ n) ∧ n < 1048576 ∧ XR w O Xb C Q M P lim tk (L1 ++ (n, k) :: L2) es w' := by
  obtain ⟨_, An, cn, Af, cf, ns, fs, Qt, Mt, _, _, hb, rfl⟩ := h
  have fin : ∀ e w', BehP w C Q M lim An Af ns fs L1 L2 k e w' → ∃ n : Nat, e = .returned (.tuple #[.int .i64 (n : Int), .bool true]) ∧ (∀ x ∈ L1 ++ L2, x.1 ≠ n) ∧ n < 1048576 ∧ XR w (XK Xb C Q M P Qt Mt An Af) Xb C Q M P lim tk (L1 ++ (n, k) :: L2) es w' := by
    rintro e w' ⟨n, h1, h2, _, h3, _, _, _, _, _, _, h4, h5, h6, _⟩
    exact ⟨n, h1, h2, h3, XT.chain hb h4 h5 h6⟩
  rcases List.eq_nil_or_concat L1 with rfl | ⟨L, x, rfl⟩
  · exact (c_behind_a w C Q M lim cn cf An Af ns fs (-1) (by decide) L2 hb.ch k hk hr).mono fin
  · rw [List.concat_eq_append] at *
    have e : lst (-1) (L ++ [x]) = (x.1 : Int) := by rw [lst_app]; rfl
    rw [e]
    exact (c_behind_b w C Q M lim cn cf An Af ns fs x.1 x.2 L L2 hb.ch k hk hr).mono fin
theorem XT.drop (h : XT w Xb C Q M P lim tk (L1 ++ (n, k) :: L2) es O) :
    Calls Try.prog 71 #[.pointer (some ⟨C, 0, none⟩), .int .i64 (n : Int)] w fun e w' => e = .returned (.bool true) ∧ XR w O Xb C Q M P lim tk (L1 ++ L2) es w' := by
  obtain ⟨_, An, cn, Af, cf, ns, fs, _, _, _, _, hb, rfl⟩ := h
  refine (c_drop w C Q M lim cn cf An Af ns fs n k L1 L2 hb.ch).mono ?_
  rintro e w' ⟨rfl, _, _, _, _, _, _, h4, h5, h6⟩
  exact ⟨rfl, XT.chain hb h4 h5 h6⟩
end
/-- A put at one level, and a drop. -/
def PutC (Xb C Q M P lim : Nat) (L : LL) (es es' : Es) (l p a b : Nat) : Prop := ∀ (W : World) (O : Nat → Prop) (tk : Nat), XT W Xb C Q M P lim tk L es O →
  Calls Try.prog 68 #[.pointer (some ⟨Xb, 0, none⟩), kyv l p, env a b] W fun e w' => e = .returned (.tuple #[]) ∧ XR W O Xb C Q M P lim tk L es' w'
def DropC (Xb C Q M P lim : Nat) (L : LL) (es es' : Es) (l p : Nat) : Prop := ∀ (W : World) (O : Nat → Prop) (tk : Nat), XT W Xb C Q M P lim tk L es O →
  Calls Try.prog 72 #[.pointer (some ⟨P, 0, none⟩), kyv l p] W fun e w' => e = .returned (.bool true) ∧ XR W O Xb C Q M P lim tk L es' w'
theorem XB.tabr {w w' : World} {Xb C Q M P lim tk seed cn cf Qt Mt n pr : Nat} {An Af : Option Addr} {ns : List (Nd × Bool)} {fs : List Nat} {L : LL} {es es' : Es} {cl : Nat} (h : XB w Xb C Q M P lim tk seed An cn Af cf ns fs L Qt Mt n pr es) (hs : Hs.TStep w P Qt Mt seed n es' cl w') :
    XR w (XK Xb C Q M P Qt Mt An Af) Xb C Q M P lim tk L es' w' := by
  obtain ⟨Qt', n', pr', h1, h2, h3⟩ := h.tabs hs
  refine ⟨_, ⟨_, _, _, _, _, _, _, _, _, _, _, h1, rfl⟩, h2.mono (fun j hj => .inr (.inr (.inr hj))), fun j hj => ?_⟩
  rcases hj with h | h | h | (h | h | h)
  · exact .inl (.inl h)
  · exact .inl (.inr (.inl h))
  · exact .inl (.inr (.inr (.inl h)))
  · exact .inl (.inr (.inr (.inr (.inl h))))
  · rcases h3 with e | e
    · exact .inl (.inr (.inr (.inr (.inr (.inl (by omega))))))
    · exact .inr (by omega)
  · exact .inl (.inr (.inr (.inr (.inr (.inr h)))))
section
variable {Xb C Q M P lim : Nat} {L L' Lc : LL} {es r : Es} {l p v0 a b : Nat}
theorem putc_yes (hl : l < 256) (ha : a < 1048576) (hb : b < 1048576) (hp : es.Perm (((l, p), v0) :: r)) : PutC Xb C Q M P lim Lc es (((l, p), a * 4294967296 + b) :: r) l p a b := fun W O tk h =>
  x_put W Xb C Q M P lim tk Lc es _ O h l p a b ha hb false (fun W Qt Mt seed n pr ht => Hs.tab_put_yes W P Qt Mt seed n pr 0 es r ht (l, p) hl _ v0 (by omega) hp)
theorem putc_no (hl : l < 256) (hpp : p < 18446744073709551616) (ha : a < 1048576) (hb : b < 1048576) (hn : ∀ x ∈ es, x.1 ≠ (l, p)) (hes : es.length < 1000000) : PutC Xb C Q M P lim Lc es (((l, p), a * 4294967296 + b) :: es) l p a b := fun W O tk h =>
  x_put W Xb C Q M P lim tk Lc es _ O h l p a b ha hb true (fun W Qt Mt seed n pr ht => Hs.tab_put_no W P Qt Mt seed n pr 0 es ht (l, p) hl hpp _ (by omega) hn hes)
theorem dropc_yes (hl : l < 256) (hp : es.Perm (((l, p), v0) :: r)) (hes : r.length < 1000000) : DropC Xb C Q M P lim Lc es r l p := fun W O tk h => by
  obtain ⟨seed, An, cn, Af, cf, ns, fs, Qt, Mt, n, pr, hb, rfl⟩ := h
  refine (Hs.tab_drop_yes W P Qt Mt seed n pr 0 es r hb.tab (l, p) hl v0 hp hes).mono ?_
  rintro e w' ⟨rfl, hs⟩
  exact ⟨rfl, hb.tabr hs⟩
end
namespace X
theorem pf_lt64 (l k : Nat) (hk : k < 18446744073709551616) : pf l k < 18446744073709551616 := by
  unfold pf
  exact Nat.lt_of_le_of_lt (Nat.div_le_self _ _) hk
/-- One level, when a key comes. -/
theorem grow_lv {Xb C Q M P lim : Nat} {L1 L2 : LL} {es : Es} {n k l : Nat} (h : TE l (L1 ++ L2) (L1 ++ (n, k) :: L2) es) (hl : l ≤ 64) (hr : Rises (L1 ++ L2)) (h1 : ∀ x ∈ L1, x.2 < k) (h2 : ∀ x ∈ L2, k < x.2) (hn : ((L1 ++ L2).map (·.1)).Nodup)
    (hp : ∀ x ∈ L1 ++ L2, x.1 < 1048576) (hnl : n < 1048576) (hk : k < 18446744073709551616) (hes : es.length < 1000000) :
    ∃ (e1 e2 : Nat) (r : Bool) (es' : Es), Tells es l (pf l k) e1 e2 r ∧ e1 < 1048576 ∧ e2 < 1048576 ∧ TE (l + 1) (L1 ++ L2) (L1 ++ (n, k) :: L2) es' ∧ es'.length = es.length + (if l < sc (L1 ++ L2) k then 0 else 1) ∧
      ((r = false ∧ PutC Xb C Q M P lim (L1 ++ (n, k) :: L2) es es' l (pf l k) n n) ∨
       (r = true ∧ (e1 : Int) = hd L2 (-1) ∧ PutC Xb C Q M P lim (L1 ++ (n, k) :: L2) es es' l (pf l k) n e2) ∨
       (r = true ∧ (e1 : Int) ≠ hd L2 (-1) ∧ (e2 : Int) = lst (-1) L1 ∧ PutC Xb C Q M P lim (L1 ++ (n, k) :: L2) es es' l (pf l k) e1 n) ∨
       (r = true ∧ (e1 : Int) ≠ hd L2 (-1) ∧ (e2 : Int) ≠ lst (-1) L1 ∧ es' = es)) := by
  have ho : ∀ q, q ≠ pf l k → sg (L1 ++ (n, k) :: L2) l q = sg (L1 ++ L2) l q := fun q hq => sg_else hq
  have hne : sg (L1 ++ (n, k) :: L2) l (pf l k) ≠ [] := by rw [sg_with]; simp
  have hz : sg (if l < l then L1 ++ (n, k) :: L2 else L1 ++ L2) l (pf l k) = sg (L1 ++ L2) l (pf l k) := by rw [if_neg (Nat.lt_irrefl l)]
  have ht := tells_of h hl hz
  have a1 := fst_lt hp l (pf l k)
  have a2 := lst_lt hp l (pf l k)
  have hsc : sg (L1 ++ L2) l (pf l k) = [] ↔ ¬ l < sc (L1 ++ L2) k := ⟨fun e h => sc_yes h e, fun h => sc_no (by omega) hl⟩
  have hpl := pf_lt64 l k hk
  refine ⟨fst' (sg (L1 ++ L2) l (pf l k)), lst' (sg (L1 ++ L2) l (pf l k)), decide (sg (L1 ++ L2) l (pf l k) ≠ []), ?_⟩
  rcases grow_cases hr h1 h2 hn l with ⟨c1, c2⟩ | ⟨c1, c2, c3⟩ | ⟨c1, c2, c3, c4⟩ | ⟨c1, c2, c3, c4⟩
  · have hno := h.no (hz.trans c1)
    refine ⟨_, ht, a1, a2, h.new hl c1 hne ho, ?_, .inl ⟨decide_eq_false (fun h => h c1), ?_⟩⟩
    · rw [if_neg (hsc.1 c1)]; rfl
    · rw [c2]; exact putc_no (by omega) hpl hnl hnl hno hes
  all_goals
    have hy := h.yes hl (p := pf l k) (by rw [hz]; exact c1)
    rw [hz] at hy
    have hpm := perm_of_mem hy
    have hlen := hpm.length_eq
    rw [List.length_cons] at hlen
    have hlt : l < sc (L1 ++ L2) k := Classical.byContradiction fun h => c1 (hsc.2 h)
  · refine ⟨_, ht, a1, a2, h.put hl hpm hne ho, ?_, .inr (.inl ⟨decide_eq_true c1, c2, ?_⟩)⟩
    · rw [if_pos hlt, List.length_cons, hlen]
    · rw [c3]; exact putc_yes (by omega) hnl a2 hpm
  · refine ⟨_, ht, a1, a2, h.put hl hpm hne ho, ?_, .inr (.inr (.inl ⟨decide_eq_true c1, c2, c3, ?_⟩))⟩
    · rw [if_pos hlt, List.length_cons, hlen]
    · rw [c4]; exact putc_yes (by omega) a1 hnl hpm
  · refine ⟨es, ht, a1, a2, h.stay (fun q => ?_) (fun q hq => ?_), ?_, .inr (.inr (.inr ⟨decide_eq_true c1, c2, c3, rfl⟩))⟩
    · by_cases hq : q = pf l k
      · subst hq; exact ⟨fun _ => c1, fun _ => hne⟩
      · rw [ho q hq]
    · by_cases hq2 : q = pf l k
      · subst hq2; exact c4
      · rw [ho q hq2]
    · rw [if_pos hlt]; rfl
/-- One level, when a key goes. -/
theorem shrink_lv {Xb C Q M P lim : Nat} {L1 L2 : LL} {es : Es} {n k l : Nat} (h : TE l (L1 ++ (n, k) :: L2) (L1 ++ L2) es) (hl : l ≤ 64) (hr : Rises (L1 ++ (n, k) :: L2)) (hn : ((L1 ++ (n, k) :: L2).map (·.1)).Nodup)
    (hp : ∀ x ∈ L1 ++ (n, k) :: L2, x.1 < 1048576) (hk : k < 18446744073709551616) (hes : es.length < 1000000) :
    ∃ (e1 e2 : Nat) (es' : Es), Tells es l (pf l k) e1 e2 true ∧ e1 < 1048576 ∧ e2 < 1048576 ∧ TE (l + 1) (L1 ++ (n, k) :: L2) (L1 ++ L2) es' ∧ es'.length + (if l < sc (L1 ++ L2) k then 0 else 1) = es.length ∧
      ((e1 = n ∧ e2 = n ∧ DropC Xb C Q M P lim (L1 ++ L2) es es' l (pf l k)) ∨
       (e1 = n ∧ e2 ≠ n ∧ ∃ b : Nat, hd L2 (-1) = (b : Int) ∧ PutC Xb C Q M P lim (L1 ++ L2) es es' l (pf l k) b e2) ∨
       (e1 ≠ n ∧ e2 = n ∧ ∃ a : Nat, lst (-1) L1 = (a : Int) ∧ PutC Xb C Q M P lim (L1 ++ L2) es es' l (pf l k) e1 a) ∨
       (e1 ≠ n ∧ e2 ≠ n ∧ es' = es)) := by
  have ho : ∀ q, q ≠ pf l k → sg (L1 ++ L2) l q = sg (L1 ++ (n, k) :: L2) l q := fun q hq => (sg_else hq).symm
  have hne : sg (L1 ++ (n, k) :: L2) l (pf l k) ≠ [] := by rw [sg_with]; simp
  have hz : sg (if l < l then L1 ++ L2 else L1 ++ (n, k) :: L2) l (pf l k) = sg (L1 ++ (n, k) :: L2) l (pf l k) := by rw [if_neg (Nat.lt_irrefl l)]
  have ht := tells_of h hl hz
  rw [decide_eq_true hne] at ht
  have a1 := fst_lt hp l (pf l k)
  have a2 := lst_lt hp l (pf l k)
  have hsc : sg (L1 ++ L2) l (pf l k) = [] ↔ ¬ l < sc (L1 ++ L2) k := ⟨fun e h => sc_yes h e, fun h => sc_no (by omega) hl⟩
  have hpl := pf_lt64 l k hk
  have hy := h.yes hl (p := pf l k) (by rw [hz]; exact hne)
  rw [hz] at hy
  have hpm := perm_of_mem hy
  have hlen := hpm.length_eq
  rw [List.length_cons] at hlen
  have hfar : ∀ b : Nat, hd L2 (-1) = (b : Int) → b < 1048576 := fun b e => by
    cases L2 with
    | nil => exact absurd e (by show (-1 : Int) ≠ _; omega)
    | cons x L => have := hp x (by simp); have e2 : (x.1 : Int) = b := e; omega
  have hfar2 : ∀ a : Nat, lst (-1) L1 = (a : Int) → a < 1048576 := fun a e => by
    rcases List.eq_nil_or_concat L1 with rfl | ⟨L, x, rfl⟩
    · exact absurd e (by show (-1 : Int) ≠ _; omega)
    · rw [List.concat_eq_append, lst_app] at e
      have e2 : (x.1 : Int) = a := e
      have := hp x (by rw [List.concat_eq_append]; simp)
      omega
  refine ⟨fst' (sg (L1 ++ (n, k) :: L2) l (pf l k)), lst' (sg (L1 ++ (n, k) :: L2) l (pf l k)), ?_⟩
  rcases shrink_cases hr hn l with ⟨c1, c2, c3⟩ | ⟨c1, c2, c3, b, c4, c5⟩ | ⟨c1, c2, c3, b, c4, c5⟩ | ⟨c1, c2, c3, c4⟩
  · refine ⟨_, ht, a1, a2, h.less hpm c1 ho, ?_, .inl ⟨c2, c3, dropc_yes (by omega) hpm (by omega)⟩⟩
    rw [if_neg (hsc.1 c1), hlen]
  · have hlt : l < sc (L1 ++ L2) k := Classical.byContradiction fun h => c1 (hsc.2 h)
    refine ⟨_, ht, a1, a2, h.put hl hpm c1 ho, ?_, .inr (.inl ⟨c2, c3, b, c4, ?_⟩)⟩
    · rw [if_pos hlt, List.length_cons, hlen]
    · rw [c5]; exact putc_yes (by omega) (hfar b c4) a2 hpm
  · have hlt : l < sc (L1 ++ L2) k := Classical.byContradiction fun h => c1 (hsc.2 h)
    refine ⟨_, ht, a1, a2, h.put hl hpm c1 ho, ?_, .inr (.inr (.inl ⟨c2, c3, b, c4, ?_⟩))⟩
    · rw [if_pos hlt, List.length_cons, hlen]
    · rw [c5]; exact putc_yes (by omega) a1 (hfar2 b c4) hpm
  · have hlt : l < sc (L1 ++ L2) k := Classical.byContradiction fun h => c1 (hsc.2 h)
    refine ⟨es, ht, a1, a2, h.stay (fun q => ?_) (fun q hq => ?_), ?_, .inr (.inr (.inr ⟨c2, c3, rfl⟩))⟩
    · by_cases hq : q = pf l k
      · subst hq; exact ⟨fun _ => hne, fun _ => c1⟩
      · rw [ho q hq]
    · by_cases hq2 : q = pf l k
      · subst hq2; exact c4.symm
      · exact congrArg pk (ho q hq2)
    · rw [if_pos hlt, Nat.add_zero]
end X
end Go.Proofs.Ytiinefdpaiincaa
