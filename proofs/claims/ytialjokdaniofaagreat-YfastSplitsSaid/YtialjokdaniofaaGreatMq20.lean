/- Links as a rising list of keys: where a key lies, and what the plain list answers. A law's own function 'do' (layers 11, 12, 14): an act on a set of keys answers what its methods answer; the text walked. A trie as a set of keys by its methods: has, least, greatest, how many, how much is used, the limit; the texts walked. A key is taken out of a trie; it is emptied; the texts walked. The key beside one in a trie; the texts walked. -/
import Derived.Test.YtialjokdaniofaaGreatMq19
import Derived.Test.YtialjokdaniofaaGreatMq02
section
namespace Go.Proofs.YtialjokdaniofaaGreat
set_option maxRecDepth 20000
open Go.RowKit
set_option linter.unusedSectionVars false
variable [Gh]
namespace X
section
variable {L : LL} {xs : List Nat} {k : Nat}
theorem rises_up (hL : L.map (·.2) = xs) (hu : K.Up xs) : Rises L := by
  subst hL
  exact List.pairwise_map.1 hu
theorem take_map (hL : L.map (·.2) = xs) (i : Nat) : (L.take i).map (·.2) = xs.take i := by rw [← hL, List.map_take]
theorem drop_map (hL : L.map (·.2) = xs) (i : Nat) : (L.drop i).map (·.2) = xs.drop i := by rw [← hL, List.map_drop]
theorem len_map (hL : L.map (·.2) = xs) : L.length = xs.length := by rw [← hL, List.length_map]
/-- A key that isn't there parts the links. -/
theorem part_no (hL : L.map (·.2) = xs) (hu : K.Up xs) (hf : K.fo xs k = false) :
    ∃ L1 L2 : LL, L = L1 ++ L2 ∧ (∀ x ∈ L1, x.2 < k) ∧ (∀ x ∈ L2, k < x.2) ∧ L1.length = K.fi xs k ∧ (∀ n, (L1 ++ (n, k) :: L2).map (·.2) = K.add xs k) := by
  refine ⟨L.take (K.fi xs k), L.drop (K.fi xs k), (List.take_append_drop _ _).symm, fun x hx => ?_, fun x hx => ?_, ?_, fun n => ?_⟩
  · exact K.take_lt (xs := xs) k _ (by rw [← take_map hL]; exact List.mem_map_of_mem hx)
  · exact K.drop_ne hu hf _ (by rw [← drop_map hL]; exact List.mem_map_of_mem hx)
  · rw [List.length_take, len_map hL]
    have := K.fi_le xs k
    omega
  · rw [List.map_append, List.map_cons, take_map hL, drop_map hL]
    unfold K.add
    rw [hf]
    rfl
theorem pv_no {L1 L2 : LL} (hL : (L1 ++ L2).map (·.2) = xs) (hf : K.fo xs k = false) (hl : L1.length = K.fi xs k) : (L1 = [] ∧ K.pv xs k = 0 ∧ K.pvb xs k = false) ∨ ∃ n q L, L1 = L ++ [(n, q)] ∧ K.pv xs k = q ∧ K.pvb xs k = true := by
  unfold K.pv K.pvb
  rw [hf]
  rcases List.eq_nil_or_concat L1 with rfl | ⟨L, x, rfl⟩
  · rw [← hl]
    exact .inl ⟨rfl, rfl, rfl⟩
  · rw [List.concat_eq_append] at *
    rw [List.length_append, List.length_singleton] at hl
    have h0 : ¬ K.fi xs k = 0 := by omega
    refine .inr ⟨x.1, x.2, L, rfl, ?_, ?_⟩
    · rw [if_neg (by decide), if_neg h0, ← hl, Nat.add_sub_cancel, ← hL, List.map_append, List.map_append, List.append_assoc, List.getElem?_append_right (by rw [List.length_map]; exact Nat.le_refl _), List.length_map, Nat.sub_self]
      rfl
    · rw [decide_eq_false h0]; rfl
/-- A key that is there. -/
theorem part_yes (hL : L.map (·.2) = xs) (hu : K.Up xs) (hf : K.fo xs k = true) :
    ∃ (n : Nat) (L1 L2 : LL), L = L1 ++ (n, k) :: L2 ∧ (L1 ++ L2).map (·.2) = K.drop xs k ∧ K.add (K.drop xs k) k = xs ∧ K.nx xs k = k ∧ K.nxb xs k = true ∧ K.pv xs k = k ∧ K.pvb xs k = true ∧ k ∉ K.drop xs k := by
  obtain ⟨h1, h2⟩ := K.fo_lt hf
  have hl := len_map hL
  have hi : K.fi xs k < L.length := by omega
  have e : L[K.fi xs k].2 = k := by
    have h3 : (L.map (·.2))[K.fi xs k]'(by rw [List.length_map]; exact hi) = k := by simp only [hL]; exact h2
    rwa [List.getElem_map] at h3
  have hd : L.drop (K.fi xs k) = L[K.fi xs k] :: L.drop (K.fi xs k + 1) := List.drop_eq_getElem_cons hi
  have hnd : k ∉ K.drop xs k := fun h => ((K.drop_mem hu k k).1 h).1 rfl
  refine ⟨L[K.fi xs k].1, L.take (K.fi xs k), L.drop (K.fi xs k + 1), ?_, ?_, ?_, ?_, ?_, ?_, ?_, hnd⟩
  · have e2 : (L[K.fi xs k].1, k) = L[K.fi xs k] := Prod.ext rfl e.symm
    rw [e2, ← hd, List.take_append_drop]
  · rw [List.map_append, take_map hL, drop_map hL]
    unfold K.drop
    rw [if_pos hf]
  · have hu2 := K.add_up (K.drop_up hu k) k
    refine List.Perm.eq_of_pairwise (le := (· < ·)) (fun a b _ _ h1 h2 => by omega) hu2 hu ?_
    refine (List.perm_ext_iff_of_nodup (hu2.imp (fun h => Nat.ne_of_lt h)) (hu.imp (fun h => Nat.ne_of_lt h))).2 fun x => ?_
    rw [K.add_mem (K.drop_up hu k), K.drop_mem hu]
    constructor
    · rintro (rfl | h)
      · exact (K.fo_mem hu _).1 hf
      · exact h.2
    · intro h
      by_cases e : x = k
      · exact .inl e
      · exact .inr ⟨e, h⟩
  · unfold K.nx
    rw [List.getElem?_eq_getElem h1, h2]
    rfl
  · exact decide_eq_true h1
  · unfold K.pv
    rw [if_pos hf]
  · unfold K.pvb
    rw [hf]
    rfl
theorem fo_sc (hL : L.map (·.2) = xs) (hu : K.Up xs) (k : Nat) : K.fo xs k = true ↔ sc L k = 65 := by
  rw [K.fo_mem hu, sc_all, ← hL, List.mem_map]
end
end X
end Go.Proofs.YtialjokdaniofaaGreat
end
section
namespace Go.Proofs.YtialjokdaniofaaGreat
set_option maxRecDepth 4000
open Go.RowKit
namespace K
/-- What an insertion answers, and the list then; a limit bears on what is used. -/
def inE (us : List Nat → Nat) (xs : List Nat) (lim k : Nat) : Nat := if fo xs k then 4 else if lim < us (add xs k) then 5 else 0
def inL (us : List Nat → Nat) (xs : List Nat) (lim k : Nat) : List Nat := if fo xs k then xs else if lim < us (add xs k) then xs else add xs k
theorem chg_set (w : World) (p : Addr) (u : Value) : Chg w (w.setCell p u) (fun j => j = p.block) :=
  ⟨rfl, rfl, rfl, by simp [World.setCell], fun g _ hn => Go.heap_setCell_other w p g u hn⟩
theorem Chg.refl (w : World) (O : Nat → Prop) : Chg w w O := ⟨rfl, rfl, rfl, Nat.le_refl _, fun _ _ _ => rfl⟩
end K
/-- What a call of a method leaves. -/
def TOp (T : World → Nat → List Nat → Nat → Nat → (Nat → Prop) → Prop) (w : World) (P : Nat) (O : Nat → Prop) (v : Value) (xs : List Nat) (lim most : Nat) (e : Ending) (w' : World) : Prop :=
  ∃ tk O', e = .returned v ∧ T w' P xs lim tk O' ∧ tk ≤ most ∧ K.Chg w w' O ∧ ∀ j, O' j → O j ∨ w.heap.size ≤ j
/-- What a set of keys by its methods must keep. T w P xs lim tk O: the set at P holds xs, may use lim, took tk steps, and lies in the blocks O. -/
structure TC (us : List Nat → Nat) (sh sn sm : Nat) (T : World → Nat → List Nat → Nat → Nat → (Nat → Prop) → Prop) : Prop where
  frame : ∀ {w w' : World} {P xs lim tk O}, T w P xs lim tk O → K.Chg w w' (fun j => ¬ O j) → T w' P xs lim tk O
  pos : ∀ {w : World} {P xs lim tk O}, T w P xs lim tk O → 0 < w.heap.size
  lt : ∀ {w : World} {P xs lim tk O}, T w P xs lim tk O → ∀ j, O j → j < w.heap.size
  up : ∀ {w : World} {P xs lim tk O}, T w P xs lim tk O → K.Up xs ∧ (∀ x ∈ xs, x < 18446744073709551616) ∧ us xs ≤ lim
  insert : ∀ (w : World) (P : Nat) (xs : List Nat) (lim tk : Nat) (O : Nat → Prop), T w P xs lim tk O → ∀ (k : Nat), k < 18446744073709551616 → Calls Tryz.prog 24 #[.pointer (some ⟨P, 0, none⟩), .int .u64 (k : Int)] w (TOp T w P O (.int .i64 ((K.inE us xs lim k : Nat) : Int)) (K.inL us xs lim k) lim 1073741824)
  delete : ∀ (w : World) (P : Nat) (xs : List Nat) (lim tk : Nat) (O : Nat → Prop), T w P xs lim tk O → ∀ (k : Nat), k < 18446744073709551616 → Calls Tryz.prog 26 #[.pointer (some ⟨P, 0, none⟩), .int .u64 (k : Int)] w (TOp T w P O (.int .i64 (((if K.fo xs k then 0 else 3 : Nat)) : Int)) (K.drop xs k) lim 1073741824)
  has : ∀ (w : World) (P : Nat) (xs : List Nat) (lim tk : Nat) (O : Nat → Prop), T w P xs lim tk O → ∀ (k : Nat), k < 18446744073709551616 → Calls Tryz.prog 27 #[.pointer (some ⟨P, 0, none⟩), .int .u64 (k : Int)] w (TOp T w P O (.bool (K.fo xs k)) (xs) lim sh)
  next : ∀ (w : World) (P : Nat) (xs : List Nat) (lim tk : Nat) (O : Nat → Prop), T w P xs lim tk O → ∀ (k : Nat), k < 18446744073709551616 → Calls Tryz.prog 30 #[.pointer (some ⟨P, 0, none⟩), .int .u64 (k : Int)] w (TOp T w P O (.tuple #[.int .u64 ((K.nx xs k : Nat) : Int), .bool (K.nxb xs k)]) (xs) lim sn)
  prev : ∀ (w : World) (P : Nat) (xs : List Nat) (lim tk : Nat) (O : Nat → Prop), T w P xs lim tk O → ∀ (k : Nat), k < 18446744073709551616 → Calls Tryz.prog 31 #[.pointer (some ⟨P, 0, none⟩), .int .u64 (k : Int)] w (TOp T w P O (.tuple #[.int .u64 ((K.pv xs k : Nat) : Int), .bool (K.pvb xs k)]) (xs) lim sn)
  min : ∀ (w : World) (P : Nat) (xs : List Nat) (lim tk : Nat) (O : Nat → Prop), T w P xs lim tk O → Calls Tryz.prog 28 #[.pointer (some ⟨P, 0, none⟩)] w (TOp T w P O (.tuple #[.int .u64 ((K.nx xs 0 : Nat) : Int), .bool (K.nxb xs 0)]) (xs) lim sm)
  max : ∀ (w : World) (P : Nat) (xs : List Nat) (lim tk : Nat) (O : Nat → Prop), T w P xs lim tk O → Calls Tryz.prog 29 #[.pointer (some ⟨P, 0, none⟩)] w (TOp T w P O (.tuple #[.int .u64 ((K.pv xs 18446744073709551615 : Nat) : Int), .bool (K.pvb xs 18446744073709551615)]) (xs) lim sm)
  clear : ∀ (w : World) (P : Nat) (xs : List Nat) (lim tk : Nat) (O : Nat → Prop), T w P xs lim tk O → Calls Tryz.prog 32 #[.pointer (some ⟨P, 0, none⟩)] w (TOp T w P O (.tuple #[]) ([]) lim 1073741824)
abbrev kw3 (w : World) (d k : Nat) : World := ((w.alloc (kacto d k)).alloc kanso).alloc kanso
theorem kw3_size (w : World) (d k : Nat) : (kw3 w d k).heap.size = w.heap.size + 3 := by simp [kw3]
/-- What is there behind the method's call. -/
structure KF (w w4 : World) (d k : Nat) : Prop where
  a0 : w4.heap[w.heap.size + 1]? = some kanso
  x0 : w4.heap[w.heap.size + 2]? = some kanso
theorem KF.of {w w4 : World} {d k : Nat} {O : Nat → Prop} (hC : K.Chg (kw3 w d k) w4 O) (hlt : ∀ j, O j → j < w.heap.size) : KF w w4 d k := by
  have hs := kw3_size w d k
  refine ⟨(hC.block _ (by omega) (fun h => by have := hlt _ h; omega)).trans ?_, (hC.block _ (by omega) (fun h => by have := hlt _ h; omega)).trans ?_⟩
  · rw [Below.heap_alloc _ _ _ (by simp)]
    have := K.alloc_top (w.alloc (kacto d k)) kanso
    simpa using this
  · have := K.alloc_top ((w.alloc (kacto d k)).alloc kanso) kanso
    simpa using this
section
variable {us : List Nat → Nat} {sh sn sm : Nat} {T : World → Nat → List Nat → Nat → Nat → (Nat → Prop) → Prop}
end
end Go.Proofs.YtialjokdaniofaaGreat
end
section
namespace Go.Proofs.YtialjokdaniofaaGreat
set_option maxRecDepth 20000
open Go.RowKit
set_option linter.unusedSectionVars false
variable [Gh]
structure XS (w : World) (Xb C Q M P lim tk : Nat) (xs : List Nat) (L : LL) (es : Es) (O : Nat → Prop) : Prop where
  xt : XT w Xb C Q M P lim tk L es O
  te : X.TE 0 L L es
  ks : L.map (·.2) = xs
  up : K.Up xs
  cnt : es.length + L.length = K.xfast xs
  le : K.xfast xs ≤ lim
  max : lim ≤ 500000
  few : tk ≤ 100 ∨ tk = 2000000
def XZ (w : World) (Xb : Nat) (xs : List Nat) (lim tk : Nat) (O : Nat → Prop) : Prop := ∃ C Q M P L es, XS w Xb C Q M P lim tk xs L es O
section
variable {w w' w1 w2 : World} {Xb C Q M P lim tk tk' most : Nat} {xs : List Nat} {L : LL} {es : Es} {O : Nat → Prop} {v : Value} {e : Ending}
theorem XS.keys (h : XS w Xb C Q M P lim tk xs L es O) : ∀ x ∈ xs, x < 18446744073709551616 := by
  rw [← h.ks]
  intro x hx
  obtain ⟨y, hy, rfl⟩ := List.mem_map.1 hx
  exact h.xt.keys y hy
theorem XS.rises (h : XS w Xb C Q M P lim tk xs L es O) : X.Rises L := X.rises_up h.ks h.up
theorem XS.done (h : XS w Xb C Q M P lim tk xs L es O) (hr : XR w O Xb C Q M P lim tk' L es w') (ht : tk' ≤ most) (h2 : tk' ≤ 100 ∨ tk' = 2000000) (he : e = .returned v) : TOp XZ w Xb O v xs lim most e w' := by
  obtain ⟨O', h1, hc, hi⟩ := hr
  exact ⟨tk', O', he, ⟨C, Q, M, P, L, es, h1, h.te, h.ks, h.up, h.cnt, h.le, h.max, h2⟩, ht, hc, hi⟩
theorem XR.more (h : XR w O Xb C Q M P lim tk L es w1) (b : Below w1.heap.size w1 w2) : XR w O Xb C Q M P lim tk L es w2 := by
  obtain ⟨O', h1, h2, h3⟩ := h
  exact ⟨O', h1.chg (K.Chg.of_below (O := fun _ => False) b) (fun _ _ h => h), h2.same (K.Chg.of_below b), h3⟩
theorem XR.drew (h : XR w O Xb C Q M P lim tk L es w1) (n : Nat) : XR w O Xb C Q M P lim tk L es (w1.drewN n) := by
  obtain ⟨O', h1, h2, h3⟩ := h
  exact ⟨O', h1.chg ((chg_refl w1 (fun _ => False)).drewN n) (fun _ _ h => h), h2.drewN n, h3⟩
theorem XT.start (h : XT w Xb C Q M P lim tk L es O) (htk : tk = 2000000) : Calls Tryz.prog 46 #[.pointer (some ⟨M, 0, none⟩)] w fun e w' => e = .returned (.tuple #[]) ∧ XR w O Xb C Q M P lim 0 L es w' := by
  refine (x_start w M tk h.mx.1 htk).mono ?_
  rintro e w' ⟨rfl, hm, hc⟩
  exact ⟨rfl, XR.met h hc hm⟩
theorem XT.clen (h : XT w Xb C Q M P lim tk L es O) : Calls Tryz.prog 74 #[.pointer (some ⟨C, 0, none⟩)] w fun e w' => e = .returned (.int .i64 (L.length : Int)) ∧ ∃ n, w' = w.drewN n := by
  obtain ⟨_, An, cn, Af, cf, ns, fs, _, _, _, _, hb, rfl⟩ := h
  exact c_len w C Q M lim cn cf An Af ns fs L hb.ch
theorem XT.tlen (h : XT w Xb C Q M P lim tk L es O) : Calls Tryz.prog 73 #[.pointer (some ⟨P, 0, none⟩)] w fun e w' => e = .returned (.int .i64 (es.length : Int)) ∧ w = w' := by
  obtain ⟨_, An, cn, Af, cf, ns, fs, _, _, _, _, hb, rfl⟩ := h
  exact Hs.tab_len w P _ _ _ _ _ _ es hb.tab
/-- A link's key, there or not. -/
theorem XT.key_at (h : XT w Xb C Q M P lim tk L es O) (htk : tk < 1000000) (i : Int) (q : Nat) (b : Bool) (hi : (i = -1 ∧ q = 0 ∧ b = false) ∨ ∃ (n : Nat) (L1 L2 : LL), L = L1 ++ (n, q) :: L2 ∧ i = (n : Int) ∧ b = true) :
    Calls Tryz.prog 142 #[.pointer (some ⟨C, 0, none⟩), .int .i64 i] w fun e w' => e = .returned (.tuple #[.int .u64 (q : Int), .bool b]) ∧ ∃ t, t ≤ 1 ∧ XR w O Xb C Q M P lim (tk + t) L es w' := by
  rcases hi with ⟨rfl, rfl, rfl⟩ | ⟨n, L1, L2, rfl, rfl, rfl⟩
  · refine h.key_no.mono ?_
    rintro e w' ⟨rfl, hb⟩
    exact ⟨rfl, 0, by omega, (XR.refl h).more hb⟩
  · refine (h.key htk).mono ?_
    rintro e w' ⟨rfl, hm, hc⟩
    exact ⟨rfl, 1, by omega, XR.met h hc hm⟩
end
theorem below_draws (w : World) (n : Nat) : Below w.heap.size w (w.drewN n) := ⟨rfl, rfl, rfl, Nat.le_refl _, fun _ _ => rfl⟩
section
variable (w : World) (Xb C Q M P lim tk : Nat) (xs : List Nat) (L : LL) (es : Es) (O : Nat → Prop) (h : XS w Xb C Q M P lim tk xs L es O)
include h
set_option maxHeartbeats 1000000 in
theorem x_used : Calls Tryz.prog 41 #[.pointer (some ⟨Xb, 0, none⟩)] w fun e w' => e = .returned (.int .i64 (K.xfast xs : Int)) ∧ Below w.heap.size w w' := by
  have hq := h.cnt
  have h1 := h.le
  have h2 := h.max
  have ws : IntKind.i64.wrap ((es.length : Int) + (L.length : Int)) = (K.xfast xs : Int) := by rw [IntWalk.i64_in _ (by omega)]; omega
  have hcl := Lib.hid (fun (W : World) O' (hW : XT W Xb C Q M P lim tk L es O') => hW.clen)
  have htl := Lib.hid (fun (W : World) O' (hW : XT W Xb C Q M P lim tk L es O') => hW.tlen)
  have HD := Lib.hid (fun n => h.xt.chg ((chg_refl w (fun _ => False)).drewN n) (fun _ _ h => h))
  have HS0 : Hid (w.drew.cell? ⟨Xb, 1, none⟩ = some (.pointer (some ⟨C, 0, none⟩)) ∧ w.drew.cell? ⟨Xb, 2, none⟩ = some (.pointer (some ⟨P, 0, none⟩))) := Lib.hid ⟨(HD.out 1).c1, (HD.out 1).c2⟩
  have HSN : Hid (∀ n, (w.drewN n).cell? ⟨Xb, 1, none⟩ = some (.pointer (some ⟨C, 0, none⟩)) ∧ (w.drewN n).cell? ⟨Xb, 2, none⟩ = some (.pointer (some ⟨P, 0, none⟩))) := Lib.hid (fun n => ⟨(HD.out n).c1, (HD.out n).c2⟩)
  have HTL0 := Lib.hid (htl.out w.drew O (HD.out 1))
  have HTLN := Lib.hid (fun n => htl.out (w.drewN n) O (HD.out n))
  have HCL := Lib.hid (hcl.out w.drew O (HD.out 1))
  clear h hq h1 h2
  go_enter Tryz.func41, Tryz.ntmps41
  go_wp2
  go_region_held3 (fun Y => Y.cell? ⟨Xb, 1, none⟩ = some (.pointer (some ⟨C, 0, none⟩)) ∧ Y.cell? ⟨Xb, 2, none⟩ = some (.pointer (some ⟨P, 0, none⟩))) (first | (with_reducible exact HS0.out) | (with_reducible exact HSN.out _) | go_keep) (first
    | (go_at_call 73; (with_reducible refine HTL0.out.mono ?_); rintro e w1 ⟨rfl, rfl⟩)
    | (go_at_call 73; (with_reducible refine (HTLN.out _).mono ?_); rintro e w1 ⟨rfl, rfl⟩)
    | (go_at_call 74; (with_reducible refine HCL.out.mono ?_); rintro e w1 ⟨rfl, n, rfl⟩))
  all_goals
    go_wp2
    go_ret
    exact ⟨rfl, below_draws w _⟩
end
end Go.Proofs.YtialjokdaniofaaGreat
end
section
namespace Go.Proofs.YtialjokdaniofaaGreat
set_option maxRecDepth 20000
open Go.RowKit
set_option linter.unusedSectionVars false
variable [Gh]
section
variable {w w' : World} {Xb C Q M P lim tk tk' most : Nat} {xs xs' : List Nat} {L L' : LL} {es es' : Es} {O : Nat → Prop} {v : Value} {e : Ending}
theorem top_of (hr : XR w O Xb C Q M P lim tk' L' es' w') (hte : X.TE 0 L' L' es') (hks : L'.map (·.2) = xs') (hup : K.Up xs') (hcnt : es'.length + L'.length = K.xfast xs') (hle : K.xfast xs' ≤ lim) (hmax : lim ≤ 500000) (h2 : tk' ≤ 100 ∨ tk' = 2000000) (ht : tk' ≤ most) (he : e = .returned v) : TOp XZ w Xb O v xs' lim most e w' := by
  obtain ⟨O', h1, hc, hi⟩ := hr
  exact ⟨tk', O', he, ⟨C, Q, M, P, L', es', h1, hte, hks, hup, hcnt, hle, hmax, h2⟩, ht, hc, hi⟩
end
section
variable (w : World) (Xb C Q M P lim tk : Nat) (xs : List Nat) (L : LL) (es : Es) (O : Nat → Prop) (h : XS w Xb C Q M P lim tk xs L es O)
include h
end
end Go.Proofs.YtialjokdaniofaaGreat
end
section
namespace Go.Proofs.YtialjokdaniofaaGreat
set_option maxRecDepth 20000
open Go.RowKit
set_option linter.unusedSectionVars false
variable [Gh]
section
variable {W w w' : World} {Xb C Q M P lim tk : Nat} {L : LL} {es : Es} {O : Nat → Prop}
theorem XR.row {b : Nat} {o : Obj} (hx : XR W O Xb C Q M P lim tk L es w') (h : W.heap[b]? = some o) (hn : ¬ O b) : w'.heap[b]? = some o := by
  obtain ⟨_, _, hc, _⟩ := hx
  exact (hc.block b (row_lt h) hn).trans h
theorem XR.c0 (hx : XR W O Xb C Q M P lim tk L es w') : w'.cell? ⟨Xb, 0, none⟩ = some (.pointer (some ⟨M, 0, none⟩)) := by obtain ⟨_, hT, _⟩ := hx; exact hT.c0
theorem XR.c1 (hx : XR W O Xb C Q M P lim tk L es w') : w'.cell? ⟨Xb, 1, none⟩ = some (.pointer (some ⟨C, 0, none⟩)) := by obtain ⟨_, hT, _⟩ := hx; exact hT.c1
theorem XR.c3 (hx : XR W O Xb C Q M P lim tk L es w') : w'.cell? ⟨Xb, 3, none⟩ = some (.int .i64 (lim : Int)) := by obtain ⟨_, hT, _⟩ := hx; exact hT.c3
end
section
variable (w : World) (Xb C Q M P lim tk : Nat) (xs : List Nat) (L : LL) (es : Es) (O : Nat → Prop) (h : XS w Xb C Q M P lim tk xs L es O)
include h
set_option maxHeartbeats 2000000 in
theorem x_near_below (htk : tk = 2000000) (k : Nat) (hk : k < 18446744073709551616) : Calls Tryz.prog 115 #[.pointer (some ⟨Xb, 0, none⟩), .int .u64 (k : Int), .func (.func 116) #[.pointer (some ⟨Xb, 0, none⟩)] #[]] w (TOp XZ w Xb O (.tuple #[.int .u64 ((K.pv xs k : Nat) : Int), .bool (K.pvb xs k)]) xs lim 9) := by
  have H := Lib.hid h
  have hst := Lib.hid (h.xt.start htk)
  have c0 := h.xt.c0
  have hfs := X.fo_sc h.ks h.up k
  have hsr := fun W O' (hW : XT W Xb C Q M P lim 0 L es O') => x_search W Xb C Q M P lim 0 L es O' hW (by omega) h.te h.xt.places k
  cases hf : K.fo xs k
  · obtain ⟨L1, L2, hL, h1, h2, hl, _⟩ := X.part_no h.ks h.up hf
    subst hL
    have hr := h.rises
    have hsc : X.sc (L1 ++ L2) k ≠ 65 := fun e => by rw [hfs.2 e] at hf; cases hf
    have hat := fun W t O' (ht : t < 900000) (hW : XT W Xb C Q M P lim t (L1 ++ L2) es O') => x_at_below W Xb C Q M P lim t L1 L2 es O' hW ht k hr h1 h2 hk
    have hi : (lst (-1) L1 = -1 ∧ K.pv xs k = 0 ∧ K.pvb xs k = false) ∨ ∃ (n : Nat) (La Lb : LL), L1 ++ L2 = La ++ (n, K.pv xs k) :: Lb ∧ lst (-1) L1 = (n : Int) ∧ K.pvb xs k = true := by
      rcases X.pv_no h.ks hf hl with ⟨e, a, b⟩ | ⟨n, q, L', e, a, b⟩
      · exact .inl ⟨by rw [e]; rfl, a, b⟩
      · exact .inr ⟨n, L', L2, by rw [e, a, List.append_assoc]; rfl, by rw [e, lst_app]; rfl, b⟩
    obtain ⟨s, hs⟩ : ∃ s : Int, (X.sc (L1 ++ L2) k : Int) - 1 = s := ⟨_, rfl⟩
    have g0 : (s == 64) = false := by rw [beq_eq_false_iff_ne]; omega
    rw [hs] at hat hsr
    generalize X.fst' (X.spl (L1 ++ L2) k (X.sc (L1 ++ L2) k)) = e1 at *
    generalize X.lst' (X.spl (L1 ++ L2) k (X.sc (L1 ++ L2) k)) = e2 at *
    generalize K.pv xs k = q at *
    generalize K.pvb xs k = b at *
    obtain ⟨i, hii⟩ : ∃ i, lst (-1) L1 = i := ⟨_, rfl⟩
    rw [hii] at hi hat
    have hky := fun (W : World) t O' (ht : t < 1000000) (hW : XT W Xb C Q M P lim t (L1 ++ L2) es O') => hW.key_at ht i q b hi
    have HAT := Lib.hid hat
    have HKY := Lib.hid hky
    have hsr := fun W O' hW => Lib.hid (hsr W O' hW)
    clear h hfs hf h1 h2 hl hr hsc hi hii hs hat hky
    go_enter Tryz.func115, Tryz.ntmps115
    go_wp2_with (first
      | (go_at_call 46; (with_reducible refine hst.out.mono ?_); rintro e w1 ⟨rfl, O1, hT1, hC1, hI1⟩
         have HSR := Lib.hid ((hsr _ _ hT1).out)
         have HC1 := Lib.hid hC1
         have HI1 := Lib.hid hI1
         clear hT1 hC1 hI1)
      | (go_at_call 121; (with_reducible refine HSR.out.mono ?_); rintro e w2 ⟨rfl, t, ht, hx2⟩
         have hx2' : XR w O Xb C Q M P lim (0 + t) (L1 ++ L2) es w2 := XR.seq HC1.out HI1.out hx2
         have hz := K.alloc_top w2 (spo s e1 e2)
         have hd : XR w O Xb C Q M P lim (0 + t) (L1 ++ L2) es (w2.alloc (spo s e1 e2)).drew := (hx2'.more ((Below.refl _ w2).alloc (Nat.le_refl _) (spo s e1 e2))).drew 1
         have hlt2 : ∃ O3, XT (w2.alloc (spo s e1 e2)).drew Xb C Q M P lim (0 + t) (L1 ++ L2) es O3 ∧ K.Chg w (w2.alloc (spo s e1 e2)).drew O ∧ (∀ j, O3 j → O j ∨ w.heap.size ≤ j) ∧ ¬ O3 w2.heap.size := by
           obtain ⟨O3, hT3, hC3, hI3⟩ := hx2'
           exact ⟨O3, (hT3.chg (chg_alloc w2 (spo s e1 e2) (fun _ => False)) (fun _ _ h => h)).chg ((chg_refl _ (fun _ => False)).drewN 1) (fun _ _ h => h), (hC3.same (chg_alloc w2 (spo s e1 e2) _)).drewN 1, hI3, fun h => by have := hT3.lt _ h; omega⟩
         obtain ⟨O3, hT3, hC3, hI3, hN3⟩ := hlt2
         obtain ⟨k0, k1, k2⟩ := spo_cells hz
         have HS1 : Hid ((w2.alloc (spo s e1 e2)).drew.cell? ⟨Xb, 1, none⟩ = some (.pointer (some ⟨C, 0, none⟩)) ∧ (w2.alloc (spo s e1 e2)).drew.cell? ⟨w2.heap.size, 0, none⟩ = some (.int .i64 s) ∧ (w2.alloc (spo s e1 e2)).drew.cell? ⟨w2.heap.size, 1, none⟩ = some (.int .i64 (e1 : Int)) ∧ (w2.alloc (spo s e1 e2)).drew.cell? ⟨w2.heap.size, 2, none⟩ = some (.int .i64 (e2 : Int))) := Lib.hid ⟨hd.c1, k0, k1, k2⟩
         have HA3 := Lib.hid (HAT.out _ _ _ (by omega) hT3)
         have HC3 := Lib.hid hC3
         have HI3 := Lib.hid hI3
         have HN3 := Lib.hid hN3
         have HZ := Lib.hid hz
         clear hx2 hx2' hz hd hT3 hC3 hI3 hN3))
    go_region_held3 (fun Y => Y.cell? ⟨Xb, 1, none⟩ = some (.pointer (some ⟨C, 0, none⟩)) ∧ Y.cell? ⟨w2.heap.size, 0, none⟩ = some (.int .i64 s) ∧ Y.cell? ⟨w2.heap.size, 1, none⟩ = some (.int .i64 (e1 : Int)) ∧ Y.cell? ⟨w2.heap.size, 2, none⟩ = some (.int .i64 (e2 : Int))) (first | (with_reducible exact HS1.out) | (with_reducible exact HS2.out) | (with_reducible exact HS3.out) | go_keep) (first
      | (go_at_call 116; (with_reducible refine HA3.out.mono ?_); rintro e w3 ⟨rfl, t2, ht2, hx3⟩
         have z3 := hx3.row HZ.out HN3.out
         obtain ⟨k3, k4, k5⟩ := spo_cells z3
         have HS2 : Hid (w3.cell? ⟨Xb, 1, none⟩ = some (.pointer (some ⟨C, 0, none⟩)) ∧ w3.cell? ⟨w2.heap.size, 0, none⟩ = some (.int .i64 s) ∧ w3.cell? ⟨w2.heap.size, 1, none⟩ = some (.int .i64 (e1 : Int)) ∧ w3.cell? ⟨w2.heap.size, 2, none⟩ = some (.int .i64 (e2 : Int))) := Lib.hid ⟨hx3.c1, k3, k4, k5⟩
         obtain ⟨O4, hT4, hC4, hI4⟩ := hx3
         have HK4 := Lib.hid (HKY.out _ _ _ (by omega) hT4)
         have HC4 := Lib.hid hC4
         have HI4 := Lib.hid hI4
         clear z3 k3 k4 k5 hT4 hC4 hI4)
      | (go_at_call 142; (with_reducible refine HK4.out.mono ?_); rintro e w5 ⟨rfl, t3, ht3, hx5⟩
         have hx6 := XR.seq HC4.out HI4.out hx5
         have z5 := hx6.row HZ.out HN3.out
         obtain ⟨k3, k4, k5⟩ := spo_cells z5
         have HS3 : Hid (w5.cell? ⟨Xb, 1, none⟩ = some (.pointer (some ⟨C, 0, none⟩)) ∧ w5.cell? ⟨w2.heap.size, 0, none⟩ = some (.int .i64 s) ∧ w5.cell? ⟨w2.heap.size, 1, none⟩ = some (.int .i64 (e1 : Int)) ∧ w5.cell? ⟨w2.heap.size, 2, none⟩ = some (.int .i64 (e2 : Int))) := Lib.hid ⟨hx6.c1, k3, k4, k5⟩
         have HX7 : Hid (XR w O Xb C Q M P lim (0 + t + t2 + t3) (L1 ++ L2) es w5) := Lib.hid (XR.seq HC3.out HI3.out hx6)
         clear z5 k3 k4 k5 hx5 hx6))
    all_goals
      go_wp2
      go_ret2
      exact H.out.done HX7.out (by omega) (by omega) rfl
  · obtain ⟨n, L1, L2, hL, _, _, h3, h4, h5, h6, _⟩ := X.part_yes h.ks h.up hf
    rw [h5, h6]
    obtain ⟨s, hs⟩ : ∃ s : Int, (X.sc L k : Int) - 1 = s := ⟨_, rfl⟩
    have g0 : (s == 64) = true := by rw [beq_iff_eq]; have := hfs.1 hf; omega
    rw [hs] at hsr
    generalize X.fst' (X.spl L k (X.sc L k)) = e1 at *
    generalize X.lst' (X.spl L k (X.sc L k)) = e2 at *
    have hsr := fun W O' hW => Lib.hid (hsr W O' hW)
    clear h hfs hf hL h3 h4 h5 h6 hs
    go_enter Tryz.func115, Tryz.ntmps115
    go_wp2_with (first
      | (go_at_call 46; (with_reducible refine hst.out.mono ?_); rintro e w1 ⟨rfl, O1, hT1, hC1, hI1⟩
         have HSR := Lib.hid ((hsr _ _ hT1).out)
         have HC1 := Lib.hid hC1
         have HI1 := Lib.hid hI1
         clear hT1 hC1 hI1)
      | (go_at_call 121; (with_reducible refine HSR.out.mono ?_); rintro e w2 ⟨rfl, t, ht, hx2⟩
         have hx2' : XR w O Xb C Q M P lim (0 + t) L es w2 := XR.seq HC1.out HI1.out hx2
         obtain ⟨k0, k1, k2⟩ := spo_cells (K.alloc_top w2 (spo s e1 e2))
         have HX2 := Lib.hid hx2'
         clear hx2 hx2'))
    go_ret2
    exact H.out.done (HX2.out.more ((Below.refl _ w2).alloc (Nat.le_refl _) _)) (by omega) (by omega) rfl
theorem x_prev (htk : tk = 2000000) (k : Nat) (hk : k < 18446744073709551616) : Calls Tryz.prog 82 #[.pointer (some ⟨Xb, 0, none⟩), .int .u64 (k : Int)] w (TOp XZ w Xb O (.tuple #[.int .u64 ((K.pv xs k : Nat) : Int), .bool (K.pvb xs k)]) xs lim 9) := by
  have hn := Lib.hid (x_near_below w Xb C Q M P lim tk xs L es O h htk k hk)
  clear h
  go_enter Tryz.func82, Tryz.ntmps82
  go_wp2_with (go_at_call 115; (with_reducible refine hn.out.mono ?_); rintro e w1 ⟨tk', O', rfl, hT, hq, hC, hO⟩; have HE := Lib.hid (And.intro hT (And.intro hq (And.intro hC hO))); clear hT hq hC hO)
  go_ret2
  exact ⟨tk', O', rfl, HE.out.1, HE.out.2.1, HE.out.2.2.1, HE.out.2.2.2⟩
end
end Go.Proofs.YtialjokdaniofaaGreat
end
