/- A link comes or goes under a trie; one level is brought to it; the texts walked. A key's prefixes come, level by level; the text walked. A key's prefixes go, level by level; the text walked. -/
import Derived.Laws.StructEq
import Derived.Deep.CutRange
import Derived.Test.YtialjokdaniofaaGreatMq18
section
namespace Go.Proofs.YtialjokdaniofaaGreat
set_option maxRecDepth 20000
open Go.RowKit
set_option linter.unusedSectionVars false
variable [Gh]
section
variable {w w' : World} {Xb C Q M P lim tk : Nat} {L L1 L2 : LL} {es : Es} {O : Nat → Prop} {n k : Nat}
theorem XT.chain {w : World} {seed : Nat} {An : Option Addr} {cn : Nat} {Af : Option Addr} {cf : Nat} {ns : List (Nd × Bool)} {fs : List Nat} {L L' : LL} {Qt Mt n pr : Nat} {w' : World} (hb : XB w Xb C Q M P lim tk seed An cn Af cf ns fs L Qt Mt n pr es)
    {An' Af' : Option Addr} {cn' cf' : Nat} {ns' : List (Nd × Bool)} {fs' : List Nat} (hc : CW w' C Q M lim An' cn' Af' cf' ns' fs' L') (b : K.Chg w w' (CB C Q An Af)) (hq : ∀ j, QB Q An' Af' j → QB Q An Af j ∨ w.heap.size ≤ j) :
    XR w (XK Xb C Q M P Qt Mt An Af) Xb C Q M P lim tk L' es w' :=
  ⟨_, ⟨_, _, _, _, _, _, _, _, _, _, _, hb.chs b hc, rfl⟩, b.mono (fun j hj => .inr (.inr (.inl hj))), fun j hj => by
    rcases hj with h | h | (h | h) | h
    · exact .inl (.inl h)
    · exact .inl (.inr (.inl h))
    · exact .inl (.inr (.inr (.inl (.inl h))))
    · rcases hq j h with h | h
      · exact .inl (.inr (.inr (.inl (.inr h))))
      · exact .inr h
    · exact .inl (.inr (.inr (.inr h)))⟩
theorem XT.behind (h : XT w Xb C Q M P lim tk (L1 ++ L2) es O) (hk : k < 18446744073709551616) (hr : (L1 ++ L2).length < lim) :
    Calls Tryz.prog 149 #[.pointer (some ⟨C, 0, none⟩), .int .i64 (lst (-1) L1), .int .u64 (k : Int)] w fun e w' => ∃ n : Nat, e = .returned (.tuple #[.int .i64 (n : Int), .bool true]) ∧ (∀ x ∈ L1 ++ L2, x.1 ≠ n) ∧ n < 1048576 ∧ XR w O Xb C Q M P lim tk (L1 ++ (n, k) :: L2) es w' := by
  obtain ⟨_, An, cn, Af, cf, ns, fs, Qt, Mt, _, _, hb, rfl⟩ := h
  have fin : ∀ e w', BehP w C Q M lim An Af ns fs L1 L2 k e w' → ∃ n : Nat, e = .returned (.tuple #[.int .i64 (n : Int), .bool true]) ∧ (∀ x ∈ L1 ++ L2, x.1 ≠ n) ∧ n < 1048576 ∧ XR w (XK Xb C Q M P Qt Mt An Af) Xb C Q M P lim tk (L1 ++ (n, k) :: L2) es w' := by
    rintro e w' ⟨n, h1, h2, _, h3, _, _, _, _, _, _, h4, h5, h6, _⟩
    exact ⟨n, h1, h2, h3, XT.chain hb h4 h5 h6⟩
  rcases List.eq_nil_or_concat L1 with rfl | ⟨L, x, rfl⟩
  · exact (c_behind_a w C Q M lim cn cf An Af ns fs (-1) (by decide) L2 hb.ch k hk hr).mono fin
  · rw [List.concat_eq_append] at *
    have e : lst (-1) (L ++ [x]) = (x.1 : Int) := by rw [lst_app]; rfl
    rw [e]
    exact (c_behind_b w C Q M lim cn cf An Af ns fs x.1 x.2 L L2 hb.ch k hk hr).mono fin
theorem XT.drop (h : XT w Xb C Q M P lim tk (L1 ++ (n, k) :: L2) es O) :
    Calls Tryz.prog 155 #[.pointer (some ⟨C, 0, none⟩), .int .i64 (n : Int)] w fun e w' => e = .returned (.bool true) ∧ XR w O Xb C Q M P lim tk (L1 ++ L2) es w' := by
  obtain ⟨_, An, cn, Af, cf, ns, fs, _, _, _, _, hb, rfl⟩ := h
  refine (c_drop w C Q M lim cn cf An Af ns fs n k L1 L2 hb.ch).mono ?_
  rintro e w' ⟨rfl, _, _, _, _, _, _, h4, h5, h6⟩
  exact ⟨rfl, XT.chain hb h4 h5 h6⟩
end
/-- A put at one level, and a drop. -/
def PutC (Xb C Q M P lim : Nat) (L : LL) (es es' : Es) (l p a b : Nat) : Prop := ∀ (W : World) (O : Nat → Prop) (tk : Nat), XT W Xb C Q M P lim tk L es O →
  Calls Tryz.prog 151 #[.pointer (some ⟨Xb, 0, none⟩), kyv l p, env a b] W fun e w' => e = .returned (.tuple #[]) ∧ XR W O Xb C Q M P lim tk L es' w'
def DropC (Xb C Q M P lim : Nat) (L : LL) (es es' : Es) (l p : Nat) : Prop := ∀ (W : World) (O : Nat → Prop) (tk : Nat), XT W Xb C Q M P lim tk L es O →
  Calls Tryz.prog 101 #[.pointer (some ⟨P, 0, none⟩), kyv l p] W fun e w' => e = .returned (.bool true) ∧ XR W O Xb C Q M P lim tk L es' w'
section
variable {Xb C Q M P lim : Nat} {L L' Lc : LL} {es r : Es} {l p v0 a b : Nat}
theorem putc_yes (hl : l < 256) (ha : a < 1048576) (hb : b < 1048576) (hp : es.Perm (((l, p), v0) :: r)) : PutC Xb C Q M P lim Lc es (((l, p), a * 4294967296 + b) :: r) l p a b := fun W O tk h =>
  x_put W Xb C Q M P lim tk Lc es _ O h l p a b ha hb false (fun W Qt Mt seed n pr ht => Hs.tab_put_yes W P Qt Mt seed n pr 0 es r ht (l, p) hl _ v0 (by omega) hp)
theorem putc_no (hl : l < 256) (hpp : p < 18446744073709551616) (ha : a < 1048576) (hb : b < 1048576) (hn : ∀ x ∈ es, x.1 ≠ (l, p)) (hes : es.length < 1000000) : PutC Xb C Q M P lim Lc es (((l, p), a * 4294967296 + b) :: es) l p a b := fun W O tk h =>
  x_put W Xb C Q M P lim tk Lc es _ O h l p a b ha hb true (fun W Qt Mt seed n pr ht => Hs.tab_put_no W P Qt Mt seed n pr 0 es ht (l, p) hl hpp _ (by omega) hn hes)
end
namespace X
theorem pf_lt64 (l k : Nat) (hk : k < 18446744073709551616) : pf l k < 18446744073709551616 := by
  unfold pf
  exact Nat.lt_of_le_of_lt (Nat.div_le_self _ _) hk
/-- One level, when a key comes. -/
theorem grow_lv {Xb C Q M P lim : Nat} {L1 L2 : LL} {es : Es} {n k l : Nat} (h : TE l (L1 ++ L2) (L1 ++ (n, k) :: L2) es) (hl : l ≤ 64) (hr : Rises (L1 ++ L2)) (h1 : ∀ x ∈ L1, x.2 < k) (h2 : ∀ x ∈ L2, k < x.2) (hn : ((L1 ++ L2).map (·.1)).Nodup)
    (hp : ∀ x ∈ L1 ++ L2, x.1 < 1048576) (hnl : n < 1048576) (hk : k < 18446744073709551616) (hes : es.length < 1000000) :
    ∃ (e1 e2 : Nat) (r : Bool) (es' : Es), Tells es l (pf l k) e1 e2 r ∧ e1 < 1048576 ∧ e2 < 1048576 ∧ TE (l + 1) (L1 ++ L2) (L1 ++ (n, k) :: L2) es' ∧ es'.length = es.length + (if l < sc (L1 ++ L2) k then 0 else 1) ∧
      ((r = false ∧ PutC Xb C Q M P lim (L1 ++ (n, k) :: L2) es es' l (pf l k) n n) ∨
       (r = true ∧ (e1 : Int) = hd L2 (-1) ∧ PutC Xb C Q M P lim (L1 ++ (n, k) :: L2) es es' l (pf l k) n e2) ∨
       (r = true ∧ (e1 : Int) ≠ hd L2 (-1) ∧ (e2 : Int) = lst (-1) L1 ∧ PutC Xb C Q M P lim (L1 ++ (n, k) :: L2) es es' l (pf l k) e1 n) ∨
       (r = true ∧ (e1 : Int) ≠ hd L2 (-1) ∧ (e2 : Int) ≠ lst (-1) L1 ∧ es' = es)) := by
  have ho : ∀ q, q ≠ pf l k → sg (L1 ++ (n, k) :: L2) l q = sg (L1 ++ L2) l q := fun q hq => sg_else hq
  have hne : sg (L1 ++ (n, k) :: L2) l (pf l k) ≠ [] := by rw [sg_with]; simp
  have hz : sg (if l < l then L1 ++ (n, k) :: L2 else L1 ++ L2) l (pf l k) = sg (L1 ++ L2) l (pf l k) := by rw [if_neg (Nat.lt_irrefl l)]
  have ht := tells_of h hl hz
  have a1 := fst_lt hp l (pf l k)
  have a2 := lst_lt hp l (pf l k)
  have hsc : sg (L1 ++ L2) l (pf l k) = [] ↔ ¬ l < sc (L1 ++ L2) k := ⟨fun e h => sc_yes h e, fun h => sc_no (by omega) hl⟩
  have hpl := pf_lt64 l k hk
  refine ⟨fst' (sg (L1 ++ L2) l (pf l k)), lst' (sg (L1 ++ L2) l (pf l k)), decide (sg (L1 ++ L2) l (pf l k) ≠ []), ?_⟩
  rcases grow_cases hr h1 h2 hn l with ⟨c1, c2⟩ | ⟨c1, c2, c3⟩ | ⟨c1, c2, c3, c4⟩ | ⟨c1, c2, c3, c4⟩
  · have hno := h.no (hz.trans c1)
    refine ⟨_, ht, a1, a2, h.new hl c1 hne ho, ?_, .inl ⟨decide_eq_false (fun h => h c1), ?_⟩⟩
    · rw [if_neg (hsc.1 c1)]; rfl
    · rw [c2]; exact putc_no (by omega) hpl hnl hnl hno hes
  all_goals
    have hy := h.yes hl (p := pf l k) (by rw [hz]; exact c1)
    rw [hz] at hy
    have hpm := perm_of_mem hy
    have hlen := hpm.length_eq
    rw [List.length_cons] at hlen
    have hlt : l < sc (L1 ++ L2) k := Classical.byContradiction fun h => c1 (hsc.2 h)
  · refine ⟨_, ht, a1, a2, h.put hl hpm hne ho, ?_, .inr (.inl ⟨decide_eq_true c1, c2, ?_⟩)⟩
    · rw [if_pos hlt, List.length_cons, hlen]
    · rw [c3]; exact putc_yes (by omega) hnl a2 hpm
  · refine ⟨_, ht, a1, a2, h.put hl hpm hne ho, ?_, .inr (.inr (.inl ⟨decide_eq_true c1, c2, c3, ?_⟩))⟩
    · rw [if_pos hlt, List.length_cons, hlen]
    · rw [c4]; exact putc_yes (by omega) a1 hnl hpm
  · refine ⟨es, ht, a1, a2, h.stay (fun q => ?_) (fun q hq => ?_), ?_, .inr (.inr (.inr ⟨decide_eq_true c1, c2, c3, rfl⟩))⟩
    · by_cases hq : q = pf l k
      · subst hq; exact ⟨fun _ => c1, fun _ => hne⟩
      · rw [ho q hq]
    · by_cases hq2 : q = pf l k
      · subst hq2; exact c4
      · rw [ho q hq2]
    · rw [if_pos hlt]; rfl
end X
end Go.Proofs.YtialjokdaniofaaGreat
end
section
namespace Go.Proofs.YtialjokdaniofaaGreat
set_option maxRecDepth 20000
open Go.RowKit
set_option linter.unusedSectionVars false
variable [Gh]
theorem key_cells {w : World} {g l p : Nat} (h : w.heap[g]? = some (keyo l p)) : w.cell? ⟨g, 0, none⟩ = some (.int .u8 (l : Int)) ∧ w.cell? ⟨g, 1, none⟩ = some (.int .u64 (p : Int)) := ⟨cell_of_row w g 0 _ _ (0, 0) h, cell_of_row w g 1 _ _ (0, 0) h⟩
theorem end_cells {w : World} {g a b : Nat} (h : w.heap[g]? = some (endo (.int .i64 (a : Int)) (.int .i64 (b : Int)))) : w.cell? ⟨g, 0, none⟩ = some (.int .i64 (a : Int)) ∧ w.cell? ⟨g, 1, none⟩ = some (.int .i64 (b : Int)) := ⟨cell_of_row w g 0 _ _ (0, 0) h, cell_of_row w g 1 _ _ (0, 0) h⟩
theorem XR.seq {w w1 w2 : World} {Xb C Q M P lim tk' : Nat} {L' : LL} {es' : Es} {O O1 : Nat → Prop} (hC : K.Chg w w1 O) (hI : ∀ j, O1 j → O j ∨ w.heap.size ≤ j) (h : XR w1 O1 Xb C Q M P lim tk' L' es' w2) : XR w O Xb C Q M P lim tk' L' es' w2 := by
  obtain ⟨O2, k1, k2, k3⟩ := h
  refine ⟨O2, k1, hC.trans k2 hI, fun j hj => ?_⟩
  rcases k3 j hj with h | h
  · exact hI j h
  · exact .inr (Nat.le_trans hC.size h)
set_option maxHeartbeats 4000000 in
theorem x_grow (w : World) (Xb C Q M P lim tk : Nat) (L1 L2 : LL) (es : Es) (O : Nat → Prop) (h : XT w Xb C Q M P lim tk (L1 ++ L2) es O) (htk : tk < 900000) (hTE : X.TE 0 (L1 ++ L2) (L1 ++ L2) es) (k : Nat) (hr : X.Rises (L1 ++ L2)) (h1 : ∀ x ∈ L1, x.2 < k) (h2 : ∀ x ∈ L2, k < x.2) (hk : k < 18446744073709551616) (hroom : (L1 ++ L2).length < lim) (hes : es.length < 900000) :
    Calls Tryz.prog 133 #[.pointer (some ⟨Xb, 0, none⟩), .int .u64 (k : Int), .int .i64 (lst (-1) L1)] w fun e w' => e = .returned (.tuple #[]) ∧ ∃ (n : Nat) (es' : Es), (∀ x ∈ L1 ++ L2, x.1 ≠ n) ∧ X.TE 65 (L1 ++ L2) (L1 ++ (n, k) :: L2) es' ∧ es'.length = es.length + (65 - X.sc (L1 ++ L2) k) ∧ XR w O Xb C Q M P lim (tk + 66) (L1 ++ (n, k) :: L2) es' w' := by
  have HOM := Lib.hid h.mx.2
  have HP := Lib.hid h.places
  have HN := Lib.hid h.nod
  have HBE := Lib.hid (h.behind hk hroom)
  have c1 := h.c1
  have HR := Lib.hid hr
  have HL1 := Lib.hid h1
  have HL2 := Lib.hid h2
  have HTE := Lib.hid hTE
  have hsc := X.sc_le (L1 ++ L2) k
  obtain ⟨c, hc⟩ : ∃ c, X.sc (L1 ++ L2) k = c := ⟨_, rfl⟩
  have HC := Lib.hid hc
  rw [hc] at hsc ⊢
  obtain ⟨ah, hah⟩ : ∃ ah, lst (-1) L1 = ah := ⟨_, rfl⟩
  obtain ⟨be, hbe⟩ : ∃ be, hd L2 (-1) = be := ⟨_, rfl⟩
  rw [hah] at HBE ⊢
  have HAH := Lib.hid hah
  have HBH := Lib.hid hbe
  clear h hr h1 h2 hTE hc hah hbe hroom
  go_enter Tryz.func133, Tryz.ntmps133
  go_wp2_with (first
    | (go_at_call 149; (with_reducible refine HBE.out.mono ?_); rintro e w1 ⟨n, rfl, hn, hnl, hx1⟩
       obtain ⟨O1, hT1, hC1, hI1⟩ := hx1
       have c1' := hT1.c1
       have hnx := XT.next hT1 (by omega)
       rw [HBH.out] at hnx
       have HNX := Lib.hid hnx
       have HX1 : Hid (XR w O Xb C Q M P lim tk (L1 ++ (n, k) :: L2) es w1) := Lib.hid ⟨O1, hT1, hC1, hI1⟩
       have HT1 := Lib.hid hT1
       have HNN := Lib.hid hn
       clear hT1 hC1 hI1 hnx hn)
    | (go_at_call 150; (with_reducible refine HNX.out.mono ?_); rintro e w2 ⟨rfl, hm2, hc2⟩
       have hx2 : XR w O Xb C Q M P lim (tk + 1) (L1 ++ (n, k) :: L2) es w2 := by
         obtain ⟨O1, hT1, hC1, hI1⟩ := HX1.out
         exact ⟨O1, hT1.met hc2 hm2, hC1.same (hc2.mono (fun j e => by have e2 : j = M := e; subst e2; exact HOM.out)), hI1⟩
       have HX2 := Lib.hid hx2
       clear hx2 hm2 hc2))
  go_loopw [29] (fun vi wr => ∃ (l : Nat) (es' : Es), vi = .int .i64 (l : Int) ∧ l ≤ 65 ∧ Hid (XR w O Xb C Q M P lim (tk + 1 + l) (L1 ++ (n, k) :: L2) es' wr) ∧ Hid (X.TE l (L1 ++ L2) (L1 ++ (n, k) :: L2) es') ∧ Hid (es'.length = es.length + (l - min l c)))
    (fun vi _ => 65 - (intOf vi).toNat)
  case atStart => exact ⟨0, es, rfl, by omega, HX2, Lib.hid (by have := HTE.out; exact ⟨this.nod, fun l p v => by rw [this.mem]; simp⟩), Lib.hid (by simp)⟩
  case round =>
    obtain ⟨l, es', rfl, hl, hX, hTE, hlen⟩ := hrel
    rcases Nat.lt_or_ge l 65 with hl65 | hl65
    · have w1 : IntKind.i64.wrap ((l : Int) + 1) = ((l + 1 : Nat) : Int) := by rw [IntWalk.i64_in _ (by omega)]; rfl
      have g1 : decide ((l : Int) < 65) = true := decide_eq_true (by omega)
      have hpre := fun W => Lib.hid (x_prefix W k l (by omega))
      have hle : es'.length < 1000000 := by have := hlen.out; omega
      obtain ⟨e1, e2, r, es2, hte, ha1, ha2, hTE2, hlen2, hcase⟩ := X.grow_lv (Xb := Xb) (C := C) (Q := Q) (M := M) (P := P) (lim := lim) hTE.out (by omega) HR.out HL1.out HL2.out HN.out HP.out hnl hk hle
      rw [HBH.out, HAH.out] at hcase
      have hl2 : es2.length = es.length + (l + 1 - min (l + 1) c) := by
        rw [hlen2, hlen.out, HC.out]
        split <;> omega
      have HL2' := Lib.hid hl2
      have HTE2 := Lib.hid hTE2
      have hask := fun W O' (hW : XT W Xb C Q M P lim (tk + 1 + l) (L1 ++ (n, k) :: L2) es' O') => Lib.hid (x_ask W Xb C Q M P lim (tk + 1 + l) (L1 ++ (n, k) :: L2) es' O' hW (by omega) l (X.pf l k) e1 e2 r (by omega) hte ha1 ha2)
      clear hTE2 hl2 hlen2 hte hTE hlen hle
      generalize X.pf l k = q at *
      obtain ⟨O', hT, hC, hI⟩ := hX.out
      have HT := Lib.hid hT
      have HTL := Lib.hid hT.lt
      have HC5 := Lib.hid hC
      have HI5 := Lib.hid hI
      clear hT hC hI hX
      rcases hcase with ⟨rfl, hput⟩ | ⟨rfl, he, hput⟩ | ⟨rfl, he1, he2, hput⟩ | ⟨rfl, he1, he2, rfl⟩
      · have hput := Lib.hid hput
        go_wp2_with (first
          | (go_at_call 137; (with_reducible refine (hpre _).out.mono ?_); rintro e w2 ⟨rfl, hb2⟩
             have hr2 := K.alloc_top w2 (keyo l q)
             have hb3 := hb2.alloc hb2.size (keyo l q)
             have h2 := HT.out.chg (K.Chg.of_below (O := fun _ => False) hb3) (fun _ _ h => h)
             obtain ⟨k0, k1⟩ := key_cells hr2
             have HA := Lib.hid ((hask _ _ h2).out)
             have HB2 := Lib.hid hb2
             have HB3 := Lib.hid hb3
             have HR2 := Lib.hid hr2
             clear hb2 hb3 h2 hr2)
          | (go_at_call 132; (with_reducible refine HA.out.mono ?_); rintro e w3 ⟨rfl, O3, hT3, hC3, hI3⟩
             have hs2 := HB2.out.size
             have hn2 : ¬ O' w2.heap.size := fun hj => by have := HTL.out _ hj; omega
             have z := (hC3.block w2.heap.size (by rw [World.size_alloc]; omega) hn2).trans HR2.out
             have z' : (w3.alloc (endo (.int .i64 (e1 : Int)) (.int .i64 (e2 : Int)))).heap[w2.heap.size]? = some (keyo l q) := (Below.heap_alloc _ _ _ (row_lt z)).trans z
             have ze := K.alloc_top w3 (endo (.int .i64 (e1 : Int)) (.int .i64 (e2 : Int)))
             obtain ⟨m0, m1⟩ := key_cells z'
             obtain ⟨n0, n1⟩ := end_cells ze
             have hT4 := hT3.chg (chg_alloc w3 (endo (.int .i64 (e1 : Int)) (.int .i64 (e2 : Int))) (fun _ => False)) (fun _ _ h => h)
             have hC4 := ((HC5.out.same (K.Chg.of_below HB3.out)).trans hC3 HI5.out).same (chg_alloc w3 (endo (.int .i64 (e1 : Int)) (.int .i64 (e2 : Int))) _)
             have hI4 : ∀ j, O3 j → O j ∨ w.heap.size ≤ j := fun j hj => by
               rcases hI3 j hj with h | h
               · exact HI5.out j h
               · have := HC5.out.size
                 rw [World.size_alloc] at h
                 exact .inr (by omega)
             have HX4 : Hid (XR w O Xb C Q M P lim (tk + 1 + l + 1) (L1 ++ (n, k) :: L2) es' (w3.alloc (endo (.int .i64 (e1 : Int)) (.int .i64 (e2 : Int))))) := Lib.hid ⟨O3, hT4, hC4, hI4⟩
             have HC4 := Lib.hid hC4
             have HI4 := Lib.hid hI4
             have HT4 := Lib.hid hT4
             have HPT := Lib.hid (hput.out _ _ _ hT4)
             clear hT3 hC3 hI3 z z' ze hs2 hn2 hT4 hC4 hI4)
          | (go_at_call 151; (with_reducible refine HPT.out.mono ?_); rintro e w5 ⟨rfl, hx5⟩
             have HX5 : Hid (XR w O Xb C Q M P lim (tk + 1 + l + 1) (L1 ++ (n, k) :: L2) es2 w5) := Lib.hid (XR.seq HC4.out HI4.out hx5)
             clear hx5))
        go_roundw
        case rel => exact ⟨l + 1, es2, rfl, by omega, Lib.hid (by have := HX5.out; rw [show tk + 1 + (l + 1) = tk + 1 + l + 1 by omega]; exact this), HTE2, HL2'⟩
        case measure =>
          simp only [intOf]
          omega
      · have g2 : ((e1 : Int) == be) = true := by rw [beq_iff_eq]; exact he
        have hput := Lib.hid hput
        clear he
        go_wp2_with (first
          | (go_at_call 137; (with_reducible refine (hpre _).out.mono ?_); rintro e w2 ⟨rfl, hb2⟩
             have hr2 := K.alloc_top w2 (keyo l q)
             have hb3 := hb2.alloc hb2.size (keyo l q)
             have h2 := HT.out.chg (K.Chg.of_below (O := fun _ => False) hb3) (fun _ _ h => h)
             obtain ⟨k0, k1⟩ := key_cells hr2
             have HA := Lib.hid ((hask _ _ h2).out)
             have HB2 := Lib.hid hb2
             have HB3 := Lib.hid hb3
             have HR2 := Lib.hid hr2
             clear hb2 hb3 h2 hr2)
          | (go_at_call 132; (with_reducible refine HA.out.mono ?_); rintro e w3 ⟨rfl, O3, hT3, hC3, hI3⟩
             have hs2 := HB2.out.size
             have hn2 : ¬ O' w2.heap.size := fun hj => by have := HTL.out _ hj; omega
             have z := (hC3.block w2.heap.size (by rw [World.size_alloc]; omega) hn2).trans HR2.out
             have z' : (w3.alloc (endo (.int .i64 (e1 : Int)) (.int .i64 (e2 : Int)))).heap[w2.heap.size]? = some (keyo l q) := (Below.heap_alloc _ _ _ (row_lt z)).trans z
             have ze := K.alloc_top w3 (endo (.int .i64 (e1 : Int)) (.int .i64 (e2 : Int)))
             obtain ⟨m0, m1⟩ := key_cells z'
             obtain ⟨n0, n1⟩ := end_cells ze
             have hT4 := hT3.chg (chg_alloc w3 (endo (.int .i64 (e1 : Int)) (.int .i64 (e2 : Int))) (fun _ => False)) (fun _ _ h => h)
             have hC4 := ((HC5.out.same (K.Chg.of_below HB3.out)).trans hC3 HI5.out).same (chg_alloc w3 (endo (.int .i64 (e1 : Int)) (.int .i64 (e2 : Int))) _)
             have hI4 : ∀ j, O3 j → O j ∨ w.heap.size ≤ j := fun j hj => by
               rcases hI3 j hj with h | h
               · exact HI5.out j h
               · have := HC5.out.size
                 rw [World.size_alloc] at h
                 exact .inr (by omega)
             have HX4 : Hid (XR w O Xb C Q M P lim (tk + 1 + l + 1) (L1 ++ (n, k) :: L2) es' (w3.alloc (endo (.int .i64 (e1 : Int)) (.int .i64 (e2 : Int))))) := Lib.hid ⟨O3, hT4, hC4, hI4⟩
             have HC4 := Lib.hid hC4
             have HI4 := Lib.hid hI4
             have HT4 := Lib.hid hT4
             have HPT := Lib.hid (hput.out _ _ _ hT4)
             clear hT3 hC3 hI3 z z' ze hs2 hn2 hT4 hC4 hI4)
          | (go_at_call 151; (with_reducible refine HPT.out.mono ?_); rintro e w5 ⟨rfl, hx5⟩
             have HX5 : Hid (XR w O Xb C Q M P lim (tk + 1 + l + 1) (L1 ++ (n, k) :: L2) es2 w5) := Lib.hid (XR.seq HC4.out HI4.out hx5)
             clear hx5))
        go_roundw
        case rel => exact ⟨l + 1, es2, rfl, by omega, Lib.hid (by have := HX5.out; rw [show tk + 1 + (l + 1) = tk + 1 + l + 1 by omega]; exact this), HTE2, HL2'⟩
        case measure =>
          simp only [intOf]
          omega
      · have g2 : ((e1 : Int) == be) = false := by rw [beq_eq_false_iff_ne]; exact he1
        have g3 : ((e2 : Int) == ah) = true := by rw [beq_iff_eq]; exact he2
        have hput := Lib.hid hput
        clear he1 he2
        go_wp2_with (first
          | (go_at_call 137; (with_reducible refine (hpre _).out.mono ?_); rintro e w2 ⟨rfl, hb2⟩
             have hr2 := K.alloc_top w2 (keyo l q)
             have hb3 := hb2.alloc hb2.size (keyo l q)
             have h2 := HT.out.chg (K.Chg.of_below (O := fun _ => False) hb3) (fun _ _ h => h)
             obtain ⟨k0, k1⟩ := key_cells hr2
             have HA := Lib.hid ((hask _ _ h2).out)
             have HB2 := Lib.hid hb2
             have HB3 := Lib.hid hb3
             have HR2 := Lib.hid hr2
             clear hb2 hb3 h2 hr2)
          | (go_at_call 132; (with_reducible refine HA.out.mono ?_); rintro e w3 ⟨rfl, O3, hT3, hC3, hI3⟩
             have hs2 := HB2.out.size
             have hn2 : ¬ O' w2.heap.size := fun hj => by have := HTL.out _ hj; omega
             have z := (hC3.block w2.heap.size (by rw [World.size_alloc]; omega) hn2).trans HR2.out
             have z' : (w3.alloc (endo (.int .i64 (e1 : Int)) (.int .i64 (e2 : Int)))).heap[w2.heap.size]? = some (keyo l q) := (Below.heap_alloc _ _ _ (row_lt z)).trans z
             have ze := K.alloc_top w3 (endo (.int .i64 (e1 : Int)) (.int .i64 (e2 : Int)))
             obtain ⟨m0, m1⟩ := key_cells z'
             obtain ⟨n0, n1⟩ := end_cells ze
             have hT4 := hT3.chg (chg_alloc w3 (endo (.int .i64 (e1 : Int)) (.int .i64 (e2 : Int))) (fun _ => False)) (fun _ _ h => h)
             have hC4 := ((HC5.out.same (K.Chg.of_below HB3.out)).trans hC3 HI5.out).same (chg_alloc w3 (endo (.int .i64 (e1 : Int)) (.int .i64 (e2 : Int))) _)
             have hI4 : ∀ j, O3 j → O j ∨ w.heap.size ≤ j := fun j hj => by
               rcases hI3 j hj with h | h
               · exact HI5.out j h
               · have := HC5.out.size
                 rw [World.size_alloc] at h
                 exact .inr (by omega)
             have HX4 : Hid (XR w O Xb C Q M P lim (tk + 1 + l + 1) (L1 ++ (n, k) :: L2) es' (w3.alloc (endo (.int .i64 (e1 : Int)) (.int .i64 (e2 : Int))))) := Lib.hid ⟨O3, hT4, hC4, hI4⟩
             have HC4 := Lib.hid hC4
             have HI4 := Lib.hid hI4
             have HT4 := Lib.hid hT4
             have HPT := Lib.hid (hput.out _ _ _ hT4)
             clear hT3 hC3 hI3 z z' ze hs2 hn2 hT4 hC4 hI4)
          | (go_at_call 151; (with_reducible refine HPT.out.mono ?_); rintro e w5 ⟨rfl, hx5⟩
             have HX5 : Hid (XR w O Xb C Q M P lim (tk + 1 + l + 1) (L1 ++ (n, k) :: L2) es2 w5) := Lib.hid (XR.seq HC4.out HI4.out hx5)
             clear hx5))
        go_roundw
        case rel => exact ⟨l + 1, es2, rfl, by omega, Lib.hid (by have := HX5.out; rw [show tk + 1 + (l + 1) = tk + 1 + l + 1 by omega]; exact this), HTE2, HL2'⟩
        case measure =>
          simp only [intOf]
          omega
      · have g2 : ((e1 : Int) == be) = false := by rw [beq_eq_false_iff_ne]; exact he1
        have g3 : ((e2 : Int) == ah) = false := by rw [beq_eq_false_iff_ne]; exact he2
        clear he1 he2
        go_wp2_with (first
          | (go_at_call 137; (with_reducible refine (hpre _).out.mono ?_); rintro e w2 ⟨rfl, hb2⟩
             have hr2 := K.alloc_top w2 (keyo l q)
             have hb3 := hb2.alloc hb2.size (keyo l q)
             have h2 := HT.out.chg (K.Chg.of_below (O := fun _ => False) hb3) (fun _ _ h => h)
             obtain ⟨k0, k1⟩ := key_cells hr2
             have HA := Lib.hid ((hask _ _ h2).out)
             have HB2 := Lib.hid hb2
             have HB3 := Lib.hid hb3
             have HR2 := Lib.hid hr2
             clear hb2 hb3 h2 hr2)
          | (go_at_call 132; (with_reducible refine HA.out.mono ?_); rintro e w3 ⟨rfl, O3, hT3, hC3, hI3⟩
             have hs2 := HB2.out.size
             have hn2 : ¬ O' w2.heap.size := fun hj => by have := HTL.out _ hj; omega
             have z := (hC3.block w2.heap.size (by rw [World.size_alloc]; omega) hn2).trans HR2.out
             have z' : (w3.alloc (endo (.int .i64 (e1 : Int)) (.int .i64 (e2 : Int)))).heap[w2.heap.size]? = some (keyo l q) := (Below.heap_alloc _ _ _ (row_lt z)).trans z
             have ze := K.alloc_top w3 (endo (.int .i64 (e1 : Int)) (.int .i64 (e2 : Int)))
             obtain ⟨m0, m1⟩ := key_cells z'
             obtain ⟨n0, n1⟩ := end_cells ze
             have hT4 := hT3.chg (chg_alloc w3 (endo (.int .i64 (e1 : Int)) (.int .i64 (e2 : Int))) (fun _ => False)) (fun _ _ h => h)
             have hC4 := ((HC5.out.same (K.Chg.of_below HB3.out)).trans hC3 HI5.out).same (chg_alloc w3 (endo (.int .i64 (e1 : Int)) (.int .i64 (e2 : Int))) _)
             have hI4 : ∀ j, O3 j → O j ∨ w.heap.size ≤ j := fun j hj => by
               rcases hI3 j hj with h | h
               · exact HI5.out j h
               · have := HC5.out.size
                 rw [World.size_alloc] at h
                 exact .inr (by omega)
             have HX4 : Hid (XR w O Xb C Q M P lim (tk + 1 + l + 1) (L1 ++ (n, k) :: L2) es2 (w3.alloc (endo (.int .i64 (e1 : Int)) (.int .i64 (e2 : Int))))) := Lib.hid ⟨O3, hT4, hC4, hI4⟩
             have HC4 := Lib.hid hC4
             have HI4 := Lib.hid hI4
             have HT4 := Lib.hid hT4
             clear hT3 hC3 hI3 z z' ze hs2 hn2 hT4 hC4 hI4))
        go_roundw
        case rel => exact ⟨l + 1, es2, rfl, by omega, Lib.hid (by have := HX4.out; rw [show tk + 1 + (l + 1) = tk + 1 + l + 1 by omega]; exact this), HTE2, HL2'⟩
        case measure =>
          simp only [intOf]
          omega
    · have hl' : l = 65 := by omega
      subst hl'
      have g1 : decide (((65 : Nat) : Int) < 65) = false := rfl
      go_wp2
      go_end0
      exact ⟨rfl, n, es', HNN.out, hTE.out, by rw [hlen.out]; omega, by have := hX.out; exact this⟩
end Go.Proofs.YtialjokdaniofaaGreat
end
section
namespace Go.Proofs.YtialjokdaniofaaGreat
set_option maxRecDepth 20000
open Go.RowKit
set_option linter.unusedSectionVars false
variable [Gh]
end Go.Proofs.YtialjokdaniofaaGreat
end
