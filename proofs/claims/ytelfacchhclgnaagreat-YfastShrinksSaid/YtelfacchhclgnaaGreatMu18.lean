/- A trie as a set of keys by its methods: has, least, greatest, how many, how much is used, the limit; the texts walked. A key is taken out of a trie; it is emptied; the texts walked. The key beside one in a trie; the texts walked. A key is put into a trie; the texts walked. A new trie; the texts walked. -/
import Derived.Deep.CutRange
import Derived.Test.YtelfacchhclgnaaGreatMu17
section
namespace Go.Proofs.YtelfacchhclgnaaGreat
set_option maxRecDepth 20000
open Go.RowKit
set_option linter.unusedSectionVars false
variable [Gh]
structure XS (w : World) (Xb C Q M P lim tk : Nat) (xs : List Nat) (L : LL) (es : Es) (O : Nat → Prop) : Prop where
  xt : XT w Xb C Q M P lim tk L es O
  te : X.TE 0 L L es
  ks : L.map (·.2) = xs
  up : K.Up xs
  cnt : es.length + L.length = K.xfast xs
  le : K.xfast xs ≤ lim
  max : lim ≤ 500000
  few : tk ≤ 100 ∨ tk = 2000000
def XZ (w : World) (Xb : Nat) (xs : List Nat) (lim tk : Nat) (O : Nat → Prop) : Prop := ∃ C Q M P L es, XS w Xb C Q M P lim tk xs L es O
section
variable {w w' w1 w2 : World} {Xb C Q M P lim tk tk' most : Nat} {xs : List Nat} {L : LL} {es : Es} {O : Nat → Prop} {v : Value} {e : Ending}
theorem XS.keys (h : XS w Xb C Q M P lim tk xs L es O) : ∀ x ∈ xs, x < 18446744073709551616 := by
  rw [← h.ks]
  intro x hx
  obtain ⟨y, hy, rfl⟩ := List.mem_map.1 hx
  exact h.xt.keys y hy
theorem XS.rises (h : XS w Xb C Q M P lim tk xs L es O) : X.Rises L := X.rises_up h.ks h.up
theorem XS.done (h : XS w Xb C Q M P lim tk xs L es O) (hr : XR w O Xb C Q M P lim tk' L es w') (ht : tk' ≤ most) (h2 : tk' ≤ 100 ∨ tk' = 2000000) (he : e = .returned v) : TOp XZ w Xb O v xs lim most e w' := by
  obtain ⟨O', h1, hc, hi⟩ := hr
  exact ⟨tk', O', he, ⟨C, Q, M, P, L, es, h1, h.te, h.ks, h.up, h.cnt, h.le, h.max, h2⟩, ht, hc, hi⟩
theorem XR.more (h : XR w O Xb C Q M P lim tk L es w1) (b : Below w1.heap.size w1 w2) : XR w O Xb C Q M P lim tk L es w2 := by
  obtain ⟨O', h1, h2, h3⟩ := h
  exact ⟨O', h1.chg (K.Chg.of_below (O := fun _ => False) b) (fun _ _ h => h), h2.same (K.Chg.of_below b), h3⟩
theorem XR.drew (h : XR w O Xb C Q M P lim tk L es w1) (n : Nat) : XR w O Xb C Q M P lim tk L es (w1.drewN n) := by
  obtain ⟨O', h1, h2, h3⟩ := h
  exact ⟨O', h1.chg ((chg_refl w1 (fun _ => False)).drewN n) (fun _ _ h => h), h2.drewN n, h3⟩
theorem XT.start (h : XT w Xb C Q M P lim tk L es O) (htk : tk = 2000000) : Calls Tryz.prog 46 #[.pointer (some ⟨M, 0, none⟩)] w fun e w' => e = .returned (.tuple #[]) ∧ XR w O Xb C Q M P lim 0 L es w' := by
  refine (x_start w M tk h.mx.1 htk).mono ?_
  rintro e w' ⟨rfl, hm, hc⟩
  exact ⟨rfl, XR.met h hc hm⟩
theorem XT.clen (h : XT w Xb C Q M P lim tk L es O) : Calls Tryz.prog 74 #[.pointer (some ⟨C, 0, none⟩)] w fun e w' => e = .returned (.int .i64 (L.length : Int)) ∧ ∃ n, w' = w.drewN n := by
  obtain ⟨_, An, cn, Af, cf, ns, fs, _, _, _, _, hb, rfl⟩ := h
  exact c_len w C Q M lim cn cf An Af ns fs L hb.ch
theorem XT.tlen (h : XT w Xb C Q M P lim tk L es O) : Calls Tryz.prog 73 #[.pointer (some ⟨P, 0, none⟩)] w fun e w' => e = .returned (.int .i64 (es.length : Int)) ∧ w = w' := by
  obtain ⟨_, An, cn, Af, cf, ns, fs, _, _, _, _, hb, rfl⟩ := h
  exact Hs.tab_len w P _ _ _ _ _ _ es hb.tab
/-- A link's key, there or not. -/
theorem XT.key_at (h : XT w Xb C Q M P lim tk L es O) (htk : tk < 1000000) (i : Int) (q : Nat) (b : Bool) (hi : (i = -1 ∧ q = 0 ∧ b = false) ∨ ∃ (n : Nat) (L1 L2 : LL), L = L1 ++ (n, q) :: L2 ∧ i = (n : Int) ∧ b = true) :
    Calls Tryz.prog 142 #[.pointer (some ⟨C, 0, none⟩), .int .i64 i] w fun e w' => e = .returned (.tuple #[.int .u64 (q : Int), .bool b]) ∧ ∃ t, t ≤ 1 ∧ XR w O Xb C Q M P lim (tk + t) L es w' := by
  rcases hi with ⟨rfl, rfl, rfl⟩ | ⟨n, L1, L2, rfl, rfl, rfl⟩
  · refine h.key_no.mono ?_
    rintro e w' ⟨rfl, hb⟩
    exact ⟨rfl, 0, by omega, (XR.refl h).more hb⟩
  · refine (h.key htk).mono ?_
    rintro e w' ⟨rfl, hm, hc⟩
    exact ⟨rfl, 1, by omega, XR.met h hc hm⟩
end
theorem x_prefix_all (w : World) (k : Nat) : Calls Tryz.prog 137 #[.int .u64 (k : Int), .int .i64 64] w fun e w' => e = .returned (kyv 64 (X.pf 64 k)) ∧ Below w.heap.size w w' := x_prefix w k 64 (by omega)
theorem below_draws (w : World) (n : Nat) : Below w.heap.size w (w.drewN n) := ⟨rfl, rfl, rfl, Nat.le_refl _, fun _ _ => rfl⟩
section
variable (w : World) (Xb C Q M P lim tk : Nat) (xs : List Nat) (L : LL) (es : Es) (O : Nat → Prop) (h : XS w Xb C Q M P lim tk xs L es O)
include h
set_option maxHeartbeats 1000000 in
theorem x_used : Calls Tryz.prog 41 #[.pointer (some ⟨Xb, 0, none⟩)] w fun e w' => e = .returned (.int .i64 (K.xfast xs : Int)) ∧ Below w.heap.size w w' := by
  have hq := h.cnt
  have h1 := h.le
  have h2 := h.max
  have ws : IntKind.i64.wrap ((es.length : Int) + (L.length : Int)) = (K.xfast xs : Int) := by rw [IntWalk.i64_in _ (by omega)]; omega
  have hcl := Lib.hid (fun (W : World) O' (hW : XT W Xb C Q M P lim tk L es O') => hW.clen)
  have htl := Lib.hid (fun (W : World) O' (hW : XT W Xb C Q M P lim tk L es O') => hW.tlen)
  have HD := Lib.hid (fun n => h.xt.chg ((chg_refl w (fun _ => False)).drewN n) (fun _ _ h => h))
  have HS0 : Hid (w.drew.cell? ⟨Xb, 1, none⟩ = some (.pointer (some ⟨C, 0, none⟩)) ∧ w.drew.cell? ⟨Xb, 2, none⟩ = some (.pointer (some ⟨P, 0, none⟩))) := Lib.hid ⟨(HD.out 1).c1, (HD.out 1).c2⟩
  have HSN : Hid (∀ n, (w.drewN n).cell? ⟨Xb, 1, none⟩ = some (.pointer (some ⟨C, 0, none⟩)) ∧ (w.drewN n).cell? ⟨Xb, 2, none⟩ = some (.pointer (some ⟨P, 0, none⟩))) := Lib.hid (fun n => ⟨(HD.out n).c1, (HD.out n).c2⟩)
  have HTL0 := Lib.hid (htl.out w.drew O (HD.out 1))
  have HTLN := Lib.hid (fun n => htl.out (w.drewN n) O (HD.out n))
  have HCL := Lib.hid (hcl.out w.drew O (HD.out 1))
  clear h hq h1 h2
  go_enter Tryz.func41, Tryz.ntmps41
  go_wp2
  go_region_held3 (fun Y => Y.cell? ⟨Xb, 1, none⟩ = some (.pointer (some ⟨C, 0, none⟩)) ∧ Y.cell? ⟨Xb, 2, none⟩ = some (.pointer (some ⟨P, 0, none⟩))) (first | (with_reducible exact HS0.out) | (with_reducible exact HSN.out _) | go_keep) (first
    | (go_at_call 73; (with_reducible refine HTL0.out.mono ?_); rintro e w1 ⟨rfl, rfl⟩)
    | (go_at_call 73; (with_reducible refine (HTLN.out _).mono ?_); rintro e w1 ⟨rfl, rfl⟩)
    | (go_at_call 74; (with_reducible refine HCL.out.mono ?_); rintro e w1 ⟨rfl, n, rfl⟩))
  all_goals
    go_wp2
    go_ret
    exact ⟨rfl, below_draws w _⟩
end
end Go.Proofs.YtelfacchhclgnaaGreat
end
section
namespace Go.Proofs.YtelfacchhclgnaaGreat
set_option maxRecDepth 20000
open Go.RowKit
set_option linter.unusedSectionVars false
variable [Gh]
section
variable {w w' : World} {Xb C Q M P lim tk tk' most : Nat} {xs xs' : List Nat} {L L' : LL} {es es' : Es} {O : Nat → Prop} {v : Value} {e : Ending}
theorem top_of (hr : XR w O Xb C Q M P lim tk' L' es' w') (hte : X.TE 0 L' L' es') (hks : L'.map (·.2) = xs') (hup : K.Up xs') (hcnt : es'.length + L'.length = K.xfast xs') (hle : K.xfast xs' ≤ lim) (hmax : lim ≤ 500000) (h2 : tk' ≤ 100 ∨ tk' = 2000000) (ht : tk' ≤ most) (he : e = .returned v) : TOp XZ w Xb O v xs' lim most e w' := by
  obtain ⟨O', h1, hc, hi⟩ := hr
  exact ⟨tk', O', he, ⟨C, Q, M, P, L', es', h1, hte, hks, hup, hcnt, hle, hmax, h2⟩, ht, hc, hi⟩
end
section
variable (w : World) (Xb C Q M P lim tk : Nat) (xs : List Nat) (L : LL) (es : Es) (O : Nat → Prop) (h : XS w Xb C Q M P lim tk xs L es O)
include h
set_option maxHeartbeats 2000000 in
theorem x_delete (htk : tk = 2000000) (k : Nat) (hk : k < 18446744073709551616) : Calls Tryz.prog 103 #[.pointer (some ⟨Xb, 0, none⟩), .int .u64 (k : Int)] w (TOp XZ w Xb O (.int .i64 (((if K.fo xs k then 0 else 3 : Nat)) : Int)) (K.drop xs k) lim 1073741824) := by
  have H := Lib.hid h
  have hst := Lib.hid (h.xt.start htk)
  have c0 := h.xt.c0
  have hpre := fun W => Lib.hid (x_prefix_all W k)
  have hte := X.tells_of h.te (l := 64) (p := X.pf 64 k) (Nat.le_refl _) (S := X.sg L 64 (X.pf 64 k)) (by simp)
  rw [X.fo_sg h.ks h.up] at hte
  have ha1 := X.fst_lt h.xt.places 64 (X.pf 64 k)
  have ha2 := X.lst_lt h.xt.places 64 (X.pf 64 k)
  cases hf : K.fo xs k
  · rw [hf] at hte
    have hask := fun W O' (hW : XT W Xb C Q M P lim 0 L es O') => Lib.hid (x_ask W Xb C Q M P lim 0 L es O' hW (by omega) 64 (X.pf 64 k) _ _ _ (by omega) hte ha1 ha2)
    have hdr : K.drop xs k = xs := by unfold K.drop; rw [hf]; rfl
    rw [hdr]
    generalize X.fst' (X.sg L 64 (X.pf 64 k)) = e1 at *
    generalize X.lst' (X.sg L 64 (X.pf 64 k)) = e2 at *
    generalize X.pf 64 k = q at *
    clear h hte ha1 ha2 hf hdr
    go_enter Tryz.func103, Tryz.ntmps103
    go_wp2_with (first
      | (go_at_call 46; (with_reducible refine hst.out.mono ?_); rintro e w1 ⟨rfl, hx1⟩
         have HX1 := Lib.hid hx1
         clear hx1)
      | (go_at_call 137; (with_reducible refine (hpre _).out.mono ?_); rintro e w2 ⟨rfl, hb2⟩
         obtain ⟨O2, hT2, hC2, hI2⟩ := HX1.out.more hb2
         have HA := Lib.hid ((hask _ _ hT2).out)
         have HC2 := Lib.hid hC2
         have HI2 := Lib.hid hI2
         clear hb2 hT2 hC2 hI2)
      | (go_at_call 132; (with_reducible refine HA.out.mono ?_); rintro e w3 ⟨rfl, hx3⟩
         have HX3 : Hid (XR w O Xb C Q M P lim (0 + 1) L es w3) := Lib.hid (XR.seq HC2.out HI2.out hx3)
         clear hx3))
    go_ret
    exact H.out.done (HX3.out.more ((Below.refl _ w3).alloc (Nat.le_refl _) _)) (by omega) (by omega) rfl
  · obtain ⟨n, L1, L2, hL, hd, had, _, _, _, _, hnd⟩ := X.part_yes h.ks h.up hf
    have hr := h.rises
    have hks := h.ks
    subst hL
    rw [X.sg_whole hr] at hte ha1 ha2
    rw [hf] at hte
    have hask := fun W O' (hW : XT W Xb C Q M P lim 0 (L1 ++ (n, k) :: L2) es O') => Lib.hid (x_ask W Xb C Q M P lim 0 (L1 ++ (n, k) :: L2) es O' hW (by omega) 64 (X.pf 64 k) n n true (by omega) hte ha1 ha1)
    have hlen := h.cnt
    have hle := h.le
    have hmax := h.max
    have hadd := X.xfast_add hd (K.drop_up h.up k) (fun x hx => h.keys x ((K.drop_mem h.up k x).1 hx).2) hk hnd
    rw [had] at hadd
    have hsh := fun W O' (hW : XT W Xb C Q M P lim 1 (L1 ++ (n, k) :: L2) es O') => Lib.hid (x_shrink W Xb C Q M P lim 1 L1 L2 es O' n k hW (by omega) h.te hr hk (by omega))
    have hup := K.drop_up h.up k
    have HF := Lib.hid (And.intro hlen (And.intro hle (And.intro hmax (And.intro hadd (And.intro hup hd)))))
    generalize X.pf 64 k = q at *
    clear h hte ha1 ha2 hf hlen hle hmax hadd hup hd had hnd hks hr
    go_enter Tryz.func103, Tryz.ntmps103
    go_wp2_with (first
      | (go_at_call 46; (with_reducible refine hst.out.mono ?_); rintro e w1 ⟨rfl, hx1⟩
         have HX1 := Lib.hid hx1
         clear hx1)
      | (go_at_call 137; (with_reducible refine (hpre _).out.mono ?_); rintro e w2 ⟨rfl, hb2⟩
         obtain ⟨O2, hT2, hC2, hI2⟩ := HX1.out.more hb2
         have HA := Lib.hid ((hask _ _ hT2).out)
         have HC2 := Lib.hid hC2
         have HI2 := Lib.hid hI2
         clear hb2 hT2 hC2 hI2)
      | (go_at_call 132; (with_reducible refine HA.out.mono ?_); rintro e w3 ⟨rfl, hx3⟩
         have hx3' : XR w O Xb C Q M P lim (0 + 1) (L1 ++ (n, k) :: L2) es w3 := XR.seq HC2.out HI2.out hx3
         obtain ⟨O4, hT4, hC4, hI4⟩ := hx3'.more ((Below.refl _ w3).alloc (Nat.le_refl _) (endo (.int .i64 (n : Int)) (.int .i64 (n : Int))))
         obtain ⟨n0, n1⟩ := end_cells (K.alloc_top w3 (endo (.int .i64 (n : Int)) (.int .i64 (n : Int))))
         have HSH := Lib.hid (hsh _ _ hT4).out
         have HC4 := Lib.hid hC4
         have HI4 := Lib.hid hI4
         clear hx3 hx3' hT4 hC4 hI4)
      | (go_at_call 138; (with_reducible refine HSH.out.mono ?_); rintro e w5 ⟨rfl, es', hte5, hlen5, hx5⟩
         have HX5 := Lib.hid (XR.seq HC4.out HI4.out hx5)
         have HTE5 := Lib.hid hte5
         have HL5 := Lib.hid hlen5
         clear hx5 hte5 hlen5))
    go_ret
    obtain ⟨hlen, hle, hmax, hadd, hup, hd⟩ := HF.out
    have hl5 := HL5.out
    have hsc := X.sc_le (L1 ++ L2) k
    rw [List.length_append, List.length_cons] at hlen
    exact top_of HX5.out HTE5.out.all hd hup (by rw [List.length_append]; omega) (by omega) hmax (by omega) (by omega) rfl
end
end Go.Proofs.YtelfacchhclgnaaGreat
end
section
namespace Go.Proofs.YtelfacchhclgnaaGreat
set_option maxRecDepth 20000
open Go.RowKit
set_option linter.unusedSectionVars false
variable [Gh]
section
variable {W w w' : World} {Xb C Q M P lim tk : Nat} {L : LL} {es : Es} {O : Nat → Prop}
theorem XR.row {b : Nat} {o : Obj} (hx : XR W O Xb C Q M P lim tk L es w') (h : W.heap[b]? = some o) (hn : ¬ O b) : w'.heap[b]? = some o := by
  obtain ⟨_, _, hc, _⟩ := hx
  exact (hc.block b (row_lt h) hn).trans h
theorem XR.c0 (hx : XR W O Xb C Q M P lim tk L es w') : w'.cell? ⟨Xb, 0, none⟩ = some (.pointer (some ⟨M, 0, none⟩)) := by obtain ⟨_, hT, _⟩ := hx; exact hT.c0
theorem XR.c1 (hx : XR W O Xb C Q M P lim tk L es w') : w'.cell? ⟨Xb, 1, none⟩ = some (.pointer (some ⟨C, 0, none⟩)) := by obtain ⟨_, hT, _⟩ := hx; exact hT.c1
theorem XR.c3 (hx : XR W O Xb C Q M P lim tk L es w') : w'.cell? ⟨Xb, 3, none⟩ = some (.int .i64 (lim : Int)) := by obtain ⟨_, hT, _⟩ := hx; exact hT.c3
end
section
variable (w : World) (Xb C Q M P lim tk : Nat) (xs : List Nat) (L : LL) (es : Es) (O : Nat → Prop) (h : XS w Xb C Q M P lim tk xs L es O)
include h
set_option maxHeartbeats 2000000 in
theorem x_near_below (htk : tk = 2000000) (k : Nat) (hk : k < 18446744073709551616) : Calls Tryz.prog 115 #[.pointer (some ⟨Xb, 0, none⟩), .int .u64 (k : Int), .func (.func 116) #[.pointer (some ⟨Xb, 0, none⟩)] #[]] w (TOp XZ w Xb O (.tuple #[.int .u64 ((K.pv xs k : Nat) : Int), .bool (K.pvb xs k)]) xs lim 9) := by
  have H := Lib.hid h
  have hst := Lib.hid (h.xt.start htk)
  have c0 := h.xt.c0
  have hfs := X.fo_sc h.ks h.up k
  have hsr := fun W O' (hW : XT W Xb C Q M P lim 0 L es O') => x_search W Xb C Q M P lim 0 L es O' hW (by omega) h.te h.xt.places k
  cases hf : K.fo xs k
  · obtain ⟨L1, L2, hL, h1, h2, hl, _⟩ := X.part_no h.ks h.up hf
    subst hL
    have hr := h.rises
    have hsc : X.sc (L1 ++ L2) k ≠ 65 := fun e => by rw [hfs.2 e] at hf; cases hf
    have hat := fun W t O' (ht : t < 900000) (hW : XT W Xb C Q M P lim t (L1 ++ L2) es O') => x_at_below W Xb C Q M P lim t L1 L2 es O' hW ht k hr h1 h2 hk
    have hi : (lst (-1) L1 = -1 ∧ K.pv xs k = 0 ∧ K.pvb xs k = false) ∨ ∃ (n : Nat) (La Lb : LL), L1 ++ L2 = La ++ (n, K.pv xs k) :: Lb ∧ lst (-1) L1 = (n : Int) ∧ K.pvb xs k = true := by
      rcases X.pv_no h.ks hf hl with ⟨e, a, b⟩ | ⟨n, q, L', e, a, b⟩
      · exact .inl ⟨by rw [e]; rfl, a, b⟩
      · exact .inr ⟨n, L', L2, by rw [e, a, List.append_assoc]; rfl, by rw [e, lst_app]; rfl, b⟩
    obtain ⟨s, hs⟩ : ∃ s : Int, (X.sc (L1 ++ L2) k : Int) - 1 = s := ⟨_, rfl⟩
    have g0 : (s == 64) = false := by rw [beq_eq_false_iff_ne]; omega
    rw [hs] at hat hsr
    generalize X.fst' (X.spl (L1 ++ L2) k (X.sc (L1 ++ L2) k)) = e1 at *
    generalize X.lst' (X.spl (L1 ++ L2) k (X.sc (L1 ++ L2) k)) = e2 at *
    generalize K.pv xs k = q at *
    generalize K.pvb xs k = b at *
    obtain ⟨i, hii⟩ : ∃ i, lst (-1) L1 = i := ⟨_, rfl⟩
    rw [hii] at hi hat
    have hky := fun (W : World) t O' (ht : t < 1000000) (hW : XT W Xb C Q M P lim t (L1 ++ L2) es O') => hW.key_at ht i q b hi
    have HAT := Lib.hid hat
    have HKY := Lib.hid hky
    have hsr := fun W O' hW => Lib.hid (hsr W O' hW)
    clear h hfs hf h1 h2 hl hr hsc hi hii hs hat hky
    go_enter Tryz.func115, Tryz.ntmps115
    go_wp2_with (first
      | (go_at_call 46; (with_reducible refine hst.out.mono ?_); rintro e w1 ⟨rfl, O1, hT1, hC1, hI1⟩
         have HSR := Lib.hid ((hsr _ _ hT1).out)
         have HC1 := Lib.hid hC1
         have HI1 := Lib.hid hI1
         clear hT1 hC1 hI1)
      | (go_at_call 121; (with_reducible refine HSR.out.mono ?_); rintro e w2 ⟨rfl, t, ht, hx2⟩
         have hx2' : XR w O Xb C Q M P lim (0 + t) (L1 ++ L2) es w2 := XR.seq HC1.out HI1.out hx2
         have hz := K.alloc_top w2 (spo s e1 e2)
         have hd : XR w O Xb C Q M P lim (0 + t) (L1 ++ L2) es (w2.alloc (spo s e1 e2)).drew := (hx2'.more ((Below.refl _ w2).alloc (Nat.le_refl _) (spo s e1 e2))).drew 1
         have hlt2 : ∃ O3, XT (w2.alloc (spo s e1 e2)).drew Xb C Q M P lim (0 + t) (L1 ++ L2) es O3 ∧ K.Chg w (w2.alloc (spo s e1 e2)).drew O ∧ (∀ j, O3 j → O j ∨ w.heap.size ≤ j) ∧ ¬ O3 w2.heap.size := by
           obtain ⟨O3, hT3, hC3, hI3⟩ := hx2'
           exact ⟨O3, (hT3.chg (chg_alloc w2 (spo s e1 e2) (fun _ => False)) (fun _ _ h => h)).chg ((chg_refl _ (fun _ => False)).drewN 1) (fun _ _ h => h), (hC3.same (chg_alloc w2 (spo s e1 e2) _)).drewN 1, hI3, fun h => by have := hT3.lt _ h; omega⟩
         obtain ⟨O3, hT3, hC3, hI3, hN3⟩ := hlt2
         obtain ⟨k0, k1, k2⟩ := spo_cells hz
         have HS1 : Hid ((w2.alloc (spo s e1 e2)).drew.cell? ⟨Xb, 1, none⟩ = some (.pointer (some ⟨C, 0, none⟩)) ∧ (w2.alloc (spo s e1 e2)).drew.cell? ⟨w2.heap.size, 0, none⟩ = some (.int .i64 s) ∧ (w2.alloc (spo s e1 e2)).drew.cell? ⟨w2.heap.size, 1, none⟩ = some (.int .i64 (e1 : Int)) ∧ (w2.alloc (spo s e1 e2)).drew.cell? ⟨w2.heap.size, 2, none⟩ = some (.int .i64 (e2 : Int))) := Lib.hid ⟨hd.c1, k0, k1, k2⟩
         have HA3 := Lib.hid (HAT.out _ _ _ (by omega) hT3)
         have HC3 := Lib.hid hC3
         have HI3 := Lib.hid hI3
         have HN3 := Lib.hid hN3
         have HZ := Lib.hid hz
         clear hx2 hx2' hz hd hT3 hC3 hI3 hN3))
    go_region_held3 (fun Y => Y.cell? ⟨Xb, 1, none⟩ = some (.pointer (some ⟨C, 0, none⟩)) ∧ Y.cell? ⟨w2.heap.size, 0, none⟩ = some (.int .i64 s) ∧ Y.cell? ⟨w2.heap.size, 1, none⟩ = some (.int .i64 (e1 : Int)) ∧ Y.cell? ⟨w2.heap.size, 2, none⟩ = some (.int .i64 (e2 : Int))) (first | (with_reducible exact HS1.out) | (with_reducible exact HS2.out) | (with_reducible exact HS3.out) | go_keep) (first
      | (go_at_call 116; (with_reducible refine HA3.out.mono ?_); rintro e w3 ⟨rfl, t2, ht2, hx3⟩
         have z3 := hx3.row HZ.out HN3.out
         obtain ⟨k3, k4, k5⟩ := spo_cells z3
         have HS2 : Hid (w3.cell? ⟨Xb, 1, none⟩ = some (.pointer (some ⟨C, 0, none⟩)) ∧ w3.cell? ⟨w2.heap.size, 0, none⟩ = some (.int .i64 s) ∧ w3.cell? ⟨w2.heap.size, 1, none⟩ = some (.int .i64 (e1 : Int)) ∧ w3.cell? ⟨w2.heap.size, 2, none⟩ = some (.int .i64 (e2 : Int))) := Lib.hid ⟨hx3.c1, k3, k4, k5⟩
         obtain ⟨O4, hT4, hC4, hI4⟩ := hx3
         have HK4 := Lib.hid (HKY.out _ _ _ (by omega) hT4)
         have HC4 := Lib.hid hC4
         have HI4 := Lib.hid hI4
         clear z3 k3 k4 k5 hT4 hC4 hI4)
      | (go_at_call 142; (with_reducible refine HK4.out.mono ?_); rintro e w5 ⟨rfl, t3, ht3, hx5⟩
         have hx6 := XR.seq HC4.out HI4.out hx5
         have z5 := hx6.row HZ.out HN3.out
         obtain ⟨k3, k4, k5⟩ := spo_cells z5
         have HS3 : Hid (w5.cell? ⟨Xb, 1, none⟩ = some (.pointer (some ⟨C, 0, none⟩)) ∧ w5.cell? ⟨w2.heap.size, 0, none⟩ = some (.int .i64 s) ∧ w5.cell? ⟨w2.heap.size, 1, none⟩ = some (.int .i64 (e1 : Int)) ∧ w5.cell? ⟨w2.heap.size, 2, none⟩ = some (.int .i64 (e2 : Int))) := Lib.hid ⟨hx6.c1, k3, k4, k5⟩
         have HX7 : Hid (XR w O Xb C Q M P lim (0 + t + t2 + t3) (L1 ++ L2) es w5) := Lib.hid (XR.seq HC3.out HI3.out hx6)
         clear z5 k3 k4 k5 hx5 hx6))
    all_goals
      go_wp2
      go_ret2
      exact H.out.done HX7.out (by omega) (by omega) rfl
  · obtain ⟨n, L1, L2, hL, _, _, h3, h4, h5, h6, _⟩ := X.part_yes h.ks h.up hf
    rw [h5, h6]
    obtain ⟨s, hs⟩ : ∃ s : Int, (X.sc L k : Int) - 1 = s := ⟨_, rfl⟩
    have g0 : (s == 64) = true := by rw [beq_iff_eq]; have := hfs.1 hf; omega
    rw [hs] at hsr
    generalize X.fst' (X.spl L k (X.sc L k)) = e1 at *
    generalize X.lst' (X.spl L k (X.sc L k)) = e2 at *
    have hsr := fun W O' hW => Lib.hid (hsr W O' hW)
    clear h hfs hf hL h3 h4 h5 h6 hs
    go_enter Tryz.func115, Tryz.ntmps115
    go_wp2_with (first
      | (go_at_call 46; (with_reducible refine hst.out.mono ?_); rintro e w1 ⟨rfl, O1, hT1, hC1, hI1⟩
         have HSR := Lib.hid ((hsr _ _ hT1).out)
         have HC1 := Lib.hid hC1
         have HI1 := Lib.hid hI1
         clear hT1 hC1 hI1)
      | (go_at_call 121; (with_reducible refine HSR.out.mono ?_); rintro e w2 ⟨rfl, t, ht, hx2⟩
         have hx2' : XR w O Xb C Q M P lim (0 + t) L es w2 := XR.seq HC1.out HI1.out hx2
         obtain ⟨k0, k1, k2⟩ := spo_cells (K.alloc_top w2 (spo s e1 e2))
         have HX2 := Lib.hid hx2'
         clear hx2 hx2'))
    go_ret2
    exact H.out.done (HX2.out.more ((Below.refl _ w2).alloc (Nat.le_refl _) _)) (by omega) (by omega) rfl
theorem x_prev (htk : tk = 2000000) (k : Nat) (hk : k < 18446744073709551616) : Calls Tryz.prog 82 #[.pointer (some ⟨Xb, 0, none⟩), .int .u64 (k : Int)] w (TOp XZ w Xb O (.tuple #[.int .u64 ((K.pv xs k : Nat) : Int), .bool (K.pvb xs k)]) xs lim 9) := by
  have hn := Lib.hid (x_near_below w Xb C Q M P lim tk xs L es O h htk k hk)
  clear h
  go_enter Tryz.func82, Tryz.ntmps82
  go_wp2_with (go_at_call 115; (with_reducible refine hn.out.mono ?_); rintro e w1 ⟨tk', O', rfl, hT, hq, hC, hO⟩; have HE := Lib.hid (And.intro hT (And.intro hq (And.intro hC hO))); clear hT hq hC hO)
  go_ret2
  exact ⟨tk', O', rfl, HE.out.1, HE.out.2.1, HE.out.2.2.1, HE.out.2.2.2⟩
end
end Go.Proofs.YtelfacchhclgnaaGreat
end
section
namespace Go.Proofs.YtelfacchhclgnaaGreat
set_option maxRecDepth 20000
open Go.RowKit
set_option linter.unusedSectionVars false
variable [Gh]
section
variable (w : World) (Xb C Q M P lim tk : Nat) (xs : List Nat) (L : LL) (es : Es) (O : Nat → Prop) (h : XS w Xb C Q M P lim tk xs L es O)
include h
set_option maxHeartbeats 4000000 in
theorem x_insert (htk : tk = 2000000) (k : Nat) (hk : k < 18446744073709551616) : Calls Tryz.prog 97 #[.pointer (some ⟨Xb, 0, none⟩), .int .u64 (k : Int)] w (TOp XZ w Xb O (.int .i64 ((K.inE K.xfast xs lim k : Nat) : Int)) (K.inL K.xfast xs lim k) lim 1073741824) := by
  have H := Lib.hid h
  have hst := Lib.hid (h.xt.start htk)
  have c0 := h.xt.c0
  have hfs := X.fo_sc h.ks h.up k
  have hsr := fun W O' (hW : XT W Xb C Q M P lim 0 L es O') => x_search W Xb C Q M P lim 0 L es O' hW (by omega) h.te h.xt.places k
  cases hf : K.fo xs k
  · obtain ⟨L1, L2, hL, h1, h2, hl, hadd⟩ := X.part_no h.ks h.up hf
    subst hL
    have hr := h.rises
    have hsc : X.sc (L1 ++ L2) k ≠ 65 := fun e => by rw [hfs.2 e] at hf; cases hf
    have hsl := X.sc_le (L1 ++ L2) k
    have hxa := X.xfast_add h.ks h.up h.keys hk (fun hm => by rw [(K.fo_mem h.up k).2 hm] at hf; cases hf)
    have hcnt := h.cnt
    have hle := h.le
    have hmax := h.max
    have hat := fun W t O' (ht : t < 900000) (hW : XT W Xb C Q M P lim t (L1 ++ L2) es O') => x_at_below W Xb C Q M P lim t L1 L2 es O' hW ht k hr h1 h2 hk
    have hus := fun W t O' (ht : t ≤ 100) (hW : XT W Xb C Q M P lim t (L1 ++ L2) es O') => x_used W Xb C Q M P lim t xs (L1 ++ L2) es O' ⟨hW, h.te, h.ks, h.up, h.cnt, h.le, h.max, .inl ht⟩
    have hne := fun W a b => x_needs W (X.sc (L1 ++ L2) k) a b hsl
    obtain ⟨N, hN⟩ : ∃ N, (if X.sc (L1 ++ L2) k = 65 then 0 else 66 - X.sc (L1 ++ L2) k) = N := ⟨_, rfl⟩
    rw [hN] at hne
    have hN2 : N = 66 - X.sc (L1 ++ L2) k := by rw [← hN, if_neg hsc]
    obtain ⟨s, hs⟩ : ∃ s : Int, (X.sc (L1 ++ L2) k : Int) - 1 = s := ⟨_, rfl⟩
    have g0 : (s == 64) = false := by rw [beq_eq_false_iff_ne]; omega
    rw [hs] at hat hsr hne
    generalize X.fst' (X.spl (L1 ++ L2) k (X.sc (L1 ++ L2) k)) = e1 at *
    generalize X.lst' (X.spl (L1 ++ L2) k (X.sc (L1 ++ L2) k)) = e2 at *
    have ws : IntKind.i64.wrap ((lim : Int) - (K.xfast xs : Int)) = (lim : Int) - (K.xfast xs : Int) := IntWalk.i64_in _ (by omega)
    have HAT := Lib.hid hat
    have HUS := Lib.hid hus
    have hneH := fun W => Lib.hid (hne W e1 e2)
    have hsr := fun W O' hW => Lib.hid (hsr W O' hW)
    have HGR := Lib.hid (fun W t O' (ht : t < 900000) (hrm : (L1 ++ L2).length < lim) (hW : XT W Xb C Q M P lim t (L1 ++ L2) es O') => x_grow W Xb C Q M P lim t L1 L2 es O' hW ht h.te k hr h1 h2 hk hrm (by omega))
    have hE : K.inE K.xfast xs lim k = if lim < K.xfast (K.add xs k) then 5 else 0 := by unfold K.inE; rw [hf]; rfl
    have hLL : K.inL K.xfast xs lim k = if lim < K.xfast (K.add xs k) then xs else K.add xs k := by unfold K.inL; rw [hf]; rfl
    have HE := Lib.hid hE
    have HLL := Lib.hid hLL
    generalize K.inE K.xfast xs lim k = E at *
    generalize K.inL K.xfast xs lim k = Z at *
    obtain ⟨r, hr0⟩ : ∃ r, decide ((lim : Int) - (K.xfast xs : Int) < (N : Int)) = r := ⟨_, rfl⟩
    have hrr : r = decide (lim < K.xfast (K.add xs k)) := by
      rw [← hr0, Bool.eq_iff_iff, decide_eq_true_eq, decide_eq_true_eq]
      omega
    have HF := Lib.hid (And.intro hxa (And.intro hcnt (And.intro hle (And.intro hmax (And.intro hadd hsl)))))
    have HRR := Lib.hid hrr
    generalize K.xfast xs = U at *
    clear h hfs hf h1 h2 hl hr hsc hs hat hus hne hN hN2 hxa hcnt hle hmax hadd hsl hE hLL hrr
    go_enter Tryz.func97, Tryz.ntmps97
    go_wp2_with (first
      | (go_at_call 46; (with_reducible refine hst.out.mono ?_); rintro e w1 ⟨rfl, O1, hT1, hC1, hI1⟩
         have HSR := Lib.hid ((hsr _ _ hT1).out)
         have HC1 := Lib.hid hC1
         have HI1 := Lib.hid hI1
         clear hT1 hC1 hI1)
      | (go_at_call 121; (with_reducible refine HSR.out.mono ?_); rintro e w2 ⟨rfl, t, ht, hx2⟩
         have hx2' : XR w O Xb C Q M P lim (0 + t) (L1 ++ L2) es w2 := XR.seq HC1.out HI1.out hx2
         have hz := K.alloc_top w2 (spo s e1 e2)
         have hd : XR w O Xb C Q M P lim (0 + t) (L1 ++ L2) es (w2.alloc (spo s e1 e2)).drew := (hx2'.more ((Below.refl _ w2).alloc (Nat.le_refl _) (spo s e1 e2))).drew 1
         obtain ⟨k0, k1, k2⟩ := spo_cells hz
         have HS1 : Hid ((w2.alloc (spo s e1 e2)).drew.cell? ⟨Xb, 3, none⟩ = some (.int .i64 (lim : Int)) ∧ (w2.alloc (spo s e1 e2)).drew.cell? ⟨w2.heap.size, 0, none⟩ = some (.int .i64 s) ∧ (w2.alloc (spo s e1 e2)).drew.cell? ⟨w2.heap.size, 1, none⟩ = some (.int .i64 (e1 : Int)) ∧ (w2.alloc (spo s e1 e2)).drew.cell? ⟨w2.heap.size, 2, none⟩ = some (.int .i64 (e2 : Int))) := Lib.hid ⟨hd.c3, k0, k1, k2⟩
         have HU1 := Lib.hid (by obtain ⟨O3, hT3, _⟩ := hd; exact HUS.out _ _ _ (by omega) hT3)
         have HXD := Lib.hid hd
         have HZ : Hid ((w2.alloc (spo s e1 e2)).drew.heap[w2.heap.size]? = some (spo s e1 e2)) := Lib.hid hz
         clear hx2 hx2' hz hd))
    go_cut [30] from 21 to 29 (fun s30 wc => s30 = .bool r ∧ Hid (XR w O Xb C Q M P lim (0 + t) (L1 ++ L2) es wc) ∧ Hid (wc.heap[w2.heap.size]? = some (spo s e1 e2)))
    case first =>
      go_region_held3 (fun Y => Y.cell? ⟨Xb, 3, none⟩ = some (.int .i64 (lim : Int)) ∧ Y.cell? ⟨w2.heap.size, 0, none⟩ = some (.int .i64 s) ∧ Y.cell? ⟨w2.heap.size, 1, none⟩ = some (.int .i64 (e1 : Int)) ∧ Y.cell? ⟨w2.heap.size, 2, none⟩ = some (.int .i64 (e2 : Int))) (first | (with_reducible exact HS1.out) | (with_reducible exact HSA.out) | (with_reducible exact HSB.out) | go_keep) (first
      | (go_at_call 41; (with_reducible refine HUA.out.mono ?_); rintro e wb ⟨rfl, hbb⟩
         have hxb := HXA.out.more hbb
         have zb := (hbb.block w2.heap.size (row_lt ZA.out)).trans ZA.out
         obtain ⟨k3, k4, k5⟩ := spo_cells zb
         have HSB : Hid (wb.cell? ⟨Xb, 3, none⟩ = some (.int .i64 (lim : Int)) ∧ wb.cell? ⟨w2.heap.size, 0, none⟩ = some (.int .i64 s) ∧ wb.cell? ⟨w2.heap.size, 1, none⟩ = some (.int .i64 (e1 : Int)) ∧ wb.cell? ⟨w2.heap.size, 2, none⟩ = some (.int .i64 (e2 : Int))) := Lib.hid ⟨hxb.c3, k3, k4, k5⟩
         have HXB := Lib.hid hxb
         have ZB := Lib.hid zb
         clear hbb hxb zb k3 k4 k5)
      | (go_at_call 123; (with_reducible refine (hneH _).out.mono ?_); rintro e wb ⟨rfl, hbb⟩
         have hxb := HXA.out.more hbb
         have zb := (hbb.block w2.heap.size (row_lt ZA.out)).trans ZA.out
         obtain ⟨k3, k4, k5⟩ := spo_cells zb
         have HSB : Hid (wb.cell? ⟨Xb, 3, none⟩ = some (.int .i64 (lim : Int)) ∧ wb.cell? ⟨w2.heap.size, 0, none⟩ = some (.int .i64 s) ∧ wb.cell? ⟨w2.heap.size, 1, none⟩ = some (.int .i64 (e1 : Int)) ∧ wb.cell? ⟨w2.heap.size, 2, none⟩ = some (.int .i64 (e2 : Int))) := Lib.hid ⟨hxb.c3, k3, k4, k5⟩
         have HXB := Lib.hid hxb
         have ZB := Lib.hid zb
         clear hbb hxb zb k3 k4 k5)
      | (go_at_call 41; (with_reducible refine HU1.out.mono ?_); rintro e wa ⟨rfl, hba⟩
         have hxa := HXD.out.more hba
         have za := (hba.block w2.heap.size (row_lt HZ.out)).trans HZ.out
         obtain ⟨k3, k4, k5⟩ := spo_cells za
         have HSA : Hid (wa.cell? ⟨Xb, 3, none⟩ = some (.int .i64 (lim : Int)) ∧ wa.cell? ⟨w2.heap.size, 0, none⟩ = some (.int .i64 s) ∧ wa.cell? ⟨w2.heap.size, 1, none⟩ = some (.int .i64 (e1 : Int)) ∧ wa.cell? ⟨w2.heap.size, 2, none⟩ = some (.int .i64 (e2 : Int))) := Lib.hid ⟨hxa.c3, k3, k4, k5⟩
         have HXA := Lib.hid hxa
         have ZA := Lib.hid za
         clear hba hxa za k3 k4 k5)
      | (go_at_call 123; (with_reducible refine (hneH _).out.mono ?_); rintro e wa ⟨rfl, hba⟩
         have hxa := HXD.out.more hba
         have za := (hba.block w2.heap.size (row_lt HZ.out)).trans HZ.out
         obtain ⟨k3, k4, k5⟩ := spo_cells za
         have HSA : Hid (wa.cell? ⟨Xb, 3, none⟩ = some (.int .i64 (lim : Int)) ∧ wa.cell? ⟨w2.heap.size, 0, none⟩ = some (.int .i64 s) ∧ wa.cell? ⟨w2.heap.size, 1, none⟩ = some (.int .i64 (e1 : Int)) ∧ wa.cell? ⟨w2.heap.size, 2, none⟩ = some (.int .i64 (e2 : Int))) := Lib.hid ⟨hxa.c3, k3, k4, k5⟩
         have HXA := Lib.hid hxa
         have ZA := Lib.hid za
         have HUA := Lib.hid (by obtain ⟨O3, hT3, _⟩ := hxa; exact HUS.out _ _ _ (by omega) hT3)
         clear hba hxa za k3 k4 k5))
      all_goals
        go_wp2_with (fail)
        go_meet
        exact ⟨rfl, HXB, ZB⟩
    case rest =>
      obtain ⟨rfl, hXC, hZC⟩ := hcut
      cases hcase : decide (lim < K.xfast (K.add xs k))
      · have hr1 : r = false := HRR.out.trans hcase
        have hnl : ¬ lim < K.xfast (K.add xs k) := of_decide_eq_false hcase
        have hE := HE.out
        have hLL := HLL.out
        rw [if_neg hnl] at hE hLL
        subst hE hLL
        obtain ⟨q1, q2, q3, q4, q5, q6⟩ := HF.out
        have hrm : (L1 ++ L2).length < lim := by omega
        obtain ⟨k0, k1, k2⟩ := spo_cells hZC.out
        obtain ⟨O3, hT3, hC3, hI3⟩ := hXC.out
        have HA3 := Lib.hid (HAT.out _ _ _ (by omega) hT3)
        have HC3 := Lib.hid hC3
        have HI3 := Lib.hid hI3
        have HNL := Lib.hid hnl
        have HRM := Lib.hid hrm
        subst hr1
        clear hcase hnl q1 q2 q3 q4 q5 q6 hrm hT3 hC3 hI3 hr0 ws
        go_wp2_with (first
          | (go_at_call 116; (with_reducible refine HA3.out.mono ?_); rintro e w3 ⟨rfl, t2, ht2, hx3⟩
             obtain ⟨O4, hT4, hC4, hI4⟩ := XR.seq HC3.out HI3.out hx3
             have HG4 := Lib.hid (HGR.out _ _ _ (by omega) HRM.out hT4)
             have HC4 := Lib.hid hC4
             have HI4 := Lib.hid hI4
             clear hx3 hT4 hC4 hI4)
          | (go_at_call 133; (with_reducible refine HG4.out.mono ?_); rintro e w5 ⟨rfl, n, es', hn5, hte5, hlen5, hx5⟩
             have HX5 := Lib.hid (XR.seq HC4.out HI4.out hx5)
             have HTE5 := Lib.hid hte5
             have HL5 := Lib.hid hlen5
             clear hx5 hte5 hlen5 hn5))
        go_ret
        obtain ⟨q1, q2, q3, q4, q5, q6⟩ := HF.out
        have hl5 := HL5.out
        have hnl := HNL.out
        rw [List.length_append] at q2
        exact top_of HX5.out HTE5.out.all (q5 n) (K.add_up H.out.up k) (by rw [List.length_append, List.length_cons]; omega) (by omega) q4 (by omega) (by omega) rfl
      · have hr1 : r = true := HRR.out.trans hcase
        have hnl : lim < K.xfast (K.add xs k) := of_decide_eq_true hcase
        have hE := HE.out
        have hLL := HLL.out
        rw [if_pos hnl] at hE hLL
        subst hE hLL
        subst hr1
        clear hcase hnl hr0 ws
        go_wp2
        go_ret
        exact H.out.done hXC.out (by omega) (by omega) rfl
  · obtain ⟨s, hs⟩ : ∃ s : Int, (X.sc L k : Int) - 1 = s := ⟨_, rfl⟩
    have g0 : (s == 64) = true := by rw [beq_iff_eq]; have := hfs.1 hf; omega
    have hE : K.inE K.xfast xs lim k = 4 := by unfold K.inE; rw [if_pos hf]
    have hLL : K.inL K.xfast xs lim k = xs := by unfold K.inL; rw [if_pos hf]
    rw [hE, hLL]
    rw [hs] at hsr
    generalize X.fst' (X.spl L k (X.sc L k)) = e1 at *
    generalize X.lst' (X.spl L k (X.sc L k)) = e2 at *
    have hsr := fun W O' hW => Lib.hid (hsr W O' hW)
    clear h hfs hf hs hE hLL
    go_enter Tryz.func97, Tryz.ntmps97
    go_wp2_with (first
      | (go_at_call 46; (with_reducible refine hst.out.mono ?_); rintro e w1 ⟨rfl, O1, hT1, hC1, hI1⟩
         have HSR := Lib.hid ((hsr _ _ hT1).out)
         have HC1 := Lib.hid hC1
         have HI1 := Lib.hid hI1
         clear hT1 hC1 hI1)
      | (go_at_call 121; (with_reducible refine HSR.out.mono ?_); rintro e w2 ⟨rfl, t, ht, hx2⟩
         have hx2' : XR w O Xb C Q M P lim (0 + t) L es w2 := XR.seq HC1.out HI1.out hx2
         obtain ⟨k0, k1, k2⟩ := spo_cells (K.alloc_top w2 (spo s e1 e2))
         have HX2 := Lib.hid hx2'
         clear hx2 hx2'))
    go_ret
    exact H.out.done (HX2.out.more ((Below.refl _ w2).alloc (Nat.le_refl _) _)) (by omega) (by omega) rfl
end
end Go.Proofs.YtelfacchhclgnaaGreat
end
section
namespace Go.Proofs.YtelfacchhclgnaaGreat
set_option maxRecDepth 20000
open Go.RowKit
set_option linter.unusedSectionVars false
variable [Gh]
theorem cell_more {w : World} {p : Addr} {v : Value} (h : w.cell? p = some v) (o : Obj) : (w.alloc o).cell? p = some v := by
  have hlt : p.block < w.heap.size := Classical.byContradiction fun hn => by
    have : w.heap[p.block]? = none := Array.getElem?_eq_none (by omega)
    simp [World.cell?, this] at h
  have e : (w.alloc o).heap[p.block]? = w.heap[p.block]? := Below.heap_alloc _ _ _ hlt
  simp only [World.cell?] at h ⊢
  rw [e]
  exact h
set_option maxHeartbeats 1000000 in
theorem xf_new (w : World) (sd n : Nat) (hn : n ≤ 500000) (hgh : Gh.r0 = 0 ∧ Gh.c0 = 0) : Calls Tryz.prog 35 #[.int .u64 (sd : Int), .int .i64 (n : Int)] w fun e w' => ∃ Xb tk O, e = .returned (.tuple #[.pointer (some ⟨Xb, 0, none⟩), .int .i64 0]) ∧ XZ w' Xb [] n tk O ∧ Below w.heap.size w w' ∧ ∀ j, O j → w.heap.size ≤ j := by
  have hc := Lib.hid (c_new w n (by omega) hgh)
  have HNN := Lib.hid hn
  clear hn
  go_enter Tryz.func35, Tryz.ntmps35
  go_wp2_with (first
    | (go_at_call 66; (with_reducible refine hc.out.mono ?_); rintro e w1 ⟨C, Q, M, rfl, hch, hmx, a1, a2, a3, hb1⟩
       have hd : CW w1.drew C Q M n none 0 none 0 [] [] [] := hch.chg ((chg_refl w1 (fun _ => False)).drewN 1) (fun _ _ h => h)
       have hmd : Mx w1.drew M 0 := hmx.chg ((chg_refl w1 (fun _ => False)).drewN 1) (fun h => h)
       have HS1 := Lib.hid hd.cb.c0
       have HD := Lib.hid hd
       have HMD := Lib.hid hmd
       have HB1 : Hid (Below w.heap.size w w1.drew) := Lib.hid hb1.drew
       have HA := Lib.hid (And.intro a1 (And.intro a2 a3))
       have HN := Lib.hid (Hs.tab_new_nil w1.drew sd)
       clear hch hmx a1 a2 a3 hb1 hd hmd))
  go_region_held3 (fun Y => Y.cell? ⟨C, 0, none⟩ = some (.pointer (some ⟨M, 0, none⟩))) (first | (with_reducible exact HS1.out) | (with_reducible exact HS2.out) | (with_reducible exact HS3.out _) | go_keep)
    ((go_at_call 37; (with_reducible refine HN.out.mono ?_); rintro e w2 ⟨Pt, Qt, Mt, rfl, ht, hb2, p1, p2, p3⟩
      have hs2 : w2.cell? ⟨C, 0, none⟩ = some (.pointer (some ⟨M, 0, none⟩)) := (HD.out.chg (K.Chg.of_below (O := fun _ => False) hb2) (fun _ _ h => h)).cb.c0
      have HS2 := Lib.hid hs2
      have HS3 := Lib.hid (fun o => cell_more hs2 o)
      have HT := Lib.hid ht
      have HB2 := Lib.hid hb2
      have HP := Lib.hid (And.intro p1 (And.intro p2 p3))
      clear ht hb2 p1 p2 p3 hs2))
  all_goals
    go_wp2
    go_ret2
    have hb3 : Below w1.drew.heap.size w1.drew (w2.alloc (.cells #[.pointer (some ⟨M, 0, none⟩), .pointer (some ⟨C, 0, none⟩), .pointer (some ⟨Pt, 0, none⟩), .int .i64 (n : Int)] 114)) := HB2.out.alloc HB2.out.size _
    have hc3 := K.Chg.of_below (O := fun _ => False) hb3
    have hca := chg_alloc w2 (.cells #[.pointer (some ⟨M, 0, none⟩), .pointer (some ⟨C, 0, none⟩), .pointer (some ⟨Pt, 0, none⟩), .int .i64 (n : Int)] 114) (fun _ => False)
    obtain ⟨a1, a2, a3⟩ := HA.out
    obtain ⟨p1, p2, p3⟩ := HP.out
    have hz1 := HB1.out.size
    have hz2 := HB2.out.size
    have hM := HMD.out.lt
    have hMt : w1.drew.heap.size ≤ Mt := by
      rcases p3 with p3 | p3
      · cases p3
      · exact p3.2
    have hb4 : Below w.heap.size w (w2.alloc (.cells #[.pointer (some ⟨M, 0, none⟩), .pointer (some ⟨C, 0, none⟩), .pointer (some ⟨Pt, 0, none⟩), .int .i64 (n : Int)] 114)) := HB1.out.trans (hb3.mono hz1)
    refine ⟨w2.heap.size, 0, _, rfl, ⟨C, Q, M, Pt, [], [], ⟨⟨sd, none, 0, none, 0, [], [], Qt, Mt, 8, 0, ⟨K.alloc_top _ _, HMD.out.chg hc3 (fun h => h), HD.out.chg hc3 (fun _ _ h => h), HT.out.but (ButS.of_chg hca) (fun _ _ h => h), by omega⟩, rfl⟩, X.TE.zero, rfl, List.Pairwise.nil, rfl, Nat.zero_le _, HNN.out, by omega⟩⟩, hb4, fun j hj => ?_⟩
    rcases hj with h | h | (h | h | h | h) | (h | h | h)
    · omega
    · omega
    · omega
    · omega
    · cases h
    · cases h
    · omega
    · omega
    · omega
end Go.Proofs.YtelfacchhclgnaaGreat
end
