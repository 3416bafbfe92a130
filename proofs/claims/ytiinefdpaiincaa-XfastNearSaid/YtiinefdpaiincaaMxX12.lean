/- A trie as a set of keys by its methods: has, least, greatest, how many, how much is used, the limit; the texts walked. -/
import Derived.Test.YtiinefdpaiincaaMxX11
import Derived.Test.YtiinefdpaiincaaMxK22x
namespace Go.Proofs.Ytiinefdpaiincaa
open Go.RowKit
structure XS (w : World) (Xb C Q M P lim tk : Nat) (xs : List Nat) (L : LL) (es : Es) (O : Nat → Prop) : Prop where
  xt : XT w Xb C Q M P lim tk L es O
  te : X.TE 0 L L es
  ks : L.map (·.2) = xs
  up : K.Up xs
  cnt : es.length + L.length = K.xfast xs
  le : K.xfast xs ≤ lim
  max : lim ≤ 500000
  few : tk ≤ 100
def XZ (w : World) (Xb : Nat) (xs : List Nat) (lim tk : Nat) (O : Nat → Prop) : Prop := ∃ C Q M P L es, XS w Xb C Q M P lim tk xs L es O
section
variable {w w' w1 w2 : World} {Xb C Q M P lim tk tk' most : Nat} {xs : List Nat} {L : LL} {es : Es} {O : Nat → Prop} {v : Value} {e : Ending}
theorem XS.keys (h : XS w Xb C Q M P lim tk xs L es O) : ∀ x ∈ xs, x < 18446744073709551616 := by
  rw [← h.ks]
  intro x hx
  obtain ⟨y, hy, rfl⟩ := List.mem_map.1 hx
  exact h.xt.keys y hy
theorem XS.rises (h : XS w Xb C Q M P lim tk xs L es O) : X.Rises L := X.rises_up h.ks h.up
theorem XS.done (h : XS w Xb C Q M P lim tk xs L es O) (hr : XR w O Xb C Q M P lim tk' L es w') (ht : tk' ≤ most) (h2 : tk' ≤ 100) (he : e = .returned v) : TOp XZ w Xb O v xs lim most e w' := by
  obtain ⟨O', h1, hc, hi⟩ := hr
  exact ⟨tk', O', he, ⟨C, Q, M, P, L, es, h1, h.te, h.ks, h.up, h.cnt, h.le, h.max, h2⟩, ht, hc, hi⟩
theorem XR.more (h : XR w O Xb C Q M P lim tk L es w1) (b : Below w1.heap.size w1 w2) : XR w O Xb C Q M P lim tk L es w2 := by
  obtain ⟨O', h1, h2, h3⟩ := h
  exact ⟨O', h1.chg (K.Chg.of_below (O := fun _ => False) b) (fun _ _ h => h), h2.same (K.Chg.of_below b), h3⟩
theorem XR.drew (h : XR w O Xb C Q M P lim tk L es w1) (n : Nat) : XR w O Xb C Q M P lim tk L es (w1.drewN n) := by
  obtain ⟨O', h1, h2, h3⟩ := h
  exact ⟨O', h1.chg ((chg_refl w1 (fun _ => False)).drewN n) (fun _ _ h => h), h2.drewN n, h3⟩
theorem XT.start (h : XT w Xb C Q M P lim tk L es O) : Calls Try.prog 44 #[.pointer (some ⟨M, 0, none⟩)] w fun e w' => e = .returned (.tuple #[]) ∧ XR w O Xb C Q M P lim 0 L es w' := by
  refine (x_start w M tk h.mx.1).mono ?_
  rintro e w' ⟨rfl, hm, hc⟩
  exact ⟨rfl, XR.met h hc hm⟩
theorem XT.first (h : XT w Xb C Q M P lim tk L es O) : Calls Try.prog 53 #[.pointer (some ⟨C, 0, none⟩)] w fun e w' => e = .returned (.int .i64 (hd L (-1))) ∧ w = w' := by
  obtain ⟨_, An, cn, Af, cf, ns, fs, _, _, _, _, hb, rfl⟩ := h
  exact c_first w C Q M _ _ hb.ch.cb
theorem XT.last (h : XT w Xb C Q M P lim tk L es O) : Calls Try.prog 54 #[.pointer (some ⟨C, 0, none⟩)] w fun e w' => e = .returned (.int .i64 (lst (-1) L)) ∧ w = w' := by
  obtain ⟨_, An, cn, Af, cf, ns, fs, _, _, _, _, hb, rfl⟩ := h
  exact c_last w C Q M _ _ hb.ch.cb
theorem XT.clen (h : XT w Xb C Q M P lim tk L es O) : Calls Try.prog 42 #[.pointer (some ⟨C, 0, none⟩)] w fun e w' => e = .returned (.int .i64 (L.length : Int)) ∧ ∃ n, w' = w.drewN n := by
  obtain ⟨_, An, cn, Af, cf, ns, fs, _, _, _, _, hb, rfl⟩ := h
  exact c_len w C Q M lim cn cf An Af ns fs L hb.ch
theorem XT.tlen (h : XT w Xb C Q M P lim tk L es O) : Calls Try.prog 41 #[.pointer (some ⟨P, 0, none⟩)] w fun e w' => e = .returned (.int .i64 (es.length : Int)) ∧ w = w' := by
  obtain ⟨_, An, cn, Af, cf, ns, fs, _, _, _, _, hb, rfl⟩ := h
  exact Hs.tab_len w P _ _ _ _ _ _ es hb.tab
/-- A link's key, there or not. -/
theorem XT.key_at (h : XT w Xb C Q M P lim tk L es O) (htk : tk < 1000000) (i : Int) (q : Nat) (b : Bool) (hi : (i = -1 ∧ q = 0 ∧ b = false) ∨ ∃ (n : Nat) (L1 L2 : LL), L = L1 ++ (n, q) :: L2 ∧ i = (n : Int) ∧ b = true) :
    Calls Try.prog 52 #[.pointer (some ⟨C, 0, none⟩), .int .i64 i] w fun e w' => e = .returned (.tuple #[.int .u64 (q : Int), .bool b]) ∧ ∃ t, t ≤ 1 ∧ XR w O Xb C Q M P lim (tk + t) L es w' := by
  rcases hi with ⟨rfl, rfl, rfl⟩ | ⟨n, L1, L2, rfl, rfl, rfl⟩
  · refine h.key_no.mono ?_
    rintro e w' ⟨rfl, hb⟩
    exact ⟨rfl, 0, by omega, (XR.refl h).more hb⟩
  · refine (h.key htk).mono ?_
    rintro e w' ⟨rfl, hm, hc⟩
    exact ⟨rfl, 1, by omega, XR.met h hc hm⟩
end
theorem x_prefix_all (w : World) (k : Nat) : Calls Try.prog 50 #[.int .u64 (k : Int), .int .i64 64] w fun e w' => e = .returned (kyv 64 (X.pf 64 k)) ∧ Below w.heap.size w w' := x_prefix w k 64 (by omega)
theorem below_draws (w : World) (n : Nat) : Below w.heap.size w (w.drewN n) := ⟨rfl, rfl, rfl, Nat.le_refl _, fun _ _ => rfl⟩
section
variable (w : World) (Xb C Q M P lim tk : Nat) (xs : List Nat) (L : LL) (es : Es) (O : Nat → Prop) (h : XS w Xb C Q M P lim tk xs L es O)
include h
set_option maxHeartbeats 1000000 in
theorem x_has (k : Nat) : Calls Try.prog 24 #[.pointer (some ⟨Xb, 0, none⟩), .int .u64 (k : Int)] w (TOp XZ w Xb O (.bool (K.fo xs k)) xs lim 1) := by
  have H := Lib.hid h
  have hst := Lib.hid h.xt.start
  have c0 := h.xt.c0
  have hpre := fun W => Lib.hid (x_prefix_all W k)
  have hte := X.tells_of h.te (l := 64) (p := X.pf 64 k) (Nat.le_refl _) (S := X.sg L 64 (X.pf 64 k)) (by simp)
  rw [X.fo_sg h.ks h.up] at hte
  have ha1 := X.fst_lt h.xt.places 64 (X.pf 64 k)
  have ha2 := X.lst_lt h.xt.places 64 (X.pf 64 k)
  have hask := fun W O' (hW : XT W Xb C Q M P lim 0 L es O') => Lib.hid (x_ask W Xb C Q M P lim 0 L es O' hW (by omega) 64 (X.pf 64 k) _ _ _ (by omega) hte ha1 ha2)
  generalize K.fo xs k = r at *
  generalize X.fst' (X.sg L 64 (X.pf 64 k)) = e1 at *
  generalize X.lst' (X.sg L 64 (X.pf 64 k)) = e2 at *
  generalize X.pf 64 k = q at *
  clear h hte ha1 ha2
  go_enter Try.func24, Try.ntmps24
  go_wp2_with (first
    | (go_at_call 44; (with_reducible refine hst.out.mono ?_); rintro e w1 ⟨rfl, hx1⟩
       have HX1 := Lib.hid hx1
       clear hx1)
    | (go_at_call 50; (with_reducible refine (hpre _).out.mono ?_); rintro e w2 ⟨rfl, hb2⟩
       obtain ⟨O2, hT2, hC2, hI2⟩ := HX1.out.more hb2
       have HA := Lib.hid ((hask _ _ hT2).out)
       have HC2 := Lib.hid hC2
       have HI2 := Lib.hid hI2
       clear hb2 hT2 hC2 hI2)
    | (go_at_call 46; (with_reducible refine HA.out.mono ?_); rintro e w3 ⟨rfl, hx3⟩
       have HX3 : Hid (XR w O Xb C Q M P lim (0 + 1) L es w3) := Lib.hid (XR.seq HC2.out HI2.out hx3)
       clear hx3))
  go_ret
  exact H.out.done (HX3.out.more ((Below.refl _ w3).alloc (Nat.le_refl _) _)) (by omega) (by omega) rfl
set_option maxHeartbeats 1000000 in
theorem x_min : Calls Try.prog 25 #[.pointer (some ⟨Xb, 0, none⟩)] w (TOp XZ w Xb O (.tuple #[.int .u64 ((K.nx xs 0) : Int), .bool (K.nxb xs 0)]) xs lim 1) := by
  have H := Lib.hid h
  have hst := Lib.hid h.xt.start
  have c0 := h.xt.c0
  have hi : ((hd L (-1)) = -1 ∧ (K.nx xs 0) = 0 ∧ K.nxb xs 0 = false) ∨ ∃ (n : Nat) (L1 L2 : LL), L = L1 ++ (n, (K.nx xs 0)) :: L2 ∧ (hd L (-1)) = (n : Int) ∧ K.nxb xs 0 = true := by
    rcases X.nx_zero h.ks with ⟨e, a, b⟩ | ⟨n, q, L2, e, a, b⟩
    · exact .inl ⟨by rw [e]; rfl, a, b⟩
    · refine .inr ⟨n, [], L2, by rw [e, a]; rfl, ?_, b⟩
      rw [e]
      rfl
  generalize (K.nx xs 0) = q at *
  generalize K.nxb xs 0 = b at *
  have hfi := Lib.hid (fun (W : World) t O' (hW : XT W Xb C Q M P lim t L es O') => hW.first)
  obtain ⟨i, hii⟩ : ∃ i, (hd L (-1)) = i := ⟨_, rfl⟩
  rw [hii] at hi hfi
  have hky := Lib.hid (fun (W : World) t O' (ht : t < 1000000) (hW : XT W Xb C Q M P lim t L es O') => hW.key_at ht i q b hi)
  clear h hi hii
  go_enter Try.func25, Try.ntmps25
  go_wp2_with (first
    | (go_at_call 44; (with_reducible refine hst.out.mono ?_); rintro e w1 ⟨rfl, hx1⟩
       have hd1 : XR w O Xb C Q M P lim 0 L es w1.drew := hx1.drew 1
       obtain ⟨O2, hT2, hC2, hI2⟩ := hd1
       have HS1 := Lib.hid hT2.c1
       have HF := Lib.hid (hfi.out _ _ _ hT2)
       have HK := Lib.hid (hky.out _ _ _ (by omega) hT2)
       have HC2 := Lib.hid hC2
       have HI2 := Lib.hid hI2
       clear hx1 hT2 hC2 hI2))
  go_region_held3 (fun Y => Y.cell? ⟨Xb, 1, none⟩ = some (.pointer (some ⟨C, 0, none⟩))) (first | (with_reducible exact HS1.out) | (with_reducible exact HS2.out) | go_keep) (first
    | (go_at_call 53; (with_reducible refine HF.out.mono ?_); rintro e w2 ⟨rfl, rfl⟩)
    | (go_at_call 52; (with_reducible refine HK.out.mono ?_); rintro e w3 ⟨rfl, t, ht, hx3⟩
       have HX3 : Hid (XR w O Xb C Q M P lim (0 + t) L es w3) := Lib.hid (XR.seq HC2.out HI2.out hx3)
       have HS2 : Hid (w3.cell? ⟨Xb, 1, none⟩ = some (.pointer (some ⟨C, 0, none⟩))) := Lib.hid (by obtain ⟨_, hT, _⟩ := hx3; exact hT.c1)
       clear hx3))
  all_goals
    go_wp2
    go_ret2
    exact H.out.done HX3.out (by omega) (by omega) rfl
set_option maxHeartbeats 1000000 in
theorem x_max : Calls Try.prog 26 #[.pointer (some ⟨Xb, 0, none⟩)] w (TOp XZ w Xb O (.tuple #[.int .u64 ((K.pv xs 18446744073709551615) : Int), .bool (K.pvb xs 18446744073709551615)]) xs lim 1) := by
  have H := Lib.hid h
  have hst := Lib.hid h.xt.start
  have c0 := h.xt.c0
  have hi : ((lst (-1) L) = -1 ∧ (K.pv xs 18446744073709551615) = 0 ∧ K.pvb xs 18446744073709551615 = false) ∨ ∃ (n : Nat) (L1 L2 : LL), L = L1 ++ (n, (K.pv xs 18446744073709551615)) :: L2 ∧ (lst (-1) L) = (n : Int) ∧ K.pvb xs 18446744073709551615 = true := by
    rcases X.pv_top h.ks h.up h.keys with ⟨e, a, b⟩ | ⟨n, q, L2, e, a, b⟩
    · exact .inl ⟨by rw [e]; rfl, a, b⟩
    · refine .inr ⟨n, L2, [], by rw [e, a], ?_, b⟩
      rw [e]
      rw [lst_app]; rfl
  generalize (K.pv xs 18446744073709551615) = q at *
  generalize K.pvb xs 18446744073709551615 = b at *
  have hfi := Lib.hid (fun (W : World) t O' (hW : XT W Xb C Q M P lim t L es O') => hW.last)
  obtain ⟨i, hii⟩ : ∃ i, (lst (-1) L) = i := ⟨_, rfl⟩
  rw [hii] at hi hfi
  have hky := Lib.hid (fun (W : World) t O' (ht : t < 1000000) (hW : XT W Xb C Q M P lim t L es O') => hW.key_at ht i q b hi)
  clear h hi hii
  go_enter Try.func26, Try.ntmps26
  go_wp2_with (first
    | (go_at_call 44; (with_reducible refine hst.out.mono ?_); rintro e w1 ⟨rfl, hx1⟩
       have hd1 : XR w O Xb C Q M P lim 0 L es w1.drew := hx1.drew 1
       obtain ⟨O2, hT2, hC2, hI2⟩ := hd1
       have HS1 := Lib.hid hT2.c1
       have HF := Lib.hid (hfi.out _ _ _ hT2)
       have HK := Lib.hid (hky.out _ _ _ (by omega) hT2)
       have HC2 := Lib.hid hC2
       have HI2 := Lib.hid hI2
       clear hx1 hT2 hC2 hI2))
  go_region_held3 (fun Y => Y.cell? ⟨Xb, 1, none⟩ = some (.pointer (some ⟨C, 0, none⟩))) (first | (with_reducible exact HS1.out) | (with_reducible exact HS2.out) | go_keep) (first
    | (go_at_call 54; (with_reducible refine HF.out.mono ?_); rintro e w2 ⟨rfl, rfl⟩)
    | (go_at_call 52; (with_reducible refine HK.out.mono ?_); rintro e w3 ⟨rfl, t, ht, hx3⟩
       have HX3 : Hid (XR w O Xb C Q M P lim (0 + t) L es w3) := Lib.hid (XR.seq HC2.out HI2.out hx3)
       have HS2 : Hid (w3.cell? ⟨Xb, 1, none⟩ = some (.pointer (some ⟨C, 0, none⟩))) := Lib.hid (by obtain ⟨_, hT, _⟩ := hx3; exact hT.c1)
       clear hx3))
  all_goals
    go_wp2
    go_ret2
    exact H.out.done HX3.out (by omega) (by omega) rfl
theorem x_len : Calls Try.prog 30 #[.pointer (some ⟨Xb, 0, none⟩)] w fun e w' => e = .returned (.int .i64 (xs.length : Int)) ∧ Below w.heap.size w w' := by
  have hl := Lib.hid h.xt.clen
  have c1 := h.xt.c1
  rw [X.len_map h.ks] at hl
  clear h
  go_enter Try.func30, Try.ntmps30
  go_wp2_with (go_at_call 42; (with_reducible refine hl.out.mono ?_); rintro e w1 ⟨rfl, n, rfl⟩)
  go_ret
  exact ⟨rfl, below_draws w n⟩
theorem x_limit : Calls Try.prog 18 #[.pointer (some ⟨Xb, 0, none⟩)] w fun e w' => e = .returned (.int .i64 (lim : Int)) ∧ Below w.heap.size w w' := by
  have c3 := h.xt.c3
  clear h
  go_enter Try.func18, Try.ntmps18
  go_wp2
  go_ret
  exact ⟨rfl, Below.refl _ w⟩
set_option maxHeartbeats 1000000 in
theorem x_used : Calls Try.prog 12 #[.pointer (some ⟨Xb, 0, none⟩)] w fun e w' => e = .returned (.int .i64 (K.xfast xs : Int)) ∧ Below w.heap.size w w' := by
  have hq := h.cnt
  have h1 := h.le
  have h2 := h.max
  have ws : IntKind.i64.wrap ((es.length : Int) + (L.length : Int)) = (K.xfast xs : Int) := by rw [IntWalk.i64_in _ (by omega)]; omega
  have hcl := Lib.hid (fun (W : World) O' (hW : XT W Xb C Q M P lim tk L es O') => hW.clen)
  have htl := Lib.hid (fun (W : World) O' (hW : XT W Xb C Q M P lim tk L es O') => hW.tlen)
  have HD := Lib.hid (fun n => h.xt.chg ((chg_refl w (fun _ => False)).drewN n) (fun _ _ h => h))
  have HS0 : Hid (w.drew.cell? ⟨Xb, 1, none⟩ = some (.pointer (some ⟨C, 0, none⟩)) ∧ w.drew.cell? ⟨Xb, 2, none⟩ = some (.pointer (some ⟨P, 0, none⟩))) := Lib.hid ⟨(HD.out 1).c1, (HD.out 1).c2⟩
  have HSN : Hid (∀ n, (w.drewN n).cell? ⟨Xb, 1, none⟩ = some (.pointer (some ⟨C, 0, none⟩)) ∧ (w.drewN n).cell? ⟨Xb, 2, none⟩ = some (.pointer (some ⟨P, 0, none⟩))) := Lib.hid (fun n => ⟨(HD.out n).c1, (HD.out n).c2⟩)
  have HTL0 := Lib.hid (htl.out w.drew O (HD.out 1))
  have HTLN := Lib.hid (fun n => htl.out (w.drewN n) O (HD.out n))
  have HCL := Lib.hid (hcl.out w.drew O (HD.out 1))
  clear h hq h1 h2
  go_enter Try.func12, Try.ntmps12
  go_wp2
  go_region_held3 (fun Y => Y.cell? ⟨Xb, 1, none⟩ = some (.pointer (some ⟨C, 0, none⟩)) ∧ Y.cell? ⟨Xb, 2, none⟩ = some (.pointer (some ⟨P, 0, none⟩))) (first | (with_reducible exact HS0.out) | (with_reducible exact HSN.out _) | go_keep) (first
    | (go_at_call 41; (with_reducible refine HTL0.out.mono ?_); rintro e w1 ⟨rfl, rfl⟩)
    | (go_at_call 41; (with_reducible refine (HTLN.out _).mono ?_); rintro e w1 ⟨rfl, rfl⟩)
    | (go_at_call 42; (with_reducible refine HCL.out.mono ?_); rintro e w1 ⟨rfl, n, rfl⟩))
  all_goals
    go_wp2
    go_ret
    exact ⟨rfl, below_draws w _⟩
end
end Go.Proofs.Ytiinefdpaiincaa
