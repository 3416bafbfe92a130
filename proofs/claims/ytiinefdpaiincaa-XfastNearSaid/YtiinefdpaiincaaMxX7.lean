/- The link beside a key that isn't there; the texts walked. -/
import Derived.Test.YtiinefdpaiincaaMxX6
namespace Go.Proofs.Ytiinefdpaiincaa
open Go.RowKit
section
variable {w w' : World} {Xb C Q M P lim tk : Nat} {L L1 L2 : LL} {es : Es} {O : Nat → Prop} {n k : Nat}
theorem XT.places (h : XT w Xb C Q M P lim tk L es O) : ∀ x ∈ L, x.1 < 1048576 := by
  obtain ⟨_, An, cn, Af, cf, ns, fs, _, _, _, _, hb, rfl⟩ := h
  intro x hx
  obtain ⟨nd, h1, _⟩ := seg_live hb.ch.seg hx
  have h2 := (List.getElem?_eq_some_iff.1 h1).1
  have h3 := hb.ch.po.ns_le
  have h4 := hb.ch.po.lim_le
  omega
theorem XT.nod (h : XT w Xb C Q M P lim tk L es O) : (L.map (·.1)).Nodup := by
  obtain ⟨_, An, cn, Af, cf, ns, fs, _, _, _, _, hb, rfl⟩ := h
  exact hb.ch.nod
theorem XT.keys (h : XT w Xb C Q M P lim tk L es O) : ∀ x ∈ L, x.2 < 18446744073709551616 := by
  obtain ⟨_, An, cn, Af, cf, ns, fs, _, _, _, _, hb, rfl⟩ := h
  exact hb.ch.keys
theorem XT.prev (h : XT w Xb C Q M P lim tk (L1 ++ (n, k) :: L2) es O) (htk : tk < 1000000) :
    Calls Try.prog 70 #[.pointer (some ⟨C, 0, none⟩), .int .i64 (n : Int)] w fun e w' => e = .returned (.int .i64 (lst (-1) L1)) ∧ Mx w' M (tk + 1) ∧ K.Chg w w' (· = M) := by
  obtain ⟨_, An, cn, Af, cf, ns, fs, _, _, _, _, hb, rfl⟩ := h
  obtain ⟨hn, hx⟩ := hb.ch.at rfl
  exact c_prev_yes w C Q M lim cn cf _ _ An Af ns fs hb.ch.cb hb.ch.po n hn k _ _ hx tk hb.mx htk
theorem XT.next (h : XT w Xb C Q M P lim tk (L1 ++ (n, k) :: L2) es O) (htk : tk < 1000000) :
    Calls Try.prog 67 #[.pointer (some ⟨C, 0, none⟩), .int .i64 (n : Int)] w fun e w' => e = .returned (.int .i64 (hd L2 (-1))) ∧ Mx w' M (tk + 1) ∧ K.Chg w w' (· = M) := by
  obtain ⟨_, An, cn, Af, cf, ns, fs, _, _, _, _, hb, rfl⟩ := h
  obtain ⟨hn, hx⟩ := hb.ch.at rfl
  exact c_next_yes w C Q M lim cn cf _ _ An Af ns fs hb.ch.cb hb.ch.po n hn k _ _ hx tk hb.mx htk
theorem XT.key (h : XT w Xb C Q M P lim tk (L1 ++ (n, k) :: L2) es O) (htk : tk < 1000000) :
    Calls Try.prog 52 #[.pointer (some ⟨C, 0, none⟩), .int .i64 (n : Int)] w fun e w' => e = .returned (.tuple #[.int .u64 (k : Int), .bool true]) ∧ Mx w' M (tk + 1) ∧ K.Chg w w' (· = M) := by
  obtain ⟨_, An, cn, Af, cf, ns, fs, _, _, _, _, hb, rfl⟩ := h
  obtain ⟨hn, hx⟩ := hb.ch.at rfl
  exact c_key_yes w C Q M lim cn cf _ _ An Af ns fs hb.ch.cb hb.ch.po n hn k _ _ hx tk hb.mx htk
theorem XT.key_no (h : XT w Xb C Q M P lim tk L es O) : Calls Try.prog 52 #[.pointer (some ⟨C, 0, none⟩), .int .i64 (-1)] w fun e w' => e = .returned (.tuple #[.int .u64 0, .bool false]) ∧ Below w.heap.size w w' := by
  obtain ⟨_, An, cn, Af, cf, ns, fs, _, _, _, _, hb, rfl⟩ := h
  exact c_key_no w C Q M lim cn cf _ _ An Af ns fs hb.ch.cb hb.ch.po (-1) (lvq_neg (by decide))
theorem XR.met (h : XT w Xb C Q M P lim tk L es O) {tk' : Nat} (b : K.Chg w w' (· = M)) (hm : Mx w' M tk') : XR w O Xb C Q M P lim tk' L es w' :=
  ⟨O, h.met b hm, b.mono (fun j e => by have e2 : j = M := e; subst e2; exact h.mx.2), fun j hj => .inl hj⟩
end
namespace X
/-- Links ahead of a key, links behind it. -/
theorem first_of {L2 : LL} {b : Int} (h : L2 ≠ []) : ∃ (n k : Nat) (L : LL), L2 = (n, k) :: L ∧ hd L2 b = (n : Int) := by
  cases L2 with
  | nil => exact absurd rfl h
  | cons x L => exact ⟨x.1, x.2, L, rfl, rfl⟩
theorem last_of {L1 : LL} {a : Int} (h : L1 ≠ []) : ∃ (n k : Nat) (L : LL), L1 = L ++ [(n, k)] ∧ lst a L1 = (n : Int) := by
  rcases List.eq_nil_or_concat L1 with rfl | ⟨L, x, rfl⟩
  · exact absurd rfl h
  · refine ⟨x.1, x.2, L, by rw [List.concat_eq_append], ?_⟩
    rw [List.concat_eq_append, lst_app]
    rfl
end X
set_option maxHeartbeats 1000000 in
theorem x_at_below (w : World) (Xb C Q M P lim tk : Nat) (L1 L2 : LL) (es : Es) (O : Nat → Prop) (h : XT w Xb C Q M P lim tk (L1 ++ L2) es O) (htk : tk < 900000) (k : Nat) (hr : X.Rises (L1 ++ L2)) (h1 : ∀ x ∈ L1, x.2 < k) (h2 : ∀ x ∈ L2, k < x.2) (hk : k < 18446744073709551616) :
    Calls Try.prog 49 #[.pointer (some ⟨Xb, 0, none⟩), .int .u64 (k : Int), spv ((X.sc (L1 ++ L2) k : Int) - 1) (X.fst' (X.spl (L1 ++ L2) k (X.sc (L1 ++ L2) k))) (X.lst' (X.spl (L1 ++ L2) k (X.sc (L1 ++ L2) k)))] w fun e w' => e = .returned (.int .i64 (lst (-1) L1)) ∧ ∃ t, t ≤ 1 ∧ XR w O Xb C Q M P lim (tk + t) (L1 ++ L2) es w' := by
  have hc65 := X.sc_le (L1 ++ L2) k
  have hno : X.sc (L1 ++ L2) k ≠ 65 := fun e => by
    obtain ⟨x, hx, e2⟩ := X.sc_all.1 e
    rcases List.mem_append.1 hx with h | h
    · have := h1 x h; omega
    · have := h2 x h; omega
  have hz := X.sc_zero (L := L1 ++ L2) (k := k) h.keys hk
  have hlt := h.lt
  rcases Nat.eq_zero_or_pos (X.sc (L1 ++ L2) k) with hc0 | hc0
  · have hL := hz.1 hc0
    have hL1 : L1 = [] := (List.append_eq_nil_iff.1 hL).1
    have hL2 : L2 = [] := (List.append_eq_nil_iff.1 hL).2
    subst hL1 hL2
    rw [hc0]
    have hw : lst (-1) ([] : LL) = -1 := rfl
    rw [hw]
    have H := Lib.hid h
    have HLT := Lib.hid hlt
    clear h hlt hz hw
    generalize X.fst' (X.spl ([] ++ []) k 0) = e1 at *
    generalize X.lst' (X.spl ([] ++ []) k 0) = e2 at *
    obtain ⟨s, hs⟩ : ∃ s : Int, ((0 : Nat) : Int) - 1 = s := ⟨_, rfl⟩
    have g0 : (s == -1) = true := by rw [beq_iff_eq]; omega
    rw [hs]
    clear hs
    go_enter Try.func49, Try.ntmps49
    go_wp2
    go_ret
    have ha := chg_alloc w (spo s e1 e2) (fun _ => False)
    exact ⟨rfl, 0, by omega, O, H.out.chg ha (fun _ _ h => h), ha.mono (fun _ h => h.elim), fun j hj => .inl hj⟩
  · obtain ⟨s, hs⟩ : ∃ s, X.sc (L1 ++ L2) k = s + 1 := ⟨X.sc (L1 ++ L2) k - 1, by omega⟩
    obtain ⟨n0, n1⟩ := X.near_cases hr h1 h2 hs (by omega)
    have hsp : X.spl (L1 ++ L2) k (X.sc (L1 ++ L2) k) = X.sg (L1 ++ L2) s (X.pf s k) := by rw [hs]; unfold X.spl; rw [if_neg (by omega), Nat.add_sub_cancel]
    have hsi : (X.sc (L1 ++ L2) k : Int) - 1 = (s : Int) := by omega
    rw [hsp, hsi]
    have hs63 : s ≤ 63 := by omega
    generalize hf1 : X.fst' (X.sg (L1 ++ L2) s (X.pf s k)) = e1 at *
    generalize hf2 : X.lst' (X.sg (L1 ++ L2) s (X.pf s k)) = e2 at *
    have g0 : ((s : Int) == -1) = false := by rw [beq_eq_false_iff_ne]; omega
    have hal := Lib.hid (fun W => x_above W s e1 e2 k hs63)
    have hrow := Lib.hid (K.alloc_top w (spo (s : Int) e1 e2))
    have HLT := Lib.hid hlt
    have ha := chg_alloc w (spo (s : Int) e1 e2) (fun _ => False)
    have h0 := h.chg ha (fun _ _ h => h)
    have H0 := Lib.hid h0
    have HA := Lib.hid ha
    clear hc65 hno hz hc0 hs hsp hsi hlt h hr h1 h2 ha h0 hf1 hf2
    by_cases hev : X.pf (s + 1) k % 2 = 0
    · obtain ⟨hne, hfe⟩ := n0 hev
      rw [decide_eq_true hev] at hal
      clear n0 n1 hev
      obtain ⟨n, k', LL, rfl, he⟩ := X.first_of (b := -1) hne
      have hen : e1 = n := by omega
      subst hen
      clear hfe he hne
      go_enter Try.func49, Try.ntmps49
      go_wp2_with (go_at_call 69; (with_reducible refine (hal.out _).mono ?_); rintro e w1 ⟨rfl, hb1⟩
                   have h1 := H0.out.chg (K.Chg.of_below (O := fun _ => False) hb1) (fun _ _ h => h)
                   have z5 := (hb1.block w.heap.size (row_lt hrow.out)).trans hrow.out
                   obtain ⟨k0, k1, k2⟩ := spo_cells z5
                   have hd1 : XT w1.drew Xb C Q M P lim tk _ es O := h1.chg ((chg_refl w1 (fun _ => False)).drewN 1) (fun _ _ h => h)
                   have HS1 : Hid (w1.drew.cell? ⟨Xb, 1, none⟩ = some (.pointer (some ⟨C, 0, none⟩)) ∧ w1.drew.cell? ⟨w.heap.size, 1, none⟩ = some (.int .i64 (e1 : Int))) := Lib.hid ⟨hd1.c1, k1⟩
                   have H1 := Lib.hid h1
                   have HD1 := Lib.hid hd1
                   have HB1 := Lib.hid hb1
                   have Z5 := Lib.hid z5
                   clear hb1 h1 z5 hd1)
      have HP := Lib.hid (XT.prev (w := w1.drew) (Xb := Xb) (C := C) (Q := Q) (M := M) (P := P) (lim := lim) (tk := tk) (es := es) (O := O) (L1 := L1) (L2 := LL) (n := e1) (k := k') (HD1.out) (by omega))
      go_region_held3 (fun Y => Y.cell? ⟨Xb, 1, none⟩ = some (.pointer (some ⟨C, 0, none⟩)) ∧ Y.cell? ⟨w.heap.size, 1, none⟩ = some (.int .i64 (e1 : Int))) (first | (with_reducible exact HS1.out) | (with_reducible exact HS2.out) | go_keep)
        ((go_at_call 70; (with_reducible refine HP.out.mono ?_); rintro e w2 ⟨rfl, hm2, hc2⟩
          have h2 := XR.met HD1.out hc2 hm2
          have hMl := HLT.out M HD1.out.mx.2
          have hs1 : w.heap.size < w1.drew.heap.size := row_lt Z5.out
          have z2 := (hc2.cell hs1 (fun e => by have e3 : w.heap.size = M := e; omega) 1).trans HS1.out.2
          have HS2 : Hid (w2.cell? ⟨Xb, 1, none⟩ = some (.pointer (some ⟨C, 0, none⟩)) ∧ w2.cell? ⟨w.heap.size, 1, none⟩ = some (.int .i64 (e1 : Int))) := Lib.hid ⟨(by obtain ⟨_, hT, _⟩ := h2; exact hT.c1), z2⟩
          have HR2 := Lib.hid h2
          clear h2 hm2 hc2 hMl hs1 z2))
      all_goals
        go_wp2
        go_ret
        refine ⟨rfl, 1, Nat.le_refl _, ?_⟩
        obtain ⟨O2, r1, r2, r3⟩ := HR2.out
        have c1 : K.Chg w w1.drew O := ((HA.out.mono (O' := O) (fun _ h => h.elim)).same (K.Chg.of_below HB1.out)).drewN 1
        exact ⟨O2, r1, c1.same r2, fun j hj => (r3 j hj).imp id (fun h => Nat.le_trans c1.size h)⟩
    · obtain ⟨hne, hfe⟩ := n1 hev
      rw [decide_eq_false hev] at hal
      clear n0 n1 hev
      have HF := Lib.hid hfe
      clear hfe hne
      go_enter Try.func49, Try.ntmps49
      go_wp2_with (go_at_call 69; (with_reducible refine (hal.out _).mono ?_); rintro e w1 ⟨rfl, hb1⟩
                   have h1 := H0.out.chg (K.Chg.of_below (O := fun _ => False) hb1) (fun _ _ h => h)
                   have z5 := (hb1.block w.heap.size (row_lt hrow.out)).trans hrow.out
                   obtain ⟨k0, k1, k2⟩ := spo_cells z5
                   have hd1 : XT w1.drew Xb C Q M P lim tk _ es O := h1.chg ((chg_refl w1 (fun _ => False)).drewN 1) (fun _ _ h => h)
                   have HS1 : Hid (w1.drew.cell? ⟨Xb, 1, none⟩ = some (.pointer (some ⟨C, 0, none⟩)) ∧ w1.drew.cell? ⟨w.heap.size, 2, none⟩ = some (.int .i64 (e2 : Int))) := Lib.hid ⟨hd1.c1, k2⟩
                   have H1 := Lib.hid h1
                   have HD1 := Lib.hid hd1
                   have HB1 := Lib.hid hb1
                   have Z5 := Lib.hid z5
                   clear hb1 h1 z5 hd1)
      go_wp2
      go_ret
      have c1 : K.Chg w w1 O := (HA.out.mono (O' := O) (fun _ h => h.elim)).same (K.Chg.of_below HB1.out)
      exact ⟨by rw [← HF.out]; rfl, 0, by omega, O, H1.out, c1, fun j hj => .inl hj⟩
set_option maxHeartbeats 1000000 in
theorem x_at_above (w : World) (Xb C Q M P lim tk : Nat) (L1 L2 : LL) (es : Es) (O : Nat → Prop) (h : XT w Xb C Q M P lim tk (L1 ++ L2) es O) (htk : tk < 900000) (k : Nat) (hr : X.Rises (L1 ++ L2)) (h1 : ∀ x ∈ L1, x.2 < k) (h2 : ∀ x ∈ L2, k < x.2) (hk : k < 18446744073709551616) :
    Calls Try.prog 56 #[.pointer (some ⟨Xb, 0, none⟩), .int .u64 (k : Int), spv ((X.sc (L1 ++ L2) k : Int) - 1) (X.fst' (X.spl (L1 ++ L2) k (X.sc (L1 ++ L2) k))) (X.lst' (X.spl (L1 ++ L2) k (X.sc (L1 ++ L2) k)))] w fun e w' => e = .returned (.int .i64 (hd L2 (-1))) ∧ ∃ t, t ≤ 1 ∧ XR w O Xb C Q M P lim (tk + t) (L1 ++ L2) es w' := by
  have hc65 := X.sc_le (L1 ++ L2) k
  have hno : X.sc (L1 ++ L2) k ≠ 65 := fun e => by
    obtain ⟨x, hx, e2⟩ := X.sc_all.1 e
    rcases List.mem_append.1 hx with h | h
    · have := h1 x h; omega
    · have := h2 x h; omega
  have hz := X.sc_zero (L := L1 ++ L2) (k := k) h.keys hk
  have hlt := h.lt
  rcases Nat.eq_zero_or_pos (X.sc (L1 ++ L2) k) with hc0 | hc0
  · have hL := hz.1 hc0
    have hL1 : L1 = [] := (List.append_eq_nil_iff.1 hL).1
    have hL2 : L2 = [] := (List.append_eq_nil_iff.1 hL).2
    subst hL1 hL2
    rw [hc0]
    have hw : hd ([] : LL) (-1) = -1 := rfl
    rw [hw]
    have H := Lib.hid h
    have HLT := Lib.hid hlt
    clear h hlt hz hw
    generalize X.fst' (X.spl ([] ++ []) k 0) = e1 at *
    generalize X.lst' (X.spl ([] ++ []) k 0) = e2 at *
    obtain ⟨s, hs⟩ : ∃ s : Int, ((0 : Nat) : Int) - 1 = s := ⟨_, rfl⟩
    have g0 : (s == -1) = true := by rw [beq_iff_eq]; omega
    rw [hs]
    clear hs
    go_enter Try.func56, Try.ntmps56
    go_wp2
    go_ret
    have ha := chg_alloc w (spo s e1 e2) (fun _ => False)
    exact ⟨rfl, 0, by omega, O, H.out.chg ha (fun _ _ h => h), ha.mono (fun _ h => h.elim), fun j hj => .inl hj⟩
  · obtain ⟨s, hs⟩ : ∃ s, X.sc (L1 ++ L2) k = s + 1 := ⟨X.sc (L1 ++ L2) k - 1, by omega⟩
    obtain ⟨n0, n1⟩ := X.near_cases hr h1 h2 hs (by omega)
    have hsp : X.spl (L1 ++ L2) k (X.sc (L1 ++ L2) k) = X.sg (L1 ++ L2) s (X.pf s k) := by rw [hs]; unfold X.spl; rw [if_neg (by omega), Nat.add_sub_cancel]
    have hsi : (X.sc (L1 ++ L2) k : Int) - 1 = (s : Int) := by omega
    rw [hsp, hsi]
    have hs63 : s ≤ 63 := by omega
    generalize hf1 : X.fst' (X.sg (L1 ++ L2) s (X.pf s k)) = e1 at *
    generalize hf2 : X.lst' (X.sg (L1 ++ L2) s (X.pf s k)) = e2 at *
    have g0 : ((s : Int) == -1) = false := by rw [beq_eq_false_iff_ne]; omega
    have hal := Lib.hid (fun W => x_above W s e1 e2 k hs63)
    have hrow := Lib.hid (K.alloc_top w (spo (s : Int) e1 e2))
    have HLT := Lib.hid hlt
    have ha := chg_alloc w (spo (s : Int) e1 e2) (fun _ => False)
    have h0 := h.chg ha (fun _ _ h => h)
    have H0 := Lib.hid h0
    have HA := Lib.hid ha
    clear hc65 hno hz hc0 hs hsp hsi hlt h hr h1 h2 ha h0 hf1 hf2
    by_cases hev : X.pf (s + 1) k % 2 = 0
    · obtain ⟨hne, hfe⟩ := n0 hev
      rw [decide_eq_true hev] at hal
      clear n0 n1 hev
      have HF := Lib.hid hfe
      clear hfe hne
      go_enter Try.func56, Try.ntmps56
      go_wp2_with (go_at_call 69; (with_reducible refine (hal.out _).mono ?_); rintro e w1 ⟨rfl, hb1⟩
                   have h1 := H0.out.chg (K.Chg.of_below (O := fun _ => False) hb1) (fun _ _ h => h)
                   have z5 := (hb1.block w.heap.size (row_lt hrow.out)).trans hrow.out
                   obtain ⟨k0, k1, k2⟩ := spo_cells z5
                   have hd1 : XT w1.drew Xb C Q M P lim tk _ es O := h1.chg ((chg_refl w1 (fun _ => False)).drewN 1) (fun _ _ h => h)
                   have HS1 : Hid (w1.drew.cell? ⟨Xb, 1, none⟩ = some (.pointer (some ⟨C, 0, none⟩)) ∧ w1.drew.cell? ⟨w.heap.size, 1, none⟩ = some (.int .i64 (e1 : Int))) := Lib.hid ⟨hd1.c1, k1⟩
                   have H1 := Lib.hid h1
                   have HD1 := Lib.hid hd1
                   have HB1 := Lib.hid hb1
                   have Z5 := Lib.hid z5
                   clear hb1 h1 z5 hd1)
      go_wp2
      go_ret
      have c1 : K.Chg w w1 O := (HA.out.mono (O' := O) (fun _ h => h.elim)).same (K.Chg.of_below HB1.out)
      exact ⟨by rw [← HF.out]; rfl, 0, by omega, O, H1.out, c1, fun j hj => .inl hj⟩
    · obtain ⟨hne, hfe⟩ := n1 hev
      rw [decide_eq_false hev] at hal
      clear n0 n1 hev
      obtain ⟨n, k', LL, rfl, he⟩ := X.last_of (a := -1) hne
      have hen : e2 = n := by omega
      subst hen
      clear hfe he hne
      go_enter Try.func56, Try.ntmps56
      go_wp2_with (go_at_call 69; (with_reducible refine (hal.out _).mono ?_); rintro e w1 ⟨rfl, hb1⟩
                   have h1 := H0.out.chg (K.Chg.of_below (O := fun _ => False) hb1) (fun _ _ h => h)
                   have z5 := (hb1.block w.heap.size (row_lt hrow.out)).trans hrow.out
                   obtain ⟨k0, k1, k2⟩ := spo_cells z5
                   have hd1 : XT w1.drew Xb C Q M P lim tk _ es O := h1.chg ((chg_refl w1 (fun _ => False)).drewN 1) (fun _ _ h => h)
                   have HS1 : Hid (w1.drew.cell? ⟨Xb, 1, none⟩ = some (.pointer (some ⟨C, 0, none⟩)) ∧ w1.drew.cell? ⟨w.heap.size, 2, none⟩ = some (.int .i64 (e2 : Int))) := Lib.hid ⟨hd1.c1, k2⟩
                   have H1 := Lib.hid h1
                   have HD1 := Lib.hid hd1
                   have HB1 := Lib.hid hb1
                   have Z5 := Lib.hid z5
                   clear hb1 h1 z5 hd1)
      have HP := Lib.hid (XT.next (w := w1.drew) (Xb := Xb) (C := C) (Q := Q) (M := M) (P := P) (lim := lim) (tk := tk) (es := es) (O := O) (L1 := LL) (L2 := L2) (n := e2) (k := k') (by have q := HD1.out; rw [List.append_assoc] at q; exact q) (by omega))
      go_region_held3 (fun Y => Y.cell? ⟨Xb, 1, none⟩ = some (.pointer (some ⟨C, 0, none⟩)) ∧ Y.cell? ⟨w.heap.size, 2, none⟩ = some (.int .i64 (e2 : Int))) (first | (with_reducible exact HS1.out) | (with_reducible exact HS2.out) | go_keep)
        ((go_at_call 67; (with_reducible refine HP.out.mono ?_); rintro e w2 ⟨rfl, hm2, hc2⟩
          have h2 := XR.met HD1.out hc2 hm2
          have hMl := HLT.out M HD1.out.mx.2
          have hs1 : w.heap.size < w1.drew.heap.size := row_lt Z5.out
          have z2 := (hc2.cell hs1 (fun e => by have e3 : w.heap.size = M := e; omega) 2).trans HS1.out.2
          have HS2 : Hid (w2.cell? ⟨Xb, 1, none⟩ = some (.pointer (some ⟨C, 0, none⟩)) ∧ w2.cell? ⟨w.heap.size, 2, none⟩ = some (.int .i64 (e2 : Int))) := Lib.hid ⟨(by obtain ⟨_, hT, _⟩ := h2; exact hT.c1), z2⟩
          have HR2 := Lib.hid h2
          clear h2 hm2 hc2 hMl hs1 z2))
      all_goals
        go_wp2
        go_ret
        refine ⟨rfl, 1, Nat.le_refl _, ?_⟩
        obtain ⟨O2, r1, r2, r3⟩ := HR2.out
        have c1 : K.Chg w w1.drew O := ((HA.out.mono (O' := O) (fun _ h => h.elim)).same (K.Chg.of_below HB1.out)).drewN 1
        exact ⟨O2, r1, c1.same r2, fun j hj => (r3 j hj).imp id (fun h => Nat.le_trans c1.size h)⟩
end Go.Proofs.Ytiinefdpaiincaa
