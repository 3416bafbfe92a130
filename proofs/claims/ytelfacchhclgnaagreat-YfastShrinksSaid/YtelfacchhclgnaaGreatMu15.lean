/- The link beside a key that isn't there; the texts walked. A link comes or goes under a trie; one level is brought to it; the texts walked. -/
import Derived.Test.YtelfacchhclgnaaGreatMu14
section
namespace Go.Proofs.YtelfacchhclgnaaGreat
set_option maxRecDepth 20000
open Go.RowKit
set_option linter.unusedSectionVars false
variable [Gh]
section
variable {w w' : World} {Xb C Q M P lim tk : Nat} {L L1 L2 : LL} {es : Es} {O : Nat → Prop} {n k : Nat}
theorem XT.places (h : XT w Xb C Q M P lim tk L es O) : ∀ x ∈ L, x.1 < 1048576 := by
  obtain ⟨_, An, cn, Af, cf, ns, fs, _, _, _, _, hb, rfl⟩ := h
  intro x hx
  obtain ⟨nd, h1, _⟩ := seg_live hb.ch.seg hx
  have h2 := (List.getElem?_eq_some_iff.1 h1).1
  have h3 := hb.ch.po.ns_le
  have h4 := hb.ch.po.lim_le
  omega
theorem XT.nod (h : XT w Xb C Q M P lim tk L es O) : (L.map (·.1)).Nodup := by
  obtain ⟨_, An, cn, Af, cf, ns, fs, _, _, _, _, hb, rfl⟩ := h
  exact hb.ch.nod
theorem XT.keys (h : XT w Xb C Q M P lim tk L es O) : ∀ x ∈ L, x.2 < 18446744073709551616 := by
  obtain ⟨_, An, cn, Af, cf, ns, fs, _, _, _, _, hb, rfl⟩ := h
  exact hb.ch.keys
theorem XT.prev (h : XT w Xb C Q M P lim tk (L1 ++ (n, k) :: L2) es O) (htk : tk < 1000000) :
    Calls Tryz.prog 144 #[.pointer (some ⟨C, 0, none⟩), .int .i64 (n : Int)] w fun e w' => e = .returned (.int .i64 (lst (-1) L1)) ∧ Mx w' M (tk + 1) ∧ K.Chg w w' (· = M) := by
  obtain ⟨_, An, cn, Af, cf, ns, fs, _, _, _, _, hb, rfl⟩ := h
  obtain ⟨hn, hx⟩ := hb.ch.at rfl
  exact c_prev_yes w C Q M lim cn cf _ _ An Af ns fs hb.ch.cb hb.ch.po n hn k _ _ hx tk hb.mx htk
theorem XT.next (h : XT w Xb C Q M P lim tk (L1 ++ (n, k) :: L2) es O) (htk : tk < 1000000) :
    Calls Tryz.prog 150 #[.pointer (some ⟨C, 0, none⟩), .int .i64 (n : Int)] w fun e w' => e = .returned (.int .i64 (hd L2 (-1))) ∧ Mx w' M (tk + 1) ∧ K.Chg w w' (· = M) := by
  obtain ⟨_, An, cn, Af, cf, ns, fs, _, _, _, _, hb, rfl⟩ := h
  obtain ⟨hn, hx⟩ := hb.ch.at rfl
  exact c_next_yes w C Q M lim cn cf _ _ An Af ns fs hb.ch.cb hb.ch.po n hn k _ _ hx tk hb.mx htk
theorem XT.key (h : XT w Xb C Q M P lim tk (L1 ++ (n, k) :: L2) es O) (htk : tk < 1000000) :
    Calls Tryz.prog 142 #[.pointer (some ⟨C, 0, none⟩), .int .i64 (n : Int)] w fun e w' => e = .returned (.tuple #[.int .u64 (k : Int), .bool true]) ∧ Mx w' M (tk + 1) ∧ K.Chg w w' (· = M) := by
  obtain ⟨_, An, cn, Af, cf, ns, fs, _, _, _, _, hb, rfl⟩ := h
  obtain ⟨hn, hx⟩ := hb.ch.at rfl
  exact c_key_yes w C Q M lim cn cf _ _ An Af ns fs hb.ch.cb hb.ch.po n hn k _ _ hx tk hb.mx htk
theorem XT.key_no (h : XT w Xb C Q M P lim tk L es O) : Calls Tryz.prog 142 #[.pointer (some ⟨C, 0, none⟩), .int .i64 (-1)] w fun e w' => e = .returned (.tuple #[.int .u64 0, .bool false]) ∧ Below w.heap.size w w' := by
  obtain ⟨_, An, cn, Af, cf, ns, fs, _, _, _, _, hb, rfl⟩ := h
  exact c_key_no w C Q M lim cn cf _ _ An Af ns fs hb.ch.cb hb.ch.po (-1) (lvq_neg (by decide))
theorem XR.met (h : XT w Xb C Q M P lim tk L es O) {tk' : Nat} (b : K.Chg w w' (· = M)) (hm : Mx w' M tk') : XR w O Xb C Q M P lim tk' L es w' :=
  ⟨O, h.met b hm, b.mono (fun j e => by have e2 : j = M := e; subst e2; exact h.mx.2), fun j hj => .inl hj⟩
end
namespace X
/-- Links ahead of a key, links behind it. -/
theorem first_of {L2 : LL} {b : Int} (h : L2 ≠ []) : ∃ (n k : Nat) (L : LL), L2 = (n, k) :: L ∧ hd L2 b = (n : Int) := by
  cases L2 with
  | nil => exact absurd rfl h
  | cons x L => exact ⟨x.1, x.2, L, rfl, rfl⟩
end X
set_option maxHeartbeats 1000000 in
theorem x_at_below (w : World) (Xb C Q M P lim tk : Nat) (L1 L2 : LL) (es : Es) (O : Nat → Prop) (h : XT w Xb C Q M P lim tk (L1 ++ L2) es O) (htk : tk < 900000) (k : Nat) (hr : X.Rises (L1 ++ L2)) (h1 : ∀ x ∈ L1, x.2 < k) (h2 : ∀ x ∈ L2, k < x.2) (hk : k < 18446744073709551616) :
    Calls Tryz.prog 116 #[.pointer (some ⟨Xb, 0, none⟩), .int .u64 (k : Int), spv ((X.sc (L1 ++ L2) k : Int) - 1) (X.fst' (X.spl (L1 ++ L2) k (X.sc (L1 ++ L2) k))) (X.lst' (X.spl (L1 ++ L2) k (X.sc (L1 ++ L2) k)))] w fun e w' => e = .returned (.int .i64 (lst (-1) L1)) ∧ ∃ t, t ≤ 1 ∧ XR w O Xb C Q M P lim (tk + t) (L1 ++ L2) es w' := by
  have hc65 := X.sc_le (L1 ++ L2) k
  have hno : X.sc (L1 ++ L2) k ≠ 65 := fun e => by
    obtain ⟨x, hx, e2⟩ := X.sc_all.1 e
    rcases List.mem_append.1 hx with h | h
    · have := h1 x h; omega
    · have := h2 x h; omega
  have hz := X.sc_zero (L := L1 ++ L2) (k := k) h.keys hk
  have hlt := h.lt
  rcases Nat.eq_zero_or_pos (X.sc (L1 ++ L2) k) with hc0 | hc0
  · have hL := hz.1 hc0
    have hL1 : L1 = [] := (List.append_eq_nil_iff.1 hL).1
    have hL2 : L2 = [] := (List.append_eq_nil_iff.1 hL).2
    subst hL1 hL2
    rw [hc0]
    have hw : lst (-1) ([] : LL) = -1 := rfl
    rw [hw]
    have H := Lib.hid h
    have HLT := Lib.hid hlt
    clear h hlt hz hw
    generalize X.fst' (X.spl ([] ++ []) k 0) = e1 at *
    generalize X.lst' (X.spl ([] ++ []) k 0) = e2 at *
    obtain ⟨s, hs⟩ : ∃ s : Int, ((0 : Nat) : Int) - 1 = s := ⟨_, rfl⟩
    have g0 : (s == -1) = true := by rw [beq_iff_eq]; omega
    rw [hs]
    clear hs
    go_enter Tryz.func116, Tryz.ntmps116
    go_wp2
    go_ret
    have ha := chg_alloc w (spo s e1 e2) (fun _ => False)
    exact ⟨rfl, 0, by omega, O, H.out.chg ha (fun _ _ h => h), ha.mono (fun _ h => h.elim), fun j hj => .inl hj⟩
  · obtain ⟨s, hs⟩ : ∃ s, X.sc (L1 ++ L2) k = s + 1 := ⟨X.sc (L1 ++ L2) k - 1, by omega⟩
    obtain ⟨n0, n1⟩ := X.near_cases hr h1 h2 hs (by omega)
    have hsp : X.spl (L1 ++ L2) k (X.sc (L1 ++ L2) k) = X.sg (L1 ++ L2) s (X.pf s k) := by rw [hs]; unfold X.spl; rw [if_neg (by omega), Nat.add_sub_cancel]
    have hsi : (X.sc (L1 ++ L2) k : Int) - 1 = (s : Int) := by omega
    rw [hsp, hsi]
    have hs63 : s ≤ 63 := by omega
    generalize hf1 : X.fst' (X.sg (L1 ++ L2) s (X.pf s k)) = e1 at *
    generalize hf2 : X.lst' (X.sg (L1 ++ L2) s (X.pf s k)) = e2 at *
    have g0 : ((s : Int) == -1) = false := by rw [beq_eq_false_iff_ne]; omega
    have hal := Lib.hid (fun W => x_above W s e1 e2 k hs63)
    have hrow := Lib.hid (K.alloc_top w (spo (s : Int) e1 e2))
    have HLT := Lib.hid hlt
    have ha := chg_alloc w (spo (s : Int) e1 e2) (fun _ => False)
    have h0 := h.chg ha (fun _ _ h => h)
    have H0 := Lib.hid h0
    have HA := Lib.hid ha
    clear hc65 hno hz hc0 hs hsp hsi hlt h hr h1 h2 ha h0 hf1 hf2
    by_cases hev : X.pf (s + 1) k % 2 = 0
    · obtain ⟨hne, hfe⟩ := n0 hev
      rw [decide_eq_true hev] at hal
      clear n0 n1 hev
      obtain ⟨n, k', LL, rfl, he⟩ := X.first_of (b := -1) hne
      have hen : e1 = n := by omega
      subst hen
      clear hfe he hne
      go_enter Tryz.func116, Tryz.ntmps116
      go_wp2_with (go_at_call 143; (with_reducible refine (hal.out _).mono ?_); rintro e w1 ⟨rfl, hb1⟩
                   have h1 := H0.out.chg (K.Chg.of_below (O := fun _ => False) hb1) (fun _ _ h => h)
                   have z5 := (hb1.block w.heap.size (row_lt hrow.out)).trans hrow.out
                   obtain ⟨k0, k1, k2⟩ := spo_cells z5
                   have hd1 : XT w1.drew Xb C Q M P lim tk _ es O := h1.chg ((chg_refl w1 (fun _ => False)).drewN 1) (fun _ _ h => h)
                   have HS1 : Hid (w1.drew.cell? ⟨Xb, 1, none⟩ = some (.pointer (some ⟨C, 0, none⟩)) ∧ w1.drew.cell? ⟨w.heap.size, 1, none⟩ = some (.int .i64 (e1 : Int))) := Lib.hid ⟨hd1.c1, k1⟩
                   have H1 := Lib.hid h1
                   have HD1 := Lib.hid hd1
                   have HB1 := Lib.hid hb1
                   have Z5 := Lib.hid z5
                   clear hb1 h1 z5 hd1)
      have HP := Lib.hid (XT.prev (w := w1.drew) (Xb := Xb) (C := C) (Q := Q) (M := M) (P := P) (lim := lim) (tk := tk) (es := es) (O := O) (L1 := L1) (L2 := LL) (n := e1) (k := k') (HD1.out) (by omega))
      go_region_held3 (fun Y => Y.cell? ⟨Xb, 1, none⟩ = some (.pointer (some ⟨C, 0, none⟩)) ∧ Y.cell? ⟨w.heap.size, 1, none⟩ = some (.int .i64 (e1 : Int))) (first | (with_reducible exact HS1.out) | (with_reducible exact HS2.out) | go_keep)
        ((go_at_call 144; (with_reducible refine HP.out.mono ?_); rintro e w2 ⟨rfl, hm2, hc2⟩
          have h2 := XR.met HD1.out hc2 hm2
          have hMl := HLT.out M HD1.out.mx.2
          have hs1 : w.heap.size < w1.drew.heap.size := row_lt Z5.out
          have z2 := (hc2.cell hs1 (fun e => by have e3 : w.heap.size = M := e; omega) 1).trans HS1.out.2
          have HS2 : Hid (w2.cell? ⟨Xb, 1, none⟩ = some (.pointer (some ⟨C, 0, none⟩)) ∧ w2.cell? ⟨w.heap.size, 1, none⟩ = some (.int .i64 (e1 : Int))) := Lib.hid ⟨(by obtain ⟨_, hT, _⟩ := h2; exact hT.c1), z2⟩
          have HR2 := Lib.hid h2
          clear h2 hm2 hc2 hMl hs1 z2))
      all_goals
        go_wp2
        go_ret
        refine ⟨rfl, 1, Nat.le_refl _, ?_⟩
        obtain ⟨O2, r1, r2, r3⟩ := HR2.out
        have c1 : K.Chg w w1.drew O := ((HA.out.mono (O' := O) (fun _ h => h.elim)).same (K.Chg.of_below HB1.out)).drewN 1
        exact ⟨O2, r1, c1.same r2, fun j hj => (r3 j hj).imp id (fun h => Nat.le_trans c1.size h)⟩
    · obtain ⟨hne, hfe⟩ := n1 hev
      rw [decide_eq_false hev] at hal
      clear n0 n1 hev
      have HF := Lib.hid hfe
      clear hfe hne
      go_enter Tryz.func116, Tryz.ntmps116
      go_wp2_with (go_at_call 143; (with_reducible refine (hal.out _).mono ?_); rintro e w1 ⟨rfl, hb1⟩
                   have h1 := H0.out.chg (K.Chg.of_below (O := fun _ => False) hb1) (fun _ _ h => h)
                   have z5 := (hb1.block w.heap.size (row_lt hrow.out)).trans hrow.out
                   obtain ⟨k0, k1, k2⟩ := spo_cells z5
                   have hd1 : XT w1.drew Xb C Q M P lim tk _ es O := h1.chg ((chg_refl w1 (fun _ => False)).drewN 1) (fun _ _ h => h)
                   have HS1 : Hid (w1.drew.cell? ⟨Xb, 1, none⟩ = some (.pointer (some ⟨C, 0, none⟩)) ∧ w1.drew.cell? ⟨w.heap.size, 2, none⟩ = some (.int .i64 (e2 : Int))) := Lib.hid ⟨hd1.c1, k2⟩
                   have H1 := Lib.hid h1
                   have HD1 := Lib.hid hd1
                   have HB1 := Lib.hid hb1
                   have Z5 := Lib.hid z5
                   clear hb1 h1 z5 hd1)
      go_wp2
      go_ret
      have c1 : K.Chg w w1 O := (HA.out.mono (O' := O) (fun _ h => h.elim)).same (K.Chg.of_below HB1.out)
      exact ⟨by rw [← HF.out]; rfl, 0, by omega, O, H1.out, c1, fun j hj => .inl hj⟩
end Go.Proofs.YtelfacchhclgnaaGreat
end
section
namespace Go.Proofs.YtelfacchhclgnaaGreat
set_option maxRecDepth 20000
open Go.RowKit
set_option linter.unusedSectionVars false
variable [Gh]
section
variable {w w' : World} {Xb C Q M P lim tk : Nat} {L L1 L2 : LL} {es : Es} {O : Nat → Prop} {n k : Nat}
theorem XT.chain {w : World} {seed : Nat} {An : Option Addr} {cn : Nat} {Af : Option Addr} {cf : Nat} {ns : List (Nd × Bool)} {fs : List Nat} {L L' : LL} {Qt Mt n pr : Nat} {w' : World} (hb : XB w Xb C Q M P lim tk seed An cn Af cf ns fs L Qt Mt n pr es)
    {An' Af' : Option Addr} {cn' cf' : Nat} {ns' : List (Nd × Bool)} {fs' : List Nat} (hc : CW w' C Q M lim An' cn' Af' cf' ns' fs' L') (b : K.Chg w w' (CB C Q An Af)) (hq : ∀ j, QB Q An' Af' j → QB Q An Af j ∨ w.heap.size ≤ j) :
    XR w (XK Xb C Q M P Qt Mt An Af) Xb C Q M P lim tk L' es w' :=
  ⟨_, ⟨_, _, _, _, _, _, _, _, _, _, _, hb.chs b hc, rfl⟩, b.mono (fun j hj => .inr (.inr (.inl hj))), fun j hj => by
    rcases hj with h | h | (h | h) | h
    · exact .inl (.inl h)
    · exact .inl (.inr (.inl h))
    · exact .inl (.inr (.inr (.inl (.inl h))))
    · rcases hq j h with h | h
      · exact .inl (.inr (.inr (.inl (.inr h))))
      · exact .inr h
    · exact .inl (.inr (.inr (.inr h)))⟩
theorem XT.behind (h : XT w Xb C Q M P lim tk (L1 ++ L2) es O) (hk : k < 18446744073709551616) (hr : (L1 ++ L2).length < lim) :
    Calls Tryz.prog 149 #[.pointer (some ⟨C, 0, none⟩), .int .i64 (lst (-1) L1), .int .u64 (k : Int)] w fun e w' => ∃ n : Nat, e = .returned (.tuple #[.int .i64 (n : Int), .bool true]) ∧ (∀ x ∈ L1 ++ L2, x.1 ≠ n) ∧ n < 1048576 ∧ XR w O Xb C Q M P lim tk (L1 ++ (n, k) :: L2) es w' := by
  obtain ⟨_, An, cn, Af, cf, ns, fs, Qt, Mt, _, _, hb, rfl⟩ := h
  have fin : ∀ e w', BehP w C Q M lim An Af ns fs L1 L2 k e w' → ∃ n : Nat, e = .returned (.tuple #[.int .i64 (n : Int), .bool true]) ∧ (∀ x ∈ L1 ++ L2, x.1 ≠ n) ∧ n < 1048576 ∧ XR w (XK Xb C Q M P Qt Mt An Af) Xb C Q M P lim tk (L1 ++ (n, k) :: L2) es w' := by
    rintro e w' ⟨n, h1, h2, _, h3, _, _, _, _, _, _, h4, h5, h6, _⟩
    exact ⟨n, h1, h2, h3, XT.chain hb h4 h5 h6⟩
  rcases List.eq_nil_or_concat L1 with rfl | ⟨L, x, rfl⟩
  · exact (c_behind_a w C Q M lim cn cf An Af ns fs (-1) (by decide) L2 hb.ch k hk hr).mono fin
  · rw [List.concat_eq_append] at *
    have e : lst (-1) (L ++ [x]) = (x.1 : Int) := by rw [lst_app]; rfl
    rw [e]
    exact (c_behind_b w C Q M lim cn cf An Af ns fs x.1 x.2 L L2 hb.ch k hk hr).mono fin
theorem XT.drop (h : XT w Xb C Q M P lim tk (L1 ++ (n, k) :: L2) es O) :
    Calls Tryz.prog 155 #[.pointer (some ⟨C, 0, none⟩), .int .i64 (n : Int)] w fun e w' => e = .returned (.bool true) ∧ XR w O Xb C Q M P lim tk (L1 ++ L2) es w' := by
  obtain ⟨_, An, cn, Af, cf, ns, fs, _, _, _, _, hb, rfl⟩ := h
  refine (c_drop w C Q M lim cn cf An Af ns fs n k L1 L2 hb.ch).mono ?_
  rintro e w' ⟨rfl, _, _, _, _, _, _, h4, h5, h6⟩
  exact ⟨rfl, XT.chain hb h4 h5 h6⟩
end
/-- A put at one level, and a drop. -/
def PutC (Xb C Q M P lim : Nat) (L : LL) (es es' : Es) (l p a b : Nat) : Prop := ∀ (W : World) (O : Nat → Prop) (tk : Nat), XT W Xb C Q M P lim tk L es O →
  Calls Tryz.prog 151 #[.pointer (some ⟨Xb, 0, none⟩), kyv l p, env a b] W fun e w' => e = .returned (.tuple #[]) ∧ XR W O Xb C Q M P lim tk L es' w'
def DropC (Xb C Q M P lim : Nat) (L : LL) (es es' : Es) (l p : Nat) : Prop := ∀ (W : World) (O : Nat → Prop) (tk : Nat), XT W Xb C Q M P lim tk L es O →
  Calls Tryz.prog 101 #[.pointer (some ⟨P, 0, none⟩), kyv l p] W fun e w' => e = .returned (.bool true) ∧ XR W O Xb C Q M P lim tk L es' w'
theorem XB.tabr {w w' : World} {Xb C Q M P lim tk seed cn cf Qt Mt n pr : Nat} {An Af : Option Addr} {ns : List (Nd × Bool)} {fs : List Nat} {L : LL} {es es' : Es} {cl : Nat} (h : XB w Xb C Q M P lim tk seed An cn Af cf ns fs L Qt Mt n pr es) (hs : Hs.TStep w P Qt Mt seed n es' cl w') :
    XR w (XK Xb C Q M P Qt Mt An Af) Xb C Q M P lim tk L es' w' := by
  obtain ⟨Qt', n', pr', h1, h2, h3⟩ := h.tabs hs
  refine ⟨_, ⟨_, _, _, _, _, _, _, _, _, _, _, h1, rfl⟩, h2.mono (fun j hj => .inr (.inr (.inr hj))), fun j hj => ?_⟩
  rcases hj with h | h | h | (h | h | h)
  · exact .inl (.inl h)
  · exact .inl (.inr (.inl h))
  · exact .inl (.inr (.inr (.inl h)))
  · exact .inl (.inr (.inr (.inr (.inl h))))
  · rcases h3 with e | e
    · exact .inl (.inr (.inr (.inr (.inr (.inl (by omega))))))
    · exact .inr (by omega)
  · exact .inl (.inr (.inr (.inr (.inr (.inr h)))))
section
variable {Xb C Q M P lim : Nat} {L L' Lc : LL} {es r : Es} {l p v0 a b : Nat}
theorem putc_yes (hl : l < 256) (ha : a < 1048576) (hb : b < 1048576) (hp : es.Perm (((l, p), v0) :: r)) : PutC Xb C Q M P lim Lc es (((l, p), a * 4294967296 + b) :: r) l p a b := fun W O tk h =>
  x_put W Xb C Q M P lim tk Lc es _ O h l p a b ha hb false (fun W Qt Mt seed n pr ht => Hs.tab_put_yes W P Qt Mt seed n pr 0 es r ht (l, p) hl _ v0 (by omega) hp)
theorem putc_no (hl : l < 256) (hpp : p < 18446744073709551616) (ha : a < 1048576) (hb : b < 1048576) (hn : ∀ x ∈ es, x.1 ≠ (l, p)) (hes : es.length < 1000000) : PutC Xb C Q M P lim Lc es (((l, p), a * 4294967296 + b) :: es) l p a b := fun W O tk h =>
  x_put W Xb C Q M P lim tk Lc es _ O h l p a b ha hb true (fun W Qt Mt seed n pr ht => Hs.tab_put_no W P Qt Mt seed n pr 0 es ht (l, p) hl hpp _ (by omega) hn hes)
theorem dropc_yes (hl : l < 256) (hp : es.Perm (((l, p), v0) :: r)) (hes : r.length < 1000000) : DropC Xb C Q M P lim Lc es r l p := fun W O tk h => by
  obtain ⟨seed, An, cn, Af, cf, ns, fs, Qt, Mt, n, pr, hb, rfl⟩ := h
  refine (Hs.tab_drop_yes W P Qt Mt seed n pr 0 es r hb.tab (l, p) hl v0 hp hes).mono ?_
  rintro e w' ⟨rfl, hs⟩
  exact ⟨rfl, hb.tabr hs⟩
end
namespace X
theorem pf_lt64 (l k : Nat) (hk : k < 18446744073709551616) : pf l k < 18446744073709551616 := by
  unfold pf
  exact Nat.lt_of_le_of_lt (Nat.div_le_self _ _) hk
/-- One level, when a key comes. -/
theorem grow_lv {Xb C Q M P lim : Nat} {L1 L2 : LL} {es : Es} {n k l : Nat} (h : TE l (L1 ++ L2) (L1 ++ (n, k) :: L2) es) (hl : l ≤ 64) (hr : Rises (L1 ++ L2)) (h1 : ∀ x ∈ L1, x.2 < k) (h2 : ∀ x ∈ L2, k < x.2) (hn : ((L1 ++ L2).map (·.1)).Nodup)
    (hp : ∀ x ∈ L1 ++ L2, x.1 < 1048576) (hnl : n < 1048576) (hk : k < 18446744073709551616) (hes : es.length < 1000000) :
    ∃ (e1 e2 : Nat) (r : Bool) (es' : Es), Tells es l (pf l k) e1 e2 r ∧ e1 < 1048576 ∧ e2 < 1048576 ∧ TE (l + 1) (L1 ++ L2) (L1 ++ (n, k) :: L2) es' ∧ es'.length = es.length + (if l < sc (L1 ++ L2) k then 0 else 1) ∧
      ((r = false ∧ PutC Xb C Q M P lim (L1 ++ (n, k) :: L2) es es' l (pf l k) n n) ∨
       (r = true ∧ (e1 : Int) = hd L2 (-1) ∧ PutC Xb C Q M P lim (L1 ++ (n, k) :: L2) es es' l (pf l k) n e2) ∨
       (r = true ∧ (e1 : Int) ≠ hd L2 (-1) ∧ (e2 : Int) = lst (-1) L1 ∧ PutC Xb C Q M P lim (L1 ++ (n, k) :: L2) es es' l (pf l k) e1 n) ∨
       (r = true ∧ (e1 : Int) ≠ hd L2 (-1) ∧ (e2 : Int) ≠ lst (-1) L1 ∧ es' = es)) := by
  have ho : ∀ q, q ≠ pf l k → sg (L1 ++ (n, k) :: L2) l q = sg (L1 ++ L2) l q := fun q hq => sg_else hq
  have hne : sg (L1 ++ (n, k) :: L2) l (pf l k) ≠ [] := by rw [sg_with]; simp
  have hz : sg (if l < l then L1 ++ (n, k) :: L2 else L1 ++ L2) l (pf l k) = sg (L1 ++ L2) l (pf l k) := by rw [if_neg (Nat.lt_irrefl l)]
  have ht := tells_of h hl hz
  have a1 := fst_lt hp l (pf l k)
  have a2 := lst_lt hp l (pf l k)
  have hsc : sg (L1 ++ L2) l (pf l k) = [] ↔ ¬ l < sc (L1 ++ L2) k := ⟨fun e h => sc_yes h e, fun h => sc_no (by omega) hl⟩
  have hpl := pf_lt64 l k hk
  refine ⟨fst' (sg (L1 ++ L2) l (pf l k)), lst' (sg (L1 ++ L2) l (pf l k)), decide (sg (L1 ++ L2) l (pf l k) ≠ []), ?_⟩
  rcases grow_cases hr h1 h2 hn l with ⟨c1, c2⟩ | ⟨c1, c2, c3⟩ | ⟨c1, c2, c3, c4⟩ | ⟨c1, c2, c3, c4⟩
  · have hno := h.no (hz.trans c1)
    refine ⟨_, ht, a1, a2, h.new hl c1 hne ho, ?_, .inl ⟨decide_eq_false (fun h => h c1), ?_⟩⟩
    · rw [if_neg (hsc.1 c1)]; rfl
    · rw [c2]; exact putc_no (by omega) hpl hnl hnl hno hes
  all_goals
    have hy := h.yes hl (p := pf l k) (by rw [hz]; exact c1)
    rw [hz] at hy
    have hpm := perm_of_mem hy
    have hlen := hpm.length_eq
    rw [List.length_cons] at hlen
    have hlt : l < sc (L1 ++ L2) k := Classical.byContradiction fun h => c1 (hsc.2 h)
  · refine ⟨_, ht, a1, a2, h.put hl hpm hne ho, ?_, .inr (.inl ⟨decide_eq_true c1, c2, ?_⟩)⟩
    · rw [if_pos hlt, List.length_cons, hlen]
    · rw [c3]; exact putc_yes (by omega) hnl a2 hpm
  · refine ⟨_, ht, a1, a2, h.put hl hpm hne ho, ?_, .inr (.inr (.inl ⟨decide_eq_true c1, c2, c3, ?_⟩))⟩
    · rw [if_pos hlt, List.length_cons, hlen]
    · rw [c4]; exact putc_yes (by omega) a1 hnl hpm
  · refine ⟨es, ht, a1, a2, h.stay (fun q => ?_) (fun q hq => ?_), ?_, .inr (.inr (.inr ⟨decide_eq_true c1, c2, c3, rfl⟩))⟩
    · by_cases hq : q = pf l k
      · subst hq; exact ⟨fun _ => c1, fun _ => hne⟩
      · rw [ho q hq]
    · by_cases hq2 : q = pf l k
      · subst hq2; exact c4
      · rw [ho q hq2]
    · rw [if_pos hlt]; rfl
/-- One level, when a key goes. -/
theorem shrink_lv {Xb C Q M P lim : Nat} {L1 L2 : LL} {es : Es} {n k l : Nat} (h : TE l (L1 ++ (n, k) :: L2) (L1 ++ L2) es) (hl : l ≤ 64) (hr : Rises (L1 ++ (n, k) :: L2)) (hn : ((L1 ++ (n, k) :: L2).map (·.1)).Nodup)
    (hp : ∀ x ∈ L1 ++ (n, k) :: L2, x.1 < 1048576) (hk : k < 18446744073709551616) (hes : es.length < 1000000) :
    ∃ (e1 e2 : Nat) (es' : Es), Tells es l (pf l k) e1 e2 true ∧ e1 < 1048576 ∧ e2 < 1048576 ∧ TE (l + 1) (L1 ++ (n, k) :: L2) (L1 ++ L2) es' ∧ es'.length + (if l < sc (L1 ++ L2) k then 0 else 1) = es.length ∧
      ((e1 = n ∧ e2 = n ∧ DropC Xb C Q M P lim (L1 ++ L2) es es' l (pf l k)) ∨
       (e1 = n ∧ e2 ≠ n ∧ ∃ b : Nat, hd L2 (-1) = (b : Int) ∧ PutC Xb C Q M P lim (L1 ++ L2) es es' l (pf l k) b e2) ∨
       (e1 ≠ n ∧ e2 = n ∧ ∃ a : Nat, lst (-1) L1 = (a : Int) ∧ PutC Xb C Q M P lim (L1 ++ L2) es es' l (pf l k) e1 a) ∨
       (e1 ≠ n ∧ e2 ≠ n ∧ es' = es)) := by
  have ho : ∀ q, q ≠ pf l k → sg (L1 ++ L2) l q = sg (L1 ++ (n, k) :: L2) l q := fun q hq => (sg_else hq).symm
  have hne : sg (L1 ++ (n, k) :: L2) l (pf l k) ≠ [] := by rw [sg_with]; simp
  have hz : sg (if l < l then L1 ++ L2 else L1 ++ (n, k) :: L2) l (pf l k) = sg (L1 ++ (n, k) :: L2) l (pf l k) := by rw [if_neg (Nat.lt_irrefl l)]
  have ht := tells_of h hl hz
  rw [decide_eq_true hne] at ht
  have a1 := fst_lt hp l (pf l k)
  have a2 := lst_lt hp l (pf l k)
  have hsc : sg (L1 ++ L2) l (pf l k) = [] ↔ ¬ l < sc (L1 ++ L2) k := ⟨fun e h => sc_yes h e, fun h => sc_no (by omega) hl⟩
  have hpl := pf_lt64 l k hk
  have hy := h.yes hl (p := pf l k) (by rw [hz]; exact hne)
  rw [hz] at hy
  have hpm := perm_of_mem hy
  have hlen := hpm.length_eq
  rw [List.length_cons] at hlen
  have hfar : ∀ b : Nat, hd L2 (-1) = (b : Int) → b < 1048576 := fun b e => by
    cases L2 with
    | nil => exact absurd e (by show (-1 : Int) ≠ _; omega)
    | cons x L => have := hp x (by simp); have e2 : (x.1 : Int) = b := e; omega
  have hfar2 : ∀ a : Nat, lst (-1) L1 = (a : Int) → a < 1048576 := fun a e => by
    rcases List.eq_nil_or_concat L1 with rfl | ⟨L, x, rfl⟩
    · exact absurd e (by show (-1 : Int) ≠ _; omega)
    · rw [List.concat_eq_append, lst_app] at e
      have e2 : (x.1 : Int) = a := e
      have := hp x (by rw [List.concat_eq_append]; simp)
      omega
  refine ⟨fst' (sg (L1 ++ (n, k) :: L2) l (pf l k)), lst' (sg (L1 ++ (n, k) :: L2) l (pf l k)), ?_⟩
  rcases shrink_cases hr hn l with ⟨c1, c2, c3⟩ | ⟨c1, c2, c3, b, c4, c5⟩ | ⟨c1, c2, c3, b, c4, c5⟩ | ⟨c1, c2, c3, c4⟩
  · refine ⟨_, ht, a1, a2, h.less hpm c1 ho, ?_, .inl ⟨c2, c3, dropc_yes (by omega) hpm (by omega)⟩⟩
    rw [if_neg (hsc.1 c1), hlen]
  · have hlt : l < sc (L1 ++ L2) k := Classical.byContradiction fun h => c1 (hsc.2 h)
    refine ⟨_, ht, a1, a2, h.put hl hpm c1 ho, ?_, .inr (.inl ⟨c2, c3, b, c4, ?_⟩)⟩
    · rw [if_pos hlt, List.length_cons, hlen]
    · rw [c5]; exact putc_yes (by omega) (hfar b c4) a2 hpm
  · have hlt : l < sc (L1 ++ L2) k := Classical.byContradiction fun h => c1 (hsc.2 h)
    refine ⟨_, ht, a1, a2, h.put hl hpm c1 ho, ?_, .inr (.inr (.inl ⟨c2, c3, b, c4, ?_⟩))⟩
    · rw [if_pos hlt, List.length_cons, hlen]
    · rw [c5]; exact putc_yes (by omega) a1 (hfar2 b c4) hpm
  · have hlt : l < sc (L1 ++ L2) k := Classical.byContradiction fun h => c1 (hsc.2 h)
    refine ⟨es, ht, a1, a2, h.stay (fun q => ?_) (fun q hq => ?_), ?_, .inr (.inr (.inr ⟨c2, c3, rfl⟩))⟩
    · by_cases hq : q = pf l k
      · subst hq; exact ⟨fun _ => hne, fun _ => c1⟩
      · rw [ho q hq]
    · by_cases hq2 : q = pf l k
      · subst hq2; exact c4.symm
      · exact congrArg pk (ho q hq2)
    · rw [if_pos hlt, Nat.add_zero]
end X
end Go.Proofs.YtelfacchhclgnaaGreat
end
