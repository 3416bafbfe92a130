/- A key is taken out of a trie; it is emptied; the texts walked. -/
import Derived.Test.YtiinefdpaiincaaMxX12
namespace Go.Proofs.Ytiinefdpaiincaa
open Go.RowKit
section
variable {w w' : World} {Xb C Q M P lim tk tk' most : Nat} {xs xs' : List Nat} {L L' : LL} {es es' : Es} {O : Nat → Prop} {v : Value} {e : Ending}
theorem top_of (hr : XR w O Xb C Q M P lim tk' L' es' w') (hte : X.TE 0 L' L' es') (hks : L'.map (·.2) = xs') (hup : K.Up xs') (hcnt : es'.length + L'.length = K.xfast xs') (hle : K.xfast xs' ≤ lim) (hmax : lim ≤ 500000) (h2 : tk' ≤ 100) (ht : tk' ≤ most) (he : e = .returned v) : TOp XZ w Xb O v xs' lim most e w' := by
  obtain ⟨O', h1, hc, hi⟩ := hr
  exact ⟨tk', O', he, ⟨C, Q, M, P, L', es', h1, hte, hks, hup, hcnt, hle, hmax, h2⟩, ht, hc, hi⟩
theorem XT.cclear (h : XT w Xb C Q M P lim tk L es O) : Calls Try.prog 57 #[.pointer (some ⟨C, 0, none⟩)] w fun e w' => e = .returned (.tuple #[]) ∧ XR w O Xb C Q M P lim tk [] es w' := by
  obtain ⟨_, An, cn, Af, cf, ns, fs, _, _, _, _, hb, rfl⟩ := h
  refine (c_clear w C Q M lim cn cf An Af ns fs L hb.ch).mono ?_
  rintro e w' ⟨rfl, _, _, _, _, _, _, h4, h5, h6⟩
  exact ⟨rfl, XT.chain hb h4 h5 h6⟩
theorem XT.tclear (h : XT w Xb C Q M P lim tk L es O) : Calls Try.prog 58 #[.pointer (some ⟨P, 0, none⟩)] w fun e w' => e = .returned (.tuple #[]) ∧ XR w O Xb C Q M P lim tk L [] w' := by
  obtain ⟨_, An, cn, Af, cf, ns, fs, _, _, _, _, hb, rfl⟩ := h
  refine (Hs.tab_clear w P _ _ _ _ _ _ es hb.tab).mono ?_
  rintro e w' ⟨rfl, Q', h1, h2, h3⟩
  have hc := h2.chg
  refine ⟨rfl, _, ⟨_, _, _, _, _, _, _, Q', _, _, _, ⟨(hc.block Xb (hb.lt (.inl rfl)) (fun e => hb.x_tf (.inl e))).trans hb.row, hb.mx.chg hc (fun e => hb.m_tf (.inl e)), hb.ch.chg hc (fun j hj e => hb.cb_tf hj (.inl e)), h1, hb.ap⟩, rfl⟩, hc.mono (fun j hj => .inr (.inr (.inr (.inl hj)))), fun j hj => ?_⟩
  rcases hj with h | h | h | (h | h | h)
  · exact .inl (.inl h)
  · exact .inl (.inr (.inl h))
  · exact .inl (.inr (.inr (.inl h)))
  · exact .inl (.inr (.inr (.inr (.inl h))))
  · exact .inr (by omega)
  · exact .inl (.inr (.inr (.inr (.inr (.inr h)))))
end
section
variable (w : World) (Xb C Q M P lim tk : Nat) (xs : List Nat) (L : LL) (es : Es) (O : Nat → Prop) (h : XS w Xb C Q M P lim tk xs L es O)
include h
theorem x_clear : Calls Try.prog 29 #[.pointer (some ⟨Xb, 0, none⟩)] w (TOp XZ w Xb O (.tuple #[]) [] lim 1073741824) := by
  have H := Lib.hid h
  have hcl := Lib.hid h.xt.cclear
  have c1 := h.xt.c1
  clear h
  go_enter Try.func29, Try.ntmps29
  go_wp2_with (first
    | (go_at_call 57; (with_reducible refine hcl.out.mono ?_); rintro e w1 ⟨rfl, O1, hT1, hC1, hI1⟩
       have c2 := hT1.c2
       have HC1 := Lib.hid hC1
       have HI1 := Lib.hid hI1
       have HTC := Lib.hid hT1.tclear
       clear hT1 hC1 hI1)
    | (go_at_call 58; (with_reducible refine HTC.out.mono ?_); rintro e w2 ⟨rfl, hx2⟩
       have HX2 := Lib.hid (XR.seq HC1.out HI1.out hx2)
       clear hx2))
  go_end0
  have h1 := H.out.few
  exact top_of HX2.out X.TE.zero rfl List.Pairwise.nil (by rfl) (Nat.zero_le _) H.out.max h1 (by omega) rfl
set_option maxHeartbeats 2000000 in
theorem x_delete (k : Nat) (hk : k < 18446744073709551616) : Calls Try.prog 23 #[.pointer (some ⟨Xb, 0, none⟩), .int .u64 (k : Int)] w (TOp XZ w Xb O (.int .i64 (((if K.fo xs k then 0 else 3 : Nat)) : Int)) (K.drop xs k) lim 1073741824) := by
  have H := Lib.hid h
  have hst := Lib.hid h.xt.start
  have c0 := h.xt.c0
  have hpre := fun W => Lib.hid (x_prefix_all W k)
  have hte := X.tells_of h.te (l := 64) (p := X.pf 64 k) (Nat.le_refl _) (S := X.sg L 64 (X.pf 64 k)) (by simp)
  rw [X.fo_sg h.ks h.up] at hte
  have ha1 := X.fst_lt h.xt.places 64 (X.pf 64 k)
  have ha2 := X.lst_lt h.xt.places 64 (X.pf 64 k)
  cases hf : K.fo xs k
  · rw [hf] at hte
    have hask := fun W O' (hW : XT W Xb C Q M P lim 0 L es O') => Lib.hid (x_ask W Xb C Q M P lim 0 L es O' hW (by omega) 64 (X.pf 64 k) _ _ _ (by omega) hte ha1 ha2)
    have hdr : K.drop xs k = xs := by unfold K.drop; rw [hf]; rfl
    rw [hdr]
    generalize X.fst' (X.sg L 64 (X.pf 64 k)) = e1 at *
    generalize X.lst' (X.sg L 64 (X.pf 64 k)) = e2 at *
    generalize X.pf 64 k = q at *
    clear h hte ha1 ha2 hf hdr
    go_enter Try.func23, Try.ntmps23
    go_wp2_with (first
      | (go_at_call 44; (with_reducible refine hst.out.mono ?_); rintro e w1 ⟨rfl, hx1⟩
         have HX1 := Lib.hid hx1
         clear hx1)
      | (go_at_call 50; (with_reducible refine (hpre _).out.mono ?_); rintro e w2 ⟨rfl, hb2⟩
         obtain ⟨O2, hT2, hC2, hI2⟩ := HX1.out.more hb2
         have HA := Lib.hid ((hask _ _ hT2).out)
         have HC2 := Lib.hid hC2
         have HI2 := Lib.hid hI2
         clear hb2 hT2 hC2 hI2)
      | (go_at_call 46; (with_reducible refine HA.out.mono ?_); rintro e w3 ⟨rfl, hx3⟩
         have HX3 : Hid (XR w O Xb C Q M P lim (0 + 1) L es w3) := Lib.hid (XR.seq HC2.out HI2.out hx3)
         clear hx3))
    go_ret
    exact H.out.done (HX3.out.more ((Below.refl _ w3).alloc (Nat.le_refl _) _)) (by omega) (by omega) rfl
  · obtain ⟨n, L1, L2, hL, hd, had, _, _, _, _, hnd⟩ := X.part_yes h.ks h.up hf
    have hr := h.rises
    have hks := h.ks
    subst hL
    rw [X.sg_whole hr] at hte ha1 ha2
    rw [hf] at hte
    have hask := fun W O' (hW : XT W Xb C Q M P lim 0 (L1 ++ (n, k) :: L2) es O') => Lib.hid (x_ask W Xb C Q M P lim 0 (L1 ++ (n, k) :: L2) es O' hW (by omega) 64 (X.pf 64 k) n n true (by omega) hte ha1 ha1)
    have hlen := h.cnt
    have hle := h.le
    have hmax := h.max
    have hadd := X.xfast_add hd (K.drop_up h.up k) (fun x hx => h.keys x ((K.drop_mem h.up k x).1 hx).2) hk hnd
    rw [had] at hadd
    have hsh := fun W O' (hW : XT W Xb C Q M P lim 1 (L1 ++ (n, k) :: L2) es O') => Lib.hid (x_shrink W Xb C Q M P lim 1 L1 L2 es O' n k hW (by omega) h.te hr hk (by omega))
    have hup := K.drop_up h.up k
    have HF := Lib.hid (And.intro hlen (And.intro hle (And.intro hmax (And.intro hadd (And.intro hup hd)))))
    generalize X.pf 64 k = q at *
    clear h hte ha1 ha2 hf hlen hle hmax hadd hup hd had hnd hks hr
    go_enter Try.func23, Try.ntmps23
    go_wp2_with (first
      | (go_at_call 44; (with_reducible refine hst.out.mono ?_); rintro e w1 ⟨rfl, hx1⟩
         have HX1 := Lib.hid hx1
         clear hx1)
      | (go_at_call 50; (with_reducible refine (hpre _).out.mono ?_); rintro e w2 ⟨rfl, hb2⟩
         obtain ⟨O2, hT2, hC2, hI2⟩ := HX1.out.more hb2
         have HA := Lib.hid ((hask _ _ hT2).out)
         have HC2 := Lib.hid hC2
         have HI2 := Lib.hid hI2
         clear hb2 hT2 hC2 hI2)
      | (go_at_call 46; (with_reducible refine HA.out.mono ?_); rintro e w3 ⟨rfl, hx3⟩
         have hx3' : XR w O Xb C Q M P lim (0 + 1) (L1 ++ (n, k) :: L2) es w3 := XR.seq HC2.out HI2.out hx3
         obtain ⟨O4, hT4, hC4, hI4⟩ := hx3'.more ((Below.refl _ w3).alloc (Nat.le_refl _) (endo (.int .i64 (n : Int)) (.int .i64 (n : Int))))
         obtain ⟨n0, n1⟩ := end_cells (K.alloc_top w3 (endo (.int .i64 (n : Int)) (.int .i64 (n : Int))))
         have HSH := Lib.hid (hsh _ _ hT4).out
         have HC4 := Lib.hid hC4
         have HI4 := Lib.hid hI4
         clear hx3 hx3' hT4 hC4 hI4)
      | (go_at_call 51; (with_reducible refine HSH.out.mono ?_); rintro e w5 ⟨rfl, es', hte5, hlen5, hx5⟩
         have HX5 := Lib.hid (XR.seq HC4.out HI4.out hx5)
         have HTE5 := Lib.hid hte5
         have HL5 := Lib.hid hlen5
         clear hx5 hte5 hlen5))
    go_ret
    obtain ⟨hlen, hle, hmax, hadd, hup, hd⟩ := HF.out
    have hl5 := HL5.out
    have hsc := X.sc_le (L1 ++ L2) k
    rw [List.length_append, List.length_cons] at hlen
    exact top_of HX5.out HTE5.out.all hd hup (by rw [List.length_append]; omega) (by omega) hmax (by omega) (by omega) rfl
end
end Go.Proofs.Ytiinefdpaiincaa
